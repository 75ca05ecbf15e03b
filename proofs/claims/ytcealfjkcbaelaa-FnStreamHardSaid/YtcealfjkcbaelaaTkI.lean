import Derived.Test.YtcealfjkcbaelaaTkW
import Derived.Test.YtcealfjkcbaelaaPl
import Derived.Deep.AppendLies
/-
  TokensValid of the program and of the model.
-/
set_option linter.unusedVariables false
set_option linter.unusedSimpArgs false
namespace Go.Proofs.Ytcealfjkcbaelaa.Tk
open Go.RowKit P1 TextV 

theorem infoI : (Try.prog.info? 3).map (fun i => (i.zero.map (fun z => z.cells.size), i.size, i.bytes)) = some (some 1, 1, 8) := by kernel_rfl
theorem info_some {P : Program} {T : TypeId} {n b : Nat} (h : (P.info? T).map (fun i => (i.zero.map (fun z => z.cells.size), i.size, i.bytes)) = some (some n, n, b)) : ∃ i z, P.info? T = some i ∧ i.zero = some z ∧ i.size = n ∧ i.bytes = b ∧ z.cells.size = n := by
  obtain ⟨i, h1, h2⟩ := Option.map_eq_some_iff.1 h
  simp only [Prod.mk.injEq] at h2
  obtain ⟨z, hz, hzs⟩ := Option.map_eq_some_iff.1 h2.1
  exact ⟨i, z, h1, hz, h2.2.1, h2.2.2, hzs⟩
theorem at_add (b o j : Nat) : (⟨b, o, none⟩ : Addr).add j = ⟨b, o + j, none⟩ := by unfold Addr.add; split <;> simp_all
theorem one_int (w : World) (x : Int) (T : TypeId) : ∀ j u, [Value.int .i64 x][j]? = some u → (w.alloc (.cells #[.int .i64 x] T)).cell? ((⟨w.heap.size, 0, none⟩ : Addr).add j) = some u := by
  intro j u hu
  rw [at_add, Nat.zero_add, World.cell?_alloc_new]
  simpa using hu
theorem own_slice {w : World} {B : Nat} {T : TypeId} {n m : Nat} {v : Value} {xs : List Value} (h : w.ownsRow B T n v m xs) : ∃ a cap, v = .slice a m cap ∧ m ≤ cap := by
  rcases h.2 with ⟨rfl, h0⟩ | ⟨g, cap, cur, rfl, _, _, h1, _⟩
  · exact ⟨none, 0, by rw [h0], by omega⟩
  · exact ⟨_, cap, rfl, h1⟩
theorem below_append {w w' : World} {B : Nat} {T : TypeId} {n m : Nat} {v : Value} {xs : List Value} {o : Obj} (hg : (w.alloc o).grownBy w' v.ownBlock) (h : w.ownsRow B T n v m xs) (hB : B ≤ w.heap.size) : Below B w w' :=
  ((Below.refl B w).alloc hB o).grown hg (by simp; omega) (fun k e => (h.lt k e).1)
theorem own_ext {W W' : World} {B : Nat} {e : TypeId} {size n : Nat} {v : Value} {xs : List Value} (h : W.ownsRow B e size v n xs) (hb : Below W.heap.size W W') : W'.ownsRow B e size v n xs := by
  refine h.kept (row := none) ⟨hb.os, hb.tape, hb.output, hb.size, fun i hi _ => hb.block i hi⟩ ?_
  cases hv : v.ownBlock with
  | none => exact .inl rfl
  | some k => exact .inr (by simp)
/-- what the stacks hold: the kind that closes (the program), the kind that is open (the model) -/
def EV (x : Int) (c : List Value) : Prop := c = [.int .i64 (x + 1)]
def OV (x : Int) (c : List Value) : Prop := c = [.int .i64 x]
theorem EV.len : ∀ x c, EV x c → c.length = 1 := fun x c h => by rw [h]; rfl
theorem OV.len : ∀ x c, OV x c → c.length = 1 := fun x c h => by rw [h]; rfl
theorem row_cells {W w1 : World} {n m : Int} {t : ByteArray} {T : TypeId} (hb : Below (W.alloc (.cells #[.int .i64 n, .int .i64 m, .string t] T)).heap.size (W.alloc (.cells #[.int .i64 n, .int .i64 m, .string t] T)) w1) :
    w1.cell? ⟨W.heap.size, 0, none⟩ = some (.int .i64 n) ∧ w1.cell? ⟨W.heap.size, 1, none⟩ = some (.int .i64 m) ∧ w1.cell? ⟨W.heap.size, 2, none⟩ = some (.string t) := by
  refine ⟨?_, ?_, ?_⟩ <;> (rw [hb.cell (p := ⟨_, _, _⟩) (by simp), World.cell?_alloc_new]; rfl)
theorem kt_kinds {k n : Int} {t : ByteArray} (h : kt k n t = true) : 1 ≤ k ∧ k ≤ 8 := by
  unfold kt at h
  split at h
  · omega
  · split at h
    · omega
    · simp only [Bool.and_eq_true, decide_eq_true_eq] at h; omega
theorem stp_open {st : List Int} {k : Int} (hk : k = 5 ∨ k = 7) (h : st.length < 50) : stp st k = some (k :: st) := by unfold stp; rw [if_pos hk, if_pos h]
theorem stp_full {st : List Int} {k : Int} (hk : k = 5 ∨ k = 7) (h : ¬ st.length < 50) : stp st k = none := by unfold stp; rw [if_pos hk, if_neg h]
theorem stp_nil {k : Int} (hk : k = 6 ∨ k = 8) : stp [] k = none := by unfold stp; rw [if_neg (by omega), if_pos hk]
theorem stp_close {x : Int} {r : List Int} {k : Int} (hk : k = 6 ∨ k = 8) (h : x + 1 = k) : stp (x :: r) k = some r := by unfold stp; rw [if_neg (by omega), if_pos hk]; simp [h]
theorem stp_wrong {x : Int} {r : List Int} {k : Int} (hk : k = 6 ∨ k = 8) (h : ¬ x + 1 = k) : stp (x :: r) k = none := by unfold stp; rw [if_neg (by omega), if_pos hk]; simp [h]
theorem stp_else (st : List Int) {k : Int} (h1 : ¬ (k = 5 ∨ k = 7)) (h2 : ¬ (k = 6 ∨ k = 8)) : stp st k = some st := by unfold stp; rw [if_neg h1, if_neg h2]

set_option maxRecDepth 100000 in
set_option maxHeartbeats 6400000 in
theorem implTokensValid (l : List (Int × Int × ByteArray)) (w : World) (a : Option Addr) (cap : Nat) (fs : List Nat) (hs : TkSub w a l fs) (hc : l.length ≤ cap) (hl : l.length ≤ maxLen) (hft : TL.Fits l) :
    Calls Try.prog 33 #[.slice a l.length cap] w fun e w' => e = .returned (.bool (tkv l)) ∧ Below w.heap.size w w' := by
  have HR := Lib.hid (show ∀ k, (h : k < l.length) → ∃ b off, a = some ⟨b, off, none⟩ ∧ b < w.heap.size ∧ TkAt w l b off from fun k h => by
    rcases hs with ⟨rfl, _⟩ | ⟨b, off, ha, hn, _, hr⟩
    · simp at h
    · exact ⟨b, off, ha, hr.lt hn, hr⟩)
  obtain ⟨m, hm⟩ : ∃ m, l.length = m := ⟨_, rfl⟩
  have HM := Lib.hid hm
  have HF := Lib.hid hft
  rw [hm] at hc hl ⊢
  clear hm hft hs
  unfold maxLen at hl
  by_cases h2 : 199 < m
  · have HFin := Lib.hid (tkv_long (l := l) (by have := HM.out; omega))
    go_enter Try.func33, Try.ntmps33
    go_wp2_with fail
    go_ret
    exact ⟨ret_bool HFin.out.symm, Below.refl _ _⟩
  · have HFin := Lib.hid (fun (st : List Int) (h : run [] l = some st) => tkv_end (l := l) (by have := HM.out; omega) h)
    obtain ⟨i0, z0, hi, hz, hz1, hz2, hz3⟩ := info_some infoI
    have HI := Lib.hid (And.intro hi (And.intro hz (And.intro hz1 (And.intro hz2 hz3))))
    clear hi hz hz1 hz2 hz3
    have hm2 : m ≤ 199 := by omega
    go_enter Try.func33, Try.ntmps33
    go_wp2_with fail
    go_loopw [12, 3] (fun i v wr => ∃ (j : Nat) (st : List Int) (z : Value), Hid (run [] (l.take j) = some st) ∧ j ≤ m ∧ i = .int .i64 (j : Int) ∧ z = v ∧ StackG EV 1 wr 3 w.heap.size z st ∧ Below w.heap.size w wr) (fun i _ _ => m - (intOf i).toNat)
    case atStart => exact ⟨0, [], _, Lib.hid rfl, by omega, rfl, rfl, ⟨[], World.ownsRow_nil _ _ _ _, rfl⟩, Below.refl _ _⟩
    case round =>
      obtain ⟨j, st, v, HRN, hj, rfl, rfl, hst, hbw⟩ := hrel
      obtain ⟨al, cl, rfl, hcl⟩ : ∃ a c, v = .slice a st.length c ∧ st.length ≤ c := by obtain ⟨xs, x1, _⟩ := hst; exact own_slice x1
      have hsl : st.length ≤ 50 := run_len _ [] st (by simp) HRN.out
      obtain ⟨n, hn⟩ : ∃ n, st.length = n := ⟨_, rfl⟩
      have HN := Lib.hid hn
      rw [hn] at hcl hsl hst ⊢
      clear hn
      by_cases hjm : j < m
      · have hkl : j < l.length := by rw [HM.out]; exact hjm
        obtain ⟨b, off, rfl, hb, hrow⟩ := HR.out j hkl
        obtain ⟨c0, c1, c2⟩ := (hrow.below hb hbw) j hkl
        have HNX := Lib.hid (run_take hkl HRN.out)
        obtain ⟨⟨k, nn, t⟩, hnt⟩ : ∃ r, l[j] = r := ⟨_, rfl⟩
        rw [hnt] at c0 c1 c2 HNX
        have ht : t.size ≤ maxLen := by have := HF.out.get hkl; rw [hnt] at this; exact this
        have HK := Lib.hid (fun W => implTok k nn t ht W)
        have hbr : b < wr.heap.size := Nat.lt_of_lt_of_le hb hbw.size
        have hA := hst
        have HST := Lib.hid hst
        have HBW := Lib.hid hbw
        have i0' : (0 : Int) ≤ (j : Int) := Int.natCast_nonneg _
        have i1' : (j : Int) < (m : Int) := by omega
        clear hrow hnt ht hst hbw hA
        cases hkt : kt k nn t with
        | false =>
          rw [hkt] at HK HNX
          clear hkt
          go_wp2_with fail
          refine (HK.out _).mono ?_
          rintro e1 w1 ⟨rfl, hb1⟩
          have H1 := Lib.hid hb1
          clear hb1 c0 c1 c2
          go_wp2_with fail
          go_ret
          exact ⟨ret_bool (by rw [tkv_none (j := j + 1) (by rw [HNX.out]; rfl)]), HBW.out.trans (((Below.refl _ _).alloc (Nat.le_refl _) _).trans (H1.out.mono (by simp)) |>.mono HBW.out.size)⟩
        | true =>
          rw [hkt] at HK HNX
          obtain ⟨k1, k8⟩ := kt_kinds hkt
          have HNY := Lib.hid (show run [] (l.take (j + 1)) = stp st k from by rw [HNX.out]; rfl)
          clear HNX
          clear hkt
          go_wp2_with fail
          refine (HK.out _).mono ?_
          rintro e1 w1 ⟨rfl, hb1⟩
          obtain ⟨d0, d1, d2⟩ := row_cells hb1
          have hbX : Below wr.heap.size wr w1 := ((Below.refl _ _).alloc (Nat.le_refl _) _).trans (hb1.mono (by simp))
          have hl1 : wr.heap.size < w1.heap.size := by have := hb1.size; simp at this; omega
          have hwr := HBW.out.size
          obtain ⟨xs, hown, hitems⟩ := HST.out
          have hown1 : w1.ownsRow w.heap.size 3 1 (.slice al n cl) n xs := by
            have h := StackG.below (CV := EV) (n := 1) ⟨xs, hown, hitems⟩ (Nat.le_refl _) hbX
            obtain ⟨ys, h1, h2⟩ := h
            exact own_ext (by rw [HN.out] at hown; exact hown) hbX
          have HXS := Lib.hid hitems
          have HB1 := Lib.hid (HBW.out.trans (hbX.mono HBW.out.size))
          have HOWN := Lib.hid hown1
          have HSTK := Lib.hid (show StackG EV 1 w1 3 w.heap.size (.slice al n cl) st from ⟨xs, by rw [HN.out]; exact hown1, hitems⟩)
          clear hb1 hbX hown hitems c0 c1 c2
          rcases (show k = 5 ∨ k = 7 ∨ k = 6 ∨ k = 8 ∨ ((k == 5) = false ∧ (k == 7) = false ∧ (k == 6) = false ∧ (k == 8) = false ∧ k ≠ 5 ∧ k ≠ 7 ∧ k ≠ 6 ∧ k ≠ 8) from by
            by_cases h5 : k = 5
            · exact .inl h5
            · by_cases h7 : k = 7
              · exact .inr (.inl h7)
              · by_cases h6 : k = 6
                · exact .inr (.inr (.inl h6))
                · by_cases h8 : k = 8
                  · exact .inr (.inr (.inr (.inl h8)))
                  · exact .inr (.inr (.inr (.inr ⟨beq_eq_false_iff_ne.2 h5, beq_eq_false_iff_ne.2 h7, beq_eq_false_iff_ne.2 h6, beq_eq_false_iff_ne.2 h8, h5, h7, h6, h8⟩)))) with rfl | rfl | rfl | rfl | ⟨b5, b7, b6, b8, n5, n7, n6, n8⟩
          · clear k1 k8
            by_cases hf : n < 50
            · go_wp2_with (at_builtin; refine wpList_append_lies _ rfl (.tmp 23) (.tmp 24) 48 rfl (w.heap.size) 3 i0 z0 1 8 Try.underlying48 HI.out.1 HI.out.2.1 HI.out.2.2.1 HI.out.2.2.2.1 HI.out.2.2.2.2 (by omega) (.slice al n cl) n xs rfl (hown1.alloc _) ⟨w1.heap.size, 0, none⟩ 1 1 [.int .i64 6] rfl rfl (one_int w1 6 _) (by simp [Value.oneCell']) (by omega) (by unfold maxLen; omega) (by omega) (by simp; omega) (w1.heap.size + 1) (by simp) ?_; intro g cap' w5 hown5 hgrow5 hat5 hlt5; have H5 := Lib.hid (below_append hgrow5 hown1 (by omega)); have HO5 := Lib.hid hown5; clear hgrow5 hown5 hat5 hlt5)
              try go_wp2_with fail
              go_roundw
              case rel => exact ⟨j + 1, 5 :: st, _, Lib.hid (by rw [HNY.out, stp_open (by omega) (by rw [HN.out]; exact hf)]), by omega, by go_num, rfl, StackG.push HXS.out (show EV 5 [.int .i64 6] from rfl) (by rw [HN.out]; exact HO5.out), HB1.out.trans H5.out⟩
              case measure => simp [intOf]; omega
            · obtain rfl : n = 50 := by omega
              go_wp2_with (at_builtin; refine wpList_append_lies _ rfl (.tmp 23) (.tmp 24) 48 rfl (w.heap.size) 3 i0 z0 1 8 Try.underlying48 HI.out.1 HI.out.2.1 HI.out.2.2.1 HI.out.2.2.2.1 HI.out.2.2.2.2 (by omega) (.slice al 50 cl) 50 xs rfl (hown1.alloc _) ⟨w1.heap.size, 0, none⟩ 1 1 [.int .i64 6] rfl rfl (one_int w1 6 _) (by simp [Value.oneCell']) (by omega) (by unfold maxLen; omega) (by omega) (by simp; omega) (w1.heap.size + 1) (by simp) ?_; intro g cap' w5 hown5 hgrow5 hat5 hlt5; have H5 := Lib.hid (below_append hgrow5 hown1 (by omega)); have HO5 := Lib.hid hown5; clear hgrow5 hown5 hat5 hlt5)
              try go_wp2_with fail
              go_ret
              exact ⟨ret_bool (by rw [tkv_none (j := j + 1) (by rw [HNY.out, stp_full (by omega) (by rw [HN.out]; omega)])]), HB1.out.trans H5.out⟩
          · clear k1 k8
            by_cases hf : n < 50
            · go_wp2_with (at_builtin; refine wpList_append_lies _ rfl (.tmp 28) (.tmp 29) 48 rfl (w.heap.size) 3 i0 z0 1 8 Try.underlying48 HI.out.1 HI.out.2.1 HI.out.2.2.1 HI.out.2.2.2.1 HI.out.2.2.2.2 (by omega) (.slice al n cl) n xs rfl (hown1.alloc _) ⟨w1.heap.size, 0, none⟩ 1 1 [.int .i64 8] rfl rfl (one_int w1 8 _) (by simp [Value.oneCell']) (by omega) (by unfold maxLen; omega) (by omega) (by simp; omega) (w1.heap.size + 1) (by simp) ?_; intro g cap' w5 hown5 hgrow5 hat5 hlt5; have H5 := Lib.hid (below_append hgrow5 hown1 (by omega)); have HO5 := Lib.hid hown5; clear hgrow5 hown5 hat5 hlt5)
              try go_wp2_with fail
              go_roundw
              case rel => exact ⟨j + 1, 7 :: st, _, Lib.hid (by rw [HNY.out, stp_open (by omega) (by rw [HN.out]; exact hf)]), by omega, by go_num, rfl, StackG.push HXS.out (show EV 7 [.int .i64 8] from rfl) (by rw [HN.out]; exact HO5.out), HB1.out.trans H5.out⟩
              case measure => simp [intOf]; omega
            · obtain rfl : n = 50 := by omega
              go_wp2_with (at_builtin; refine wpList_append_lies _ rfl (.tmp 28) (.tmp 29) 48 rfl (w.heap.size) 3 i0 z0 1 8 Try.underlying48 HI.out.1 HI.out.2.1 HI.out.2.2.1 HI.out.2.2.2.1 HI.out.2.2.2.2 (by omega) (.slice al 50 cl) 50 xs rfl (hown1.alloc _) ⟨w1.heap.size, 0, none⟩ 1 1 [.int .i64 8] rfl rfl (one_int w1 8 _) (by simp [Value.oneCell']) (by omega) (by unfold maxLen; omega) (by omega) (by simp; omega) (w1.heap.size + 1) (by simp) ?_; intro g cap' w5 hown5 hgrow5 hat5 hlt5; have H5 := Lib.hid (below_append hgrow5 hown1 (by omega)); have HO5 := Lib.hid hown5; clear hgrow5 hown5 hat5 hlt5)
              try go_wp2_with fail
              go_ret
              exact ⟨ret_bool (by rw [tkv_none (j := j + 1) (by rw [HNY.out, stp_full (by omega) (by rw [HN.out]; omega)])]), HB1.out.trans H5.out⟩
          · clear k1 k8
            cases st with
            | nil =>
              obtain rfl : n = 0 := by have := HN.out; simpa using this.symm
              go_wp2_with fail
              go_quiet (fail)
              go_wp2_with fail
              go_ret
              exact ⟨ret_bool (by rw [tkv_none (j := j + 1) (by rw [HNY.out, stp_nil (by omega)])]), drewN_below HB1.out _⟩
            | cons x r =>
              obtain ⟨g, cap', c, hv, hg0, hg1, hg2, _, hcv, hcell, hrest⟩ := StackG.top EV.len HSTK.out
              obtain ⟨q, hq⟩ : ∃ q, r.length = q := ⟨_, rfl⟩
              obtain rfl : n = q + 1 := by have := HN.out; simp at this; omega
              injection hv with hv1 hv2 hv3
              subst hv1 hv3
              have hcx := hcell 0 (by omega)
              rw [hcv] at hcx
              simp only [hq, Nat.mul_one, Nat.add_zero, List.getElem?_cons_zero] at hcx
              have HRS := Lib.hid hrest
              have HQ := Lib.hid hq
              have q0 : (0 : Int) ≤ (q : Int) := Int.natCast_nonneg _
              have qn : ¬ ((q : Int) < 0) := by omega
              have q1 : (q : Int) < (q : Int) + 1 := by omega
              clear hcell hrest hv2 hcv hq
              by_cases hx : x + 1 = 6
              · have hxb : ((x + 1) != 6) = false := by simp [hx]
                go_wp2_with fail
                go_quiet (fail)
                go_wp2_with fail
                go_roundw
                case rel => exact ⟨j + 1, r, _, Lib.hid (by rw [HNY.out, stp_close (by omega) hx]), by omega, by go_num, rfl, by rw [← HQ.out]; exact HRS.out.below (Nat.le_refl _) (drewN_below (Below.refl _ _) _), drewN_below HB1.out _⟩
                case measure => simp [intOf]; omega
              · have hxb : ((x + 1) != 6) = true := by simp [hx]
                go_wp2_with fail
                go_quiet (fail)
                go_wp2_with fail
                go_ret
                exact ⟨ret_bool (by rw [tkv_none (j := j + 1) (by rw [HNY.out, stp_wrong (by omega) hx])]), drewN_below HB1.out _⟩
          · clear k1 k8
            cases st with
            | nil =>
              obtain rfl : n = 0 := by have := HN.out; simpa using this.symm
              go_wp2_with fail
              go_quiet (fail)
              go_wp2_with fail
              go_ret
              exact ⟨ret_bool (by rw [tkv_none (j := j + 1) (by rw [HNY.out, stp_nil (by omega)])]), drewN_below HB1.out _⟩
            | cons x r =>
              obtain ⟨g, cap', c, hv, hg0, hg1, hg2, _, hcv, hcell, hrest⟩ := StackG.top EV.len HSTK.out
              obtain ⟨q, hq⟩ : ∃ q, r.length = q := ⟨_, rfl⟩
              obtain rfl : n = q + 1 := by have := HN.out; simp at this; omega
              injection hv with hv1 hv2 hv3
              subst hv1 hv3
              have hcx := hcell 0 (by omega)
              rw [hcv] at hcx
              simp only [hq, Nat.mul_one, Nat.add_zero, List.getElem?_cons_zero] at hcx
              have HRS := Lib.hid hrest
              have HQ := Lib.hid hq
              have q0 : (0 : Int) ≤ (q : Int) := Int.natCast_nonneg _
              have qn : ¬ ((q : Int) < 0) := by omega
              have q1 : (q : Int) < (q : Int) + 1 := by omega
              clear hcell hrest hv2 hcv hq
              by_cases hx : x + 1 = 8
              · have hxb : ((x + 1) != 8) = false := by simp [hx]
                go_wp2_with fail
                go_quiet (fail)
                go_wp2_with fail
                go_roundw
                case rel => exact ⟨j + 1, r, _, Lib.hid (by rw [HNY.out, stp_close (by omega) hx]), by omega, by go_num, rfl, by rw [← HQ.out]; exact HRS.out.below (Nat.le_refl _) (drewN_below (Below.refl _ _) _), drewN_below HB1.out _⟩
                case measure => simp [intOf]; omega
              · have hxb : ((x + 1) != 8) = true := by simp [hx]
                go_wp2_with fail
                go_quiet (fail)
                go_wp2_with fail
                go_ret
                exact ⟨ret_bool (by rw [tkv_none (j := j + 1) (by rw [HNY.out, stp_wrong (by omega) hx])]), drewN_below HB1.out _⟩
          · clear hown1
            go_wp2_with fail
            go_roundw
            case rel => exact ⟨j + 1, st, _, Lib.hid (by rw [HNY.out, stp_else st (by omega) (by omega)]), by omega, by go_num, rfl, HSTK.out, HB1.out⟩
            case measure => simp [intOf]; omega
      · have HB1 := Lib.hid hbw
        have hfin := HFin.out st (by have := HRN.out; rwa [List.take_of_length_le (by have := HM.out; omega)] at this)
        rw [HN.out] at hfin
        have HE := Lib.hid hfin
        clear hfin hbw hst
        go_wp2_with fail
        go_ret
        exact ⟨ret_bool (by rw [HE.out]; by_cases h : n = 0 <;> simp [h]), HB1.out⟩

theorem own_none (w : World) {B : Nat} (hB : B ≤ w.heap.size) (T : TypeId) : (w.alloc (.cells #[] T)).ownsRow B T 1 (.slice (some ⟨w.heap.size, 0, none⟩) 0 0) 0 [] := by
  refine ⟨rfl, .inr ⟨w.heap.size, 0, #[], rfl, hB, ?_, Nat.le_refl _, ?_⟩⟩
  · show (w.heap.push _)[w.heap.size]? = _
    exact Array.getElem?_push_size
  · simp
set_option maxRecDepth 100000 in
set_option maxHeartbeats 6400000 in
theorem specTokensValid (l : List (Int × Int × ByteArray)) (w : World) (a : Option Addr) (cap : Nat) (fs : List Nat) (hs : TkSub w a l fs) (hc : l.length ≤ cap) (hl : l.length ≤ maxLen) (hft : TL.Fits l) :
    Calls Try.prog 42 #[.slice a l.length cap] w fun e w' => e = .returned (.bool (tkv l)) ∧ Below w.heap.size w w' := by
  have HR := Lib.hid (show ∀ k, (h : k < l.length) → ∃ b off, a = some ⟨b, off, none⟩ ∧ b < w.heap.size ∧ TkAt w l b off from fun k h => by
    rcases hs with ⟨rfl, _⟩ | ⟨b, off, ha, hn, _, hr⟩
    · simp at h
    · exact ⟨b, off, ha, hr.lt hn, hr⟩)
  obtain ⟨m, hm⟩ : ∃ m, l.length = m := ⟨_, rfl⟩
  have HM := Lib.hid hm
  have HF := Lib.hid hft
  rw [hm] at hc hl ⊢
  clear hm hft hs
  unfold maxLen at hl
  have HFin := Lib.hid (fun (st : List Int) (h0 : m < 200) (h : run [] l = some st) => tkv_end (l := l) (by have := HM.out; omega) h)
  have HLong := Lib.hid (fun (h0 : 199 < m) => tkv_long (l := l) (by have := HM.out; omega))
  obtain ⟨i0, z0, hi, hz, hz1, hz2, hz3⟩ := info_some infoI
  have HI := Lib.hid (And.intro hi (And.intro hz (And.intro hz1 (And.intro hz2 hz3))))
  clear hi hz hz1 hz2 hz3
  go_enter Try.func42, Try.ntmps42
  go_wp2_with fail
  go_loopw [4, 3] (fun i v wr => ∃ (j : Nat) (st : List Int) (z : Value), Hid (run [] (l.take j) = some st) ∧ (j ≤ m ∧ j ≤ 200) ∧ i = .int .i64 (j : Int) ∧ z = v ∧ StackG OV 1 wr 3 w.heap.size z st ∧ Below w.heap.size w wr) (fun i _ _ => m - (intOf i).toNat)
  case atStart => exact ⟨0, [], _, Lib.hid rfl, by omega, rfl, rfl, ⟨[], own_none w (Nat.le_refl _) _, rfl⟩, (Below.refl _ _).alloc (Nat.le_refl _) _⟩
  case round =>
    obtain ⟨j, st, v, HRN, ⟨hj, hj2⟩, rfl, rfl, hst, hbw⟩ := hrel
    obtain ⟨al, cl, rfl, hcl⟩ : ∃ a c, v = .slice a st.length c ∧ st.length ≤ c := by obtain ⟨xs, x1, _⟩ := hst; exact own_slice x1
    have hsl : st.length ≤ 50 := run_len _ [] st (by simp) HRN.out
    obtain ⟨n, hn⟩ : ∃ n, st.length = n := ⟨_, rfl⟩
    have HN := Lib.hid hn
    rw [hn] at hcl hsl hst ⊢
    clear hn
    by_cases hjm : j < m
    · have i0' : (0 : Int) ≤ (j : Int) := Int.natCast_nonneg _
      have i1' : (j : Int) < (m : Int) := by omega
      by_cases hj200 : j < 200
      · have i2' : (j : Int) < 200 := by omega
        have hkl : j < l.length := by rw [HM.out]; exact hjm
        obtain ⟨b, off, rfl, hb, hrow⟩ := HR.out j hkl
        obtain ⟨c0, c1, c2⟩ := (hrow.below hb hbw) j hkl
        have HNX := Lib.hid (run_take hkl HRN.out)
        have HROW := Lib.hid (fun (w' : World) (h : Below w.heap.size w w') => ((hrow.below hb h) j hkl).1)
        obtain ⟨⟨k, nn, t⟩, hnt⟩ : ∃ r, l[j] = r := ⟨_, rfl⟩
        rw [hnt] at c0 c1 c2 HNX HROW
        have ht : t.size ≤ maxLen := by have := HF.out.get hkl; rw [hnt] at this; exact this
        have HK := Lib.hid (fun W => specIs k nn t ht W)
        have hbr : b < wr.heap.size := Nat.lt_of_lt_of_le hb hbw.size
        have HST := Lib.hid hst
        have HBW := Lib.hid hbw
        clear hrow hnt ht hst hbw
        cases hkt : kt k nn t with
        | false =>
          rw [hkt] at HK HNX
          clear hkt
          go_wp2_with fail
          refine (HK.out _).mono ?_
          rintro e1 w1 ⟨rfl, hb1⟩
          have H1 := Lib.hid hb1
          clear hb1 c0 c1 c2
          go_wp2_with fail
          go_ret
          exact ⟨ret_bool (by rw [tkv_none (j := j + 1) (by rw [HNX.out]; rfl)]), HBW.out.trans (H1.out.mono HBW.out.size)⟩
        | true =>
          rw [hkt] at HK HNX
          obtain ⟨k1, k8⟩ := kt_kinds hkt
          have HNY := Lib.hid (show run [] (l.take (j + 1)) = stp st k from by rw [HNX.out]; rfl)
          clear HNX hkt
          go_wp2_with fail
          refine (HK.out _).mono ?_
          rintro e1 w1 ⟨rfl, hb1⟩
          have hwr := HBW.out.size
          have hl1 := hb1.size
          have hB1 := HBW.out.trans (hb1.mono HBW.out.size)
          have d0 := HROW.out _ hB1
          have hbr1 : b < w1.heap.size := by omega
          obtain ⟨xs, hown, hitems⟩ := HST.out
          have hown1 : w1.ownsRow w.heap.size 3 1 (.slice al n cl) n xs := own_ext (by rw [HN.out] at hown; exact hown) hb1
          have HXS := Lib.hid hitems
          have HB1 := Lib.hid hB1
          have HSTK := Lib.hid (show StackG OV 1 w1 3 w.heap.size (.slice al n cl) st from ⟨xs, by rw [HN.out]; exact hown1, hitems⟩)
          clear hb1 hown hitems c0 c1 c2 hB1 hbr
          rcases (show k = 5 ∨ k = 7 ∨ k = 6 ∨ k = 8 ∨ ((k == 5) = false ∧ (k == 7) = false ∧ (k == 6) = false ∧ (k == 8) = false ∧ k ≠ 5 ∧ k ≠ 7 ∧ k ≠ 6 ∧ k ≠ 8) from by
            by_cases h5 : k = 5
            · exact .inl h5
            · by_cases h7 : k = 7
              · exact .inr (.inl h7)
              · by_cases h6 : k = 6
                · exact .inr (.inr (.inl h6))
                · by_cases h8 : k = 8
                  · exact .inr (.inr (.inr (.inl h8)))
                  · exact .inr (.inr (.inr (.inr ⟨beq_eq_false_iff_ne.2 h5, beq_eq_false_iff_ne.2 h7, beq_eq_false_iff_ne.2 h6, beq_eq_false_iff_ne.2 h8, h5, h7, h6, h8⟩)))) with rfl | rfl | rfl | rfl | ⟨b5, b7, b6, b8, n5, n7, n6, n8⟩
          · clear k1 k8
            by_cases hf : n < 50
            · go_wp2_with (at_builtin; refine wpList_append_lies _ rfl (.tmp 30) (.tmp 36) 48 rfl (w.heap.size) 3 i0 z0 1 8 Try.underlying48 HI.out.1 HI.out.2.1 HI.out.2.2.1 HI.out.2.2.2.1 HI.out.2.2.2.2 (by omega) (.slice al n cl) n xs rfl (hown1.alloc _) ⟨w1.heap.size, 0, none⟩ 1 1 [.int .i64 5] rfl rfl (one_int w1 5 _) (by simp [Value.oneCell']) (by omega) (by unfold maxLen; omega) (by omega) (by simp; omega) (w1.heap.size + 1) (by simp) ?_; intro g cap' w5 hown5 hgrow5 hat5 hlt5; have H5 := Lib.hid (below_append hgrow5 hown1 (by omega)); have HO5 := Lib.hid hown5; clear hgrow5 hown5 hat5 hlt5)
              try go_wp2_with fail
              go_roundw
              case rel => exact ⟨j + 1, 5 :: st, _, Lib.hid (by rw [HNY.out, stp_open (by omega) (by rw [HN.out]; exact hf)]), by omega, by go_num, rfl, StackG.push HXS.out (show OV 5 [.int .i64 5] from rfl) (by rw [HN.out]; exact HO5.out), HB1.out.trans H5.out⟩
              case measure => simp [intOf]; omega
            · obtain rfl : n = 50 := by omega
              go_wp2_with (at_builtin; refine wpList_append_lies _ rfl (.tmp 30) (.tmp 36) 48 rfl (w.heap.size) 3 i0 z0 1 8 Try.underlying48 HI.out.1 HI.out.2.1 HI.out.2.2.1 HI.out.2.2.2.1 HI.out.2.2.2.2 (by omega) (.slice al 50 cl) 50 xs rfl (hown1.alloc _) ⟨w1.heap.size, 0, none⟩ 1 1 [.int .i64 5] rfl rfl (one_int w1 5 _) (by simp [Value.oneCell']) (by omega) (by unfold maxLen; omega) (by omega) (by simp; omega) (w1.heap.size + 1) (by simp) ?_; intro g cap' w5 hown5 hgrow5 hat5 hlt5; have H5 := Lib.hid (below_append hgrow5 hown1 (by omega)); have HO5 := Lib.hid hown5; clear hgrow5 hown5 hat5 hlt5)
              try go_wp2_with fail
              go_ret
              exact ⟨ret_bool (by rw [tkv_none (j := j + 1) (by rw [HNY.out, stp_full (by omega) (by rw [HN.out]; omega)])]), HB1.out.trans H5.out⟩
          · clear k1 k8
            by_cases hf : n < 50
            · go_wp2_with (at_builtin; refine wpList_append_lies _ rfl (.tmp 30) (.tmp 36) 48 rfl (w.heap.size) 3 i0 z0 1 8 Try.underlying48 HI.out.1 HI.out.2.1 HI.out.2.2.1 HI.out.2.2.2.1 HI.out.2.2.2.2 (by omega) (.slice al n cl) n xs rfl (hown1.alloc _) ⟨w1.heap.size, 0, none⟩ 1 1 [.int .i64 7] rfl rfl (one_int w1 7 _) (by simp [Value.oneCell']) (by omega) (by unfold maxLen; omega) (by omega) (by simp; omega) (w1.heap.size + 1) (by simp) ?_; intro g cap' w5 hown5 hgrow5 hat5 hlt5; have H5 := Lib.hid (below_append hgrow5 hown1 (by omega)); have HO5 := Lib.hid hown5; clear hgrow5 hown5 hat5 hlt5)
              try go_wp2_with fail
              go_roundw
              case rel => exact ⟨j + 1, 7 :: st, _, Lib.hid (by rw [HNY.out, stp_open (by omega) (by rw [HN.out]; exact hf)]), by omega, by go_num, rfl, StackG.push HXS.out (show OV 7 [.int .i64 7] from rfl) (by rw [HN.out]; exact HO5.out), HB1.out.trans H5.out⟩
              case measure => simp [intOf]; omega
            · obtain rfl : n = 50 := by omega
              go_wp2_with (at_builtin; refine wpList_append_lies _ rfl (.tmp 30) (.tmp 36) 48 rfl (w.heap.size) 3 i0 z0 1 8 Try.underlying48 HI.out.1 HI.out.2.1 HI.out.2.2.1 HI.out.2.2.2.1 HI.out.2.2.2.2 (by omega) (.slice al 50 cl) 50 xs rfl (hown1.alloc _) ⟨w1.heap.size, 0, none⟩ 1 1 [.int .i64 7] rfl rfl (one_int w1 7 _) (by simp [Value.oneCell']) (by omega) (by unfold maxLen; omega) (by omega) (by simp; omega) (w1.heap.size + 1) (by simp) ?_; intro g cap' w5 hown5 hgrow5 hat5 hlt5; have H5 := Lib.hid (below_append hgrow5 hown1 (by omega)); have HO5 := Lib.hid hown5; clear hgrow5 hown5 hat5 hlt5)
              try go_wp2_with fail
              go_ret
              exact ⟨ret_bool (by rw [tkv_none (j := j + 1) (by rw [HNY.out, stp_full (by omega) (by rw [HN.out]; omega)])]), HB1.out.trans H5.out⟩
          · clear k1 k8
            cases st with
            | nil =>
              obtain rfl : n = 0 := by have := HN.out; simpa using this.symm
              go_wp2_with fail
              go_quiet (fail)
              go_wp2_with fail
              go_ret
              exact ⟨ret_bool (by rw [tkv_none (j := j + 1) (by rw [HNY.out, stp_nil (by omega)])]), drewN_below HB1.out _⟩
            | cons x r =>
              obtain ⟨g, cap', c, hv, hg0, hg1, hg2, _, hcv, hcell, hrest⟩ := StackG.top OV.len HSTK.out
              obtain ⟨q, hq⟩ : ∃ q, r.length = q := ⟨_, rfl⟩
              obtain rfl : n = q + 1 := by have := HN.out; simp at this; omega
              injection hv with hv1 hv2 hv3
              subst hv1 hv3
              have hcx := hcell 0 (by omega)
              rw [hcv] at hcx
              simp only [hq, Nat.mul_one, Nat.add_zero, List.getElem?_cons_zero] at hcx
              have HRS := Lib.hid hrest
              have HQ := Lib.hid hq
              have q0 : (0 : Int) ≤ (q : Int) := Int.natCast_nonneg _
              have qn : ¬ ((q : Int) < 0) := by omega
              have q1 : (q : Int) < (q : Int) + 1 := by omega
              have qz : ((q : Int) + 1 == 0) = false := beq_eq_false_iff_ne.2 (by omega)
              clear hcell hrest hv2 hcv hq
              by_cases hx : x + 1 = 6
              · obtain rfl : x = 5 := by omega
                go_wp2_with fail
                go_quiet (fail)
                go_wp2_with fail
                go_roundw
                case rel => exact ⟨j + 1, r, _, Lib.hid (by rw [HNY.out, stp_close (by omega) hx]), by omega, by go_num, rfl, by rw [← HQ.out]; exact HRS.out.below (Nat.le_refl _) (drewN_below (Below.refl _ _) _), drewN_below HB1.out _⟩
                case measure => simp [intOf]; omega
              · have hxb : (x != 5) = true := by simp; omega
                go_wp2_with fail
                go_quiet (fail)
                go_wp2_with fail
                go_ret
                exact ⟨ret_bool (by rw [tkv_none (j := j + 1) (by rw [HNY.out, stp_wrong (by omega) hx])]), drewN_below HB1.out _⟩
          · clear k1 k8
            cases st with
            | nil =>
              obtain rfl : n = 0 := by have := HN.out; simpa using this.symm
              go_wp2_with fail
              go_quiet (fail)
              go_wp2_with fail
              go_ret
              exact ⟨ret_bool (by rw [tkv_none (j := j + 1) (by rw [HNY.out, stp_nil (by omega)])]), drewN_below HB1.out _⟩
            | cons x r =>
              obtain ⟨g, cap', c, hv, hg0, hg1, hg2, _, hcv, hcell, hrest⟩ := StackG.top OV.len HSTK.out
              obtain ⟨q, hq⟩ : ∃ q, r.length = q := ⟨_, rfl⟩
              obtain rfl : n = q + 1 := by have := HN.out; simp at this; omega
              injection hv with hv1 hv2 hv3
              subst hv1 hv3
              have hcx := hcell 0 (by omega)
              rw [hcv] at hcx
              simp only [hq, Nat.mul_one, Nat.add_zero, List.getElem?_cons_zero] at hcx
              have HRS := Lib.hid hrest
              have HQ := Lib.hid hq
              have q0 : (0 : Int) ≤ (q : Int) := Int.natCast_nonneg _
              have qn : ¬ ((q : Int) < 0) := by omega
              have q1 : (q : Int) < (q : Int) + 1 := by omega
              have qz : ((q : Int) + 1 == 0) = false := beq_eq_false_iff_ne.2 (by omega)
              clear hcell hrest hv2 hcv hq
              by_cases hx : x + 1 = 8
              · obtain rfl : x = 7 := by omega
                go_wp2_with fail
                go_quiet (fail)
                go_wp2_with fail
                go_roundw
                case rel => exact ⟨j + 1, r, _, Lib.hid (by rw [HNY.out, stp_close (by omega) hx]), by omega, by go_num, rfl, by rw [← HQ.out]; exact HRS.out.below (Nat.le_refl _) (drewN_below (Below.refl _ _) _), drewN_below HB1.out _⟩
                case measure => simp [intOf]; omega
              · have hxb : (x != 7) = true := by simp; omega
                go_wp2_with fail
                go_quiet (fail)
                go_wp2_with fail
                go_ret
                exact ⟨ret_bool (by rw [tkv_none (j := j + 1) (by rw [HNY.out, stp_wrong (by omega) hx])]), drewN_below HB1.out _⟩
          · clear hown1
            go_wp2_with fail
            go_roundw
            case rel => exact ⟨j + 1, st, _, Lib.hid (by rw [HNY.out, stp_else st (by omega) (by omega)]), by omega, by go_num, rfl, HSTK.out, HB1.out⟩
            case measure => simp [intOf]; omega
      · obtain rfl : j = 200 := by omega
        have HE := Lib.hid (HLong.out (by omega))
        have hm200 : ¬ ((m : Int) < 200) := by omega
        have HB1 := Lib.hid hbw
        clear hbw hst
        go_wp2_with fail
        go_ret
        exact ⟨ret_bool (by rw [HE.out]), HB1.out⟩
    · obtain rfl : j = m := by omega
      have HB1 := Lib.hid hbw
      clear hbw hst
      by_cases hm2 : j < 200
      · have hm200 : ((j : Int) < 200) := by omega
        have hfin := HFin.out st hm2 (by have := HRN.out; rwa [List.take_of_length_le (by have := HM.out; omega)] at this)
        rw [HN.out] at hfin
        have HE := Lib.hid hfin
        clear hfin
        go_wp2_with fail
        go_ret
        exact ⟨ret_bool (by rw [HE.out]; by_cases h : n = 0 <;> simp [h]), HB1.out⟩
      · have hm200 : ¬ ((j : Int) < 200) := by omega
        have HE := Lib.hid (HLong.out (by omega))
        go_wp2_with fail
        go_ret
        exact ⟨ret_bool (by rw [HE.out]), HB1.out⟩

end Go.Proofs.Ytcealfjkcbaelaa.Tk


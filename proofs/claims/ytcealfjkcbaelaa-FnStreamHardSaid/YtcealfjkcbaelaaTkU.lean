import Derived.Test.YtcealfjkcbaelaaStQ
import Derived.Test.YtcealfjkcbaelaaTkA
import Derived.Test.YtcealfjkcbaelaaTkJ
import Derived.Test.YtcealfjkcbaelaaTkB
import Derived.Test.YtcealfjkcbaelaaRqB
import Derived.Deep.RegionHeld3
/-
  l6Run of the model: a stream of tokens that is laid out.
-/
set_option linter.unusedVariables false
set_option linter.unusedSimpArgs false
namespace Go.Proofs.Ytcealfjkcbaelaa.Sq
open Go.RowKit Go.Shelf P1 Cnt CntC Flat Wid ChP Rn Bwd RnM Rq
open StM (NV)
open Tk hiding run
open LayN (cells2 cells2_len cells2_one)
open LayC (cells2_app)

theorem nv_len : ∀ (x : Int) (c : List Value), NV x c → c.length = 1 := fun x c h => by rw [show c = [.int .i64 x] from h]; rfl
theorem infoI1 : (Try.prog.info? 3).map (fun i => (i.zero.map (fun z => z.cells.size), i.size, i.bytes)) = some (some 1, 1, 8) := by kernel_rfl
theorem wrapN {n : Nat} (h : n ≤ 1000) : IntKind.i64.wrap (n : Int) = (n : Int) := by rw [IntKind.wrap_i64]; omega
/-- the sum of the nests that are open, on top of the stack -/
theorem nest_top {w : World} {T : TypeId} {lo : Nat} {v : Value} {x : Int} {st : List Int} (h : StackG NV 1 w T lo v (x :: st)) :
    ∃ g cap, v = .slice (some ⟨g, 0, none⟩) (st.length + 1) cap ∧ lo ≤ g ∧ g < w.heap.size ∧ st.length + 1 ≤ cap ∧ w.cell? ⟨g, st.length, none⟩ = some (.int .i64 x) ∧ StackG NV 1 w T lo (.slice (some ⟨g, 0, none⟩) st.length cap) st := by
  obtain ⟨g, cap, c, rfl, h1, h2, h3, _, h4, h5, h6⟩ := StackG.top nv_len h
  obtain rfl : c = [.int .i64 x] := h4
  have h0 := h5 0 (by omega)
  simp only [Nat.mul_one, Nat.add_zero, List.getElem?_cons_zero] at h0
  exact ⟨g, cap, rfl, h1, h2, h3, h0, h6⟩
theorem run_start6 (w : World) :
    RN w w.heap.size (w.heap.size + 1) [0] St.zero w.heap.size 1 none 0 (.slice (some ⟨w.heap.size + 1 + 1, 0, none⟩) 1 1)
      (((w.alloc (.cells #[.int .i64 0, .string ⟨#[]⟩] 91)).alloc (.cells #[.slice (some ⟨w.heap.size, 0, none⟩) 1 1, .slice none 0 0] 154)).alloc (.cells #[.int .i64 0] 3)) := by
  obtain ⟨w3, h3⟩ : ∃ x, w.alloc (.cells #[.int .i64 0, .string ⟨#[]⟩] 91) = x := ⟨_, rfl⟩
  have z3 : w.heap.size + 1 = w3.heap.size := by rw [← h3]; simp
  have r3 : w3.ownsRow w.heap.size 91 2 (.slice (some ⟨w.heap.size, 0, none⟩) 1 1) 1 [.int .i64 0, .string ⟨#[]⟩] := by
    rw [← h3]
    exact ⟨by simp, .inr ⟨w.heap.size, 1, _, rfl, by omega, World.alloc_heap_new _ _, by omega, by unfold maxLen; omega, by simp, by simp⟩⟩
  rw [h3]
  obtain ⟨w4, h4⟩ : ∃ x, w3.alloc (.cells #[.slice (some ⟨w.heap.size, 0, none⟩) 1 1, .slice none 0 0] 154) = x := ⟨_, rfl⟩
  have z4 : w3.heap.size + 1 = w4.heap.size := by rw [← h4]; simp
  have b4 : w4.heap[w3.heap.size]? = some (.cells #[.slice (some ⟨w.heap.size, 0, none⟩) 1 1, .slice none 0 0] 154 (0, 0)) := by rw [← h4]; exact World.alloc_heap_new _ _
  have r4 : w4.ownsRow w.heap.size 91 2 (.slice (some ⟨w.heap.size, 0, none⟩) 1 1) 1 [.int .i64 0, .string ⟨#[]⟩] := by rw [← h4]; exact r3.alloc _
  rw [h4]
  refine ⟨?_, r4.alloc _, World.ownsRow_nil _ _ _ _, ?_, by omega⟩
  · rw [z3]; exact (Below.heap_alloc _ _ _ (by omega)).trans b4
  · rw [z3, z4]; exact StackG.start (CV := NV) (n := 1) (x := 0) (c := [.int .i64 0]) rfl rfl rfl (by omega) rfl
theorem flT_step {s : List Tok} {q : Nat} (h : q < s.length) : flT (s.take (q + 1)) = flT (s.take q) ++ ((if s[q].1 = 2 then ⟨#[32]⟩ else ⟨#[]⟩) ++ s[q].2.2) := by
  rw [List.take_succ_eq_append_getElem h, flT_app]
  congr 1
  show (if s[q].1 = 2 then (⟨#[32]⟩ : ByteArray) else ⟨#[]⟩) ++ s[q].2.2 ++ ByteArray.empty = _
  rw [ByteArray.append_empty]
/-- what l6Run hands back -/
def RunOut6 (w : World) (R : St × Nat) (e : Ending) (w' : World) : Prop := ∃ (g cap : Nat), e = .returned (.tuple #[.slice (some ⟨g, 0, none⟩) (R.1.rows.length + 1) cap, .int .i64 (R.2 : Int)]) ∧
  w'.ownsRow w.heap.size 91 2 (.slice (some ⟨g, 0, none⟩) (R.1.rows.length + 1) cap) (R.1.rows.length + 1) (cells2 R.1.fin) ∧ Below w.heap.size w w'
/-- a token's variable -/
def TX (b : Nat) (k n : Int) (t : ByteArray) (w : World) : Prop := w.heap[b]? = some (.cells #[.int .i64 k, .int .i64 n, .string t] 55 (0, 0))
theorem TX.cells {b : Nat} {k n : Int} {t : ByteArray} {w : World} (h : TX b k n t w) : w.cell? ⟨b, 0, none⟩ = some (.int .i64 k) ∧ w.cell? ⟨b, 1, none⟩ = some (.int .i64 n) ∧ w.cell? ⟨b, 2, none⟩ = some (.string t) := by
  have h' : w.heap[b]? = _ := h
  refine ⟨?_, ?_, ?_⟩ <;> (simp only [World.cell?, h']; rfl)
theorem TX.ext {b : Nat} {k n : Int} {t : ByteArray} {w w' : World} (h : TX b k n t w) (e : Below w.heap.size w w') : TX b k n t w' := (e.block _ (Array.getElem?_eq_some_iff.1 h).1).trans h
theorem TX.lt {b : Nat} {k n : Int} {t : ByteArray} {w : World} (h : TX b k n t w) : b < w.heap.size := (Array.getElem?_eq_some_iff.1 h).1

set_option maxRecDepth 100000 in
set_option maxHeartbeats 12800000 in
theorem l6Run (l : List Tok) (W : Int) (w : World) (a : Option Addr) (cap0 : Nat) (fs : List Nat) (hs : TkSub w a l fs) (hc : l.length ≤ cap0) (hv : tkv l = true) (hW0 : 0 ≤ W) (hW1 : W ≤ 200) :
    Calls Try.prog 68 #[.slice a l.length cap0, .int .i64 W] w (RunOut6 w (str W l.length l St.zero [0] 0)) := by
  have hlen := tkv_len hv
  have HQ0 := Lib.hid (run_start6 w)
  have HSI := Lib.hid (SI.start (W := W) hv)
  have HCL := Lib.hid (Cl.of hv)
  have HVV := Lib.hid hv
  have HKT := Lib.hid (fun (q : Nat) (h : q < l.length) => kt_size (kt_all hv _ (List.getElem_mem h)))
  have HALL := Lib.hid (show ∀ r ∈ l, r.2.2.size ≤ 12 from fun r hr => kt_size (kt_all hv r hr))
  have HEND := Lib.hid (fun (q : Nat) (h : q < l.length) (h6 : l[q].1 = 6) => show l[q].2.2 = ⟨#[]⟩ from by
    have hk := kt_all hv _ (List.getElem_mem h)
    unfold kt at hk
    rw [if_neg (by omega), if_neg (by omega)] at hk
    simp only [Bool.and_eq_true, decide_eq_true_eq] at hk
    exact hk.2.1)
  have HR := Lib.hid (show ∀ k, (h : k < l.length) → ∃ b off, a = some ⟨b, off, none⟩ ∧ b < w.heap.size ∧ TkAt w l b off from fun k h => by
    rcases hs with ⟨rfl, _⟩ | ⟨b, off, ha, hn, _, hr⟩
    · simp at h
    · exact ⟨b, off, ha, hr.lt hn, hr⟩)
  obtain ⟨R, hR⟩ : ∃ R, str W l.length l St.zero [0] 0 = R := ⟨_, rfl⟩
  rw [hR] at HSI ⊢
  obtain ⟨m, hm⟩ : ∃ m, l.length = m := ⟨_, rfl⟩
  have HM := Lib.hid hm
  rw [hm] at hc hlen ⊢
  have B3 := Lib.hid (show ∀ o1 o2 o3, Below w.heap.size w (((w.alloc o1).alloc o2).alloc o3) from fun o1 o2 o3 => (((Ext.refl w).alloc _).alloc _).alloc _)
  unfold RunOut6
  clear hs hR hm hv
  go_enter Try.func68, Try.ntmps68
  go_wp2_with fail
  go_loopw [7, 8, 9] (fun v7 v8 v9 wr => ∃ (J A : Nat) (s : St) (ns : List Int) (g cap : Nat) (z7 : Value), z7 = v7 ∧ J ≤ m ∧ Hid (RN w w.heap.size (w.heap.size + 1) ns s g cap none 0 z7 wr) ∧ Hid (SI W l R J s ns A) ∧ v8 = .int .i64 (A : Int) ∧ v9 = .int .i64 (J : Int) ∧ Hid (Below w.heap.size w wr ∧ A ≤ m)) (fun _ _ v9 _ => m - (intOf v9).toNat)
  case atStart => exact ⟨0, 0, St.zero, [0], _, _, _, rfl, by omega, HQ0, HSI, rfl, rfl, Lib.hid ⟨B3.out _ _ _, by omega⟩⟩
  case round =>
    obtain ⟨J, A, s, ns, g, cap, z7, rfl, hJ, HQ, HS, rfl, rfl, HB⟩ := hrel
    have hsz := HB.out.1.size
    have hA := HB.out.2
    have hrow := HS.out.rows
    have hind := HS.out.ind
    have htxt := HS.out.txt
    have hflg := HS.out.flags
    obtain ⟨c0, c1, f0, f1⟩ := HQ.out.cells
    rw [hflg] at c1
    simp only [List.length_nil] at c1
    have hsl := HQ.out.lt
    have J0 : (0 : Int) ≤ (J : Int) := Int.natCast_nonneg _
    have hgB : w.heap.size ≤ g := by
      have h := HQ.out.rows
      exact (h.lt g rfl).1
    have HGB := Lib.hid hgB
    have hgne : g ≠ w.heap.size + 1 := by
      intro e
      have h1 := HQ.out.box
      obtain ⟨c, h2⟩ := own_block HQ.out.rows g rfl
      rw [e, h1] at h2
      injection h2 with h2
      injection h2 with _ h2
      exact absurd h2 (by decide)
    by_cases hJm : J < m
    · have hJl : J < l.length := by rw [HM.out]; exact hJm
      have J1 : (J : Int) < (m : Int) := by omega
      obtain ⟨b, off, rfl, hb, hat⟩ := HR.out J hJl
      have HAT := Lib.hid (fun (W' : World) (h : Below w.heap.size w W') => hat.below hb h)
      obtain ⟨d0, d1, d2⟩ := (HAT.out wr HB.out.1) J hJl
      have HROW := Lib.hid (fun (q : Nat) (h : q < l.length) (W' : World) (h' : Below w.heap.size w W') => (HAT.out W' h') q h)
      have hbr : b < wr.heap.size := Nat.lt_of_lt_of_le hb hsz
      obtain ⟨⟨k, nn, t⟩, hnt⟩ : ∃ r, l[J] = r := ⟨_, rfl⟩
      have HNT := Lib.hid hnt
      rw [hnt] at d0 d1 d2
      have hts := HKT.out J hJl
      rw [hnt] at hts
      simp only at hts
      have HQA := Lib.hid (fun (ob : Obj) => HQ.out.below ((Below.refl wr.heap.size wr).alloc (Nat.le_refl _) ob))
      have HBA := Lib.hid (fun (ob : Obj) => HB.out.1.alloc hsz ob)
      have HTX := Lib.hid (show TX wr.heap.size k nn t (wr.alloc (.cells #[.int .i64 k, .int .i64 nn, .string t] 55)) from World.alloc_heap_new wr _)
      have HNEW := Lib.hid (fun (W' : World) => specNew k W')
      clear hat hnt
      by_cases hk : k = 1
      · subst hk
        have HPUT := Lib.hid (fun ob => l4Put (wr.alloc ob) (n := s.rows.length) (Y := t) (HQ.out.rows.alloc ob) rfl (by omega) (by omega) (by omega) none 0 0)
        have HSN := Lib.hid (show SI W l R (J + 1) (s.put t) ns A from by have h := HS.out.text hJl (by rw [HNT.out]); rw [HNT.out] at h; exact h)
        clear hind htxt
        go_wp2_with fail
        refine (HPUT.out _).mono ?_
        rintro e1 w1 ⟨rfl, ho, hg⟩
        have hq := (HQA.out _).put ho hg
        obtain ⟨k0, k1, z0, z1⟩ := hq.cells
        rw [show (s.put t).flags = [] from hflg] at k1
        simp only [List.length_nil] at k1
        have hsm := hq.same
        rw [show (s.put t).flags = [] from hflg] at hsm
        have H1 := Lib.hid (And.intro hsm (below_row (w := w) hg HB.out.1 hsz hgB))
        clear ho hg hq hsm c0 c1 f0 f1 d2
        go_wp2_with fail
        go_roundw
        case rel => exact ⟨J + 1, A, s.put t, ns, g, cap, _, rfl, by omega, Lib.hid H1.out.1, HSN, by first | rfl | go_num, by go_num, Lib.hid ⟨(H1.out.2.setCell (p := ⟨w.heap.size + 1, 0, none⟩) (by simp) _).setCell (p := ⟨w.heap.size + 1, 1, none⟩) (by simp) _, hA⟩⟩
        case measure => simp [intOf]; omega
      have hk1 := hk
      have b1 : (k == 1) = false := beq_eq_false_iff_ne.2 hk
      clear hk
      cases hn : isN k with
      | true =>
        obtain ⟨x, q, hns, hx0, hx1⟩ := HS.out.ne
        subst hns
        have HSN := Lib.hid (show SI W l R (J + 1) (s.line x) (x :: q) A from by have h := HS.out.line hJl (by rw [HNT.out]; exact hn); exact h)
        obtain ⟨gn, cn, rfl, hgn0, hgn1, hgn2, hgn3, hgn4⟩ := nest_top HQ.out.rest
        obtain ⟨LQ, hLQ⟩ : ∃ y, q.length = y := ⟨_, rfl⟩
        have hq200 : q.length ≤ 1000 := by
          have h1 := HS.out.nlen
          have h2 := HM.out
          simp only [List.length_cons] at h1
          omega
        rw [hLQ] at hgn2 hgn3 HQ HQA hq200 ⊢
        have hwl := wrapN hq200
        have HLQ := Lib.hid hLQ
        obtain ⟨i2, z2, hi, hz, hz1, hz2, hz3⟩ := RnM.info_some info2
        have HI := Lib.hid (And.intro hi (And.intro hz (And.intro hz1 (And.intro hz2 hz3))))
        rw [hn] at HNEW
        obtain ⟨RL, hRL⟩ : ∃ y, s.rows.length = y := ⟨_, rfl⟩
        have HRL := Lib.hid hRL
        rw [hRL] at c0 hrow
        have n0 : (0 : Int) ≤ (LQ : Int) := Int.natCast_nonneg _
        have n1 : (LQ : Int) < (LQ : Int) + 1 := by omega
        clear hind htxt hi hz hz1 hz2 hz3 hLQ hgn4 hRL
        go_wp2_with fail
        refine (HNEW.out _).mono ?_
        rintro e1 w1 ⟨rfl, rfl⟩
        go_wp2_with fail
        obtain ⟨D, hD⟩ : ∃ D, (wr.alloc (.cells #[.int .i64 k, .int .i64 nn, .string t] 55)).drew = D := ⟨_, rfl⟩
        have HQD := Lib.hid (show RN w w.heap.size (w.heap.size + 1) (x :: q) s g cap none 0 (.slice (some ⟨gn, 0, none⟩) (LQ + 1) cn) D from by rw [← hD]; exact (HQA.out (.cells #[.int .i64 k, .int .i64 nn, .string t] 55)).below (Below.refl _ _).drew)
        have HBD := Lib.hid (show Below w.heap.size w D from by rw [← hD]; exact (HBA.out (.cells #[.int .i64 k, .int .i64 nn, .string t] 55)).drew)
        have HNL := Lib.hid (show gn < D.heap.size from by rw [← hD]; simp; omega)
        have HN := Lib.hid (show D.cell? ⟨gn, LQ, none⟩ = some (.int .i64 x) from by rw [← hD]; exact ((Below.refl wr.heap.size wr).alloc (Nat.le_refl _) _ |>.cell (p := ⟨gn, LQ, none⟩) hgn1).trans hgn3)
        have HOWN := Lib.hid (show D.ownsRow w.heap.size 91 2 (.slice (some ⟨g, 0, none⟩) (RL + 1) cap) (RL + 1) (cells2 (s.rows ++ [(s.ind, s.txt)])) from by have h := HQD.out.rows; rw [HRL.out] at h; exact h)
        have HDS := Lib.hid (show w.heap.size + 1 < D.heap.size from HQD.out.lt)
        have HCD := Lib.hid (show D.cell? ⟨w.heap.size + 1, 0, none⟩ = some (.slice (some ⟨g, 0, none⟩) (RL + 1) cap) from by have h := HQD.out.cells.1; rw [HRL.out] at h; exact h)
        have HFD := Lib.hid (show D.frozen? ⟨w.heap.size + 1, 0, none⟩ = false from HQD.out.cells.2.2.1)
        have HGN := Lib.hid (show ¬ gn = g from fun e => by
          obtain ⟨c, h1⟩ := own_block HQD.out.rows g rfl
          obtain ⟨xs, h2, _⟩ := HQD.out.rest
          obtain ⟨c', h3⟩ := own_block h2 gn rfl
          rw [e, h1] at h3
          injection h3 with h3
          injection h3 with _ h3
          exact absurd h3 (by decide))
        have HGNE := Lib.hid (show ¬ w.heap.size + 1 = g from fun e => hgne e.symm)
        have hgnn : gn ≠ w.heap.size + 1 := fun e => by
          have h1 := HQ.out.box
          obtain ⟨xs, h2, _⟩ := HQ.out.rest
          obtain ⟨c', h3⟩ := own_block h2 gn rfl
          rw [e, h1] at h3
          injection h3 with h3
          injection h3 with _ h3
          exact absurd h3 (by decide)
        refine wp_region_held_drew (S := (fun w' => w'.cell? ⟨gn, LQ, none⟩ = some (.int .i64 x))) (by kernel_rfl) ?_ (fun hHeld => ?_)
        · rw [hD]; exact HN.out
        rw [hD] at hHeld ⊢
        clear hD c0 c1 f0 f1 d0 hgn3
        refine wpAnyH_take (i := 0) (oi := { dst := some 40, op := Op.fieldAddr 154 (Operand.tmp 6) 0, type := 0, pos := "l6_stream.go:192", after := #[], guard := none }) (v := ?_) rfl (by kernel_rfl) (by kernel_rfl) (by kernel_rfl) (fun _ _ _ h => h) (Or.inl ⟨by rfl, ?_⟩) (by assumption) ?_
        rotate_left
        · (intro w hSw; (try dsimp only at hSw); (go_simp <;> with_reducible rfl))
        try simp only [Act.put, List.setIfInBounds_toArray, List.set_cons_zero, List.set_cons_succ]
        refine wpAnyH_take (i := 2) (oi := { dst := some 42, op := Op.move (Operand.tmp 7), type := 48, pos := "l6_stream.go:192", after := #[], guard := none }) (v := ?_) rfl (by kernel_rfl) (by kernel_rfl) (by kernel_rfl) (fun _ _ _ h => h) (Or.inl ⟨by rfl, ?_⟩) (by assumption) ?_
        rotate_left
        · (intro w hSw; (try dsimp only at hSw); (go_simp <;> with_reducible rfl))
        try simp only [Act.put, List.setIfInBounds_toArray, List.set_cons_zero, List.set_cons_succ]
        refine wpAnyH_take (i := 3) (oi := { dst := some 43, op := Op.move (Operand.tmp 7), type := 48, pos := "l6_stream.go:192", after := #[], guard := none }) (v := ?_) rfl (by kernel_rfl) (by kernel_rfl) (by kernel_rfl) (fun _ _ _ h => h) (Or.inl ⟨by rfl, ?_⟩) (by assumption) ?_
        rotate_left
        · (intro w hSw; (try dsimp only at hSw); (go_simp <;> with_reducible rfl))
        try simp only [Act.put, List.setIfInBounds_toArray, List.set_cons_zero, List.set_cons_succ]
        refine wpAnyH_take (i := 4) (oi := { dst := some 44, op := Op.call { callee := Callee.builtin Builtin.len, args := #[Operand.tmp 43], argTypes := #[48] }, type := 3, pos := "l6_stream.go:192", after := #[{ on := 3, ground := Ground.data }], guard := none }) (v := ?_) rfl (by kernel_rfl) (by kernel_rfl) (by kernel_rfl) (fun _ _ _ h => h) (Or.inl ⟨by rfl, ?_⟩) (by assumption) ?_
        rotate_left
        · (intro w hSw; (try dsimp only at hSw); (go_simp <;> with_reducible rfl))
        try simp only [Act.put, List.setIfInBounds_toArray, List.set_cons_zero, List.set_cons_succ]
        refine wpAnyH_take (i := 5) (oi := { dst := some 45, op := Op.binOp BinOp.sub 3 (Operand.tmp 44) (Operand.const (Value.int IntKind.i64 1)) 3, type := 3, pos := "l6_stream.go:192", after := #[{ on := 4, ground := Ground.data }], guard := none }) (v := ?_) rfl (by kernel_rfl) (by kernel_rfl) (by kernel_rfl) (fun _ _ _ h => h) (Or.inl ⟨by rfl, ?_⟩) (by assumption) ?_
        rotate_left
        · (intro w hSw; (try dsimp only at hSw); (go_simp <;> with_reducible rfl))
        try simp only [Act.put, List.setIfInBounds_toArray, List.set_cons_zero, List.set_cons_succ]
        refine wpAnyH_take (i := 6) (oi := { dst := some 46, op := Op.indexAddr 48 (Operand.tmp 42) (Operand.tmp 45), type := 0, pos := "l6_stream.go:192", after := #[{ on := 2, ground := Ground.data }, { on := 5, ground := Ground.data }], guard := none }) (v := ?_) rfl (by kernel_rfl) (by kernel_rfl) (by kernel_rfl) (fun _ _ _ h => h) (Or.inl ⟨by rfl, ?_⟩) (by assumption) ?_
        rotate_left
        · (intro w hSw; (try dsimp only at hSw); (go_simp <;> with_reducible rfl))
        try simp only [Act.put, List.setIfInBounds_toArray, List.set_cons_zero, List.set_cons_succ]
        refine wpAnyH_take (i := 7) (oi := { dst := some 47, op := Op.load 3 (Operand.tmp 46), type := 3, pos := "l6_stream.go:192", after := #[{ on := 6, ground := Ground.data }], guard := none }) (v := ?_) rfl (by kernel_rfl) (by kernel_rfl) (by kernel_rfl) (fun _ _ _ h => h) (Or.inl ⟨by rfl, ?_⟩) (by assumption) ?_
        rotate_left
        · (intro w hSw; (try dsimp only at hSw); (go_simp <;> with_reducible rfl))
        try simp only [Act.put, List.setIfInBounds_toArray, List.set_cons_zero, List.set_cons_succ]
        refine wpAnyH_take (i := 8) (oi := { dst := some 48, op := Op.build 91 #[(0, Operand.tmp 47)], type := 91, pos := "l6_stream.go:192", after := #[{ on := 7, ground := Ground.data }], guard := none }) (v := ?_) rfl (by kernel_rfl) (by kernel_rfl) (by kernel_rfl) (fun _ _ _ h => h) (Or.inl ⟨by rfl, ?_⟩) (by assumption) ?_
        rotate_left
        · (intro w hSw; (try dsimp only at hSw); (go_simp <;> with_reducible rfl))
        try simp only [Act.put, List.setIfInBounds_toArray, List.set_cons_zero, List.set_cons_succ]
        refine wpAnyH_ready (rs := [1, 9]) (by kernel_rfl) (by simp) ?_
        refine AllReadyH.cons (o := { dst := some 41, op := Op.load 31 (Operand.tmp 40), type := 31, pos := "l6_stream.go:192", after := #[{ on := 0, ground := Ground.data }], guard := none }) rfl (fun K hK => ?_) ?_
        · have r0 := HCD.out
          go_simp
          refine hK.out _ _ ?_ (fun hHeld1 => ?_)
          · exact HN.out
          clear hK K hHeld
          try simp only [Act.put, List.setIfInBounds_toArray, List.set_cons_zero, List.set_cons_succ]
          refine wpAnyH_ready (rs := [9]) (by kernel_rfl) (by simp) ?_
          refine AllReadyH.cons (o := { dst := some 49, op := Op.buildSlice 31 1 #[(0, Operand.tmp 48)], type := 31, pos := "l6_stream.go:192", after := #[{ on := 8, ground := Ground.data }], guard := none }) rfl (fun K hK => ?_) AllReadyH.nil
          have r0 := HCD.out
          have hNB := fun (ob : Obj) => ((Ext.refl D).alloc ob |>.cell HNL.out).trans HN.out
          have hRB := fun (ob : Obj) => ((Ext.refl D).alloc ob |>.cell HDS.out).trans HCD.out
          go_simp
          refine hK.out _ _ ?_ (fun hHeld9 => ?_)
          · exact hNB _
          clear hK K hHeld1
          try simp only [Act.put, List.setIfInBounds_toArray, List.set_cons_zero, List.set_cons_succ]
          refine wpAnyH_ready (rs := [10]) (by kernel_rfl) (by simp) ?_
          refine AllReadyH.cons (o := { dst := some 50, op := Op.call { callee := Callee.builtin Builtin.append, args := #[Operand.tmp 41, Operand.tmp 49], argTypes := #[31, 31] }, type := 31, pos := "l6_stream.go:192", after := #[{ on := 1, ground := Ground.data }, { on := 9, ground := Ground.data }], guard := none }) rfl (fun K hK => ?_) AllReadyH.nil
          refine wp_append_lies _ (.tmp 41) (.tmp 49) 31 (by rfl) w.heap.size 91 i2 z2 2 24 Try.underlying31 HI.out.1 HI.out.2.1 HI.out.2.2.1 HI.out.2.2.2.1 HI.out.2.2.2.2 (by omega) (.slice (some ⟨g, 0, none⟩) (RL + 1) cap) (RL + 1) (cells2 (s.rows ++ [(s.ind, s.txt)])) (by rfl) (HOWN.out.alloc _) ⟨D.heap.size, 0, none⟩ 1 1 [.int .i64 x, .string ⟨#[]⟩] (by rfl) rfl (two_news D x ⟨#[]⟩ _) (by simp [Value.oneCell']) (by omega) (by unfold maxLen; omega) (by omega) (by have := HBD.out.size; simp; omega) (D.heap.size + 1) (by simp) ?_
          intro g5 cap5 w5 hown5 hgrow5 hat5 hlt5
          have hq5 := HQD.out.line (i := x) (g' := g5) (cap' := cap5) (by rw [HRL.out]; exact hgrow5) (by rw [HRL.out]; exact hown5)
          have hb5 := HBD.out.trans (RnM.below_append hgrow5 HOWN.out HBD.out.size)
          have hN5 : w5.cell? ⟨gn, LQ, none⟩ = some (.int .i64 x) := by
            refine (World.cell?_of_block (w := D) ?_).trans HN.out
            exact (hgrow5.block _ (by simp; have := HNL.out; omega) (by simp [Value.ownBlock]; exact HGN.out)).trans (Below.heap_alloc _ _ _ HNL.out)
          have hs5 : w5.cell? ⟨w.heap.size + 1, 0, none⟩ = some (.slice (some ⟨g, 0, none⟩) (RL + 1) cap) ∧ w5.frozen? ⟨w.heap.size + 1, 0, none⟩ = false := by
            have hb := (hgrow5.block (w.heap.size + 1) (by simp; have := HDS.out; omega) (by simp [Value.ownBlock]; exact HGNE.out)).trans (Below.heap_alloc _ _ _ HDS.out)
            exact ⟨(World.cell?_of_block (w := D) hb).trans HCD.out, (World.frozen?_of_block (w := D) hb).trans HFD.out⟩
          have hsl5 : w.heap.size + 1 < w5.heap.size := by have := hgrow5.size; have := HDS.out; simp at *; omega
          obtain ⟨s50, s51⟩ := hs5
          have H5 := Lib.hid (And.intro hq5 hb5)
          clear hown5 hgrow5 hat5 hq5 hb5
          refine hK.out _ _ ?_ (fun hHeld10 => ?_)
          · exact hN5
          clear hK K hHeld9
          try simp only [Act.put, List.setIfInBounds_toArray, List.set_cons_zero, List.set_cons_succ]
          refine wpAnyH_take (i := 11) (oi := { dst := some 51, op := Op.fieldAddr 154 (Operand.tmp 6) 0, type := 0, pos := "l6_stream.go:192", after := #[{ on := 0, ground := Ground.phase }, { on := 1, ground := Ground.phase }, { on := 2, ground := Ground.phase }, { on := 3, ground := Ground.phase }, { on := 4, ground := Ground.phase }, { on := 5, ground := Ground.phase }, { on := 6, ground := Ground.phase }, { on := 7, ground := Ground.phase }, { on := 8, ground := Ground.phase }, { on := 9, ground := Ground.phase }, { on := 10, ground := Ground.phase }], guard := none }) (v := ?_) rfl (by kernel_rfl) (by kernel_rfl) (by kernel_rfl) (fun _ _ _ h => h) (Or.inl ⟨by rfl, ?_⟩) (by assumption) ?_
          rotate_left
          · (intro w hSw; (try dsimp only at hSw); (go_simp <;> with_reducible rfl))
          try simp only [Act.put, List.setIfInBounds_toArray, List.set_cons_zero, List.set_cons_succ]
          refine wpAnyH_ready (rs := [12]) (by kernel_rfl) (by simp) ?_
          refine AllReadyH.cons (o := { dst := none, op := Op.store 31 (Operand.tmp 51) (Operand.tmp 50), type := 0, pos := "l6_stream.go:192", after := #[{ on := 11, ground := Ground.data }, { on := 10, ground := Ground.data }, { on := 10, ground := Ground.chain }, { on := 0, ground := Ground.phase }, { on := 1, ground := Ground.phase }, { on := 2, ground := Ground.phase }, { on := 3, ground := Ground.phase }, { on := 4, ground := Ground.phase }, { on := 5, ground := Ground.phase }, { on := 6, ground := Ground.phase }, { on := 7, ground := Ground.phase }, { on := 8, ground := Ground.phase }, { on := 9, ground := Ground.phase }, { on := 10, ground := Ground.phase }], guard := none }) rfl (fun K hK => ?_) AllReadyH.nil
          go_simp
          refine hK.out _ _ ?_ (fun hHeld12 => ?_)
          · exact (World.cell?_setCell_far _ _ _ _ (Ne.symm hgnn)).trans hN5
          clear hK K hHeld10
          try simp only [Act.put, List.setIfInBounds_toArray, List.set_cons_zero, List.set_cons_succ]
          refine wpAnyH_done (by kernel_rfl) ?_ _
          go_wp2_with fail
          go_roundw
          case rel => exact ⟨J + 1, A, s.line x, x :: q, g5, cap5, _, rfl, by omega, Lib.hid (by have h := H5.out.1; rw [HRL.out] at h; exact h), HSN, by first | rfl | go_num, by go_num, Lib.hid ⟨H5.out.2.setCell (p := ⟨w.heap.size + 1, 0, none⟩) (by simp) _, hA⟩⟩
          case measure => simp [intOf]; omega
        refine AllReadyH.cons (o := { dst := some 49, op := Op.buildSlice 31 1 #[(0, Operand.tmp 48)], type := 31, pos := "l6_stream.go:192", after := #[{ on := 8, ground := Ground.data }], guard := none }) rfl (fun K hK => ?_) AllReadyH.nil
        have r0 := HCD.out
        have hNB := fun (ob : Obj) => ((Ext.refl D).alloc ob |>.cell HNL.out).trans HN.out
        have hRB := fun (ob : Obj) => ((Ext.refl D).alloc ob |>.cell HDS.out).trans HCD.out
        go_simp
        refine hK.out _ _ ?_ (fun hHeld9 => ?_)
        · exact hNB _
        clear hK K hHeld
        try simp only [Act.put, List.setIfInBounds_toArray, List.set_cons_zero, List.set_cons_succ]
        refine wpAnyH_ready (rs := [1]) (by kernel_rfl) (by simp) ?_
        refine AllReadyH.cons (o := { dst := some 41, op := Op.load 31 (Operand.tmp 40), type := 31, pos := "l6_stream.go:192", after := #[{ on := 0, ground := Ground.data }], guard := none }) rfl (fun K hK => ?_) AllReadyH.nil
        have r0 := HCD.out
        go_simp
        refine hK.out _ _ ?_ (fun hHeld1 => ?_)
        · exact hNB _
        clear hK K hHeld9
        try simp only [Act.put, List.setIfInBounds_toArray, List.set_cons_zero, List.set_cons_succ]
        refine wpAnyH_ready (rs := [10]) (by kernel_rfl) (by simp) ?_
        refine AllReadyH.cons (o := { dst := some 50, op := Op.call { callee := Callee.builtin Builtin.append, args := #[Operand.tmp 41, Operand.tmp 49], argTypes := #[31, 31] }, type := 31, pos := "l6_stream.go:192", after := #[{ on := 1, ground := Ground.data }, { on := 9, ground := Ground.data }], guard := none }) rfl (fun K hK => ?_) AllReadyH.nil
        refine wp_append_lies _ (.tmp 41) (.tmp 49) 31 (by rfl) w.heap.size 91 i2 z2 2 24 Try.underlying31 HI.out.1 HI.out.2.1 HI.out.2.2.1 HI.out.2.2.2.1 HI.out.2.2.2.2 (by omega) (.slice (some ⟨g, 0, none⟩) (RL + 1) cap) (RL + 1) (cells2 (s.rows ++ [(s.ind, s.txt)])) (by rfl) (HOWN.out.alloc _) ⟨D.heap.size, 0, none⟩ 1 1 [.int .i64 x, .string ⟨#[]⟩] (by rfl) rfl (two_news D x ⟨#[]⟩ _) (by simp [Value.oneCell']) (by omega) (by unfold maxLen; omega) (by omega) (by have := HBD.out.size; simp; omega) (D.heap.size + 1) (by simp) ?_
        intro g5 cap5 w5 hown5 hgrow5 hat5 hlt5
        have hq5 := HQD.out.line (i := x) (g' := g5) (cap' := cap5) (by rw [HRL.out]; exact hgrow5) (by rw [HRL.out]; exact hown5)
        have hb5 := HBD.out.trans (RnM.below_append hgrow5 HOWN.out HBD.out.size)
        have hN5 : w5.cell? ⟨gn, LQ, none⟩ = some (.int .i64 x) := by
          refine (World.cell?_of_block (w := D) ?_).trans HN.out
          exact (hgrow5.block _ (by simp; have := HNL.out; omega) (by simp [Value.ownBlock]; exact HGN.out)).trans (Below.heap_alloc _ _ _ HNL.out)
        have hs5 : w5.cell? ⟨w.heap.size + 1, 0, none⟩ = some (.slice (some ⟨g, 0, none⟩) (RL + 1) cap) ∧ w5.frozen? ⟨w.heap.size + 1, 0, none⟩ = false := by
          have hb := (hgrow5.block (w.heap.size + 1) (by simp; have := HDS.out; omega) (by simp [Value.ownBlock]; exact HGNE.out)).trans (Below.heap_alloc _ _ _ HDS.out)
          exact ⟨(World.cell?_of_block (w := D) hb).trans HCD.out, (World.frozen?_of_block (w := D) hb).trans HFD.out⟩
        have hsl5 : w.heap.size + 1 < w5.heap.size := by have := hgrow5.size; have := HDS.out; simp at *; omega
        obtain ⟨s50, s51⟩ := hs5
        have H5 := Lib.hid (And.intro hq5 hb5)
        clear hown5 hgrow5 hat5 hq5 hb5
        refine hK.out _ _ ?_ (fun hHeld10 => ?_)
        · exact hN5
        clear hK K hHeld1
        try simp only [Act.put, List.setIfInBounds_toArray, List.set_cons_zero, List.set_cons_succ]
        refine wpAnyH_take (i := 11) (oi := { dst := some 51, op := Op.fieldAddr 154 (Operand.tmp 6) 0, type := 0, pos := "l6_stream.go:192", after := #[{ on := 0, ground := Ground.phase }, { on := 1, ground := Ground.phase }, { on := 2, ground := Ground.phase }, { on := 3, ground := Ground.phase }, { on := 4, ground := Ground.phase }, { on := 5, ground := Ground.phase }, { on := 6, ground := Ground.phase }, { on := 7, ground := Ground.phase }, { on := 8, ground := Ground.phase }, { on := 9, ground := Ground.phase }, { on := 10, ground := Ground.phase }], guard := none }) (v := ?_) rfl (by kernel_rfl) (by kernel_rfl) (by kernel_rfl) (fun _ _ _ h => h) (Or.inl ⟨by rfl, ?_⟩) (by assumption) ?_
        rotate_left
        · (intro w hSw; (try dsimp only at hSw); (go_simp <;> with_reducible rfl))
        try simp only [Act.put, List.setIfInBounds_toArray, List.set_cons_zero, List.set_cons_succ]
        refine wpAnyH_ready (rs := [12]) (by kernel_rfl) (by simp) ?_
        refine AllReadyH.cons (o := { dst := none, op := Op.store 31 (Operand.tmp 51) (Operand.tmp 50), type := 0, pos := "l6_stream.go:192", after := #[{ on := 11, ground := Ground.data }, { on := 10, ground := Ground.data }, { on := 10, ground := Ground.chain }, { on := 0, ground := Ground.phase }, { on := 1, ground := Ground.phase }, { on := 2, ground := Ground.phase }, { on := 3, ground := Ground.phase }, { on := 4, ground := Ground.phase }, { on := 5, ground := Ground.phase }, { on := 6, ground := Ground.phase }, { on := 7, ground := Ground.phase }, { on := 8, ground := Ground.phase }, { on := 9, ground := Ground.phase }, { on := 10, ground := Ground.phase }], guard := none }) rfl (fun K hK => ?_) AllReadyH.nil
        go_simp
        refine hK.out _ _ ?_ (fun hHeld12 => ?_)
        · exact (World.cell?_setCell_far _ _ _ _ (Ne.symm hgnn)).trans hN5
        clear hK K hHeld10
        try simp only [Act.put, List.setIfInBounds_toArray, List.set_cons_zero, List.set_cons_succ]
        refine wpAnyH_done (by kernel_rfl) ?_ _
        go_wp2_with fail
        go_roundw
        case rel => exact ⟨J + 1, A, s.line x, x :: q, g5, cap5, _, rfl, by omega, Lib.hid (by have h := H5.out.1; rw [HRL.out] at h; exact h), HSN, by first | rfl | go_num, by go_num, Lib.hid ⟨H5.out.2.setCell (p := ⟨w.heap.size + 1, 0, none⟩) (by simp) _, hA⟩⟩
        case measure => simp [intOf]; omega
      | false =>
        by_cases hk : k = 7
        · subst hk
          obtain ⟨x, q, hns, hx0, hx1⟩ := HS.out.ne
          subst hns
          have hkt := HS.out.kt hJl
          rw [HNT.out] at hkt
          have hnn : 0 ≤ nn ∧ nn ≤ 9 := by
            unfold kt at hkt
            rw [if_neg (show ¬ ((7 : Int) = 1) by decide), if_pos rfl] at hkt
            simp only [Bool.and_eq_true, decide_eq_true_eq] at hkt
            exact hkt.2
          have HSN := Lib.hid (show SI W l R (J + 1) s ((x + nn) :: x :: q) A from by have h := HS.out.inn hJl (by rw [HNT.out]); rw [HNT.out] at h; exact h)
          obtain ⟨gn, cn, rfl, hgn0, hgn1, hgn2, hgn3, hgn4⟩ := nest_top HQ.out.rest
          have hq200 : q.length ≤ 1000 := by
            have h1 := HS.out.nlen
            have h2 := HM.out
            simp only [List.length_cons] at h1
            omega
          obtain ⟨LQ, hLQ⟩ : ∃ y, q.length = y := ⟨_, rfl⟩
          rw [hLQ] at hgn2 hgn3 HQ HQA hq200 ⊢
          have hwl := wrapN hq200
          have HLQ := Lib.hid hLQ
          obtain ⟨i2, z2, hi, hz, hz1, hz2, hz3⟩ := RnM.info_some infoI1
          have HI := Lib.hid (And.intro hi (And.intro hz (And.intro hz1 (And.intro hz2 hz3))))
          have n0 : (0 : Int) ≤ (LQ : Int) := Int.natCast_nonneg _
          have n1 : (LQ : Int) < (LQ : Int) + 1 := by omega
          have hwr : IntKind.i64.wrap (x + nn) = x + nn := by rw [IntKind.wrap_i64]; omega
          rw [show isN 7 = false by decide] at HNEW
          clear hind htxt hi hz hz1 hz2 hz3 hLQ hgn4 hkt
          go_wp2_with fail
          refine (HNEW.out _).mono ?_
          rintro e1 w1 ⟨rfl, rfl⟩
          go_wp2_with fail
          obtain ⟨D, hD⟩ : ∃ D, (wr.alloc (.cells #[.int .i64 7, .int .i64 nn, .string t] 55)).drew = D := ⟨_, rfl⟩
          have HQD := Lib.hid (show RN w w.heap.size (w.heap.size + 1) (x :: q) s g cap none 0 (.slice (some ⟨gn, 0, none⟩) (LQ + 1) cn) D from by rw [← hD]; exact (HQA.out _).below (Below.refl _ _).drew)
          have HBD := Lib.hid (show Below w.heap.size w D from by rw [← hD]; exact (HBA.out _).drew)
          have HNL := Lib.hid (show gn < D.heap.size from by rw [← hD]; simp; omega)
          have HTL := Lib.hid (show wr.heap.size < D.heap.size from by rw [← hD]; simp)
          have HN := Lib.hid (show D.cell? ⟨gn, LQ, none⟩ = some (.int .i64 x) ∧ D.cell? ⟨wr.heap.size, 1, none⟩ = some (.int .i64 nn) from by rw [← hD]; exact ⟨((Below.refl wr.heap.size wr).alloc (Nat.le_refl _) _ |>.cell (p := ⟨gn, LQ, none⟩) hgn1).trans hgn3, HTX.out.cells.2.1⟩)
          have HGT := Lib.hid hgn1
          obtain ⟨xs, hown, hitems⟩ := HQD.out.rest
          rw [List.length_cons, HLQ.out] at hown
          have HOWN := Lib.hid hown
          have HXS := Lib.hid hitems
          refine wp_region_held_drew (S := (fun w' => w'.cell? ⟨wr.heap.size, 1, none⟩ = some (.int .i64 nn))) (by kernel_rfl) ?_ (fun hHeld => ?_)
          · rw [hD]; exact HN.out.2
          rw [hD] at hHeld ⊢
          clear hD c0 c1 f0 f1 d0 d1 hgn3 hown hitems
          refine wpAnyH_take (i := 0) (oi := { dst := some 56, op := Op.move (Operand.tmp 7), type := 48, pos := "l6_stream.go:194", after := #[], guard := none }) (v := ?_) rfl (by kernel_rfl) (by kernel_rfl) (by kernel_rfl) (fun _ _ _ h => h) (Or.inl ⟨by rfl, ?_⟩) (by assumption) ?_
          rotate_left
          · (intro w hSw; (try dsimp only at hSw); (go_simp <;> with_reducible rfl))
          try simp only [Act.put, List.setIfInBounds_toArray, List.set_cons_zero, List.set_cons_succ]
          refine wpAnyH_take (i := 1) (oi := { dst := some 57, op := Op.move (Operand.tmp 7), type := 48, pos := "l6_stream.go:194", after := #[], guard := none }) (v := ?_) rfl (by kernel_rfl) (by kernel_rfl) (by kernel_rfl) (fun _ _ _ h => h) (Or.inl ⟨by rfl, ?_⟩) (by assumption) ?_
          rotate_left
          · (intro w hSw; (try dsimp only at hSw); (go_simp <;> with_reducible rfl))
          try simp only [Act.put, List.setIfInBounds_toArray, List.set_cons_zero, List.set_cons_succ]
          refine wpAnyH_take (i := 2) (oi := { dst := some 58, op := Op.move (Operand.tmp 7), type := 48, pos := "l6_stream.go:194", after := #[], guard := none }) (v := ?_) rfl (by kernel_rfl) (by kernel_rfl) (by kernel_rfl) (fun _ _ _ h => h) (Or.inl ⟨by rfl, ?_⟩) (by assumption) ?_
          rotate_left
          · (intro w hSw; (try dsimp only at hSw); (go_simp <;> with_reducible rfl))
          try simp only [Act.put, List.setIfInBounds_toArray, List.set_cons_zero, List.set_cons_succ]
          refine wpAnyH_take (i := 3) (oi := { dst := some 59, op := Op.call { callee := Callee.builtin Builtin.len, args := #[Operand.tmp 58], argTypes := #[48] }, type := 3, pos := "l6_stream.go:194", after := #[{ on := 2, ground := Ground.data }], guard := none }) (v := ?_) rfl (by kernel_rfl) (by kernel_rfl) (by kernel_rfl) (fun _ _ _ h => h) (Or.inl ⟨by rfl, ?_⟩) (by assumption) ?_
          rotate_left
          · (intro w hSw; (try dsimp only at hSw); (go_simp <;> with_reducible rfl))
          try simp only [Act.put, List.setIfInBounds_toArray, List.set_cons_zero, List.set_cons_succ]
          refine wpAnyH_take (i := 4) (oi := { dst := some 60, op := Op.binOp BinOp.sub 3 (Operand.tmp 59) (Operand.const (Value.int IntKind.i64 1)) 3, type := 3, pos := "l6_stream.go:194", after := #[{ on := 3, ground := Ground.data }], guard := none }) (v := ?_) rfl (by kernel_rfl) (by kernel_rfl) (by kernel_rfl) (fun _ _ _ h => h) (Or.inl ⟨by rfl, ?_⟩) (by assumption) ?_
          rotate_left
          · (intro w hSw; (try dsimp only at hSw); (go_simp <;> with_reducible rfl))
          try simp only [Act.put, List.setIfInBounds_toArray, List.set_cons_zero, List.set_cons_succ]
          refine wpAnyH_take (i := 5) (oi := { dst := some 61, op := Op.indexAddr 48 (Operand.tmp 57) (Operand.tmp 60), type := 0, pos := "l6_stream.go:194", after := #[{ on := 1, ground := Ground.data }, { on := 4, ground := Ground.data }], guard := none }) (v := ?_) rfl (by kernel_rfl) (by kernel_rfl) (by kernel_rfl) (fun _ _ _ h => h) (Or.inl ⟨by rfl, ?_⟩) (by assumption) ?_
          rotate_left
          · (intro w hSw; (try dsimp only at hSw); (go_simp <;> with_reducible rfl))
          try simp only [Act.put, List.setIfInBounds_toArray, List.set_cons_zero, List.set_cons_succ]
          refine wpAnyH_take (i := 7) (oi := { dst := some 63, op := Op.fieldAddr 55 (Operand.tmp 10) 1, type := 0, pos := "l6_stream.go:194", after := #[], guard := none }) (v := ?_) rfl (by kernel_rfl) (by kernel_rfl) (by kernel_rfl) (fun _ _ _ h => h) (Or.inl ⟨by rfl, ?_⟩) (by assumption) ?_
          rotate_left
          · (intro w hSw; (try dsimp only at hSw); (go_simp <;> with_reducible rfl))
          try simp only [Act.put, List.setIfInBounds_toArray, List.set_cons_zero, List.set_cons_succ]
          refine wpAnyH_take (i := 8) (oi := { dst := some 64, op := Op.load 3 (Operand.tmp 63), type := 3, pos := "l6_stream.go:194", after := #[{ on := 7, ground := Ground.data }], guard := none }) (v := ?_) rfl (by kernel_rfl) (by kernel_rfl) (by kernel_rfl) (fun _ _ _ h => h) (Or.inl ⟨by rfl, ?_⟩) (by assumption) ?_
          rotate_left
          · (intro w hSw; (try dsimp only at hSw); (go_simp <;> with_reducible rfl))
          try simp only [Act.put, List.setIfInBounds_toArray, List.set_cons_zero, List.set_cons_succ]
          refine wpAnyH_ready (rs := [6]) (by kernel_rfl) (by simp) ?_
          refine AllReadyH.cons (o := { dst := some 62, op := Op.load 3 (Operand.tmp 61), type := 3, pos := "l6_stream.go:194", after := #[{ on := 5, ground := Ground.data }], guard := none }) rfl (fun K hK => ?_) AllReadyH.nil
          have r0 := HN.out.1
          go_simp
          refine hK.out _ _ ?_ (fun hHeld6 => ?_)
          · exact HN.out.2
          clear hK K hHeld
          try simp only [Act.put, List.setIfInBounds_toArray, List.set_cons_zero, List.set_cons_succ]
          refine wpAnyH_take (i := 9) (oi := { dst := some 65, op := Op.binOp BinOp.add 3 (Operand.tmp 62) (Operand.tmp 64) 3, type := 3, pos := "l6_stream.go:194", after := #[{ on := 6, ground := Ground.data }, { on := 8, ground := Ground.data }], guard := none }) (v := ?_) rfl (by kernel_rfl) (by kernel_rfl) (by kernel_rfl) (fun _ _ _ h => h) (Or.inl ⟨by rfl, ?_⟩) (by assumption) ?_
          rotate_left
          · (intro w hSw; (try dsimp only at hSw); (go_simp <;> with_reducible rfl))
          try simp only [Act.put, List.setIfInBounds_toArray, List.set_cons_zero, List.set_cons_succ]
          refine wpAnyH_ready (rs := [10]) (by kernel_rfl) (by simp) ?_
          refine AllReadyH.cons (o := { dst := some 66, op := Op.buildSlice 48 1 #[(0, Operand.tmp 65)], type := 48, pos := "l6_stream.go:194", after := #[{ on := 9, ground := Ground.data }], guard := none }) rfl (fun K hK => ?_) AllReadyH.nil
          have hNB := fun (ob : Obj) => ((Ext.refl D).alloc ob |>.cell HTL.out).trans HN.out.2
          go_simp
          refine hK.out _ _ ?_ (fun hHeld10 => ?_)
          · exact hNB _
          clear hK K hHeld6
          try simp only [Act.put, List.setIfInBounds_toArray, List.set_cons_zero, List.set_cons_succ]
          refine wpAnyH_ready (rs := [11]) (by kernel_rfl) (by simp) ?_
          refine AllReadyH.cons (o := { dst := some 67, op := Op.call { callee := Callee.builtin Builtin.append, args := #[Operand.tmp 56, Operand.tmp 66], argTypes := #[48, 48] }, type := 48, pos := "l6_stream.go:194", after := #[{ on := 0, ground := Ground.data }, { on := 10, ground := Ground.data }], guard := none }) rfl (fun K hK => ?_) AllReadyH.nil
          refine wp_append_lies _ (.tmp 56) (.tmp 66) 48 (by rfl) w.heap.size 3 i2 z2 1 8 Try.underlying48 HI.out.1 HI.out.2.1 HI.out.2.2.1 HI.out.2.2.2.1 HI.out.2.2.2.2 (by omega) (.slice (some ⟨gn, 0, none⟩) (LQ + 1) cn) (LQ + 1) xs (by rfl) (HOWN.out.alloc _) ⟨D.heap.size, 0, none⟩ 1 1 [.int .i64 (x + nn)] (by rfl) rfl (news_of D [.int .i64 (x + nn)] _) (by simp [Value.oneCell']) (by omega) (by unfold maxLen; omega) (by omega) (by have := HBD.out.size; simp; omega) (D.heap.size + 1) (by simp) ?_
          intro g5 cap5 w5 hown5 hgrow5 hat5 hlt5
          have hq5 := HQD.out.push hgrow5 (StackG.push (CV := NV) (n := 1) (x := x + nn) (st := x :: q) HXS.out rfl (by rw [List.length_cons, HLQ.out]; exact hown5))
          have hb5 := HBD.out.trans (RnM.below_append hgrow5 HOWN.out HBD.out.size)
          have hS5 : w5.cell? ⟨wr.heap.size, 1, none⟩ = some (.int .i64 nn) := by
            refine (World.cell?_of_block (w := D) ?_).trans HN.out.2
            exact (hgrow5.block _ (by simp; have := HTL.out; omega) (by simp [Value.ownBlock]; have := HGT.out; omega)).trans (Below.heap_alloc _ _ _ HTL.out)
          have H5 := Lib.hid (And.intro hq5 hb5)
          clear hgrow5 hat5 hq5 hb5 hown5
          refine hK.out _ _ ?_ (fun hHeld11 => ?_)
          · exact hS5
          clear hK K hHeld10
          try simp only [Act.put, List.setIfInBounds_toArray, List.set_cons_zero, List.set_cons_succ]
          refine wpAnyH_take (i := 12) (oi := { dst := some 7, op := Op.assign (Operand.tmp 67), type := 48, pos := "l6_stream.go:194", after := #[{ on := 11, ground := Ground.data }, { on := 11, ground := Ground.chain }, { on := 0, ground := Ground.phase }, { on := 1, ground := Ground.phase }, { on := 2, ground := Ground.phase }, { on := 3, ground := Ground.phase }, { on := 4, ground := Ground.phase }, { on := 5, ground := Ground.phase }, { on := 6, ground := Ground.phase }, { on := 7, ground := Ground.phase }, { on := 8, ground := Ground.phase }, { on := 9, ground := Ground.phase }, { on := 10, ground := Ground.phase }, { on := 11, ground := Ground.phase }], guard := none }) (v := ?_) rfl (by kernel_rfl) (by kernel_rfl) (by kernel_rfl) (fun _ _ _ h => h) (Or.inl ⟨by rfl, ?_⟩) (by assumption) ?_
          rotate_left
          · (intro w hSw; (try dsimp only at hSw); (go_simp <;> with_reducible rfl))
          try simp only [Act.put, List.setIfInBounds_toArray, List.set_cons_zero, List.set_cons_succ]
          refine wpAnyH_done (by kernel_rfl) ?_ _
          go_wp2_with fail
          go_roundw
          case rel => exact ⟨J + 1, A, s, (x + nn) :: x :: q, g, cap, _, rfl, by omega, Lib.hid H5.out.1, HSN, by first | rfl | go_num, by go_num, Lib.hid ⟨H5.out.2, hA⟩⟩
          case measure => simp [intOf]; omega
        have hk7 := hk
        have b7 : (k == 7) = false := beq_eq_false_iff_ne.2 hk
        clear hk
        by_cases hk : k = 8
        · subst hk
          obtain ⟨hsn, x, y, q, hns⟩ := HS.out.out hJl (by rw [HNT.out])
          subst hns
          have HSN := Lib.hid (show SI W l R (J + 1) s (y :: q) A from hsn)
          obtain ⟨gn, cn, rfl, hgn0, hgn1, hgn2, hgn3, hgn4⟩ := nest_top HQ.out.rest
          have HQN := Lib.hid (show RN w w.heap.size (w.heap.size + 1) (y :: q) s g cap none 0 (.slice (some ⟨gn, 0, none⟩) (y :: q).length cn) wr from ⟨HQ.out.box, HQ.out.rows, HQ.out.flags, hgn4, HQ.out.le⟩)
          obtain ⟨LQ, hLQ⟩ : ∃ z, (y :: q).length = z := ⟨_, rfl⟩
          have hq200 : (y :: q).length ≤ 1000 := by
            have h1 := HS.out.nlen
            have h2 := HM.out
            simp only [List.length_cons] at h1 ⊢
            omega
          rw [hLQ] at hgn2 HQN hq200 ⊢
          have n0 : (0 : Int) ≤ (LQ : Int) := Int.natCast_nonneg _
          have n1 : (LQ : Int) ≤ (cn : Int) := by omega
          rw [show isN 8 = false by decide] at HNEW
          clear hind htxt hLQ hgn3 hgn4 hsn
          go_wp2_with fail
          refine (HNEW.out _).mono ?_
          rintro e1 w1 ⟨rfl, rfl⟩
          go_wp2_with fail
          go_roundw
          case rel => exact ⟨J + 1, A, s, y :: q, g, cap, _, rfl, by omega, Lib.hid (HQN.out.below ((Below.refl _ _).alloc (Nat.le_refl _) _)), HSN, by first | rfl | go_num, by go_num, Lib.hid ⟨HBA.out _, hA⟩⟩
          case measure => simp [intOf]; omega
        have b8 : (k == 8) = false := beq_eq_false_iff_ne.2 hk
        have hk8 := hk
        clear hk
        by_cases hk : k = 5
        · subst hk
          obtain ⟨N, hN⟩ := HCL.out J hJl (by rw [HNT.out])
          have hNl := glo_len _ _ _ hN
          rw [List.length_drop, HM.out] at hNl
          have hgl : gL (l.drop J) = N + 1 := gL_eq (by rw [List.drop_drop]; exact hN)
          have hdl : (l.drop J).length = m - J := by rw [List.length_drop, HM.out]
          have HSZ := Lib.hid (fun (W' : World) (hW' : Below w.heap.size w W') => specSizeE l W' b off cap0 (HAT.out W' hW') (by rw [HM.out]; omega) J hJl (by rw [HNT.out]) N hN HALL.out)
          have HCLS := Lib.hid (fun (W' : World) (hW' : Below w.heap.size w W') => specClose l W' b off cap0 (HAT.out W' hW') (by rw [HM.out]; omega) J hJl (by rw [HNT.out]) N hN)
          rw [HM.out] at HSZ HCLS
          have hnx := lkN_nxt (N + 1) (l.drop J) 0 0
          rw [Nat.zero_add, hdl] at hnx
          rw [hnx] at HSZ
          obtain ⟨Z, hZ⟩ : ∃ Z, (lkN (N + 1) (l.drop J) 0 0).1 = Z := ⟨_, rfl⟩
          obtain ⟨E, hE⟩ : ∃ E, nxt (N + 1) (l.drop J) 0 = E := ⟨_, rfl⟩
          rw [hZ, hE] at HSZ
          have hE1 : E ≤ m - J := by have := nxt_le (N + 1) (l.drop J) 0; rw [hE, hdl] at this; omega
          have hE2 : 1 ≤ E := by
            have h5 := HNT.out
            rw [drop_cons' hJl, h5] at hE
            rw [← hE]
            simp only [nxt]
            rw [if_neg (by rintro (h | h); exact absurd h.2 (by decide); exact h.1 (by omega))]
            exact nxt_ge _ _ _
          have hZb : -1 ≤ Z ∧ Z ≤ 2400 := by
            have h := room_bd HVV.out hJl
            unfold roomT at h
            rw [if_pos (by rw [HNT.out]), hgl, hZ] at h
            exact h
          have HFT := Lib.hid (show fitT W s (l.drop J) = (decide (0 ≤ Z) && decide (s.used + Z ≤ W)) from by unfold fitT; rw [hgl, hZ])
          have HSO := Lib.hid (fun (hf : fitT W s (l.drop J) = false) => show SI W l R (J + 1) s ns (max A E) from by have h := HS.out.open hJl (by rw [HNT.out]) hf; rw [hgl, hE] at h; exact h)
          have HSF := Lib.hid (fun (hf : fitT W s (l.drop J) = true) => show SI W l R (J + (N + 1)) (s.put (flT ((l.drop J).take (N + 1)))) ns (max A E) from by have h := HS.out.fit hJl (by rw [HNT.out]) hN hf; rw [hE] at h; exact h)
          have HEN := Lib.hid (glo_end hN)
          have HUS := Lib.hid (fun (W' : World) (h : Below wr.heap.size wr W') => Rq.l4Used W' (vg := .nilIface) (HQ.out.below h).rows rfl (by omega) (by omega) (by omega) (by omega) none 0 0)
          rw [show isN 5 = false by decide] at HNEW
          obtain ⟨U, hU⟩ : ∃ U, s.ind + (s.txt.size : Int) = U := ⟨_, rfl⟩
          have hUb : 0 ≤ U ∧ U ≤ 5000 := by omega
          have HUU := Lib.hid (show s.used = U from hU)
          rw [hU] at HUS
          have hEJ : ((J + E : Nat) : Int) = (J : Int) + (E : Int) := by omega
          rw [hEJ] at HSZ
          have hsb : IntKind.i64.wrap ((J : Int) + (E : Int) - (J : Int)) = (E : Int) := by rw [IntKind.wrap_i64]; omega
          have hsb2 : (J : Int) + (E : Int) - (J : Int) = (E : Int) := by omega
          have hsz2 : IntKind.i64.wrap (U + Z) = U + Z := by rw [IntKind.wrap_i64]; omega
          have HWB := Lib.hid (show ∀ ob, Below wr.heap.size wr (wr.alloc ob) from fun ob => (Below.refl _ _).alloc (Nat.le_refl _) ob)
          have HTB := Lib.hid htxt
          clear hind htxt hU hgl hdl hnx hZ hE hN
          obtain ⟨M, hM⟩ : ∃ M, max A E = M := ⟨_, rfl⟩
          rw [hM] at HSO HSF
          have HMM := Lib.hid hM
          have hMm : M ≤ m := by omega
          go_wp2_with fail
          refine (HNEW.out _).mono ?_
          rintro e1 w1 ⟨rfl, rfl⟩
          go_wp2_with fail
          refine (HSZ.out _ (HBA.out _)).mono ?_
          rintro e2 w2 ⟨rfl, hb2⟩
          have HW2 := Lib.hid ((HWB.out _).trans (hb2.mono (by simp)))
          obtain ⟨c0, c1, f0, f1⟩ := (HQ.out.below HW2.out).cells
          rw [hflg] at c1
          simp only [List.length_nil] at c1
          have hsl2 : w.heap.size + 1 < w2.heap.size := Nat.lt_of_lt_of_le hsl HW2.out.size
          clear hb2 d0
          by_cases hAE : A < E
          · have hM2 : M = E := by have := HMM.out; omega
            have hAEi : (A : Int) < (E : Int) := by omega
            by_cases hZ0 : Z < 0
            · have HOP := Lib.hid (HSO.out (by rw [HFT.out]; simp; omega))
              go_wp2_with fail
              go_roundw
              case rel => exact ⟨J + 1, M, s, ns, g, cap, _, rfl, by omega, Lib.hid (HQ.out.below (by first | exact HW2.out | exact HW2.out.drew)), HOP, by rw [hM2], by go_num, Lib.hid ⟨HB.out.1.trans (HW2.out.mono hsz), hMm⟩⟩
              case measure => simp [intOf]; omega
            · have HU2 := Lib.hid (fun (W' : World) (h : Below w2.heap.size w2 W') => HUS.out W' (HW2.out.trans (h.mono HW2.out.size)))
              by_cases hfit : U + Z ≤ W
              · have HFI := Lib.hid (HSF.out (by rw [HFT.out, HUU.out]; simp; omega))
                have hgt : ¬ (W < U + Z) := by omega
                go_wp2_with fail
                refine (HU2.out _ (by first | exact Below.refl _ _ | exact (Below.refl _ _).drew)).mono ?_
                rintro e3 w3 ⟨rfl, hb3⟩
                have HW3 := Lib.hid (show Below wr.heap.size wr w3 from HW2.out.trans ((show Below w2.heap.size w2 w3 from hb3).mono HW2.out.size))
                clear hb3
                have HB3 := Lib.hid (HB.out.1.trans (HW3.out.mono hsz))
                have HQ3 := Lib.hid (HQ.out.below HW3.out)
                go_wp2_with fail
                obtain ⟨EN, hEN⟩ : ∃ x, J + N = x := ⟨_, rfl⟩
                have HEQ := Lib.hid hEN
                have hENm : EN ≤ m := by omega
                have HCL2 := Lib.hid (HCLS.out _ HB3.out)
                rw [hEN] at HCL2
                clear hEN
                refine HCL2.out.mono ?_
                rintro e4 w4 ⟨rfl, rfl⟩
                go_wp2_with fail
                go_loopw [9] (fun v9 wq => ∃ (q P : Nat), Hid (J + q = P ∧ q ≤ N) ∧ P ≤ EN ∧ v9 = .int .i64 (P : Int) ∧ Hid (RN w w.heap.size (w.heap.size + 1) ns (s.put (flT ((l.drop J).take q))) g cap none 0 z7 wq) ∧ Hid (Below w.heap.size w wq)) (fun v9 _ => EN - (intOf v9).toNat)
                case atStart => exact ⟨0, J, Lib.hid ⟨rfl, Nat.zero_le _⟩, by have := HEQ.out; omega, rfl, Lib.hid (by rw [List.take_zero]; show RN w w.heap.size (w.heap.size + 1) ns (s.put ⟨#[]⟩) g cap none 0 z7 _; rw [St.put_none]; exact HQ3.out), HB3⟩
                case round =>
                  obtain ⟨q, P, HP, hPE, rfl, HQ5, HB5⟩ := hrel
                  have q0 : (0 : Int) ≤ (P : Int) := Int.natCast_nonneg _
                  by_cases hqN : P < EN
                  · have hqN' : q < N := by have := HP.out; have := HEQ.out; omega
                    have hql : P < l.length := by rw [HM.out]; omega
                    have q1 : (P : Int) < (EN : Int) := by omega
                    have q2 : (P : Int) < (m : Int) := by omega
                    have hqd : q < (l.drop J).length := by rw [List.length_drop, HM.out]; have := HP.out; omega
                    obtain ⟨e0, e1', e2⟩ := HROW.out P hql _ HB5.out
                    have hbr5 : b < wr.heap.size := Nat.lt_of_lt_of_le hb HB5.out.size
                    obtain ⟨⟨k2, n2, t2⟩, hnt2⟩ : ∃ r, l[P] = r := ⟨_, rfl⟩
                    have hts2 := HKT.out P hql
                    rw [hnt2] at e0 e1' e2 hts2
                    simp only at hts2
                    have HFS := Lib.hid (show flT ((l.drop J).take (q + 1)) = flT ((l.drop J).take q) ++ ((if k2 = 2 then ⟨#[32]⟩ else ⟨#[]⟩) ++ t2) from by
                      rw [flT_step hqd]
                      have e : (l.drop J)[q] = (k2, n2, t2) := by rw [List.getElem_drop]; have hp := HP.out.1; subst hp; exact hnt2
                      rw [e])
                    have hfz : (flT ((l.drop J).take q)).size ≤ 13 * q := by
                      have h := flT_size ((l.drop J).take q) (fun r hr => HALL.out r (List.mem_of_mem_drop (List.mem_of_mem_take hr)))
                      rw [List.length_take] at h
                      have : min q (l.drop J).length ≤ q := Nat.min_le_left _ _
                      
                      omega
                    obtain ⟨FQ, hFQ⟩ : ∃ x, flT ((l.drop J).take q) = x := ⟨_, rfl⟩
                    rw [hFQ] at HQ5 hfz HFS
                    have hst5 : (s.put FQ).txt.size ≤ 10000 := by show (s.txt ++ FQ).size ≤ _; rw [ByteArray.size_append]; have := HTB.out; have := HP.out; omega
                    have hsl5 := HQ5.out.lt
                    obtain ⟨y0, y1, y2, y3⟩ := HQ5.out.cells
                    rw [show (s.put FQ).flags = [] from hflg, show (s.put FQ).rows.length = s.rows.length from rfl] at *
                    simp only [List.length_nil] at y1
                    have HNT2 := Lib.hid hnt2
                    clear hFQ hnt2
                    by_cases hk2 : k2 = 2
                    · subst hk2
                      have HPS := Lib.hid (Rq.l4Put wr (n := s.rows.length) (Y := ⟨#[32]⟩) HQ5.out.rows rfl (by omega) (by omega) (by decide) none 0 0)
                      go_wp2_with fail
                      refine HPS.out.mono ?_
                      rintro e6 w6 ⟨rfl, ho, hg⟩
                      have hq6 := HQ5.out.put ho hg
                      have hb6 := below_row0 hg HB5.out HGB.out
                      have hsl6 : w.heap.size + 1 < w6.heap.size := hq6.lt
                      have hst6 : ((s.put FQ).put ⟨#[32]⟩).txt.size ≤ 10001 := by show ((s.put FQ).txt ++ (⟨#[32]⟩ : ByteArray)).size ≤ _; rw [ByteArray.size_append]; have : (⟨#[32]⟩ : ByteArray).size = 1 := rfl; omega
                      obtain ⟨x0, x1, x2, x3⟩ := hq6.cells
                      rw [show ((s.put FQ).put ⟨#[32]⟩).flags = [] from hflg] at x1
                      simp only [List.length_nil] at x1
                      have hsm := hq6.same
                      rw [show ((s.put FQ).put ⟨#[32]⟩).flags = [] from hflg, show ((s.put FQ).put ⟨#[32]⟩).rows.length = s.rows.length from rfl] at hsm
                      simp only [List.length_nil] at hsm
                      have H6 := Lib.hid (And.intro hsm ((hb6.setCell (p := ⟨w.heap.size + 1, 0, none⟩) (by simp) (.slice (some ⟨g, 0, none⟩) (s.rows.length + 1) cap)).setCell (p := ⟨w.heap.size + 1, 1, none⟩) (by simp) (.slice none 0 0)))
                      clear ho hg hq6 hb6 hsm e0 e1' e2
                      clear y0 y1 y2 y3
                      go_wp2_with fail
                      obtain ⟨D, hD⟩ : ∃ D, ((w6.setCell ⟨w.heap.size + 1, 0, none⟩ (.slice (some ⟨g, 0, none⟩) (s.rows.length + 1) cap)).setCell ⟨w.heap.size + 1, 1, none⟩ (.slice none 0 0)).drew = D := ⟨_, rfl⟩
                      have HQD := Lib.hid (show RN w w.heap.size (w.heap.size + 1) ns ((s.put FQ).put ⟨#[32]⟩) g cap none 0 z7 D from by rw [← hD]; exact H6.out.1.below (Below.refl _ _).drew)
                      have HBD := Lib.hid (show Below w.heap.size w D from by rw [← hD]; exact H6.out.2.drew)
                      have HPD := Lib.hid (Rq.l4Put D (n := s.rows.length) (Y := t2) HQD.out.rows rfl (by omega) (by show ((s.put FQ).put ⟨#[32]⟩).txt.size ≤ _; omega) (by omega) none 0 0)
                      have hSD : (D.cell? ⟨w.heap.size + 1, 0, none⟩ = some (.slice (some ⟨g, 0, none⟩) (s.rows.length + 1) cap) ∧ D.cell? ⟨w.heap.size + 1, 1, none⟩ = some (.slice none 0 0)) ∧ D.cell? ⟨b, off + P * 3 + 2, none⟩ = some (.string t2) := by
                        obtain ⟨k0, k1, _, _⟩ := HQD.out.cells
                        rw [show ((s.put FQ).put ⟨#[32]⟩).flags = [] from hflg] at k1
                        have ht8 := (HROW.out P hql _ HBD.out).2.2
                        rw [HNT2.out] at ht8
                        exact ⟨⟨k0, k1⟩, ht8⟩
                      have HSD := Lib.hid hSD
                      refine wp_region_held_drew (S := (fun w' => (w'.cell? ⟨w.heap.size + 1, 0, none⟩ = some (.slice (some ⟨g, 0, none⟩) (s.rows.length + 1) cap) ∧ w'.cell? ⟨w.heap.size + 1, 1, none⟩ = some (.slice none 0 0)) ∧ w'.cell? ⟨b, off + P * 3 + 2, none⟩ = some (.string t2))) (by kernel_rfl) ?_ (fun hHeld => ?_)
                      · rw [hD]; exact HSD.out
                      rw [hD] at hHeld ⊢
                      clear hD hSD
                      try clear y0 y1 y2 y3 e0 e1' e2
                      refine wpAnyH_take (i := 0) (oi := { dst := some 119, op := Op.load 154 (Operand.tmp 6), type := 154, pos := "l6_stream.go:210", after := #[], guard := none }) (v := ?_) rfl (by kernel_rfl) (by kernel_rfl) (by kernel_rfl) (fun _ _ _ h => h) (Or.inl ⟨by rfl, ?_⟩) (by assumption) ?_
                      rotate_left
                      · (intro w hSw; (try dsimp only at hSw); (go_simp <;> with_reducible rfl))
                      try simp only [Act.put, List.setIfInBounds_toArray, List.set_cons_zero, List.set_cons_succ]
                      refine wpAnyH_take (i := 1) (oi := { dst := some 120, op := Op.move (Operand.tmp 0), type := 28, pos := "l6_stream.go:210", after := #[], guard := none }) (v := ?_) rfl (by kernel_rfl) (by kernel_rfl) (by kernel_rfl) (fun _ _ _ h => h) (Or.inl ⟨by rfl, ?_⟩) (by assumption) ?_
                      rotate_left
                      · (intro w hSw; (try dsimp only at hSw); (go_simp <;> with_reducible rfl))
                      try simp only [Act.put, List.setIfInBounds_toArray, List.set_cons_zero, List.set_cons_succ]
                      refine wpAnyH_take (i := 2) (oi := { dst := some 121, op := Op.move (Operand.tmp 9), type := 3, pos := "l6_stream.go:210", after := #[], guard := none }) (v := ?_) rfl (by kernel_rfl) (by kernel_rfl) (by kernel_rfl) (fun _ _ _ h => h) (Or.inl ⟨by rfl, ?_⟩) (by assumption) ?_
                      rotate_left
                      · (intro w hSw; (try dsimp only at hSw); (go_simp <;> with_reducible rfl))
                      try simp only [Act.put, List.setIfInBounds_toArray, List.set_cons_zero, List.set_cons_succ]
                      refine wpAnyH_take (i := 3) (oi := { dst := some 122, op := Op.indexAddr 28 (Operand.tmp 120) (Operand.tmp 121), type := 0, pos := "l6_stream.go:210", after := #[{ on := 1, ground := Ground.data }, { on := 2, ground := Ground.data }], guard := none }) (v := ?_) rfl (by kernel_rfl) (by kernel_rfl) (by kernel_rfl) (fun _ _ _ h => h) (Or.inl ⟨by rfl, ?_⟩) (by assumption) ?_
                      rotate_left
                      · (intro w hSw; (try dsimp only at hSw); (go_simp <;> with_reducible rfl))
                      try simp only [Act.put, List.setIfInBounds_toArray, List.set_cons_zero, List.set_cons_succ]
                      refine wpAnyH_take (i := 4) (oi := { dst := some 123, op := Op.fieldAddr 55 (Operand.tmp 122) 2, type := 0, pos := "l6_stream.go:210", after := #[{ on := 3, ground := Ground.data }], guard := none }) (v := ?_) rfl (by kernel_rfl) (by kernel_rfl) (by kernel_rfl) (fun _ _ _ h => h) (Or.inl ⟨by rfl, ?_⟩) (by assumption) ?_
                      rotate_left
                      · (intro w hSw; (try dsimp only at hSw); (go_simp <;> with_reducible rfl))
                      try simp only [Act.put, List.setIfInBounds_toArray, List.set_cons_zero, List.set_cons_succ]
                      refine wpAnyH_take (i := 5) (oi := { dst := some 124, op := Op.load 9 (Operand.tmp 123), type := 9, pos := "l6_stream.go:210", after := #[{ on := 4, ground := Ground.data }], guard := none }) (v := ?_) rfl (by kernel_rfl) (by kernel_rfl) (by kernel_rfl) (fun _ _ _ h => h) (Or.inl ⟨by rfl, ?_⟩) (by assumption) ?_
                      rotate_left
                      · (intro w hSw; (try dsimp only at hSw); (go_simp <;> with_reducible rfl))
                      try simp only [Act.put, List.setIfInBounds_toArray, List.set_cons_zero, List.set_cons_succ]
                      refine wpAnyH_ready (rs := [6]) (by kernel_rfl) (by simp) ?_
                      refine AllReadyH.cons (o := { dst := some 125, op := Op.call { callee := Callee.value (Operand.func 118), args := #[Operand.tmp 119, Operand.tmp 124], argTypes := #[154, 9] }, type := 154, pos := "l6_stream.go:210", after := #[{ on := 0, ground := Ground.data }, { on := 5, ground := Ground.data }], guard := none }) rfl (fun K hK => ?_) AllReadyH.nil
                      go_simp
                      go_at_call 118
                      refine HPD.out.mono ?_
                      rintro e1 D7 ⟨rfl, ho, hg⟩
                      have hq8 := HQD.out.put ho hg
                      have hb8 := below_row0 hg HBD.out HGB.out
                      obtain ⟨k0, k1, z0, z1⟩ := hq8.cells
                      rw [show (((s.put FQ).put ⟨#[32]⟩).put t2).flags = [] from hflg] at k1
                      rw [show (((s.put FQ).put ⟨#[32]⟩).put t2).rows.length = s.rows.length from rfl] at k0
                      simp only [List.length_nil] at k1
                      have hsm := hq8.same
                      rw [show (((s.put FQ).put ⟨#[32]⟩).put t2).flags = [] from hflg, show (((s.put FQ).put ⟨#[32]⟩).put t2).rows.length = s.rows.length from rfl] at hsm
                      simp only [List.length_nil] at hsm
                      have ht8 := (HROW.out P hql _ hb8).2.2
                      rw [HNT2.out] at ht8
                      have ht9 : ((D7.setCell ⟨w.heap.size + 1, 0, none⟩ (.slice (some ⟨g, 0, none⟩) (s.rows.length + 1) cap)).setCell ⟨w.heap.size + 1, 1, none⟩ (.slice none 0 0)).cell? ⟨b, off + P * 3 + 2, none⟩ = some (.string t2) := by
                        rw [World.cell?_setCell_far _ _ _ _ (by simp; omega), World.cell?_setCell_far _ _ _ _ (by simp; omega)]; exact ht8
                      have hc9 := hsm.cells
                      rw [show (((s.put FQ).put ⟨#[32]⟩).put t2).flags = [] from hflg, show (((s.put FQ).put ⟨#[32]⟩).put t2).rows.length = s.rows.length from rfl] at hc9
                      simp only [List.length_nil] at hc9
                      have HS9 := Lib.hid (And.intro (And.intro hc9.1 hc9.2.1) ht9)
                      have H8 := Lib.hid (And.intro hsm ((hb8.setCell (p := ⟨w.heap.size + 1, 0, none⟩) (by simp) (.slice (some ⟨g, 0, none⟩) (s.rows.length + 1) cap)).setCell (p := ⟨w.heap.size + 1, 1, none⟩) (by simp) (.slice none 0 0)))
                      have hsl8 : w.heap.size + 1 < D7.heap.size := hq8.lt
                      clear ho hg hq8 hsm hb8 ht9 hc9
                      try go_wp2_with fail
                      refine hK.out _ _ ?_ (fun hHeld6 => ?_)
                      · exact ⟨⟨k0, k1⟩, ht8⟩
                      clear hK K hHeld
                      try simp only [Act.put, List.setIfInBounds_toArray, List.set_cons_zero, List.set_cons_succ]
                      refine wpAnyH_ready (rs := [7]) (by kernel_rfl) (by simp) ?_
                      refine AllReadyH.cons (o := { dst := none, op := Op.store 154 (Operand.tmp 6) (Operand.tmp 125), type := 0, pos := "l6_stream.go:210", after := #[{ on := 6, ground := Ground.data }, { on := 6, ground := Ground.chain }, { on := 0, ground := Ground.phase }, { on := 1, ground := Ground.phase }, { on := 2, ground := Ground.phase }, { on := 3, ground := Ground.phase }, { on := 4, ground := Ground.phase }, { on := 5, ground := Ground.phase }, { on := 6, ground := Ground.phase }], guard := none }) rfl (fun K hK => ?_) AllReadyH.nil
                      go_simp
                      refine hK.out _ _ ?_ (fun hHeld7 => ?_)
                      · exact HS9.out
                      clear hK K hHeld6
                      try simp only [Act.put, List.setIfInBounds_toArray, List.set_cons_zero, List.set_cons_succ]
                      refine wpAnyH_done (by kernel_rfl) ?_ _
                      go_wp2_with fail
                      go_roundw
                      case rel => exact ⟨q + 1, P + 1, Lib.hid ⟨by have := HP.out; omega, by omega⟩, by omega, by go_num, Lib.hid (by rw [HFS.out]; have h := H8.out.1; simp only [if_true, ByteArray.append_assoc, put_put] at h ⊢; exact h), Lib.hid H8.out.2⟩
                      case measure => simp [intOf]; omega
                    · have b2 : (k2 == 2) = false := beq_eq_false_iff_ne.2 hk2
                      go_wp2_with fail
                      obtain ⟨D, hD⟩ : ∃ D, (wr).drew = D := ⟨_, rfl⟩
                      have HQD := Lib.hid (show RN w w.heap.size (w.heap.size + 1) ns (s.put FQ) g cap none 0 z7 D from by rw [← hD]; exact HQ5.out.below (Below.refl _ _).drew)
                      have HBD := Lib.hid (show Below w.heap.size w D from by rw [← hD]; exact HB5.out.drew)
                      have HPD := Lib.hid (Rq.l4Put D (n := s.rows.length) (Y := t2) HQD.out.rows rfl (by omega) (by show (s.put FQ).txt.size ≤ _; omega) (by omega) none 0 0)
                      have hSD : (D.cell? ⟨w.heap.size + 1, 0, none⟩ = some (.slice (some ⟨g, 0, none⟩) (s.rows.length + 1) cap) ∧ D.cell? ⟨w.heap.size + 1, 1, none⟩ = some (.slice none 0 0)) ∧ D.cell? ⟨b, off + P * 3 + 2, none⟩ = some (.string t2) := by
                        obtain ⟨k0, k1, _, _⟩ := HQD.out.cells
                        rw [show (s.put FQ).flags = [] from hflg] at k1
                        have ht8 := (HROW.out P hql _ HBD.out).2.2
                        rw [HNT2.out] at ht8
                        exact ⟨⟨k0, k1⟩, ht8⟩
                      have HSD := Lib.hid hSD
                      refine wp_region_held_drew (S := (fun w' => (w'.cell? ⟨w.heap.size + 1, 0, none⟩ = some (.slice (some ⟨g, 0, none⟩) (s.rows.length + 1) cap) ∧ w'.cell? ⟨w.heap.size + 1, 1, none⟩ = some (.slice none 0 0)) ∧ w'.cell? ⟨b, off + P * 3 + 2, none⟩ = some (.string t2))) (by kernel_rfl) ?_ (fun hHeld => ?_)
                      · rw [hD]; exact HSD.out
                      rw [hD] at hHeld ⊢
                      clear hD hSD
                      try clear y0 y1 y2 y3 e0 e1' e2
                      refine wpAnyH_take (i := 0) (oi := { dst := some 119, op := Op.load 154 (Operand.tmp 6), type := 154, pos := "l6_stream.go:210", after := #[], guard := none }) (v := ?_) rfl (by kernel_rfl) (by kernel_rfl) (by kernel_rfl) (fun _ _ _ h => h) (Or.inl ⟨by rfl, ?_⟩) (by assumption) ?_
                      rotate_left
                      · (intro w hSw; (try dsimp only at hSw); (go_simp <;> with_reducible rfl))
                      try simp only [Act.put, List.setIfInBounds_toArray, List.set_cons_zero, List.set_cons_succ]
                      refine wpAnyH_take (i := 1) (oi := { dst := some 120, op := Op.move (Operand.tmp 0), type := 28, pos := "l6_stream.go:210", after := #[], guard := none }) (v := ?_) rfl (by kernel_rfl) (by kernel_rfl) (by kernel_rfl) (fun _ _ _ h => h) (Or.inl ⟨by rfl, ?_⟩) (by assumption) ?_
                      rotate_left
                      · (intro w hSw; (try dsimp only at hSw); (go_simp <;> with_reducible rfl))
                      try simp only [Act.put, List.setIfInBounds_toArray, List.set_cons_zero, List.set_cons_succ]
                      refine wpAnyH_take (i := 2) (oi := { dst := some 121, op := Op.move (Operand.tmp 9), type := 3, pos := "l6_stream.go:210", after := #[], guard := none }) (v := ?_) rfl (by kernel_rfl) (by kernel_rfl) (by kernel_rfl) (fun _ _ _ h => h) (Or.inl ⟨by rfl, ?_⟩) (by assumption) ?_
                      rotate_left
                      · (intro w hSw; (try dsimp only at hSw); (go_simp <;> with_reducible rfl))
                      try simp only [Act.put, List.setIfInBounds_toArray, List.set_cons_zero, List.set_cons_succ]
                      refine wpAnyH_take (i := 3) (oi := { dst := some 122, op := Op.indexAddr 28 (Operand.tmp 120) (Operand.tmp 121), type := 0, pos := "l6_stream.go:210", after := #[{ on := 1, ground := Ground.data }, { on := 2, ground := Ground.data }], guard := none }) (v := ?_) rfl (by kernel_rfl) (by kernel_rfl) (by kernel_rfl) (fun _ _ _ h => h) (Or.inl ⟨by rfl, ?_⟩) (by assumption) ?_
                      rotate_left
                      · (intro w hSw; (try dsimp only at hSw); (go_simp <;> with_reducible rfl))
                      try simp only [Act.put, List.setIfInBounds_toArray, List.set_cons_zero, List.set_cons_succ]
                      refine wpAnyH_take (i := 4) (oi := { dst := some 123, op := Op.fieldAddr 55 (Operand.tmp 122) 2, type := 0, pos := "l6_stream.go:210", after := #[{ on := 3, ground := Ground.data }], guard := none }) (v := ?_) rfl (by kernel_rfl) (by kernel_rfl) (by kernel_rfl) (fun _ _ _ h => h) (Or.inl ⟨by rfl, ?_⟩) (by assumption) ?_
                      rotate_left
                      · (intro w hSw; (try dsimp only at hSw); (go_simp <;> with_reducible rfl))
                      try simp only [Act.put, List.setIfInBounds_toArray, List.set_cons_zero, List.set_cons_succ]
                      refine wpAnyH_take (i := 5) (oi := { dst := some 124, op := Op.load 9 (Operand.tmp 123), type := 9, pos := "l6_stream.go:210", after := #[{ on := 4, ground := Ground.data }], guard := none }) (v := ?_) rfl (by kernel_rfl) (by kernel_rfl) (by kernel_rfl) (fun _ _ _ h => h) (Or.inl ⟨by rfl, ?_⟩) (by assumption) ?_
                      rotate_left
                      · (intro w hSw; (try dsimp only at hSw); (go_simp <;> with_reducible rfl))
                      try simp only [Act.put, List.setIfInBounds_toArray, List.set_cons_zero, List.set_cons_succ]
                      refine wpAnyH_ready (rs := [6]) (by kernel_rfl) (by simp) ?_
                      refine AllReadyH.cons (o := { dst := some 125, op := Op.call { callee := Callee.value (Operand.func 118), args := #[Operand.tmp 119, Operand.tmp 124], argTypes := #[154, 9] }, type := 154, pos := "l6_stream.go:210", after := #[{ on := 0, ground := Ground.data }, { on := 5, ground := Ground.data }], guard := none }) rfl (fun K hK => ?_) AllReadyH.nil
                      go_simp
                      go_at_call 118
                      refine HPD.out.mono ?_
                      rintro e1 D7 ⟨rfl, ho, hg⟩
                      have hq8 := HQD.out.put ho hg
                      have hb8 := below_row0 hg HBD.out HGB.out
                      obtain ⟨k0, k1, z0, z1⟩ := hq8.cells
                      rw [show ((s.put FQ).put t2).flags = [] from hflg] at k1
                      rw [show ((s.put FQ).put t2).rows.length = s.rows.length from rfl] at k0
                      simp only [List.length_nil] at k1
                      have hsm := hq8.same
                      rw [show ((s.put FQ).put t2).flags = [] from hflg, show ((s.put FQ).put t2).rows.length = s.rows.length from rfl] at hsm
                      simp only [List.length_nil] at hsm
                      have ht8 := (HROW.out P hql _ hb8).2.2
                      rw [HNT2.out] at ht8
                      have ht9 : ((D7.setCell ⟨w.heap.size + 1, 0, none⟩ (.slice (some ⟨g, 0, none⟩) (s.rows.length + 1) cap)).setCell ⟨w.heap.size + 1, 1, none⟩ (.slice none 0 0)).cell? ⟨b, off + P * 3 + 2, none⟩ = some (.string t2) := by
                        rw [World.cell?_setCell_far _ _ _ _ (by simp; omega), World.cell?_setCell_far _ _ _ _ (by simp; omega)]; exact ht8
                      have hc9 := hsm.cells
                      rw [show ((s.put FQ).put t2).flags = [] from hflg, show ((s.put FQ).put t2).rows.length = s.rows.length from rfl] at hc9
                      simp only [List.length_nil] at hc9
                      have HS9 := Lib.hid (And.intro (And.intro hc9.1 hc9.2.1) ht9)
                      have H8 := Lib.hid (And.intro hsm ((hb8.setCell (p := ⟨w.heap.size + 1, 0, none⟩) (by simp) (.slice (some ⟨g, 0, none⟩) (s.rows.length + 1) cap)).setCell (p := ⟨w.heap.size + 1, 1, none⟩) (by simp) (.slice none 0 0)))
                      have hsl8 : w.heap.size + 1 < D7.heap.size := hq8.lt
                      clear ho hg hq8 hsm hb8 ht9 hc9
                      try go_wp2_with fail
                      refine hK.out _ _ ?_ (fun hHeld6 => ?_)
                      · exact ⟨⟨k0, k1⟩, ht8⟩
                      clear hK K hHeld
                      try simp only [Act.put, List.setIfInBounds_toArray, List.set_cons_zero, List.set_cons_succ]
                      refine wpAnyH_ready (rs := [7]) (by kernel_rfl) (by simp) ?_
                      refine AllReadyH.cons (o := { dst := none, op := Op.store 154 (Operand.tmp 6) (Operand.tmp 125), type := 0, pos := "l6_stream.go:210", after := #[{ on := 6, ground := Ground.data }, { on := 6, ground := Ground.chain }, { on := 0, ground := Ground.phase }, { on := 1, ground := Ground.phase }, { on := 2, ground := Ground.phase }, { on := 3, ground := Ground.phase }, { on := 4, ground := Ground.phase }, { on := 5, ground := Ground.phase }, { on := 6, ground := Ground.phase }], guard := none }) rfl (fun K hK => ?_) AllReadyH.nil
                      go_simp
                      refine hK.out _ _ ?_ (fun hHeld7 => ?_)
                      · exact HS9.out
                      clear hK K hHeld6
                      try simp only [Act.put, List.setIfInBounds_toArray, List.set_cons_zero, List.set_cons_succ]
                      refine wpAnyH_done (by kernel_rfl) ?_ _
                      go_wp2_with fail
                      go_roundw
                      case rel => exact ⟨q + 1, P + 1, Lib.hid ⟨by have := HP.out; omega, by omega⟩, by omega, by go_num, Lib.hid (by rw [HFS.out]; have h := H8.out.1; simp only [if_neg hk2, ByteArray.empty_append, none_app, put_put] at h ⊢; exact h), Lib.hid H8.out.2⟩
                      case measure => simp [intOf]; omega
                  · have hPe : P = EN := by omega
                    obtain rfl : N = q := by have := HP.out; have := HEQ.out; omega
                    have hq1 : ¬ ((P : Int) < (EN : Int)) := by omega
                    have HSN := Lib.hid HFI.out
                    have HLE := Lib.hid (show flT ((l.drop J).take (N + 1)) = flT ((l.drop J).take N) from by
                      obtain ⟨_, hl6, h6⟩ := HEN.out
                      have hqd : N < (l.drop J).length := by rw [List.length_drop]; omega
                      rw [flT_step hqd]
                      have e : (l.drop J)[N] = l[J + N] := by rw [List.getElem_drop]
                      rw [e, if_neg (by omega), HEND.out _ hl6 h6]
                      rw [app_none, app_none])
                    go_wp2_with fail
                    go_roundw
                    case rel => exact ⟨J + (N + 1), M, s.put (flT ((l.drop J).take (N + 1))), ns, g, cap, _, rfl, by omega, Lib.hid (by rw [HLE.out]; exact HQ5.out), HSN, by rw [hM2], by have := HP.out.1; rw [show J + (N + 1) = P + 1 by omega]; go_num, Lib.hid ⟨HB5.out, hMm⟩⟩
                    case measure => have := HP.out.1; simp [intOf]; omega
              · have HOP := Lib.hid (HSO.out (by rw [HFT.out, HUU.out]; simp; omega))
                have hgt : W < U + Z := by omega
                go_wp2_with fail
                refine (HU2.out _ (by first | exact Below.refl _ _ | exact (Below.refl _ _).drew)).mono ?_
                rintro e3 w3 ⟨rfl, hb3⟩
                have HW3 := Lib.hid (show Below wr.heap.size wr w3 from HW2.out.trans ((show Below w2.heap.size w2 w3 from hb3).mono HW2.out.size))
                clear hb3
                go_wp2_with fail
                go_roundw
                case rel => exact ⟨J + 1, M, s, ns, g, cap, _, rfl, by omega, Lib.hid (HQ.out.below HW3.out), HOP, by rw [hM2], by go_num, Lib.hid ⟨HB.out.1.trans (HW3.out.mono hsz), hMm⟩⟩
                case measure => simp [intOf]; omega
          · have hM2 : M = A := by have := HMM.out; omega
            have hAEi : ¬ ((A : Int) < (E : Int)) := by omega
            by_cases hZ0 : Z < 0
            · have HOP := Lib.hid (HSO.out (by rw [HFT.out]; simp; omega))
              go_wp2_with fail
              go_roundw
              case rel => exact ⟨J + 1, M, s, ns, g, cap, _, rfl, by omega, Lib.hid (HQ.out.below (by first | exact HW2.out | exact HW2.out.drew)), HOP, by rw [hM2], by go_num, Lib.hid ⟨HB.out.1.trans (HW2.out.mono hsz), hMm⟩⟩
              case measure => simp [intOf]; omega
            · have HU2 := Lib.hid (fun (W' : World) (h : Below w2.heap.size w2 W') => HUS.out W' (HW2.out.trans (h.mono HW2.out.size)))
              by_cases hfit : U + Z ≤ W
              · have HFI := Lib.hid (HSF.out (by rw [HFT.out, HUU.out]; simp; omega))
                have hgt : ¬ (W < U + Z) := by omega
                go_wp2_with fail
                refine (HU2.out _ (by first | exact Below.refl _ _ | exact (Below.refl _ _).drew)).mono ?_
                rintro e3 w3 ⟨rfl, hb3⟩
                have HW3 := Lib.hid (show Below wr.heap.size wr w3 from HW2.out.trans ((show Below w2.heap.size w2 w3 from hb3).mono HW2.out.size))
                clear hb3
                have HB3 := Lib.hid (HB.out.1.trans (HW3.out.mono hsz))
                have HQ3 := Lib.hid (HQ.out.below HW3.out)
                go_wp2_with fail
                obtain ⟨EN, hEN⟩ : ∃ x, J + N = x := ⟨_, rfl⟩
                have HEQ := Lib.hid hEN
                have hENm : EN ≤ m := by omega
                have HCL2 := Lib.hid (HCLS.out _ HB3.out)
                rw [hEN] at HCL2
                clear hEN
                refine HCL2.out.mono ?_
                rintro e4 w4 ⟨rfl, rfl⟩
                go_wp2_with fail
                go_loopw [9] (fun v9 wq => ∃ (q P : Nat), Hid (J + q = P ∧ q ≤ N) ∧ P ≤ EN ∧ v9 = .int .i64 (P : Int) ∧ Hid (RN w w.heap.size (w.heap.size + 1) ns (s.put (flT ((l.drop J).take q))) g cap none 0 z7 wq) ∧ Hid (Below w.heap.size w wq)) (fun v9 _ => EN - (intOf v9).toNat)
                case atStart => exact ⟨0, J, Lib.hid ⟨rfl, Nat.zero_le _⟩, by have := HEQ.out; omega, rfl, Lib.hid (by rw [List.take_zero]; show RN w w.heap.size (w.heap.size + 1) ns (s.put ⟨#[]⟩) g cap none 0 z7 _; rw [St.put_none]; exact HQ3.out), HB3⟩
                case round =>
                  obtain ⟨q, P, HP, hPE, rfl, HQ5, HB5⟩ := hrel
                  have q0 : (0 : Int) ≤ (P : Int) := Int.natCast_nonneg _
                  by_cases hqN : P < EN
                  · have hqN' : q < N := by have := HP.out; have := HEQ.out; omega
                    have hql : P < l.length := by rw [HM.out]; omega
                    have q1 : (P : Int) < (EN : Int) := by omega
                    have q2 : (P : Int) < (m : Int) := by omega
                    have hqd : q < (l.drop J).length := by rw [List.length_drop, HM.out]; have := HP.out; omega
                    obtain ⟨e0, e1', e2⟩ := HROW.out P hql _ HB5.out
                    have hbr5 : b < wr.heap.size := Nat.lt_of_lt_of_le hb HB5.out.size
                    obtain ⟨⟨k2, n2, t2⟩, hnt2⟩ : ∃ r, l[P] = r := ⟨_, rfl⟩
                    have hts2 := HKT.out P hql
                    rw [hnt2] at e0 e1' e2 hts2
                    simp only at hts2
                    have HFS := Lib.hid (show flT ((l.drop J).take (q + 1)) = flT ((l.drop J).take q) ++ ((if k2 = 2 then ⟨#[32]⟩ else ⟨#[]⟩) ++ t2) from by
                      rw [flT_step hqd]
                      have e : (l.drop J)[q] = (k2, n2, t2) := by rw [List.getElem_drop]; have hp := HP.out.1; subst hp; exact hnt2
                      rw [e])
                    have hfz : (flT ((l.drop J).take q)).size ≤ 13 * q := by
                      have h := flT_size ((l.drop J).take q) (fun r hr => HALL.out r (List.mem_of_mem_drop (List.mem_of_mem_take hr)))
                      rw [List.length_take] at h
                      have : min q (l.drop J).length ≤ q := Nat.min_le_left _ _
                      
                      omega
                    obtain ⟨FQ, hFQ⟩ : ∃ x, flT ((l.drop J).take q) = x := ⟨_, rfl⟩
                    rw [hFQ] at HQ5 hfz HFS
                    have hst5 : (s.put FQ).txt.size ≤ 10000 := by show (s.txt ++ FQ).size ≤ _; rw [ByteArray.size_append]; have := HTB.out; have := HP.out; omega
                    have hsl5 := HQ5.out.lt
                    obtain ⟨y0, y1, y2, y3⟩ := HQ5.out.cells
                    rw [show (s.put FQ).flags = [] from hflg, show (s.put FQ).rows.length = s.rows.length from rfl] at *
                    simp only [List.length_nil] at y1
                    have HNT2 := Lib.hid hnt2
                    clear hFQ hnt2
                    by_cases hk2 : k2 = 2
                    · subst hk2
                      have HPS := Lib.hid (Rq.l4Put wr (n := s.rows.length) (Y := ⟨#[32]⟩) HQ5.out.rows rfl (by omega) (by omega) (by decide) none 0 0)
                      go_wp2_with fail
                      refine HPS.out.mono ?_
                      rintro e6 w6 ⟨rfl, ho, hg⟩
                      have hq6 := HQ5.out.put ho hg
                      have hb6 := below_row0 hg HB5.out HGB.out
                      have hsl6 : w.heap.size + 1 < w6.heap.size := hq6.lt
                      have hst6 : ((s.put FQ).put ⟨#[32]⟩).txt.size ≤ 10001 := by show ((s.put FQ).txt ++ (⟨#[32]⟩ : ByteArray)).size ≤ _; rw [ByteArray.size_append]; have : (⟨#[32]⟩ : ByteArray).size = 1 := rfl; omega
                      obtain ⟨x0, x1, x2, x3⟩ := hq6.cells
                      rw [show ((s.put FQ).put ⟨#[32]⟩).flags = [] from hflg] at x1
                      simp only [List.length_nil] at x1
                      have hsm := hq6.same
                      rw [show ((s.put FQ).put ⟨#[32]⟩).flags = [] from hflg, show ((s.put FQ).put ⟨#[32]⟩).rows.length = s.rows.length from rfl] at hsm
                      simp only [List.length_nil] at hsm
                      have H6 := Lib.hid (And.intro hsm ((hb6.setCell (p := ⟨w.heap.size + 1, 0, none⟩) (by simp) (.slice (some ⟨g, 0, none⟩) (s.rows.length + 1) cap)).setCell (p := ⟨w.heap.size + 1, 1, none⟩) (by simp) (.slice none 0 0)))
                      clear ho hg hq6 hb6 hsm e0 e1' e2
                      clear y0 y1 y2 y3
                      go_wp2_with fail
                      obtain ⟨D, hD⟩ : ∃ D, ((w6.setCell ⟨w.heap.size + 1, 0, none⟩ (.slice (some ⟨g, 0, none⟩) (s.rows.length + 1) cap)).setCell ⟨w.heap.size + 1, 1, none⟩ (.slice none 0 0)).drew = D := ⟨_, rfl⟩
                      have HQD := Lib.hid (show RN w w.heap.size (w.heap.size + 1) ns ((s.put FQ).put ⟨#[32]⟩) g cap none 0 z7 D from by rw [← hD]; exact H6.out.1.below (Below.refl _ _).drew)
                      have HBD := Lib.hid (show Below w.heap.size w D from by rw [← hD]; exact H6.out.2.drew)
                      have HPD := Lib.hid (Rq.l4Put D (n := s.rows.length) (Y := t2) HQD.out.rows rfl (by omega) (by show ((s.put FQ).put ⟨#[32]⟩).txt.size ≤ _; omega) (by omega) none 0 0)
                      have hSD : (D.cell? ⟨w.heap.size + 1, 0, none⟩ = some (.slice (some ⟨g, 0, none⟩) (s.rows.length + 1) cap) ∧ D.cell? ⟨w.heap.size + 1, 1, none⟩ = some (.slice none 0 0)) ∧ D.cell? ⟨b, off + P * 3 + 2, none⟩ = some (.string t2) := by
                        obtain ⟨k0, k1, _, _⟩ := HQD.out.cells
                        rw [show ((s.put FQ).put ⟨#[32]⟩).flags = [] from hflg] at k1
                        have ht8 := (HROW.out P hql _ HBD.out).2.2
                        rw [HNT2.out] at ht8
                        exact ⟨⟨k0, k1⟩, ht8⟩
                      have HSD := Lib.hid hSD
                      refine wp_region_held_drew (S := (fun w' => (w'.cell? ⟨w.heap.size + 1, 0, none⟩ = some (.slice (some ⟨g, 0, none⟩) (s.rows.length + 1) cap) ∧ w'.cell? ⟨w.heap.size + 1, 1, none⟩ = some (.slice none 0 0)) ∧ w'.cell? ⟨b, off + P * 3 + 2, none⟩ = some (.string t2))) (by kernel_rfl) ?_ (fun hHeld => ?_)
                      · rw [hD]; exact HSD.out
                      rw [hD] at hHeld ⊢
                      clear hD hSD
                      try clear y0 y1 y2 y3 e0 e1' e2
                      refine wpAnyH_take (i := 0) (oi := { dst := some 119, op := Op.load 154 (Operand.tmp 6), type := 154, pos := "l6_stream.go:210", after := #[], guard := none }) (v := ?_) rfl (by kernel_rfl) (by kernel_rfl) (by kernel_rfl) (fun _ _ _ h => h) (Or.inl ⟨by rfl, ?_⟩) (by assumption) ?_
                      rotate_left
                      · (intro w hSw; (try dsimp only at hSw); (go_simp <;> with_reducible rfl))
                      try simp only [Act.put, List.setIfInBounds_toArray, List.set_cons_zero, List.set_cons_succ]
                      refine wpAnyH_take (i := 1) (oi := { dst := some 120, op := Op.move (Operand.tmp 0), type := 28, pos := "l6_stream.go:210", after := #[], guard := none }) (v := ?_) rfl (by kernel_rfl) (by kernel_rfl) (by kernel_rfl) (fun _ _ _ h => h) (Or.inl ⟨by rfl, ?_⟩) (by assumption) ?_
                      rotate_left
                      · (intro w hSw; (try dsimp only at hSw); (go_simp <;> with_reducible rfl))
                      try simp only [Act.put, List.setIfInBounds_toArray, List.set_cons_zero, List.set_cons_succ]
                      refine wpAnyH_take (i := 2) (oi := { dst := some 121, op := Op.move (Operand.tmp 9), type := 3, pos := "l6_stream.go:210", after := #[], guard := none }) (v := ?_) rfl (by kernel_rfl) (by kernel_rfl) (by kernel_rfl) (fun _ _ _ h => h) (Or.inl ⟨by rfl, ?_⟩) (by assumption) ?_
                      rotate_left
                      · (intro w hSw; (try dsimp only at hSw); (go_simp <;> with_reducible rfl))
                      try simp only [Act.put, List.setIfInBounds_toArray, List.set_cons_zero, List.set_cons_succ]
                      refine wpAnyH_take (i := 3) (oi := { dst := some 122, op := Op.indexAddr 28 (Operand.tmp 120) (Operand.tmp 121), type := 0, pos := "l6_stream.go:210", after := #[{ on := 1, ground := Ground.data }, { on := 2, ground := Ground.data }], guard := none }) (v := ?_) rfl (by kernel_rfl) (by kernel_rfl) (by kernel_rfl) (fun _ _ _ h => h) (Or.inl ⟨by rfl, ?_⟩) (by assumption) ?_
                      rotate_left
                      · (intro w hSw; (try dsimp only at hSw); (go_simp <;> with_reducible rfl))
                      try simp only [Act.put, List.setIfInBounds_toArray, List.set_cons_zero, List.set_cons_succ]
                      refine wpAnyH_take (i := 4) (oi := { dst := some 123, op := Op.fieldAddr 55 (Operand.tmp 122) 2, type := 0, pos := "l6_stream.go:210", after := #[{ on := 3, ground := Ground.data }], guard := none }) (v := ?_) rfl (by kernel_rfl) (by kernel_rfl) (by kernel_rfl) (fun _ _ _ h => h) (Or.inl ⟨by rfl, ?_⟩) (by assumption) ?_
                      rotate_left
                      · (intro w hSw; (try dsimp only at hSw); (go_simp <;> with_reducible rfl))
                      try simp only [Act.put, List.setIfInBounds_toArray, List.set_cons_zero, List.set_cons_succ]
                      refine wpAnyH_take (i := 5) (oi := { dst := some 124, op := Op.load 9 (Operand.tmp 123), type := 9, pos := "l6_stream.go:210", after := #[{ on := 4, ground := Ground.data }], guard := none }) (v := ?_) rfl (by kernel_rfl) (by kernel_rfl) (by kernel_rfl) (fun _ _ _ h => h) (Or.inl ⟨by rfl, ?_⟩) (by assumption) ?_
                      rotate_left
                      · (intro w hSw; (try dsimp only at hSw); (go_simp <;> with_reducible rfl))
                      try simp only [Act.put, List.setIfInBounds_toArray, List.set_cons_zero, List.set_cons_succ]
                      refine wpAnyH_ready (rs := [6]) (by kernel_rfl) (by simp) ?_
                      refine AllReadyH.cons (o := { dst := some 125, op := Op.call { callee := Callee.value (Operand.func 118), args := #[Operand.tmp 119, Operand.tmp 124], argTypes := #[154, 9] }, type := 154, pos := "l6_stream.go:210", after := #[{ on := 0, ground := Ground.data }, { on := 5, ground := Ground.data }], guard := none }) rfl (fun K hK => ?_) AllReadyH.nil
                      go_simp
                      go_at_call 118
                      refine HPD.out.mono ?_
                      rintro e1 D7 ⟨rfl, ho, hg⟩
                      have hq8 := HQD.out.put ho hg
                      have hb8 := below_row0 hg HBD.out HGB.out
                      obtain ⟨k0, k1, z0, z1⟩ := hq8.cells
                      rw [show (((s.put FQ).put ⟨#[32]⟩).put t2).flags = [] from hflg] at k1
                      rw [show (((s.put FQ).put ⟨#[32]⟩).put t2).rows.length = s.rows.length from rfl] at k0
                      simp only [List.length_nil] at k1
                      have hsm := hq8.same
                      rw [show (((s.put FQ).put ⟨#[32]⟩).put t2).flags = [] from hflg, show (((s.put FQ).put ⟨#[32]⟩).put t2).rows.length = s.rows.length from rfl] at hsm
                      simp only [List.length_nil] at hsm
                      have ht8 := (HROW.out P hql _ hb8).2.2
                      rw [HNT2.out] at ht8
                      have ht9 : ((D7.setCell ⟨w.heap.size + 1, 0, none⟩ (.slice (some ⟨g, 0, none⟩) (s.rows.length + 1) cap)).setCell ⟨w.heap.size + 1, 1, none⟩ (.slice none 0 0)).cell? ⟨b, off + P * 3 + 2, none⟩ = some (.string t2) := by
                        rw [World.cell?_setCell_far _ _ _ _ (by simp; omega), World.cell?_setCell_far _ _ _ _ (by simp; omega)]; exact ht8
                      have hc9 := hsm.cells
                      rw [show (((s.put FQ).put ⟨#[32]⟩).put t2).flags = [] from hflg, show (((s.put FQ).put ⟨#[32]⟩).put t2).rows.length = s.rows.length from rfl] at hc9
                      simp only [List.length_nil] at hc9
                      have HS9 := Lib.hid (And.intro (And.intro hc9.1 hc9.2.1) ht9)
                      have H8 := Lib.hid (And.intro hsm ((hb8.setCell (p := ⟨w.heap.size + 1, 0, none⟩) (by simp) (.slice (some ⟨g, 0, none⟩) (s.rows.length + 1) cap)).setCell (p := ⟨w.heap.size + 1, 1, none⟩) (by simp) (.slice none 0 0)))
                      have hsl8 : w.heap.size + 1 < D7.heap.size := hq8.lt
                      clear ho hg hq8 hsm hb8 ht9 hc9
                      try go_wp2_with fail
                      refine hK.out _ _ ?_ (fun hHeld6 => ?_)
                      · exact ⟨⟨k0, k1⟩, ht8⟩
                      clear hK K hHeld
                      try simp only [Act.put, List.setIfInBounds_toArray, List.set_cons_zero, List.set_cons_succ]
                      refine wpAnyH_ready (rs := [7]) (by kernel_rfl) (by simp) ?_
                      refine AllReadyH.cons (o := { dst := none, op := Op.store 154 (Operand.tmp 6) (Operand.tmp 125), type := 0, pos := "l6_stream.go:210", after := #[{ on := 6, ground := Ground.data }, { on := 6, ground := Ground.chain }, { on := 0, ground := Ground.phase }, { on := 1, ground := Ground.phase }, { on := 2, ground := Ground.phase }, { on := 3, ground := Ground.phase }, { on := 4, ground := Ground.phase }, { on := 5, ground := Ground.phase }, { on := 6, ground := Ground.phase }], guard := none }) rfl (fun K hK => ?_) AllReadyH.nil
                      go_simp
                      refine hK.out _ _ ?_ (fun hHeld7 => ?_)
                      · exact HS9.out
                      clear hK K hHeld6
                      try simp only [Act.put, List.setIfInBounds_toArray, List.set_cons_zero, List.set_cons_succ]
                      refine wpAnyH_done (by kernel_rfl) ?_ _
                      go_wp2_with fail
                      go_roundw
                      case rel => exact ⟨q + 1, P + 1, Lib.hid ⟨by have := HP.out; omega, by omega⟩, by omega, by go_num, Lib.hid (by rw [HFS.out]; have h := H8.out.1; simp only [if_true, ByteArray.append_assoc, put_put] at h ⊢; exact h), Lib.hid H8.out.2⟩
                      case measure => simp [intOf]; omega
                    · have b2 : (k2 == 2) = false := beq_eq_false_iff_ne.2 hk2
                      go_wp2_with fail
                      obtain ⟨D, hD⟩ : ∃ D, (wr).drew = D := ⟨_, rfl⟩
                      have HQD := Lib.hid (show RN w w.heap.size (w.heap.size + 1) ns (s.put FQ) g cap none 0 z7 D from by rw [← hD]; exact HQ5.out.below (Below.refl _ _).drew)
                      have HBD := Lib.hid (show Below w.heap.size w D from by rw [← hD]; exact HB5.out.drew)
                      have HPD := Lib.hid (Rq.l4Put D (n := s.rows.length) (Y := t2) HQD.out.rows rfl (by omega) (by show (s.put FQ).txt.size ≤ _; omega) (by omega) none 0 0)
                      have hSD : (D.cell? ⟨w.heap.size + 1, 0, none⟩ = some (.slice (some ⟨g, 0, none⟩) (s.rows.length + 1) cap) ∧ D.cell? ⟨w.heap.size + 1, 1, none⟩ = some (.slice none 0 0)) ∧ D.cell? ⟨b, off + P * 3 + 2, none⟩ = some (.string t2) := by
                        obtain ⟨k0, k1, _, _⟩ := HQD.out.cells
                        rw [show (s.put FQ).flags = [] from hflg] at k1
                        have ht8 := (HROW.out P hql _ HBD.out).2.2
                        rw [HNT2.out] at ht8
                        exact ⟨⟨k0, k1⟩, ht8⟩
                      have HSD := Lib.hid hSD
                      refine wp_region_held_drew (S := (fun w' => (w'.cell? ⟨w.heap.size + 1, 0, none⟩ = some (.slice (some ⟨g, 0, none⟩) (s.rows.length + 1) cap) ∧ w'.cell? ⟨w.heap.size + 1, 1, none⟩ = some (.slice none 0 0)) ∧ w'.cell? ⟨b, off + P * 3 + 2, none⟩ = some (.string t2))) (by kernel_rfl) ?_ (fun hHeld => ?_)
                      · rw [hD]; exact HSD.out
                      rw [hD] at hHeld ⊢
                      clear hD hSD
                      try clear y0 y1 y2 y3 e0 e1' e2
                      refine wpAnyH_take (i := 0) (oi := { dst := some 119, op := Op.load 154 (Operand.tmp 6), type := 154, pos := "l6_stream.go:210", after := #[], guard := none }) (v := ?_) rfl (by kernel_rfl) (by kernel_rfl) (by kernel_rfl) (fun _ _ _ h => h) (Or.inl ⟨by rfl, ?_⟩) (by assumption) ?_
                      rotate_left
                      · (intro w hSw; (try dsimp only at hSw); (go_simp <;> with_reducible rfl))
                      try simp only [Act.put, List.setIfInBounds_toArray, List.set_cons_zero, List.set_cons_succ]
                      refine wpAnyH_take (i := 1) (oi := { dst := some 120, op := Op.move (Operand.tmp 0), type := 28, pos := "l6_stream.go:210", after := #[], guard := none }) (v := ?_) rfl (by kernel_rfl) (by kernel_rfl) (by kernel_rfl) (fun _ _ _ h => h) (Or.inl ⟨by rfl, ?_⟩) (by assumption) ?_
                      rotate_left
                      · (intro w hSw; (try dsimp only at hSw); (go_simp <;> with_reducible rfl))
                      try simp only [Act.put, List.setIfInBounds_toArray, List.set_cons_zero, List.set_cons_succ]
                      refine wpAnyH_take (i := 2) (oi := { dst := some 121, op := Op.move (Operand.tmp 9), type := 3, pos := "l6_stream.go:210", after := #[], guard := none }) (v := ?_) rfl (by kernel_rfl) (by kernel_rfl) (by kernel_rfl) (fun _ _ _ h => h) (Or.inl ⟨by rfl, ?_⟩) (by assumption) ?_
                      rotate_left
                      · (intro w hSw; (try dsimp only at hSw); (go_simp <;> with_reducible rfl))
                      try simp only [Act.put, List.setIfInBounds_toArray, List.set_cons_zero, List.set_cons_succ]
                      refine wpAnyH_take (i := 3) (oi := { dst := some 122, op := Op.indexAddr 28 (Operand.tmp 120) (Operand.tmp 121), type := 0, pos := "l6_stream.go:210", after := #[{ on := 1, ground := Ground.data }, { on := 2, ground := Ground.data }], guard := none }) (v := ?_) rfl (by kernel_rfl) (by kernel_rfl) (by kernel_rfl) (fun _ _ _ h => h) (Or.inl ⟨by rfl, ?_⟩) (by assumption) ?_
                      rotate_left
                      · (intro w hSw; (try dsimp only at hSw); (go_simp <;> with_reducible rfl))
                      try simp only [Act.put, List.setIfInBounds_toArray, List.set_cons_zero, List.set_cons_succ]
                      refine wpAnyH_take (i := 4) (oi := { dst := some 123, op := Op.fieldAddr 55 (Operand.tmp 122) 2, type := 0, pos := "l6_stream.go:210", after := #[{ on := 3, ground := Ground.data }], guard := none }) (v := ?_) rfl (by kernel_rfl) (by kernel_rfl) (by kernel_rfl) (fun _ _ _ h => h) (Or.inl ⟨by rfl, ?_⟩) (by assumption) ?_
                      rotate_left
                      · (intro w hSw; (try dsimp only at hSw); (go_simp <;> with_reducible rfl))
                      try simp only [Act.put, List.setIfInBounds_toArray, List.set_cons_zero, List.set_cons_succ]
                      refine wpAnyH_take (i := 5) (oi := { dst := some 124, op := Op.load 9 (Operand.tmp 123), type := 9, pos := "l6_stream.go:210", after := #[{ on := 4, ground := Ground.data }], guard := none }) (v := ?_) rfl (by kernel_rfl) (by kernel_rfl) (by kernel_rfl) (fun _ _ _ h => h) (Or.inl ⟨by rfl, ?_⟩) (by assumption) ?_
                      rotate_left
                      · (intro w hSw; (try dsimp only at hSw); (go_simp <;> with_reducible rfl))
                      try simp only [Act.put, List.setIfInBounds_toArray, List.set_cons_zero, List.set_cons_succ]
                      refine wpAnyH_ready (rs := [6]) (by kernel_rfl) (by simp) ?_
                      refine AllReadyH.cons (o := { dst := some 125, op := Op.call { callee := Callee.value (Operand.func 118), args := #[Operand.tmp 119, Operand.tmp 124], argTypes := #[154, 9] }, type := 154, pos := "l6_stream.go:210", after := #[{ on := 0, ground := Ground.data }, { on := 5, ground := Ground.data }], guard := none }) rfl (fun K hK => ?_) AllReadyH.nil
                      go_simp
                      go_at_call 118
                      refine HPD.out.mono ?_
                      rintro e1 D7 ⟨rfl, ho, hg⟩
                      have hq8 := HQD.out.put ho hg
                      have hb8 := below_row0 hg HBD.out HGB.out
                      obtain ⟨k0, k1, z0, z1⟩ := hq8.cells
                      rw [show ((s.put FQ).put t2).flags = [] from hflg] at k1
                      rw [show ((s.put FQ).put t2).rows.length = s.rows.length from rfl] at k0
                      simp only [List.length_nil] at k1
                      have hsm := hq8.same
                      rw [show ((s.put FQ).put t2).flags = [] from hflg, show ((s.put FQ).put t2).rows.length = s.rows.length from rfl] at hsm
                      simp only [List.length_nil] at hsm
                      have ht8 := (HROW.out P hql _ hb8).2.2
                      rw [HNT2.out] at ht8
                      have ht9 : ((D7.setCell ⟨w.heap.size + 1, 0, none⟩ (.slice (some ⟨g, 0, none⟩) (s.rows.length + 1) cap)).setCell ⟨w.heap.size + 1, 1, none⟩ (.slice none 0 0)).cell? ⟨b, off + P * 3 + 2, none⟩ = some (.string t2) := by
                        rw [World.cell?_setCell_far _ _ _ _ (by simp; omega), World.cell?_setCell_far _ _ _ _ (by simp; omega)]; exact ht8
                      have hc9 := hsm.cells
                      rw [show ((s.put FQ).put t2).flags = [] from hflg, show ((s.put FQ).put t2).rows.length = s.rows.length from rfl] at hc9
                      simp only [List.length_nil] at hc9
                      have HS9 := Lib.hid (And.intro (And.intro hc9.1 hc9.2.1) ht9)
                      have H8 := Lib.hid (And.intro hsm ((hb8.setCell (p := ⟨w.heap.size + 1, 0, none⟩) (by simp) (.slice (some ⟨g, 0, none⟩) (s.rows.length + 1) cap)).setCell (p := ⟨w.heap.size + 1, 1, none⟩) (by simp) (.slice none 0 0)))
                      have hsl8 : w.heap.size + 1 < D7.heap.size := hq8.lt
                      clear ho hg hq8 hsm hb8 ht9 hc9
                      try go_wp2_with fail
                      refine hK.out _ _ ?_ (fun hHeld6 => ?_)
                      · exact ⟨⟨k0, k1⟩, ht8⟩
                      clear hK K hHeld
                      try simp only [Act.put, List.setIfInBounds_toArray, List.set_cons_zero, List.set_cons_succ]
                      refine wpAnyH_ready (rs := [7]) (by kernel_rfl) (by simp) ?_
                      refine AllReadyH.cons (o := { dst := none, op := Op.store 154 (Operand.tmp 6) (Operand.tmp 125), type := 0, pos := "l6_stream.go:210", after := #[{ on := 6, ground := Ground.data }, { on := 6, ground := Ground.chain }, { on := 0, ground := Ground.phase }, { on := 1, ground := Ground.phase }, { on := 2, ground := Ground.phase }, { on := 3, ground := Ground.phase }, { on := 4, ground := Ground.phase }, { on := 5, ground := Ground.phase }, { on := 6, ground := Ground.phase }], guard := none }) rfl (fun K hK => ?_) AllReadyH.nil
                      go_simp
                      refine hK.out _ _ ?_ (fun hHeld7 => ?_)
                      · exact HS9.out
                      clear hK K hHeld6
                      try simp only [Act.put, List.setIfInBounds_toArray, List.set_cons_zero, List.set_cons_succ]
                      refine wpAnyH_done (by kernel_rfl) ?_ _
                      go_wp2_with fail
                      go_roundw
                      case rel => exact ⟨q + 1, P + 1, Lib.hid ⟨by have := HP.out; omega, by omega⟩, by omega, by go_num, Lib.hid (by rw [HFS.out]; have h := H8.out.1; simp only [if_neg hk2, ByteArray.empty_append, none_app, put_put] at h ⊢; exact h), Lib.hid H8.out.2⟩
                      case measure => simp [intOf]; omega
                  · have hPe : P = EN := by omega
                    obtain rfl : N = q := by have := HP.out; have := HEQ.out; omega
                    have hq1 : ¬ ((P : Int) < (EN : Int)) := by omega
                    have HSN := Lib.hid HFI.out
                    have HLE := Lib.hid (show flT ((l.drop J).take (N + 1)) = flT ((l.drop J).take N) from by
                      obtain ⟨_, hl6, h6⟩ := HEN.out
                      have hqd : N < (l.drop J).length := by rw [List.length_drop]; omega
                      rw [flT_step hqd]
                      have e : (l.drop J)[N] = l[J + N] := by rw [List.getElem_drop]
                      rw [e, if_neg (by omega), HEND.out _ hl6 h6]
                      rw [app_none, app_none])
                    go_wp2_with fail
                    go_roundw
                    case rel => exact ⟨J + (N + 1), M, s.put (flT ((l.drop J).take (N + 1))), ns, g, cap, _, rfl, by omega, Lib.hid (by rw [HLE.out]; exact HQ5.out), HSN, by rw [hM2], by have := HP.out.1; rw [show J + (N + 1) = P + 1 by omega]; go_num, Lib.hid ⟨HB5.out, hMm⟩⟩
                    case measure => have := HP.out.1; simp [intOf]; omega
              · have HOP := Lib.hid (HSO.out (by rw [HFT.out, HUU.out]; simp; omega))
                have hgt : W < U + Z := by omega
                go_wp2_with fail
                refine (HU2.out _ (by first | exact Below.refl _ _ | exact (Below.refl _ _).drew)).mono ?_
                rintro e3 w3 ⟨rfl, hb3⟩
                have HW3 := Lib.hid (show Below wr.heap.size wr w3 from HW2.out.trans ((show Below w2.heap.size w2 w3 from hb3).mono HW2.out.size))
                clear hb3
                go_wp2_with fail
                go_roundw
                case rel => exact ⟨J + 1, M, s, ns, g, cap, _, rfl, by omega, Lib.hid (HQ.out.below HW3.out), HOP, by rw [hM2], by go_num, Lib.hid ⟨HB.out.1.trans (HW3.out.mono hsz), hMm⟩⟩
                case measure => simp [intOf]; omega
        have b5 : (k == 5) = false := beq_eq_false_iff_ne.2 hk
        have b6 : (k == 6) = true ∨ (k == 6) = false := by cases k == 6 <;> simp
        have h6 : k = 6 := by
          have hkt := HS.out.kt hJl
          rw [HNT.out] at hkt
          unfold kt at hkt
          simp only at hkt
          rw [if_neg hk1, if_neg hk7] at hkt
          simp only [Bool.and_eq_true, decide_eq_true_eq] at hkt
          have : ¬ (2 ≤ k ∧ k ≤ 4) := fun h => by rw [show isN k = true by simp [isN, h.1, h.2]] at hn; cases hn
          omega
        subst h6
        have HSN := Lib.hid (show SI W l R (J + 1) s ns A from HS.out.close hJl (by rw [HNT.out]))
        rw [show isN 6 = false by decide] at HNEW
        clear hind htxt
        go_wp2_with fail
        refine (HNEW.out _).mono ?_
        rintro e1 w1 ⟨rfl, rfl⟩
        go_wp2_with fail
        go_roundw
        case rel => exact ⟨J + 1, A, s, ns, g, cap, _, rfl, by omega, Lib.hid (HQA.out _), HSN, by first | rfl | go_num, by go_num, Lib.hid ⟨HBA.out _, hA⟩⟩
        case measure => simp [intOf]; omega
    · obtain rfl : J = m := by omega
      have HE := Lib.hid (HS.out.done (by rw [HM.out]; exact Nat.le_refl _))
      clear hind htxt hflg
      go_wp2_with fail
      go_ret2
      exact ⟨g, cap, by rw [HE.out]; rfl, by rw [HE.out]; exact HQ.out.rows, HB.out.1⟩


end Go.Proofs.Ytcealfjkcbaelaa.Sq


import Derived.Test.YtmkibpimjaofgaaLd0
import Derived.Test.YtmkibpimjaofgaaNfX
import Derived.Test.YtmkibpimjaofgaaNfD
import Derived.Test.YtmkibpimjaofgaaLyA
/-
  LayoutDoc of the program: the parts of a layout, and the document that they are joined to.
-/
set_option linter.unusedVariables false
set_option linter.unusedSimpArgs false
set_option maxRecDepth 100000
set_option maxHeartbeats 3200000
namespace Go.Proofs.Ytmkibpimjaofgaa.Nf
open Go.RowKit P1 Copy CatD

theorem bytes_some {t : ByteArray} (h : t.size ≠ 0) : (t.toList == ([] : List UInt8)) = false ∧ t.toList.isEmpty = false := by
  have e : t.toList ≠ [] := by
    rw [Lib.toList_data]
    intro e
    have := congrArg List.length e
    simp at this
    exact h (by rw [this]; rfl)
  cases hl : t.toList with
  | nil => exact absurd hl e
  | cons x r => exact ⟨rfl, rfl⟩
theorem row_cell {w1 w2 : World} {ob : Obj} {row : Option Nat} {c x : Nat} {v : Value} (h : w1.cell? ⟨c, x, none⟩ = some v) (hc : c < w1.heap.size) (hg : (w1.alloc ob).grownBy w2 row) (hr : row ≠ some c) : w2.cell? ⟨c, x, none⟩ = some v :=
  (World.cell?_of_block (w := w1.alloc ob) (hg.block c (by simp; omega) (fun e => hr e.symm))).trans ((((Below.refl w1.heap.size w1).alloc (Nat.le_refl _) ob).cell (p := ⟨c, x, none⟩) hc).trans h)
def strSz : Value → Nat
  | .string s => s.size
  | _ => 0
def RowNew (w : World) (f : F) (e : Ending) (w' : World) : Prop := ∃ (a : Option Addr) (cap : Nat) (fs : List Nat), e = .returned (.slice a f.len cap) ∧ f.len ≤ cap ∧ SubAt w' a f fs ∧ Fresh w.heap.size w' fs ∧ Ext w w'

theorem layoutParts (w : World) (l : List (Int × ByteArray)) (hv : lv l = true) (a : Option Addr) (cap : Nat) (fs : List Nat) (hs : LaySub w a l fs) (hc : l.length ≤ cap) :
    Calls Try.prog 84 #[.slice a l.length cap] w (RowNew w (ldF l)) := by
  obtain ⟨i0, hi, hz0, hz1, hz2⟩ := info_parts To.info
  have HI := Lib.hid (And.intro hi (And.intro hz0 (And.intro hz1 hz2)))
  have HTOT := Lib.hid (show (ldF l).len ≤ 1000000 from Nat.le_trans (F.len_le_size _) (ldF_size hv))
  have HR := Lib.hid (show ∀ W, Below w.heap.size w W → ∀ j, (h : j < l.length) → ∃ (b off I : Nat) (s : ByteArray), a = some ⟨b, off, none⟩ ∧ b < W.heap.size ∧ W.cell? ⟨b, off + j * 2, none⟩ = some (.int .i64 (I : Int)) ∧ W.cell? ⟨b, off + j * 2 + 1, none⟩ = some (.string s) ∧ I ≤ 400 ∧ s.size ≤ 2000 ∧ (j = 0 → ldG 0 l = (pcs s).app (ldG 1 l)) ∧ (0 < j → ldG j l = consD (nlD I) ((pcs s).app (ldG (j + 1) l))) from fun W hW j h => by
    have hr := lv_get hv h
    obtain ⟨g1, g2, g3⟩ := rv_iff.1 hr
    have g4 := lt_len g3
    have e : l[j].2.data.toList.length = l[j].2.size := Array.length_toList
    rcases hs with ⟨rfl, _⟩ | ⟨b, off, ha, hn, _, hat⟩
    · simp at h
    · have hlt := hat.lt hn
      refine ⟨b, off, l[j].1.toNat, l[j].2, ha, Nat.lt_of_lt_of_le hlt hW.size, ?_, (hW.cell (p := ⟨_, _, _⟩) hlt).trans (hat j h).2, by omega, by omega, fun h0 => ?_, fun h0 => ldG_succ h h0⟩
      · rw [(hW.cell (p := ⟨_, _, _⟩) hlt).trans (hat j h).1, Int.toNat_of_nonneg g1]
      · subst h0; exact ldG_zero h)
  have hlen := lv_len hv
  obtain ⟨n, hn⟩ : ∃ n, l.length = n := ⟨_, rfl⟩
  have HN0 := Lib.hid hn
  rw [hn] at hc hlen ⊢
  clear hs hn hi hz0 hz1 hz2 hv
  go_enter Try.func84, Try.ntmps84
  go_wp2_with fail
  go_loopw [10, 3] (fun i v wr => ∃ (j : Nat) (p : F) (fs1 : List Nat), j ≤ n ∧ i = .int .i64 (j : Int) ∧ Hid (ldF l = p.app (ldG j l)) ∧ Grow wr 29 w.heap.size v p fs1 ∧ Below w.heap.size w wr) (fun i _ _ => n - (intOf i).toNat)
  case atStart => exact ⟨0, .nil, [], Nat.zero_le _, rfl, Lib.hid (by rw [ldG_all]; rfl), Grow.start _ _ _ (Nat.le_refl _), Below.refl _ _⟩
  case round =>
    obtain ⟨j, p, fs1, hj, rfl, HEQ, hG, hbw⟩ := hrel
    by_cases hjn : j < n
    · obtain ⟨b, off, II, s, rfl, hb, c0, c1, hI, hs, hz, hp⟩ := HR.out wr hbw j (by have := HN0.out; omega)
      have i0' : (0 : Int) ≤ (j : Int) := Int.natCast_nonneg _
      have i1 : (j : Int) < (n : Int) := by omega
      obtain ⟨av, cv, rfl, hcv, hsv, hcm⟩ := hG.slice
      obtain ⟨q, hq⟩ : ∃ q, p.len = q := ⟨_, rfl⟩
      have HGB := Lib.hid (And.intro hG hbw)
      by_cases h0 : j = 0
      · subst h0
        simp only [Nat.zero_mul, Nat.add_zero] at c0 c1
        have HAT := Lib.hid (show ∀ ob, ∃ (p2 : F) (f2 : List Nat) (s2 : ByteArray), Value.string s = .string s2 ∧ s2.size ≤ 2000 ∧ Hid (ldF l = p2.app ((pcs s2).app (ldG (0 + 1) l))) ∧ Grow (wr.alloc ob) 29 w.heap.size (.slice av p.len cv) p2 f2 ∧ Below w.heap.size w (wr.alloc ob) from fun ob => ⟨p, fs1, s, rfl, hs, Lib.hid (by rw [HEQ.out, hz rfl]), hG.alloc ob, hbw.alloc hbw.size ob⟩)
        rw [hq] at HAT ⊢
        rw [show ((0 : Nat) : Int) = 0 from rfl] at i0' i1 ⊢
        clear hz hp hG hbw hsv hcv hq
        go_wp2_with fail
        go_loopw [3, 6] (fun v r wx => ∃ (p2 : F) (f2 : List Nat) (s2 : ByteArray), r = .string s2 ∧ s2.size ≤ 2000 ∧ Hid (ldF l = p2.app ((pcs s2).app (ldG (0 + 1) l))) ∧ Grow wx 29 w.heap.size v p2 f2 ∧ Below w.heap.size w wx) (fun _ r _ => strSz r)
        case atStart => exact HAT.out _
        case round =>
          obtain ⟨p2, f2, s2, rfl, hs2, HEQ2, hG2, hbw2⟩ := hrel
          by_cases h0 : 0 < s2.size
          · obtain ⟨m, hm⟩ : ∃ m, min s2.size 12 = m := ⟨_, rfl⟩
            have hmin : min (s2.size : Int) 12 = (m : Int) := by omega
            obtain ⟨e1, e2⟩ := bytes_some (t := s2) (by omega)
            have i0 : (0 : Int) ≤ (m : Int) := Int.natCast_nonneg _
            have i1 : (m : Int) ≤ (s2.size : Int) := by omega
            have i2 : (s2.size : Int) ≤ 2000 := by omega
            have HP := Lib.hid (pcs_some h0 hm)
            have hpl : p2.len ≤ 2000000 := by have := HTOT.out; rw [HEQ2.out, F.len_app] at this; omega
            have HH := Lib.hid (And.intro hG2 (And.intro hbw2 (And.intro h0 hm)))
            clear hG2 hbw2 hm
            go_wp2_with (first
              | (go_at_call 128; refine (Copy.clone _ _ (by rw [ByteArray.size_extract]; omega)).mono ?_; rintro e1 w1 ⟨rfl, hb1⟩; have HST := Lib.hid (fun ob => mid_d (ob := ob) HH.out.1 hb1); clear hb1)
              | (at_builtin; refine append_doc rfl (.tmp 31) (.tmp 37) 27 rfl Try.underlying27 HI.out.1 HI.out.2.1 HI.out.2.2.1 HI.out.2.2.2 rfl rfl (HST.out _).1 (d := w1.heap.size) (c := 1) rfl (cell_new w1 _ _ 0 _ rfl) (cell_new w1 _ _ 1 _ rfl) (cell_new w1 _ _ 2 _ rfl) (cell_new w1 _ _ 3 _ rfl) (Nat.le_refl 0) (show SubAt _ none .nil [] from Or.inl ⟨rfl, rfl⟩) (Fresh.nil _ _) (HST.out (.cells #[] 0)).2.1 (HST.out (.cells #[] 0)).2.2.1 (HST.out (.cells #[] 0)).2.2.2.1 (by omega) ?_; intro v' w2 fs' hG' hb' hg'; have HN := Lib.hid (And.intro hG' hb'); clear hG' hb' hg'))
            go_roundw
            case rel =>
              have hch := mid_end (HST.out (.cells #[] 0)).2.2.2.2 HN.out.2 HH.out.1.2.2.2
              refine ⟨_, _, _, rfl, by rw [ByteArray.size_extract]; omega, Lib.hid ?_, HN.out.1, HH.out.2.1.trans hch⟩
              rw [HEQ2.out, HP.out, F.app_assoc]; rfl
            case measure =>
              show (s2.extract m s2.size).size < s2.size
              rw [ByteArray.size_extract]
              have := HH.out.2.2
              omega
          · have hz : s2 = ⟨#[]⟩ := by
              have e : s2.size = 0 := by omega
              obtain ⟨d⟩ := s2
              have : d.size = 0 := e
              rw [Array.eq_empty_of_size_eq_zero this]
            subst hz
            have HEQ3 := Lib.hid (show ldF l = p2.app (ldG (0 + 1) l) by rw [HEQ2.out, pcs_none (by rfl)]; rfl)
            have HH := Lib.hid (And.intro hG2 hbw2)
            clear hG2 hbw2 HEQ2
            go_wp2_with fail
            go_roundw
            case rel => exact ⟨0 + 1, p2, f2, by omega, by go_num, HEQ3, HH.out.1, HH.out.2⟩
            case measure => simp [intOf]; omega
      · have i2 : (0 : Int) < (j : Int) := by omega
        have hX := hp (by omega)
        obtain ⟨⟨o3, n3, t3, k3⟩, hnl⟩ : ∃ d : D, nlD II = d := ⟨_, rfl⟩
        have hne := fun (W : World) => inNests W 5 0 ⟨#[]⟩ none 0 II (by omega)
        rw [show nests II (5, 0, ⟨#[]⟩, .nil) = (o3, n3, t3, k3) from hnl] at hne
        rw [hnl] at hX
        have HNE := Lib.hid hne
        have HX := Lib.hid hX
        have hql : q ≤ 1000000 := by have := HTOT.out; rw [HEQ.out, F.len_app, hq] at this; omega
        rw [hq] at HGB ⊢
        have HQ := Lib.hid hq
        have ROW := Lib.hid (show ∀ u0 u1 T, (wr.alloc (.cells #[u0, u1] T)).cell? ⟨wr.heap.size, 1, none⟩ = some u1 from fun u0 u1 T => by rw [World.cell?_alloc_new]; rfl)
        clear hz hp hX hne hnl hG hbw hsv hcv hq
        go_wp2_with (first
          | (go_at_call 127; refine (HNE.out _).mono ?_; rintro e1 w1 ⟨a2, cap2, f2, rfl, hc2, hs2, hfr2, hb2⟩; simp only at hc2 hs2 ⊢; have HST := Lib.hid (fun ob => mid_d (ob := ob) (HGB.out.1.alloc _) hb2); have y1 := (hb2.cell (p := ⟨wr.heap.size, 1, none⟩) (by simp)).trans (ROW.out _ _ _); have ly : wr.heap.size < w1.heap.size := (by have := hb2.size; simp at this; omega); have H2 := Lib.hid (And.intro hc2 (And.intro hs2 (And.intro hfr2 (And.intro y1 ly)))); clear hc2 hs2 hfr2 hb2 y1 ly)
          | (at_builtin; refine append_doc rfl (.tmp 17) (.tmp 22) 27 rfl Try.underlying27 HI.out.1 HI.out.2.1 HI.out.2.2.1 HI.out.2.2.2 rfl rfl (HST.out _).1 (d := w1.heap.size) (c := 1) rfl (cell_new w1 _ _ 0 _ rfl) (cell_new w1 _ _ 1 _ rfl) (cell_new w1 _ _ 2 _ rfl) (cell_new w1 _ _ 3 _ rfl) H2.out.1 (H2.out.2.1.below H2.out.2.2.1.lt ((Below.refl _ _).alloc (Nat.le_refl _) _)) (H2.out.2.2.1.below H2.out.2.2.1.lt ((Below.refl _ _).alloc (Nat.le_refl _) _)) (HST.out (.cells #[] 0)).2.1 (HST.out (.cells #[] 0)).2.2.1 (HST.out (.cells #[] 0)).2.2.2.1 (by have := HQ.out; omega) ?_; intro v' w2 fs' hG' hb' hg'; have y2 := row_cell H2.out.2.2.2.1 H2.out.2.2.2.2 hg' (fun e => by have := (HGB.out.1.own_lt _ e).2; omega); have HN := Lib.hid (And.intro hG' hb'); clear hG' hb' hg'))
        have HAT := Lib.hid (show ∃ (p2 : F) (f2 : List Nat) (s2 : ByteArray), Value.string s = .string s2 ∧ s2.size ≤ 2000 ∧ Hid (ldF l = p2.app ((pcs s2).app (ldG (j + 1) l))) ∧ Grow w2 29 w.heap.size v' p2 f2 ∧ Below w.heap.size w w2 from ⟨p.app (.cons o3 n3 t3 k3 .nil), fs', s, rfl, hs, Lib.hid (by rw [HEQ.out, HX.out, F.app_assoc]; rfl), HN.out.1, (HGB.out.2.alloc HGB.out.2.size _).trans (mid_end (HST.out (.cells #[] 0)).2.2.2.2 HN.out.2 (by have := HGB.out.2.size; simp; omega))⟩)
        go_loopw [3, 6] (fun v r wx => ∃ (p2 : F) (f2 : List Nat) (s2 : ByteArray), r = .string s2 ∧ s2.size ≤ 2000 ∧ Hid (ldF l = p2.app ((pcs s2).app (ldG (j + 1) l))) ∧ Grow wx 29 w.heap.size v p2 f2 ∧ Below w.heap.size w wx) (fun _ r _ => strSz r)
        case atStart => exact HAT.out
        case round =>
          obtain ⟨p2, f2, s2, rfl, hs2, HEQ2, hG2, hbw2⟩ := hrel
          by_cases h0 : 0 < s2.size
          · obtain ⟨m, hm⟩ : ∃ m, min s2.size 12 = m := ⟨_, rfl⟩
            have hmin : min (s2.size : Int) 12 = (m : Int) := by omega
            obtain ⟨e1, e2⟩ := bytes_some (t := s2) (by omega)
            have i0 : (0 : Int) ≤ (m : Int) := Int.natCast_nonneg _
            have i1 : (m : Int) ≤ (s2.size : Int) := by omega
            have i2 : (s2.size : Int) ≤ 2000 := by omega
            have HP := Lib.hid (pcs_some h0 hm)
            have hpl : p2.len ≤ 2000000 := by have := HTOT.out; rw [HEQ2.out, F.len_app] at this; omega
            have HH := Lib.hid (And.intro hG2 (And.intro hbw2 (And.intro h0 hm)))
            clear hG2 hbw2 hm
            go_wp2_with (first
              | (go_at_call 128; refine (Copy.clone _ _ (by rw [ByteArray.size_extract]; omega)).mono ?_; rintro e1 w1 ⟨rfl, hb1⟩; have HST := Lib.hid (fun ob => mid_d (ob := ob) HH.out.1 hb1); clear hb1)
              | (at_builtin; refine append_doc rfl (.tmp 31) (.tmp 37) 27 rfl Try.underlying27 HI.out.1 HI.out.2.1 HI.out.2.2.1 HI.out.2.2.2 rfl rfl (HST.out _).1 (d := w1.heap.size) (c := 1) rfl (cell_new w1 _ _ 0 _ rfl) (cell_new w1 _ _ 1 _ rfl) (cell_new w1 _ _ 2 _ rfl) (cell_new w1 _ _ 3 _ rfl) (Nat.le_refl 0) (show SubAt _ none .nil [] from Or.inl ⟨rfl, rfl⟩) (Fresh.nil _ _) (HST.out (.cells #[] 0)).2.1 (HST.out (.cells #[] 0)).2.2.1 (HST.out (.cells #[] 0)).2.2.2.1 (by omega) ?_; intro v' w2 fs' hG' hb' hg'; have HN := Lib.hid (And.intro hG' hb'); clear hG' hb' hg'))
            go_roundw
            case rel =>
              have hch := mid_end (HST.out (.cells #[] 0)).2.2.2.2 HN.out.2 HH.out.1.2.2.2
              refine ⟨_, _, _, rfl, by rw [ByteArray.size_extract]; omega, Lib.hid ?_, HN.out.1, HH.out.2.1.trans hch⟩
              rw [HEQ2.out, HP.out, F.app_assoc]; rfl
            case measure =>
              show (s2.extract m s2.size).size < s2.size
              rw [ByteArray.size_extract]
              have := HH.out.2.2
              omega
          · have hz : s2 = ⟨#[]⟩ := by
              have e : s2.size = 0 := by omega
              obtain ⟨d⟩ := s2
              have : d.size = 0 := e
              rw [Array.eq_empty_of_size_eq_zero this]
            subst hz
            have HEQ3 := Lib.hid (show ldF l = p2.app (ldG (j + 1) l) by rw [HEQ2.out, pcs_none (by rfl)]; rfl)
            have HH := Lib.hid (And.intro hG2 hbw2)
            clear hG2 hbw2 HEQ2
            go_wp2_with fail
            go_roundw
            case rel => exact ⟨j + 1, p2, f2, by omega, by go_num, HEQ3, HH.out.1, HH.out.2⟩
            case measure => simp [intOf]; omega
    · obtain rfl : n = j := by omega
      obtain ⟨av, cv, rfl, hcv, hsv, hcm⟩ := hG.slice
      have hE : ldF l = p := by rw [HEQ.out, ldG_end (by have := HN0.out; omega), F.app_nil]
      have HF := Lib.hid (And.intro hE (And.intro hcv (And.intro hsv (And.intro hG.fresh hbw))))
      obtain ⟨q, hq⟩ : ∃ q, p.len = q := ⟨_, rfl⟩
      rw [hq]
      have HQ := Lib.hid hq
      clear hG hbw hsv hcv hE hq
      go_wp2_with fail
      go_ret
      obtain ⟨hE, hcv, hsv, hfr, hbw⟩ := HF.out
      rw [hE, ← HQ.out]
      exact ⟨av, cv, fs1, rfl, hcv, hsv, hfr, hbw⟩

theorem implLayoutDoc (w : World) (l : List (Int × ByteArray)) (a : Option Addr) (cap : Nat) (fs : List Nat) (hs : LaySub w a l fs) (hc : l.length ≤ cap) (hl : l.length ≤ maxLen) (ht : L.Fits l) :
    Calls Try.prog 39 #[.slice a l.length cap] w (DocRes w (ldR l)) := by
  have hV := fun (W : World) (e : Ext w W) => LayV.implLayoutValid l W a cap fs (hs.below hs.lt e) hc hl ht
  have HZ := Lib.hid (fun (w' : World) (k : Ext (w.alloc (.cells #[.int .i64 0, .int .i64 0, .string ⟨#[]⟩, .slice none 0 0] 29)) w') => (ZBox.alloc w 29).ext k)
  have HE := Lib.hid (show ∀ x, Ext w (w.alloc x) from fun x => (Ext.refl w).alloc x)
  obtain ⟨n, hn⟩ : ∃ n, l.length = n := ⟨_, rfl⟩
  cases hv : lv l with
  | false =>
    rw [hv] at hV
    rw [ld_no (fun h => by rw [hv] at h; cases h.1)]
    rw [hn] at hV ⊢
    have HV := Lib.hid hV
    clear hV hs hc hl ht hv hn
    go_enter Try.func39, Try.ntmps39
    go_wp2_with fail
    refine (HV.out _ (HE.out _)).mono ?_
    rintro e1 w1 ⟨rfl, hb⟩
    have E1 := Lib.hid (Ext.trans (HE.out _) hb)
    obtain ⟨⟨z0, z1, z2, z3⟩, ⟨z4, z5, z6, z7⟩, z8⟩ := HZ.out _ hb
    clear hb
    go_wp2_with fail
    refine bodyPost_ret (v := .tuple #[.agg #[.int .i64 0, .int .i64 0, .string ⟨#[]⟩, .slice none 0 0], .bool false]) (by simp [results, Try.results39, go_sem, z0, z1, z2, z3, z4, z5, z6, z7, z8]) rfl ?_
    refine end_no (lo := w.heap.size) (hi := w.heap.size + 1) (Nat.le_refl _) E1.out ?_
    repeat (first | exact Touch.refl _ _ _ | refine Touch.setCell ?_ (by simp) (by simp) _)
  | true =>
    rw [hv] at hV
    have hP := fun (W : World) (e : Ext w W) => layoutParts W l hv a cap fs (hs.below hs.lt e) hc
    have hfit := ld_fit hv
    have hall := ld_size l
    rw [hn] at hV hP ⊢
    have hval := fun (W : World) (a1 : Option Addr) (c1 : Nat) (f1 : List Nat) (h1 : SubAt W a1 (catAll (ldF l)).2.2.2 f1) (h2 : ∀ c ∈ f1, c < W.heap.size) (h3 : (catAll (ldF l)).2.2.2.len ≤ c1) => PartV.docValid W (catAll (ldF l)).1 (catAll (ldF l)).2.1 (catAll (ldF l)).2.2.1 (catAll (ldF l)).2.2.2 a1 c1 f1 h1 h2 h3 (by have := F.len_le_size (catAll (ldF l)).2.2.2; unfold maxLen; omega) (fits_of_size (m := 2000002) (by unfold maxLen; omega) _ (by omega)) (by unfold maxLen; omega)
    have hcat := fun (W : World) (lo : Nat) (a1 : Option Addr) (c1 : Nat) (f1 : List Nat) (h0 : (ldF l).len ≤ 100) (h1 : lo ≤ W.heap.size) (h2 : SubAt W a1 (ldF l) f1) (h3 : Fresh lo W f1) (h4 : (ldF l).len ≤ c1) => catAllOf W lo (ldF l) a1 c1 f1 (by omega) h1 h2 h3 h4
    obtain ⟨pv, hpv⟩ : ∃ p, validD (catAll (ldF l)).1 (catAll (ldF l)).2.1 (catAll (ldF l)).2.2.1 (catAll (ldF l)).2.2.2 = p := ⟨_, rfl⟩
    rw [hpv] at hval
    have hr : ldR l = if (ldF l).len ≤ 100 then (if pv then (true, catAll (ldF l)) else (false, zeroD)) else (false, zeroD) := by
      by_cases h1 : (ldF l).len ≤ 100
      · rw [if_pos h1]
        cases pv with
        | true => rw [if_pos rfl]; exact ld_yes hv h1 hpv
        | false => rw [if_neg (by decide)]; exact ld_no (fun h => by rw [hpv] at h; cases h.2.2)
      · rw [if_neg h1]; exact ld_no (fun h => h1 h.2.1)
    rw [hr]
    obtain ⟨FF, hFF⟩ : ∃ f, ldF l = f := ⟨_, rfl⟩
    rw [hFF] at hP hval hcat ⊢
    obtain ⟨⟨o9, n9, t9, k9⟩, h9⟩ : ∃ d, catAll FF = d := ⟨_, rfl⟩
    rw [h9] at hval hcat ⊢
    have HV := Lib.hid hV
    have HP := Lib.hid hP
    have HVA := Lib.hid hval
    have HCA := Lib.hid hcat
    obtain ⟨N, hN⟩ : ∃ N, FF.len = N := ⟨_, rfl⟩
    have HN := Lib.hid hN
    clear hV hP hval hcat hr hpv hFF h9 hfit hall hs hc hl ht hv hn
    rw [hN]
    by_cases hN1 : N ≤ 100
    · rw [if_pos hN1]
      have i1 : ¬ ((100 : Int) < (N : Int)) := by omega
      cases pv
      all_goals
        go_enter Try.func39, Try.ntmps39
        go_wp2_with fail
        refine (HV.out _ (HE.out _)).mono ?_
        rintro e1 w1 ⟨rfl, hb⟩
        have E1 := Lib.hid (Ext.trans (HE.out _) hb)
        have Z1 := Lib.hid (HZ.out _ hb)
        have hz1 : w.heap.size + 1 ≤ w1.heap.size := by have := hb.size; simp at this; omega
        clear hb
        go_wp2_with fail
        refine (HP.out _ E1.out).mono ?_
        rintro e2 w2 ⟨a2, c2, f2, rfl, hc2, hs2, hfr2, hb2⟩
        have H2 := Lib.hid (And.intro hc2 (And.intro hs2 (And.intro (hfr2.mono hz1) hb2)))
        have Z2 := Lib.hid (Z1.out.ext hb2)
        have hz2 : w.heap.size + 1 ≤ w2.heap.size := Nat.le_trans hz1 hb2.size
        clear hc2 hs2 hfr2 hb2
        rw [HN.out]
        have hq2 := HCA.out w2 (w.heap.size + 1) a2 c2 f2 (by have := HN.out; omega) hz2 H2.out.2.1 H2.out.2.2.1 H2.out.1
        rw [HN.out] at hq2
        have HQ2 := Lib.hid hq2
        clear hq2
        go_wp2_with fail
        refine HQ2.out.mono ?_
        rintro e3 w3 ⟨a3, c3, f3, rfl, hc3, hs3, hfr3, hb3⟩
        simp only at hc3 hs3 ⊢
        have Z3 := Lib.hid (Z2.out.ext hb3)
        have hE3 : Ext w w3 := Ext.trans E1.out (Ext.trans H2.out.2.2.2 hb3)
        have hlt3 := hfr3.lt
        have H3 := Lib.hid (And.intro hc3 (And.intro hs3 (And.intro hfr3 hE3)))
        obtain ⟨L9, hL9⟩ : ∃ q, k9.len = q := ⟨_, rfl⟩
        have HL9 := Lib.hid hL9
        have hq3 := fun (ob : Obj) => HVA.out (w3.alloc ob) a3 c3 f3 (hs3.below hlt3 ((Ext.refl w3).alloc ob)) (fun c hc => by have := hlt3 c hc; simp; omega) hc3
        rw [hL9] at hq3 ⊢
        have HQ3 := Lib.hid hq3
        have B3 := Lib.hid (show ∀ (u0 u1 u2 u3 : Value) (T : TypeId) (w4 : World), Ext (w3.alloc (.cells #[u0, u1, u2, u3] T)) w4 → Four w3.heap.size u0 u1 u2 u3 w4 ∧ w3.heap.size < w4.heap.size from fun u0 u1 u2 u3 T w4 e => by
          have h1 : Four w3.heap.size u0 u1 u2 u3 (w3.alloc (.cells #[u0, u1, u2, u3] T)) := by refine ⟨?_, ?_, ?_, ?_⟩ <;> (rw [World.cell?_alloc_new]; rfl)
          exact ⟨h1.below e (by simp), Nat.lt_of_lt_of_le (by simp) e.size⟩)
        clear hc3 hs3 hfr3 hb3 hq3 hlt3 hE3 hL9
        go_wp2_with fail
        refine (HQ3.out _).mono ?_
        rintro e4 w4 ⟨rfl, hb4⟩
        obtain ⟨⟨x0, x1, x2, x3⟩, xl⟩ := B3.out _ _ _ _ _ w4 hb4
        obtain ⟨⟨z0, z1, z2, z3⟩, ⟨z4, z5, z6, z7⟩, z8⟩ := (Z3.out.ext ((Ext.refl w3).alloc _)).ext hb4
        have hE4 : Ext w3 w4 := ((Ext.refl w3).alloc _).trans hb4
        have E4 := Lib.hid hE4
        clear hb4 hE4
        go_wp2_with fail
      · refine bodyPost_ret (v := .tuple #[.agg #[.int .i64 0, .int .i64 0, .string ⟨#[]⟩, .slice none 0 0], .bool false]) (by simp [results, Try.results39, go_sem, z0, z1, z2, z3, z4, z5, z6, z7, z8]) rfl ?_
        refine end_no (lo := w.heap.size) (hi := w.heap.size + 1) (Nat.le_refl _) (Ext.trans H3.out.2.2.2 E4.out) ?_
        repeat (first | exact Touch.refl _ _ _ | refine Touch.setCell ?_ (by simp) (by simp) _)
      · refine bodyPost_ret (v := .tuple #[.agg #[.int .i64 o9, .int .i64 n9, .string t9, .slice a3 L9 c3], .bool true]) (by simp [results, Try.results39, go_sem, z0, z1, z2, z3, z4, z5, z6, z7, z8]) rfl ?_
        rw [← HL9.out]
        refine end_pair (d := (o9, n9, t9, k9)) (lo := w.heap.size) (hi := w.heap.size + 1) (H3.out.2.1.below H3.out.2.2.1.lt E4.out) (H3.out.2.2.1.below H3.out.2.2.1.lt E4.out) H3.out.1 (Nat.le_refl _) (Nat.le_refl _) (Nat.le_succ _) (Ext.trans H3.out.2.2.2 E4.out) ?_
        repeat (first | exact Touch.refl _ _ _ | refine Touch.setCell ?_ (by simp) (by simp) _)
    · rw [if_neg hN1]
      have i1 : (100 : Int) < (N : Int) := by omega
      go_enter Try.func39, Try.ntmps39
      go_wp2_with fail
      refine (HV.out _ (HE.out _)).mono ?_
      rintro e1 w1 ⟨rfl, hb⟩
      have E1 := Lib.hid (Ext.trans (HE.out _) hb)
      have Z1 := Lib.hid (HZ.out _ hb)
      clear hb
      go_wp2_with fail
      refine (HP.out _ E1.out).mono ?_
      rintro e2 w2 ⟨a2, c2, f2, rfl, hc2, hs2, hfr2, hb2⟩
      have E2 := Lib.hid (Ext.trans E1.out hb2)
      obtain ⟨⟨z0, z1, z2, z3⟩, ⟨z4, z5, z6, z7⟩, z8⟩ := Z1.out.ext hb2
      clear hc2 hs2 hfr2 hb2
      rw [HN.out]
      go_wp2_with fail
      refine bodyPost_ret (v := .tuple #[.agg #[.int .i64 0, .int .i64 0, .string ⟨#[]⟩, .slice none 0 0], .bool false]) (by simp [results, Try.results39, go_sem, z0, z1, z2, z3, z4, z5, z6, z7, z8]) rfl ?_
      refine end_no (lo := w.heap.size) (hi := w.heap.size + 1) (Nat.le_refl _) E2.out ?_
      repeat (first | exact Touch.refl _ _ _ | refine Touch.setCell ?_ (by simp) (by simp) _)

end Go.Proofs.Ytmkibpimjaofgaa.Nf


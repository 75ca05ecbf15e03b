import Derived.Test.YtmkibpimjaofgaaLdI
import Derived.Test.YtmkibpimjaofgaaFuX
/-
  LayoutDoc of the model: l8Pieces, l7Of of no documents, the function.
-/
set_option linter.unusedVariables false
set_option linter.unusedSimpArgs false
set_option maxRecDepth 100000
set_option maxHeartbeats 6400000
namespace Go.Proofs.Ytmkibpimjaofgaa.Nf
open Go.RowKit P1 Copy CatD

def PieceOut (w : World) (lo : Nat) (p : F) (s : ByteArray) (e : Ending) (w' : World) : Prop :=
  ((∃ (s1 : ByteArray) (P Q : F), pcs s = P.app (.cons 2 0 s1 .nil Q) ∧ tv s1.data.toList = false) ∧ ∃ v', e = .returned (.tuple #[v', .bool false]) ∧ Below lo w w') ∨
  (∃ (v' : Value) (fs' : List Nat), e = .returned (.tuple #[v', .bool true]) ∧ Grow w' 29 lo v' (p.app (pcs s)) fs' ∧ Below lo w w')

theorem l8Pieces (w : World) (lo : Nat) (av : Option Addr) (q cv : Nat) (p : F) (fs : List Nat) (s : ByteArray) (hG : Grow w 29 lo (.slice av q cv) p fs) (hs : s.size ≤ 2000) (hp : p.len ≤ 2000000) :
    Calls Try.prog 80 #[.slice av q cv, .string s] w (PieceOut w lo p s) := by
  obtain ⟨i0, hi, hz0, hz1, hz2⟩ := info_parts To.info
  have HI := Lib.hid (And.intro hi (And.intro hz0 (And.intro hz1 hz2)))
  have HAT := Lib.hid (show ∃ (p2 : F) (f2 : List Nat) (s2 : ByteArray), Value.string s = .string s2 ∧ s2.size ≤ 2000 ∧ p2.len + s2.size ≤ 2002000 ∧ Hid (∃ PP : F, pcs s = PP.app (pcs s2) ∧ p2 = p.app PP) ∧ Grow w 29 lo (.slice av q cv) p2 f2 ∧ Below lo w w from ⟨p, fs, s, rfl, hs, by omega, Lib.hid ⟨.nil, rfl, (F.app_nil p).symm⟩, hG, Below.refl _ _⟩)
  clear hG hi hz0 hz1 hz2
  go_enter Try.func80, Try.ntmps80
  go_wp2_with fail
  go_loopw [0, 1] (fun v r wx => ∃ (p2 : F) (f2 : List Nat) (s2 : ByteArray), r = .string s2 ∧ s2.size ≤ 2000 ∧ p2.len + s2.size ≤ 2002000 ∧ Hid (∃ PP : F, pcs s = PP.app (pcs s2) ∧ p2 = p.app PP) ∧ Grow wx 29 lo v p2 f2 ∧ Below lo w wx) (fun _ r _ => strSz r)
  case atStart => exact HAT.out
  case round =>
    obtain ⟨p2, f2, s2, rfl, hs2, hpl, HEQ2, hG2, hbw2⟩ := hrel
    obtain ⟨av2, cv2, rfl, hcv2, _, _⟩ := hG2.slice
    obtain ⟨q2, hq2⟩ : ∃ q, p2.len = q := ⟨_, rfl⟩
    rw [hq2] at hG2 ⊢
    have HLO := Lib.hid hG2.2.2.2
    by_cases h0 : 0 < s2.size
    · have i0 : (0 : Int) < (s2.size : Int) := by omega
      have i2 : (s2.size : Int) ≤ 2000 := by omega
      by_cases h12 : 12 < s2.size
      · have i3 : (12 : Int) < (s2.size : Int) := by omega
        have i4 : (12 : Int) ≤ (s2.size : Int) := by omega
        have HP := Lib.hid (show pcs s2 = .cons 2 0 (s2.extract 0 12) .nil (pcs (s2.extract 12 s2.size)) by rw [pcs_some h0 (show min s2.size 12 = 12 by omega)])
        cases htv : tv (s2.extract 0 12).data.toList with
        | false =>
          have HTV := Lib.hid (show ∃ (s1 : ByteArray) (P Q : F), pcs s = P.app (.cons 2 0 s1 .nil Q) ∧ tv s1.data.toList = false from by
            obtain ⟨PP, h1, h2⟩ := HEQ2.out
            exact ⟨(s2.extract 0 12), PP, pcs (s2.extract 12 s2.size), by rw [h1, HP.out], htv⟩)
          have hq := TextV.specTextValid (s2.extract 0 12) (by rw [ByteArray.size_extract]; unfold maxLen; omega)
          rw [htv] at hq
          have HQT := Lib.hid hq
          have HB := Lib.hid hbw2
          clear hq htv hG2 hbw2
          go_wp2_with fail
          refine (HQT.out _).mono ?_
          rintro e1 w1 ⟨rfl, rfl⟩
          go_wp2_with fail
          go_ret2
          exact Or.inl ⟨HTV.out, _, rfl, HB.out⟩
        | true =>
          have hq := TextV.specTextValid (s2.extract 0 12) (by rw [ByteArray.size_extract]; unfold maxLen; omega)
          rw [htv] at hq
          have HQT := Lib.hid hq
          have HH := Lib.hid (And.intro hG2 (And.intro hbw2 h0))
          have hpl := hpl
          clear hq htv hG2 hbw2
          go_wp2_with fail
          refine (HQT.out _).mono ?_
          rintro e1 w1 ⟨rfl, rfl⟩
          have HST := Lib.hid (fun ob => mid_d (ob := ob) HH.out.1 (Below.refl wr.heap.size wr))
          go_wp2_with (at_builtin; refine append_doc rfl (.tmp 20) (.tmp 25) 27 rfl Try.underlying27 HI.out.1 HI.out.2.1 HI.out.2.2.1 HI.out.2.2.2 rfl rfl (HST.out _).1 (d := wr.heap.size) (c := 1) rfl (cell_new wr _ _ 0 _ rfl) (cell_new wr _ _ 1 _ rfl) (cell_new wr _ _ 2 _ rfl) (cell_new wr _ _ 3 _ rfl) (Nat.le_refl 0) (show SubAt _ none .nil [] from Or.inl ⟨rfl, rfl⟩) (Fresh.nil _ _) (HST.out (.cells #[] 0)).2.1 (HST.out (.cells #[] 0)).2.2.1 (HST.out (.cells #[] 0)).2.2.2.1 (by omega) ?_; intro v' w2 fs' hG' hb' hg'; have HN := Lib.hid (And.intro hG' hb'); clear hG' hb' hg')
          go_roundw
          case rel =>
            have hch := mid_end (HST.out (.cells #[] 0)).2.2.2.2 HN.out.2 HH.out.1.2.2.2
            obtain ⟨PP, h1, h2⟩ := HEQ2.out
            obtain ⟨av3, cv3, hv3, _⟩ := HN.out.1.slice
            refine ⟨p2.app (.cons 2 0 (s2.extract 0 12) .nil .nil), fs', (s2.extract 12 s2.size), rfl, by rw [ByteArray.size_extract]; omega, by rw [F.len_app]; rw [ByteArray.size_extract]; show p2.len + 1 + _ ≤ _; omega, Lib.hid ⟨PP.app (.cons 2 0 (s2.extract 0 12) .nil .nil), by rw [h1, HP.out, F.app_assoc]; rfl, by rw [h2, F.app_assoc]⟩, HN.out.1, HH.out.2.1.trans hch⟩
          case measure =>
            show (s2.extract 12 s2.size).size < s2.size
            rw [ByteArray.size_extract]
            have := HH.out.2.2
            omega
      · have i3 : ¬ ((12 : Int) < (s2.size : Int)) := by omega
        have HP := Lib.hid (show pcs s2 = .cons 2 0 s2 .nil (pcs ByteArray.empty) by rw [pcs_some h0 (show min s2.size 12 = s2.size by omega), ByteArray.extract_zero_size, (by simp : s2.extract s2.size s2.size = ByteArray.empty)])
        cases htv : tv s2.data.toList with
        | false =>
          have HTV := Lib.hid (show ∃ (s1 : ByteArray) (P Q : F), pcs s = P.app (.cons 2 0 s1 .nil Q) ∧ tv s1.data.toList = false from by
            obtain ⟨PP, h1, h2⟩ := HEQ2.out
            exact ⟨s2, PP, pcs ByteArray.empty, by rw [h1, HP.out], htv⟩)
          have hq := TextV.specTextValid s2 (by unfold maxLen; omega)
          rw [htv] at hq
          have HQT := Lib.hid hq
          have HB := Lib.hid hbw2
          clear hq htv hG2 hbw2
          go_wp2_with fail
          refine (HQT.out _).mono ?_
          rintro e1 w1 ⟨rfl, rfl⟩
          go_wp2_with fail
          go_ret2
          exact Or.inl ⟨HTV.out, _, rfl, HB.out⟩
        | true =>
          have hq := TextV.specTextValid s2 (by unfold maxLen; omega)
          rw [htv] at hq
          have HQT := Lib.hid hq
          have HH := Lib.hid (And.intro hG2 (And.intro hbw2 h0))
          have hpl := hpl
          clear hq htv hG2 hbw2
          go_wp2_with fail
          refine (HQT.out _).mono ?_
          rintro e1 w1 ⟨rfl, rfl⟩
          have HST := Lib.hid (fun ob => mid_d (ob := ob) HH.out.1 (Below.refl wr.heap.size wr))
          go_wp2_with (at_builtin; refine append_doc rfl (.tmp 20) (.tmp 25) 27 rfl Try.underlying27 HI.out.1 HI.out.2.1 HI.out.2.2.1 HI.out.2.2.2 rfl rfl (HST.out _).1 (d := wr.heap.size) (c := 1) rfl (cell_new wr _ _ 0 _ rfl) (cell_new wr _ _ 1 _ rfl) (cell_new wr _ _ 2 _ rfl) (cell_new wr _ _ 3 _ rfl) (Nat.le_refl 0) (show SubAt _ none .nil [] from Or.inl ⟨rfl, rfl⟩) (Fresh.nil _ _) (HST.out (.cells #[] 0)).2.1 (HST.out (.cells #[] 0)).2.2.1 (HST.out (.cells #[] 0)).2.2.2.1 (by omega) ?_; intro v' w2 fs' hG' hb' hg'; have HN := Lib.hid (And.intro hG' hb'); clear hG' hb' hg')
          go_roundw
          case rel =>
            have hch := mid_end (HST.out (.cells #[] 0)).2.2.2.2 HN.out.2 HH.out.1.2.2.2
            obtain ⟨PP, h1, h2⟩ := HEQ2.out
            obtain ⟨av3, cv3, hv3, _⟩ := HN.out.1.slice
            refine ⟨p2.app (.cons 2 0 s2 .nil .nil), fs', ByteArray.empty, rfl, by show 0 ≤ 2000; omega, by rw [F.len_app]; show p2.len + 1 + 0 ≤ _; omega, Lib.hid ⟨PP.app (.cons 2 0 s2 .nil .nil), by rw [h1, HP.out, F.app_assoc]; rfl, by rw [h2, F.app_assoc]⟩, HN.out.1, HH.out.2.1.trans hch⟩
          case measure =>
            show 0 < s2.size
            skip
            have := HH.out.2.2
            omega
    · have hz : s2 = ⟨#[]⟩ := by
        have e : s2.size = 0 := by omega
        obtain ⟨d⟩ := s2
        have : d.size = 0 := e
        rw [Array.eq_empty_of_size_eq_zero this]
      subst hz
      have HE := Lib.hid (show ∃ PP : F, pcs s = PP ∧ p2 = p.app PP from by
        obtain ⟨PP, h1, h2⟩ := HEQ2.out
        rw [show pcs (⟨#[]⟩ : ByteArray) = .nil from pcs_none rfl, F.app_nil] at h1
        exact ⟨PP, h1, h2⟩)
      have HH := Lib.hid (And.intro hG2 hbw2)
      clear hG2 hbw2 HEQ2
      go_wp2_with fail
      go_ret2
      obtain ⟨PP, h1, h2⟩ := HE.out
      exact Or.inr ⟨_, f2, rfl, by rw [h1, ← h2]; exact HH.out.1, HH.out.2⟩

theorem specOf_nil (w : World) (lo : Nat) (a : Option Addr) (cap : Nat) : Calls Try.prog 81 #[.slice a 0 cap] w (LoOut lo w (catAll .nil)) := by
  obtain ⟨⟨z0, z1, z2, z3⟩, ⟨z4, z5, z6, z7⟩, z8⟩ := ZBox.alloc w 29
  go_enter Try.func81, Try.ntmps81
  go_wp2_with fail
  refine bodyPost_ret (v := .agg #[.int .i64 1, .int .i64 0, .string ⟨#[]⟩, .slice none 0 0]) (by simp [results, Try.results81, go_sem, z0, z1, z2, z3, z4, z5, z6, z7, z8]) rfl ?_
  refine ⟨none, 0, [], rfl, Nat.le_refl 0, Or.inl ⟨rfl, rfl⟩, Fresh.nil _ _, ?_⟩
  repeat (first | exact (Ext.refl w).alloc _ | refine Below.setCell ?_ (by simp) _)

theorem specOfG (w : World) (lo : Nat) (a : Option Addr) (q cap : Nat) (f : F) (fs : List Nat) (hG : Grow w 29 lo (.slice a q cap) f fs) (hq : f.len = q) (hl : f.len ≤ 100000) : Calls Try.prog 81 #[.slice a q cap] w (LoOut lo w (catAll f)) := by
  subst hq
  by_cases hf : f = .nil
  · subst hf; exact specOf_nil w lo a cap
  · obtain ⟨p, o, n, t, k, rfl⟩ := snoc_of f hf
    obtain ⟨_, h2, h3, h4⟩ := hG
    rcases h2 with ⟨h2, _⟩ | ⟨b, cap', f', hv, _, rfl, hrow⟩
    · exact absurd h2 hf
    · injection hv with h5 h6 h7
      subst h5 h7
      have hlen : (p.app (.cons o n t k .nil)).len = p.len + 1 := by rw [F.len_app]; rfl
      rw [hlen] at hl ⊢
      have h := specOf w lo p o n t k b cap f' (by omega) h4 hrow h3
      rw [← catAll_snoc] at h
      exact h

theorem specLayoutDoc (w : World) (l : List (Int × ByteArray)) (a : Option Addr) (cap : Nat) (fs : List Nat) (hs : LaySub w a l fs) (hc : l.length ≤ cap) (hl : l.length ≤ maxLen) (ht : L.Fits l) :
    Calls Try.prog 37 #[.slice a l.length cap] w (DocRes w (ldR l)) := by
  have hV := fun (W : World) (e : Ext w W) => LayV.specLayoutValid l W a cap fs (hs.below hs.lt e) hc hl ht
  obtain ⟨W0, hW0⟩ : ∃ W, w.alloc (.cells #[.int .i64 0, .int .i64 0, .string ⟨#[]⟩, .slice none 0 0] 29) = W := ⟨_, rfl⟩
  have HZ := Lib.hid (show ∀ (w' : World), Ext W0 w' → ZBox w' w.heap.size from fun w' k => by rw [← hW0] at k; exact (ZBox.alloc w 29).ext k)
  have HX0 := Lib.hid (show Ext w W0 by rw [← hW0]; exact (Ext.refl w).alloc _)
  have hz0 : W0.heap.size = w.heap.size + 1 := by rw [← hW0]; simp
  have HW0 := Lib.hid hW0
  obtain ⟨n, hn⟩ : ∃ n, l.length = n := ⟨_, rfl⟩
  cases hv : lv l with
  | false =>
    rw [hv] at hV
    rw [ld_no (fun h => by rw [hv] at h; cases h.1)]
    rw [hn] at hV ⊢
    have HV := Lib.hid hV
    clear hV hs hc hl ht hv hn hW0
    go_enter Try.func37, Try.ntmps37
    go_wp2_with fail
    rw [HW0.out]
    go_loopw [5, 4] (fun i v wr => i = .int .i64 0 ∧ (∃ b c, v = .slice b 0 c) ∧ Hid (Ext W0 wr)) (fun _ _ _ => 0)
    case atStart => exact ⟨rfl, ⟨_, _, rfl⟩, Lib.hid ((Ext.refl W0).alloc _)⟩
    case round =>
      obtain ⟨rfl, ⟨b, c, rfl⟩, HR⟩ := hrel
      have HO := Lib.hid (fun (W : World) => specOf_nil W 0 b c)
      by_cases hn0 : 0 < n
      · have i1 : (0 : Int) < (n : Int) := by omega
        go_wp2_with fail
        refine (HV.out _ (Ext.trans HX0.out HR.out)).mono ?_
        rintro e1 w1 ⟨rfl, hb1⟩
        have E1 := Lib.hid (Ext.trans HR.out hb1)
        clear hb1
        go_wp2_with fail
        refine (HO.out _).mono ?_
        rintro e2 w2 ⟨a2, c2, f2, rfl, hc2, hs2, hfr2, hb2⟩
        have E2 := Lib.hid (Ext.trans E1.out hb2)
        clear hc2 hs2 hfr2 hb2
        go_wp2_with fail
        refine (HV.out _ (Ext.trans HX0.out (E2.out.alloc _))).mono ?_
        rintro e3 w3 ⟨rfl, hb3⟩
        have E3 := Lib.hid (show Ext W0 w3 from Ext.trans (E2.out.alloc _) hb3)
        obtain ⟨⟨z0, z1, z2, z3⟩, ⟨z4, z5, z6, z7⟩, z8⟩ := HZ.out _ E3.out
        clear hb3
        go_wp2_with fail
        refine bodyPost_ret (v := .tuple #[.agg #[.int .i64 0, .int .i64 0, .string ⟨#[]⟩, .slice none 0 0], .bool false]) (by simp [results, Try.results37, go_sem, z0, z1, z2, z3, z4, z5, z6, z7, z8]) rfl ?_
        refine end_no (lo := w.heap.size) (hi := w.heap.size + 1) (Nat.le_refl _) (Ext.trans HX0.out E3.out) ?_
        repeat (first | exact Touch.refl _ _ _ | refine Touch.setCell ?_ (by simp) (by simp) _)
      · obtain rfl : 0 = n := by omega
        go_wp2_with fail
        refine (HO.out _).mono ?_
        rintro e2 w2 ⟨a2, c2, f2, rfl, hc2, hs2, hfr2, hb2⟩
        have E2 := Lib.hid (Ext.trans HR.out hb2)
        clear hc2 hs2 hfr2 hb2
        go_wp2_with fail
        refine (HV.out _ (Ext.trans HX0.out (E2.out.alloc _))).mono ?_
        rintro e3 w3 ⟨rfl, hb3⟩
        have E3 := Lib.hid (show Ext W0 w3 from Ext.trans (E2.out.alloc _) hb3)
        obtain ⟨⟨z0, z1, z2, z3⟩, ⟨z4, z5, z6, z7⟩, z8⟩ := HZ.out _ E3.out
        clear hb3
        go_wp2_with fail
        refine bodyPost_ret (v := .tuple #[.agg #[.int .i64 0, .int .i64 0, .string ⟨#[]⟩, .slice none 0 0], .bool false]) (by simp [results, Try.results37, go_sem, z0, z1, z2, z3, z4, z5, z6, z7, z8]) rfl ?_
        refine end_no (lo := w.heap.size) (hi := w.heap.size + 1) (Nat.le_refl _) (Ext.trans HX0.out E3.out) ?_
        repeat (first | exact Touch.refl _ _ _ | refine Touch.setCell ?_ (by simp) (by simp) _)
  | true =>
    rw [hv] at hV
    have hfit := ld_fit hv
    have hlen := lv_len hv
    obtain ⟨i0, hi, hzz0, hzz1, hzz2⟩ := info_parts To.info
    have HI := Lib.hid (And.intro hi (And.intro hzz0 (And.intro hzz1 hzz2)))
    have HTOT := Lib.hid (show (ldF l).len ≤ 1000000 from Nat.le_trans (F.len_le_size _) (ldF_size hv))
    have HR := Lib.hid (show ∀ j, (h : j < l.length) → ∃ (b off I : Nat) (s : ByteArray), a = some ⟨b, off, none⟩ ∧ b < w.heap.size ∧ I ≤ 400 ∧ s.size ≤ 2000 ∧ (j = 0 → ldG 0 l = (pcs s).app (ldG 1 l)) ∧ (0 < j → ldG j l = consD (nlD I) ((pcs s).app (ldG (j + 1) l))) ∧ ∀ W, Ext w W → W.cell? ⟨b, off + j * 2, none⟩ = some (.int .i64 (I : Int)) ∧ W.cell? ⟨b, off + j * 2 + 1, none⟩ = some (.string s) ∧ b < W.heap.size from fun j h => by
      have hr := lv_get hv h
      obtain ⟨g1, g2, g3⟩ := rv_iff.1 hr
      have g4 := lt_len g3
      have e : l[j].2.data.toList.length = l[j].2.size := Array.length_toList
      rcases hs with ⟨rfl, _⟩ | ⟨b, off, ha, hnn, _, hat⟩
      · simp at h
      · have hlt := hat.lt hnn
        refine ⟨b, off, l[j].1.toNat, l[j].2, ha, hlt, by omega, by omega, fun h0 => ?_, fun h0 => ldG_succ h h0, fun W hW => ⟨?_, (hW.cell hlt).trans (hat j h).2, Nat.lt_of_lt_of_le hlt hW.size⟩⟩
        · subst h0; exact ldG_zero h
        · rw [(hW.cell hlt).trans (hat j h).1, Int.toNat_of_nonneg g1])
    have hval := fun (W : World) (a1 : Option Addr) (c1 : Nat) (f1 : List Nat) (h1 : SubAt W a1 (catAll (ldF l)).2.2.2 f1) (h2 : ∀ c ∈ f1, c < W.heap.size) (h3 : (catAll (ldF l)).2.2.2.len ≤ c1) => SpecC.docValid W (catAll (ldF l)).1 (catAll (ldF l)).2.1 (catAll (ldF l)).2.2.1 (catAll (ldF l)).2.2.2 a1 c1 f1 h1 h2 h3 (by omega) (fits_of_size (m := 2000002) (by unfold maxLen; omega) _ (by omega)) (by unfold maxLen; omega)
    obtain ⟨pv, hpv⟩ : ∃ p, validD (catAll (ldF l)).1 (catAll (ldF l)).2.1 (catAll (ldF l)).2.2.1 (catAll (ldF l)).2.2.2 = p := ⟨_, rfl⟩
    rw [hpv] at hval
    have hr : (ldF l).len ≤ 100 → ldR l = if pv then (true, catAll (ldF l)) else (false, zeroD) := fun h1 => by
      cases pv with
      | true => rw [if_pos rfl]; exact ld_yes hv h1 hpv
      | false => rw [if_neg (by decide)]; exact ld_no (fun h => by rw [hpv] at h; cases h.2.2)
    have HRR := Lib.hid hr
    have HVA := Lib.hid hval
    have HLEN := Lib.hid hn
    rw [hn] at hV hlen ⊢
    have HV := Lib.hid hV
    clear hV hs hc hl ht hv hn hval hr hpv hfit hi hzz0 hzz1 hzz2 hW0
    go_enter Try.func37, Try.ntmps37
    go_wp2_with fail
    rw [HW0.out]
    go_loopw [5, 4] (fun i v wr => ∃ (j : Nat) (p : F) (f1 : List Nat), j ≤ n ∧ i = .int .i64 (j : Int) ∧ Hid (ldF l = p.app (ldG j l)) ∧ p.len ≤ 100 ∧ Grow wr 29 W0.heap.size v p f1 ∧ Hid (Ext W0 wr)) (fun i _ _ => n - (intOf i).toNat)
    case atStart => exact ⟨0, .nil, [], Nat.zero_le _, rfl, Lib.hid (by rw [ldG_all]; rfl), by decide, (by have g := Grow.made W0 29 W0.heap.size (Nat.le_refl _); rw [show (Value.slice (some ⟨W0.heap.size, 0, none⟩) 0 0) = .slice (some ⟨w.heap.size + 1, 0, none⟩) 0 0 by rw [hz0]] at g; exact g), Lib.hid ((Ext.refl W0).alloc _)⟩
    case round =>
      obtain ⟨j, p, f1, hj, rfl, HEQ, hp100, hG, HEW⟩ := hrel
      obtain ⟨av, cv, rfl, _, _, _⟩ := hG.slice
      obtain ⟨q, hq⟩ : ∃ q, p.len = q := ⟨_, rfl⟩
      rw [hq] at hG ⊢
      have i0' : (0 : Int) ≤ (j : Int) := Int.natCast_nonneg _
      by_cases hjn : j < n
      · have i1 : (j : Int) < (n : Int) := by omega
        obtain ⟨b, off, II, s, rfl, hb, hI, hs, hz, hp, hcell⟩ := HR.out j (by have := HLEN.out; omega)
        have HG := Lib.hid hG
        have HQ := Lib.hid hq
        clear hG
        by_cases h0 : j = 0
        · subst h0
          rw [show ((0 : Nat) : Int) = 0 from rfl] at i0' i1 ⊢
          simp only [Nat.zero_mul, Nat.add_zero] at hcell
          have HX := Lib.hid (show ldF l = p.app ((pcs s).app (ldG (0 + 1) l)) by rw [HEQ.out, hz rfl])
          have HCL := Lib.hid hcell
          clear hz hp hcell hq
          go_wp2_with fail
          refine (HV.out _ (Ext.trans HX0.out HEW.out)).mono ?_
          rintro e1 w1 ⟨rfl, hb1⟩
          have GP := Lib.hid (HG.out.below (Nat.le_refl _) hb1)
          have GL := Lib.hid (show p.len ≤ 2000000 by omega)
          have EW := Lib.hid (show Ext W0 w1 from Ext.trans HEW.out hb1)
          obtain ⟨c0, c1, cl⟩ := HCL.out w1 (Ext.trans HX0.out EW.out)
          clear hb1
          have HPC := Lib.hid (l8Pieces w1 W0.heap.size _ _ _ _ _ s GP.out hs GL.out)
          go_wp2_with fail
          refine HPC.out.mono ?_
          rintro e5 w5 (⟨⟨s1, P, Q, hpq, htv⟩, v5, rfl, hb5⟩ | ⟨v5, f5, rfl, hG5, hb5⟩)
          · have HBAD := Lib.hid (ld_bad (l := l) (s := s1) (P := p.app P) (Q := Q.app (ldG (0 + 1) l)) (by rw [HX.out, hpq]; simp only [F.app_assoc]; rfl) htv)
            have E5 := Lib.hid (show Ext W0 w5 from Below.trans EW.out hb5)
            obtain ⟨⟨z0, z1, z2, z3⟩, ⟨z4, z5, z6, z7⟩, z8⟩ := HZ.out _ E5.out
            clear hpq htv hb5
            go_wp2_with fail
            rw [HBAD.out]
            refine bodyPost_ret (v := .tuple #[.agg #[.int .i64 0, .int .i64 0, .string ⟨#[]⟩, .slice none 0 0], .bool false]) (by simp [results, Try.results37, go_sem, z0, z1, z2, z3, z4, z5, z6, z7, z8]) rfl ?_
            refine end_no (lo := w.heap.size) (hi := w.heap.size + 1) (Nat.le_refl _) (Ext.trans HX0.out E5.out) ?_
            repeat (first | exact Touch.refl _ _ _ | refine Touch.setCell ?_ (by simp) (by simp) _)
          · obtain ⟨av5, cv5, rfl, hcv5, hsv5, hcm5⟩ := hG5.slice
            obtain ⟨q5, hq5⟩ : ∃ q, (p.app (pcs s)).len = q := ⟨_, rfl⟩
            rw [hq5] at hG5 ⊢
            have HG5 := Lib.hid hG5
            have HQ5 := Lib.hid hq5
            have E5 := Lib.hid (show Ext W0 w5 from Below.trans EW.out hb5)
            have HX5 := Lib.hid (show ldF l = (p.app (pcs s)).app (ldG (0 + 1) l) by rw [HX.out]; simp only [F.app_assoc])
            obtain ⟨⟨z0, z1, z2, z3⟩, ⟨z4, z5, z6, z7⟩, z8⟩ := HZ.out _ E5.out
            clear hb5 hG5 hq5 hcv5 hsv5 hcm5
            by_cases h100 : 100 < q5
            · have i9 : (100 : Int) < (q5 : Int) := by omega
              have HLONG := Lib.hid (ld_long (l := l) HX5.out (by have := HQ5.out; omega))
              go_wp2_with fail
              rw [HLONG.out]
              refine bodyPost_ret (v := .tuple #[.agg #[.int .i64 0, .int .i64 0, .string ⟨#[]⟩, .slice none 0 0], .bool false]) (by simp [results, Try.results37, go_sem, z0, z1, z2, z3, z4, z5, z6, z7, z8]) rfl ?_
              refine end_no (lo := w.heap.size) (hi := w.heap.size + 1) (Nat.le_refl _) (Ext.trans HX0.out E5.out) ?_
              repeat (first | exact Touch.refl _ _ _ | refine Touch.setCell ?_ (by simp) (by simp) _)
            · have i9 : ¬ ((100 : Int) < (q5 : Int)) := by omega
              clear z0 z1 z2 z3 z4 z5 z6 z7 z8
              go_wp2_with fail
              go_roundw
              case rel => exact ⟨0 + 1, _, f5, by omega, by go_num, HX5, by have := HQ5.out; omega, HG5.out, E5⟩
              case measure => simp [intOf]; omega
        · have i2 : (0 : Int) < (j : Int) := by omega
          have hX := hp (by omega)
          obtain ⟨⟨o3, n3, t3, k3⟩, hnl⟩ : ∃ d : D, nlD II = d := ⟨_, rfl⟩
          have hne := fun (W : World) => l7Nest W 5 0 ⟨#[]⟩ none 0 II (by omega)
          rw [show nests II (5, 0, ⟨#[]⟩, .nil) = (o3, n3, t3, k3) from hnl] at hne
          rw [hnl] at hX
          have HNE := Lib.hid hne
          have HX := Lib.hid (show ldF l = (p.app (.cons o3 n3 t3 k3 .nil)).app ((pcs s).app (ldG (j + 1) l)) by rw [HEQ.out, hX, F.app_assoc]; rfl)
          have HCL := Lib.hid hcell
          have hql : q ≤ 100 := by omega
          clear hz hp hcell hX hne hnl hq
          go_wp2_with fail
          refine (HV.out _ (Ext.trans HX0.out HEW.out)).mono ?_
          rintro e1 w1 ⟨rfl, hb1⟩
          have GP0 := Lib.hid (HG.out.below (Nat.le_refl _) hb1)
          have EW0 := Lib.hid (show Ext W0 w1 from Ext.trans HEW.out hb1)
          obtain ⟨c0, c1, cl⟩ := HCL.out w1 (Ext.trans HX0.out EW0.out)
          clear hb1
          go_wp2_with (first
            | (go_at_call 79; refine (HNE.out _).mono ?_; rintro e2 wn ⟨a2, cap2, f2, rfl, hc2, hs2, hfr2, hb2⟩; simp only at hc2 hs2 ⊢; have HST := Lib.hid (fun ob => mid_d (ob := ob) GP0.out hb2); have H2 := Lib.hid (And.intro hc2 (And.intro hs2 (And.intro hfr2 hb2))); clear hc2 hs2 hfr2 hb2 c0 c1 cl)
            | (at_builtin; refine append_doc rfl (.tmp 22) (.tmp 30) 27 rfl Try.underlying27 HI.out.1 HI.out.2.1 HI.out.2.2.1 HI.out.2.2.2 rfl rfl (HST.out _).1 (d := wn.heap.size) (c := 1) rfl (cell_new wn _ _ 0 _ rfl) (cell_new wn _ _ 1 _ rfl) (cell_new wn _ _ 2 _ rfl) (cell_new wn _ _ 3 _ rfl) H2.out.1 (H2.out.2.1.below H2.out.2.2.1.lt ((Below.refl _ _).alloc (Nat.le_refl _) _)) (H2.out.2.2.1.below H2.out.2.2.1.lt ((Below.refl _ _).alloc (Nat.le_refl _) _)) (HST.out (.cells #[] 0)).2.1 (HST.out (.cells #[] 0)).2.2.1 (HST.out (.cells #[] 0)).2.2.2.1 (by have := HQ.out; omega) ?_; intro v' w4 fs' hG' hb' hg'; have EW := Lib.hid (show Ext W0 w4 from Below.trans EW0.out (mid_end H2.out.2.2.2 hb' GP0.out.2.2.2)); obtain ⟨c0, c1, cl⟩ := HCL.out w4 (Ext.trans HX0.out EW.out); obtain ⟨av4, cv4, rfl, _, _, _⟩ := hG'.slice; obtain ⟨q4, hq4⟩ : ∃ q, (p.app (.cons o3 n3 t3 k3 .nil)).len = q := ⟨_, rfl⟩; rw [hq4] at hG' ⊢; have GP := Lib.hid hG'; have GL := Lib.hid (show (p.app (.cons o3 n3 t3 k3 .nil)).len ≤ 2000000 from by rw [F.len_app]; show p.len + 1 ≤ _; omega); clear hG' hb' hg' hq4))
          have HPC := Lib.hid (l8Pieces w4 W0.heap.size _ _ _ _ _ s GP.out hs GL.out)
          go_wp2_with fail
          refine HPC.out.mono ?_
          rintro e5 w5 (⟨⟨s1, P, Q, hpq, htv⟩, v5, rfl, hb5⟩ | ⟨v5, f5, rfl, hG5, hb5⟩)
          · have HBAD := Lib.hid (ld_bad (l := l) (s := s1) (P := (p.app (.cons o3 n3 t3 k3 .nil)).app P) (Q := Q.app (ldG (j + 1) l)) (by rw [HX.out, hpq]; simp only [F.app_assoc]; rfl) htv)
            have E5 := Lib.hid (show Ext W0 w5 from Below.trans EW.out hb5)
            obtain ⟨⟨z0, z1, z2, z3⟩, ⟨z4, z5, z6, z7⟩, z8⟩ := HZ.out _ E5.out
            clear hpq htv hb5
            go_wp2_with fail
            rw [HBAD.out]
            refine bodyPost_ret (v := .tuple #[.agg #[.int .i64 0, .int .i64 0, .string ⟨#[]⟩, .slice none 0 0], .bool false]) (by simp [results, Try.results37, go_sem, z0, z1, z2, z3, z4, z5, z6, z7, z8]) rfl ?_
            refine end_no (lo := w.heap.size) (hi := w.heap.size + 1) (Nat.le_refl _) (Ext.trans HX0.out E5.out) ?_
            repeat (first | exact Touch.refl _ _ _ | refine Touch.setCell ?_ (by simp) (by simp) _)
          · obtain ⟨av5, cv5, rfl, hcv5, hsv5, hcm5⟩ := hG5.slice
            obtain ⟨q5, hq5⟩ : ∃ q, ((p.app (.cons o3 n3 t3 k3 .nil)).app (pcs s)).len = q := ⟨_, rfl⟩
            rw [hq5] at hG5 ⊢
            have HG5 := Lib.hid hG5
            have HQ5 := Lib.hid hq5
            have E5 := Lib.hid (show Ext W0 w5 from Below.trans EW.out hb5)
            have HX5 := Lib.hid (show ldF l = ((p.app (.cons o3 n3 t3 k3 .nil)).app (pcs s)).app (ldG (j + 1) l) by rw [HX.out]; simp only [F.app_assoc])
            obtain ⟨⟨z0, z1, z2, z3⟩, ⟨z4, z5, z6, z7⟩, z8⟩ := HZ.out _ E5.out
            clear hb5 hG5 hq5 hcv5 hsv5 hcm5
            by_cases h100 : 100 < q5
            · have i9 : (100 : Int) < (q5 : Int) := by omega
              have HLONG := Lib.hid (ld_long (l := l) HX5.out (by have := HQ5.out; omega))
              go_wp2_with fail
              rw [HLONG.out]
              refine bodyPost_ret (v := .tuple #[.agg #[.int .i64 0, .int .i64 0, .string ⟨#[]⟩, .slice none 0 0], .bool false]) (by simp [results, Try.results37, go_sem, z0, z1, z2, z3, z4, z5, z6, z7, z8]) rfl ?_
              refine end_no (lo := w.heap.size) (hi := w.heap.size + 1) (Nat.le_refl _) (Ext.trans HX0.out E5.out) ?_
              repeat (first | exact Touch.refl _ _ _ | refine Touch.setCell ?_ (by simp) (by simp) _)
            · have i9 : ¬ ((100 : Int) < (q5 : Int)) := by omega
              clear z0 z1 z2 z3 z4 z5 z6 z7 z8
              go_wp2_with fail
              go_roundw
              case rel => exact ⟨j + 1, _, f5, by omega, by go_num, HX5, by have := HQ5.out; omega, HG5.out, E5⟩
              case measure => simp [intOf]; omega
      · obtain rfl : n = j := by omega
        have hE : ldF l = p := by rw [HEQ.out, ldG_end (by have := HLEN.out; omega), F.app_nil]
        have hof := specOfG wr W0.heap.size av q cv p f1 hG hq (by omega)
        have hrr := HRR.out (by rw [hE]; omega)
        have hva := HVA.out
        rw [hE] at hrr hva
        obtain ⟨⟨o9, n9, t9, k9⟩, h9⟩ : ∃ d, catAll p = d := ⟨_, rfl⟩
        rw [h9] at hof hrr hva
        have HOF := Lib.hid hof
        have HQR := Lib.hid hrr
        have HQV := Lib.hid hva
        clear hof hrr hva hE h9 hG hq HRR HVA
        cases pv
        all_goals
          go_wp2_with fail
          refine HOF.out.mono ?_
          rintro e3 w3 ⟨a3, c3, f3, rfl, hc3, hs3, hfr3, hb3⟩
          simp only at hc3 hs3 ⊢
          have E3 := Lib.hid (Ext.trans HEW.out hb3)
          have H3 := Lib.hid (And.intro hc3 (And.intro hs3 hfr3))
          obtain ⟨L9, hL9⟩ : ∃ q, k9.len = q := ⟨_, rfl⟩
          have HL9 := Lib.hid hL9
          have hlt3 := hfr3.lt
          have hq3 := fun (W : World) (e : Ext w3 W) => HQV.out W a3 c3 f3 (hs3.below hlt3 e) (fun c hc => Nat.lt_of_lt_of_le (hlt3 c hc) e.size) hc3
          rw [hL9] at hq3 ⊢
          have HQ3 := Lib.hid hq3
          have B3 := Lib.hid (show ∀ (u0 u1 u2 u3 : Value) (T : TypeId) (w4 : World), Ext (w3.alloc (.cells #[u0, u1, u2, u3] T)) w4 → Four w3.heap.size u0 u1 u2 u3 w4 ∧ w3.heap.size < w4.heap.size from fun u0 u1 u2 u3 T w4 e => by
            have h1 : Four w3.heap.size u0 u1 u2 u3 (w3.alloc (.cells #[u0, u1, u2, u3] T)) := by refine ⟨?_, ?_, ?_, ?_⟩ <;> (rw [World.cell?_alloc_new]; rfl)
            exact ⟨h1.below e (by simp), Nat.lt_of_lt_of_le (by simp) e.size⟩)
          clear hc3 hs3 hfr3 hb3 hq3 hlt3 hL9
          go_wp2_with fail
          refine (HV.out _ (Ext.trans HX0.out (E3.out.alloc _))).mono ?_
          rintro e4 w4 ⟨rfl, hb4⟩
          have B4 := Lib.hid (B3.out _ _ _ _ _ w4 hb4)
          have E4 := Lib.hid (show Ext w3 w4 from ((Ext.refl w3).alloc _).trans hb4)
          obtain ⟨⟨x0, x1, x2, x3⟩, xl⟩ := B4.out
          clear hb4
          go_wp2_with fail
          refine (HQ3.out _ E4.out).mono ?_
          rintro e5 w5 ⟨rfl, hb5⟩
          have E5 := Lib.hid (show Ext w3 w5 from Ext.trans E4.out hb5)
          have y := Four.below (b := w3.heap.size) B4.out.1 hb5 B4.out.2
          have yl := Nat.lt_of_lt_of_le B4.out.2 hb5.size
          clear x0 x1 x2 x3 xl hb5
          obtain ⟨x0, x1, x2, x3⟩ := y
          obtain ⟨⟨z0, z1, z2, z3⟩, ⟨z4, z5, z6, z7⟩, z8⟩ := HZ.out _ (Ext.trans E3.out E5.out)
          go_wp2_with fail
          rw [HQR.out]
        · refine bodyPost_ret (v := .tuple #[.agg #[.int .i64 0, .int .i64 0, .string ⟨#[]⟩, .slice none 0 0], .bool false]) (by simp [results, Try.results37, go_sem, z0, z1, z2, z3, z4, z5, z6, z7, z8]) rfl ?_
          refine end_no (lo := w.heap.size) (hi := w.heap.size + 1) (Nat.le_refl _) (Ext.trans HX0.out (Ext.trans E3.out E5.out)) ?_
          repeat (first | exact Touch.refl _ _ _ | refine Touch.setCell ?_ (by simp) (by simp) _)
        · refine bodyPost_ret (v := .tuple #[.agg #[.int .i64 o9, .int .i64 n9, .string t9, .slice a3 L9 c3], .bool true]) (by simp [results, Try.results37, go_sem, z0, z1, z2, z3, z4, z5, z6, z7, z8]) rfl ?_
          rw [← HL9.out]
          refine end_pair (d := (o9, n9, t9, k9)) (B := W0.heap.size) (lo := w.heap.size) (hi := w.heap.size + 1) (H3.out.2.1.below H3.out.2.2.lt E5.out) (H3.out.2.2.below H3.out.2.2.lt E5.out) H3.out.1 (by rw [hz0]; exact Nat.le_refl _) (Nat.le_refl _) (Nat.le_succ _) (Ext.trans HX0.out (Ext.trans E3.out E5.out)) ?_
          repeat (first | exact Touch.refl _ _ _ | refine Touch.setCell ?_ (by simp) (by simp) _)

end Go.Proofs.Ytmkibpimjaofgaa.Nf


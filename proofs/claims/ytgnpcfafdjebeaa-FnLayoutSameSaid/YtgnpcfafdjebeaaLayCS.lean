/-
  What CatLayouts of the program and of the model come to: the model's joining, and the results.
-/
import Derived.Test.YtgnpcfafdjebeaaLayC
set_option linter.unusedVariables false
set_option linter.unusedSimpArgs false
namespace Go.Proofs.Ytgnpcfafdjebeaa.LayC
open Go.RowKit P1 TextV LayL LayV LayM LayN

/-- what a copy by append comes to -/
theorem grown_own {w w1 : World} {ob : Obj} {T : TypeId} {g cp m k : Nat} {l : List (Int × ByteArray)} (hown : w1.ownsRow w.heap.size T 2 (.slice (some ⟨g, 0, none⟩) k cp) k ([] ++ cells2 l)) (hk : k = m) (hl : l.length = m) (hgr : (w.alloc ob).grownBy w1 (some w.heap.size)) :
    Below w.heap.size w w1 ∧ Own w1 l g cp w.heap.size := by
  obtain ⟨h1, h2, h3, h4⟩ := grown_new (m := m) hown hk hgr
  rcases hown.2 with ⟨e, _⟩ | ⟨g', cap', cur, e, hb, hg, hcap, hcm, hcs, _⟩
  · cases e
  · injection e with e1 e2 e3
    injection e1 with e4
    injection e4 with e5
    subst e5 e3
    exact ⟨h1, h4, there_of_row hg (by omega), by omega, hb, h2.lt g (by simp), (h2.2 g (by simp)).2.2⟩

/-- behind the store of the last line's text -/
theorem behind_one {w w2 : World} {la lb : List (Int × ByteArray)} {k j : Nat} {n1 n2 : Int} {t1 t2 : ByteArray} {g ca gb ob : Nat} (h1 : Own w2 la g ca w.heap.size) (h2 : LayAt w2 lb gb ob) (hgb : gb < w.heap.size) (hbw : w.heap.size ≤ w2.heap.size) (he : ∃ (h : k < la.length) (h' : 0 < lb.length), la[k] = (n1, t1) ∧ lb[0] = (n2, t2)) (u : ByteArray) :
    Own (w2.setCell ⟨g, k * 2 + 1, none⟩ (.string u)).drew (la.set k (n1, u)) g ca w.heap.size ∧ LayAt (w2.setCell ⟨g, k * 2 + 1, none⟩ (.string u)).drew lb gb ob := by
  obtain ⟨hkl, hjl, e1, e2⟩ := he
  refine ⟨(h1.setT hkl e1 u).drew, h2.congr fun o _ _ => ?_⟩
  show (w2.setCell ⟨g, k * 2 + 1, none⟩ (.string u)).cell? ⟨gb, o, none⟩ = _
  exact World.cell?_setCell_other _ _ _ _ (fun e => by injection e with e3; have := h1.lo_le; omega)
theorem tail_at {W : World} {lb : List (Int × ByteArray)} {gb ob j : Nat} {ad : Addr} (h : LayAt W lb gb ob) (hj : lb.length = j + 1) (hadd : 0 < j → ad = ⟨gb, ob + 2, none⟩) : ∀ i u, (cells2 (lb.drop 1))[i]? = some u → W.cell? (ad.add i) = some u := by
  intro i u hu
  by_cases h0 : 0 < j
  · rw [hadd h0]
    have := h.drop 1
    exact cells2_at this i u hu
  · have : lb.drop 1 = [] := List.drop_eq_nil_of_le (by omega)
    rw [this] at hu
    simp [cells2] at hu

set_option maxRecDepth 100000 in
set_option maxHeartbeats 3200000 in
theorem l2Cat (la lb : List (Int × ByteArray)) (hva : lv la = true) (hvb : lv lb = true) (w : World) (aa : Option Addr) (ca : Nat) (fa : List Nat) (hsa : LaySub w aa la fa) (hca : la.length ≤ ca) (ab : Option Addr) (cb : Nat) (fb : List Nat) (hsb : LaySub w ab lb fb) (hcb : lb.length ≤ cb) :
    Calls Try.prog 61 #[.slice aa la.length ca, .slice ab lb.length cb] w (RowsNew w (catL la lb)) := by
  obtain ⟨i0, hi, hz0, hz1, hz2⟩ := info_parts info
  have HI := Lib.hid (And.intro hi (And.intro hz0 (And.intro hz1 hz2)))
  have hla := lv_len hva
  have hlb := lv_len hvb
  have hsla : ∃ b off, aa = some ⟨b, off, none⟩ ∧ b < w.heap.size ∧ LayAt w la b off := by
    rcases hsa with ⟨rfl, _⟩ | ⟨b, off, ha, hn, hf, hr⟩
    · simp at hla
    · exact ⟨b, off, ha, hr.lt hn, hr⟩
  obtain ⟨ba, oa, rfl, hba, hrowa⟩ := hsla
  have hslb : ∃ b off, ab = some ⟨b, off, none⟩ ∧ b < w.heap.size ∧ LayAt w lb b off := by
    rcases hsb with ⟨rfl, _⟩ | ⟨b, off, ha, hn, hf, hr⟩
    · simp at hlb
    · exact ⟨b, off, ha, hr.lt hn, hr⟩
  obtain ⟨bb, ob, rfl, hbb, hrowb⟩ := hslb
  obtain ⟨k, hk⟩ : ∃ k, la.length = k + 1 := ⟨la.length - 1, by omega⟩
  obtain ⟨j, hj⟩ : ∃ j, lb.length = j + 1 := ⟨lb.length - 1, by omega⟩
  obtain ⟨⟨n1, t1⟩, e1⟩ : ∃ r, la[k]'(by omega) = r := ⟨_, rfl⟩
  obtain ⟨⟨n2, t2⟩, e2⟩ : ∃ r, lb[0]'(by omega) = r := ⟨_, rfl⟩
  have ht1 := lv_small hva k (by omega)
  have ht2 := lv_small hvb 0 (by omega)
  rw [e1] at ht1
  rw [e2] at ht2
  simp only at ht1 ht2
  have HCE := Lib.hid (cat_eq hk hj e1 e2)
  have HK := Lib.hid (And.intro hk hj)
  have HE := Lib.hid (show ∃ (h : k < la.length) (h' : 0 < lb.length), la[k] = (n1, t1) ∧ lb[0] = (n2, t2) from ⟨by omega, by omega, e1, e2⟩)
  have HRB := Lib.hid hrowb
  have HNEWA := Lib.hid (show ∀ o i u, (cells2 la)[i]? = some u → (w.alloc o).cell? ((⟨ba, oa, none⟩ : Addr).add i) = some u from fun o => cells2_at (hrowa.below hba ((Below.refl _ _).alloc (Nat.le_refl _) _)))
  have HC2 := Lib.hid (show (cells2 la).length = (k + 1) * 2 by rw [cells2_len, hk])
  rw [hk] at hla hca ⊢
  rw [hj] at hlb hcb ⊢
  obtain ⟨hla1, hla2⟩ := hla
  obtain ⟨hlb1, hlb2⟩ := hlb
  have hsum : ¬ (9223372036854775807 < t1.size + t2.size) := by omega
  clear hva hvb hsa hsb e1 e2 hk hj hi hz0 hz1 hz2 hrowa hrowb
  go_enter Try.func61, Try.ntmps61
  go_wp2_with (refine wpList_append_lies _ rfl (.tmp 7) (.tmp 8) 23 rfl w.heap.size 31 i0 _ 2 24 Try.underlying23 HI.out.1 HI.out.2.1 HI.out.2.2.1 HI.out.2.2.2 rfl (by omega) (.slice (some ⟨w.heap.size, 0, none⟩) 0 0) 0 [] rfl (World.ownsRow_made w #[] 0 (Nat.le_refl _) (by simp [maxLen]) rfl) ⟨ba, oa, none⟩ (k + 1) ca (cells2 la) rfl HC2.out (HNEWA.out _) (cells2_one la) (by omega) (by unfold maxLen; omega) (by omega) (by simp) _ rfl ?_; intro g cp w1 hown hgr hat hlt)
  obtain ⟨hb1, hO1⟩ := grown_own hown (by omega) HK.out.1 hgr
  obtain ⟨hkl, hjl, e1, e2⟩ := HE.out
  have hrb := HRB.out.below hbb hb1
  have c1 := (hO1.row k hkl).2
  have d1 := (hrb 0 hjl).2
  rw [e1, Nat.zero_add] at c1
  rw [e2, Nat.zero_mul, Nat.add_zero] at d1
  have z1 := hO1.fz (k * 2 + 1)
  have hbb1 : bb < w1.heap.size := Nat.lt_of_lt_of_le hbb hb1.size
  have HO := Lib.hid (And.intro hO1 (And.intro hrb hb1))
  have i0' : (0 : Int) ≤ (k : Int) := Int.natCast_nonneg _
  have i1 : (k : Int) < (k : Int) + 1 := by omega
  have i2 : (0 : Int) < (j : Int) + 1 := by omega
  clear hown hgr hat hlt hb1 hO1 hrb e1 e2 hkl hjl
  go_wp2_with fail
  go_region
  have hW := behind_one (w := w) HO.out.1 HO.out.2.1 hbb HO.out.2.2.size HE.out (t1 ++ t2) (j := j)
  obtain ⟨W3, hW3⟩ : ∃ W, (w1.setCell ⟨g, k * 2 + 1, none⟩ (.string (t1 ++ t2))).drew = W := ⟨_, rfl⟩
  rw [hW3] at hW ⊢
  have HW := Lib.hid hW
  have HB3 := Lib.hid (show Below w.heap.size w W3 by rw [← hW3]; exact (HO.out.2.2.setCell HO.out.1.lo_le _).drew)
  have HNEW := Lib.hid (fun (ad : Addr) => tail_at (ad := ad) hW.2 HK.out.2)
  have HLT := Lib.hid (show (lb.drop 1).length = j by rw [List.length_drop, HK.out.2]; omega)
  have HLS := Lib.hid (show (la.set k (n1, t1 ++ t2)).length = k + 1 by rw [List.length_set, HK.out.1])
  clear hW hW3 c1 d1 z1
  have hroom : k + 1 ≤ cp := by have := HW.out.1.le; rw [HLS.out] at this; exact this
  rcases Nat.eq_zero_or_pos j with rfl | hj0
  · go_wp2_with fail
    all_goals
      go_ret
      have hd : lb.drop 1 = [] := List.eq_nil_of_length_eq_zero HLT.out
      have hX := HCE.out
      rw [hd, List.append_nil] at hX
      have hO := HW.out.1
      exact cat_out hX HLS.out (by have := hO.le; rw [HLS.out] at this; exact this) hO.row hO.lo_le hO.lt hO.fz HB3.out
  · have hc1 : ¬ cb = 1 := by omega
    have hc2 : ¬ 1 = cb := by omega
    go_wp2_with (refine wpList_append_rows rfl (.tmp 27) (.tmp 29) rfl HLS.out HLT.out HW.out.1 HB3.out.size ⟨bb, ob + 2, none⟩ (cb - 1) rfl rfl (HNEW.out _ (fun _ => rfl)) (by omega) ?_; intro g' cap' w' h1 h2 h3 h4 h5 h6)
    have HF := Lib.hid (And.intro h1 (And.intro h2 (And.intro h3 (And.intro h4 (And.intro h5 h6)))))
    clear h1 h2 h3 h4 h5 h6
    go_wp2_with fail
    go_ret
    obtain ⟨h1, h2, h3, h4, h5, h6⟩ := HF.out
    exact cat_out HCE.out (by rw [List.length_append, HLS.out, HLT.out]) h1 h2 h3 h4 h5 (HB3.out.trans h6)

/-- what a joined layout's texts are -/
theorem cat_fits {la lb : List (Int × ByteArray)} (ha : lv la = true) (hb : lv lb = true) : L.Fits (catL la lb) ∧ (catL la lb).length ≤ 400 ∧ 0 < (catL la lb).length := by
  have hla := lv_len ha
  have hlb := lv_len hb
  have h1 := lv_small ha
  have h2 := lv_small hb
  rw [catL_set (by omega) (by omega)]
  refine ⟨fun r hr => ?_, by simp; omega, by simp; omega⟩
  unfold maxLen
  rcases List.mem_append.1 hr with hr | hr
  · obtain ⟨i, hi, rfl⟩ := List.getElem_of_mem hr
    rw [List.getElem_set]
    split
    · have := h1 (la.length - 1) (by omega)
      have := h2 0 (by omega)
      simp only [ByteArray.size_append]; omega
    · have := h1 i (by simpa using hi); omega
  · obtain ⟨i, hi, rfl⟩ := List.getElem_of_mem (List.mem_of_mem_drop hr)
    have := h2 i hi; omega
theorem catLR_len (a b : List (Int × ByteArray)) : (catLR a b).1.length ≤ 1048576 := by
  unfold catLR
  split
  · rename_i h; have := lv_len h.2.2; show (catL a b).length ≤ _; omega
  · simp

set_option maxRecDepth 100000 in
set_option maxHeartbeats 1600000 in
theorem implCatLayouts (la lb : List (Int × ByteArray)) (w : World) (aa : Option Addr) (ca : Nat) (fa : List Nat) (hsa : LaySub w aa la fa) (hca : la.length ≤ ca) (hla : la.length ≤ maxLen) (hfa : L.Fits la) (ab : Option Addr) (cb : Nat) (fb : List Nat) (hsb : LaySub w ab lb fb) (hcb : lb.length ≤ cb) (hlb : lb.length ≤ maxLen) (hfb : L.Fits lb) :
    Calls Try.prog 25 #[.slice aa la.length ca, .slice ab lb.length cb] w (LayRes w (catLR la lb)) := by
  have hv := implLayoutValid la w aa ca fa hsa hca hla hfa
  have hv2 := fun (W : World) (hW : Below w.heap.size w W) => implLayoutValid lb W ab cb fb (hsb.below hsb.lt hW) hcb hlb hfb
  have HA := Lib.hid (show ∀ (W : World) ob, Below w.heap.size w W → Below w.heap.size w (W.alloc ob) from fun W ob h => h.alloc h.size ob)
  cases hva : lv la with
  | false =>
    rw [catLR_no1 hva]
    rw [hva] at hv
    have HV := Lib.hid hv
    clear hv hv2 hva hsa hfa hsb hfb
    go_enter Try.func25, Try.ntmps25
    go_wp2_with fail
    refine HV.out.mono ?_
    rintro e1 w1 ⟨rfl, hb1⟩
    have HB := Lib.hid hb1
    clear hb1
    go_wp2_with fail
    go_ret2
    exact LayRes.none' (HB.out)
  | true =>
    rw [hva] at hv
    cases hvb : lv lb with
    | false =>
      rw [catLR_no2 la hvb]
      rw [hvb] at hv2
      have HV := Lib.hid hv
      have HV2 := Lib.hid hv2
      clear hv hv2 hva hvb hsa hfa hsb hfb
      go_enter Try.func25, Try.ntmps25
      go_wp2_with fail
      refine HV.out.mono ?_
      rintro e1 w1 ⟨rfl, hb1⟩
      have HB := Lib.hid hb1
      clear hb1
      go_wp2_with fail
      refine (HV2.out _ HB.out).mono ?_
      rintro e1 w2 ⟨rfl, hb2⟩
      have HB2 := Lib.hid (HB.out.trans (hb2.mono HB.out.size))
      clear hb2
      go_wp2_with fail
      go_ret2
      exact LayRes.none' (HB2.out)
    | true =>
      rw [hvb] at hv2
      have hcat := fun (W : World) (hW : Below w.heap.size w W) => catRows la lb hva hvb W aa ca fa (hsa.below hsa.lt hW) hca ab cb fb (hsb.below hsb.lt hW) hcb
      have hfit := cat_fits hva hvb
      have hval2 := fun (W : World) (a2 : Option Addr) (c2 : Nat) (f2 : List Nat) (h2 : LaySub W a2 (catL la lb) f2) (h3 : (catL la lb).length ≤ c2) => implLayoutValid (catL la lb) W a2 c2 f2 h2 h3 (by have := hfit.2.1; unfold maxLen; omega) hfit.1
      have HV := Lib.hid hv
      have HV2 := Lib.hid hv2
      have HN := Lib.hid hcat
      have HV3 := Lib.hid hval2
      have HLV := Lib.hid (And.intro hva hvb)
      clear hv hv2 hcat hval2 hfit hva hvb hsa hfa hsb hfb
      go_enter Try.func25, Try.ntmps25
      go_wp2_with fail
      refine HV.out.mono ?_
      rintro e1 w1 ⟨rfl, hb1⟩
      have HB := Lib.hid hb1
      clear hb1
      go_wp2_with fail
      refine (HV2.out _ HB.out).mono ?_
      rintro e1 w2 ⟨rfl, hb2⟩
      have HB2 := Lib.hid (HB.out.trans (hb2.mono HB.out.size))
      clear hb2
      go_wp2_with fail
      refine (HN.out _ HB2.out).mono ?_
      rintro e1 w3 ⟨a3, c3, f3, rfl, hc3, hs3, hf3, hb3⟩
      have H3 := Lib.hid (And.intro hc3 (And.intro hs3 (And.intro hf3 (HB2.out.trans (hb3.mono HB2.out.size)))))
      have HLE := Lib.hid HB2.out.size
      clear hc3 hs3 hf3 hb3
      go_wp2_with fail
      refine (HV3.out _ a3 c3 f3 H3.out.2.1 H3.out.1).mono ?_
      rintro e1 w4 ⟨rfl, hb4⟩
      have H4 := Lib.hid hb4
      clear hb4
      cases hv3 : lv (catL la lb) with
      | false =>
        have NO := Lib.hid (catLR_no3 hv3)
        clear hv3
        go_wp2_with fail
        go_ret2
        rw [NO.out]
        exact LayRes.none' (H3.out.2.2.2.trans (H4.out.mono H3.out.2.2.2.size))
      | true =>
        have YES := Lib.hid (catLR_yes HLV.out.1 HLV.out.2 hv3)
        clear hv3
        go_wp2_with fail
        go_ret2
        rw [YES.out]
        obtain ⟨hc3, hs3, hf3, hb3⟩ := H3.out
        exact ⟨a3, c3, f3, rfl, hc3, hs3.below hs3.lt H4.out, (hf3.below hf3.lt H4.out).mono HLE.out, hb3.trans (H4.out.mono hb3.size)⟩

set_option maxRecDepth 100000 in
set_option maxHeartbeats 1600000 in
theorem specCatLayouts (la lb : List (Int × ByteArray)) (w : World) (aa : Option Addr) (ca : Nat) (fa : List Nat) (hsa : LaySub w aa la fa) (hca : la.length ≤ ca) (hla : la.length ≤ maxLen) (hfa : L.Fits la) (ab : Option Addr) (cb : Nat) (fb : List Nat) (hsb : LaySub w ab lb fb) (hcb : lb.length ≤ cb) (hlb : lb.length ≤ maxLen) (hfb : L.Fits lb) :
    Calls Try.prog 26 #[.slice aa la.length ca, .slice ab lb.length cb] w (LayRes w (catLR la lb)) := by
  have hv := specLayoutValid la w aa ca fa hsa hca hla hfa
  have hv2 := fun (W : World) (hW : Below w.heap.size w W) => specLayoutValid lb W ab cb fb (hsb.below hsb.lt hW) hcb hlb hfb
  have HA := Lib.hid (show ∀ (W : World) ob, Below w.heap.size w W → Below w.heap.size w (W.alloc ob) from fun W ob h => h.alloc h.size ob)
  cases hva : lv la with
  | false =>
    rw [catLR_no1 hva]
    rw [hva] at hv
    have HV := Lib.hid hv
    clear hv hv2 hva hsa hfa hsb hfb
    go_enter Try.func26, Try.ntmps26
    go_wp2_with fail
    refine HV.out.mono ?_
    rintro e1 w1 ⟨rfl, hb1⟩
    have HB := Lib.hid hb1
    clear hb1
    go_wp2_with fail
    go_ret2
    exact LayRes.none' (HA.out _ _ (HB.out))
  | true =>
    rw [hva] at hv
    cases hvb : lv lb with
    | false =>
      rw [catLR_no2 la hvb]
      rw [hvb] at hv2
      have HV := Lib.hid hv
      have HV2 := Lib.hid hv2
      clear hv hv2 hva hvb hsa hfa hsb hfb
      go_enter Try.func26, Try.ntmps26
      go_wp2_with fail
      refine HV.out.mono ?_
      rintro e1 w1 ⟨rfl, hb1⟩
      have HB := Lib.hid hb1
      clear hb1
      go_wp2_with fail
      refine (HV2.out _ HB.out).mono ?_
      rintro e1 w2 ⟨rfl, hb2⟩
      have HB2 := Lib.hid (HB.out.trans (hb2.mono HB.out.size))
      clear hb2
      go_wp2_with fail
      go_ret2
      exact LayRes.none' (HA.out _ _ (HB2.out))
    | true =>
      rw [hvb] at hv2
      have hcat := fun (W : World) (hW : Below w.heap.size w W) => l2Cat la lb hva hvb W aa ca fa (hsa.below hsa.lt hW) hca ab cb fb (hsb.below hsb.lt hW) hcb
      have hfit := cat_fits hva hvb
      have hval2 := fun (W : World) (a2 : Option Addr) (c2 : Nat) (f2 : List Nat) (h2 : LaySub W a2 (catL la lb) f2) (h3 : (catL la lb).length ≤ c2) => specLayoutValid (catL la lb) W a2 c2 f2 h2 h3 (by have := hfit.2.1; unfold maxLen; omega) hfit.1
      have HV := Lib.hid hv
      have HV2 := Lib.hid hv2
      have HN := Lib.hid hcat
      have HV3 := Lib.hid hval2
      have HLV := Lib.hid (And.intro hva hvb)
      clear hv hv2 hcat hval2 hfit hva hvb hsa hfa hsb hfb
      go_enter Try.func26, Try.ntmps26
      go_wp2_with fail
      refine HV.out.mono ?_
      rintro e1 w1 ⟨rfl, hb1⟩
      have HB := Lib.hid hb1
      clear hb1
      go_wp2_with fail
      refine (HV2.out _ HB.out).mono ?_
      rintro e1 w2 ⟨rfl, hb2⟩
      have HB2 := Lib.hid (HB.out.trans (hb2.mono HB.out.size))
      clear hb2
      go_wp2_with fail
      refine (HN.out _ HB2.out).mono ?_
      rintro e1 w3 ⟨a3, c3, f3, rfl, hc3, hs3, hf3, hb3⟩
      have H3 := Lib.hid (And.intro hc3 (And.intro hs3 (And.intro hf3 (HB2.out.trans (hb3.mono HB2.out.size)))))
      have HLE := Lib.hid HB2.out.size
      clear hc3 hs3 hf3 hb3
      go_wp2_with fail
      refine (HV3.out _ a3 c3 f3 H3.out.2.1 H3.out.1).mono ?_
      rintro e1 w4 ⟨rfl, hb4⟩
      have H4 := Lib.hid hb4
      clear hb4
      cases hv3 : lv (catL la lb) with
      | false =>
        have NO := Lib.hid (catLR_no3 hv3)
        clear hv3
        go_wp2_with fail
        go_ret2
        rw [NO.out]
        exact LayRes.none' (HA.out _ _ (H3.out.2.2.2.trans (H4.out.mono H3.out.2.2.2.size)))
      | true =>
        have YES := Lib.hid (catLR_yes HLV.out.1 HLV.out.2 hv3)
        clear hv3
        go_wp2_with fail
        go_ret2
        rw [YES.out]
        obtain ⟨hc3, hs3, hf3, hb3⟩ := H3.out
        exact ⟨a3, c3, f3, rfl, hc3, hs3.below hs3.lt H4.out, (hf3.below hf3.lt H4.out).mono HLE.out, hb3.trans (H4.out.mono hb3.size)⟩

end Go.Proofs.Ytgnpcfafdjebeaa.LayC

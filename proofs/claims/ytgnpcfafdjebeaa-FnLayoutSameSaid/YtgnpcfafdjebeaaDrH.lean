/-
  What the model's draw of the arguments of LayoutSame comes to.
-/
import Derived.Test.YtgnpcfafdjebeaaDrF
import Derived.Test.YtgnpcfafdjebeaaLayC
set_option linter.unusedVariables false
set_option linter.unusedSimpArgs false
namespace Go.Proofs.Ytgnpcfafdjebeaa.DrH
open Go.RowKit P1 Draw Draw2 Draw6 DrA DrD DrE DrF LayL LayV LayM LayN LayC OpenR

/-- lines whose number and sizes a machine can hold -/
def Fair (l : List (Int × ByteArray)) : Prop := l.length ≤ 200 ∧ L.Fits l
theorem Fair.of {l : List (Int × ByteArray)} (h : Small l) : Fair l := ⟨h.1, h.fits.1⟩
theorem Fair.fits {l : List (Int × ByteArray)} (h : Fair l) : L.Fits l ∧ l.length ≤ maxLen := ⟨h.2, by have := h.1; unfold maxLen; omega⟩
/-- two layouts that are drawn -/
def SameDraw (w : World) (e : Ending) (w' : World) : Prop := ∃ (la : List (Int × ByteArray)) (pa : Option Addr) (ca : Nat) (fa : List Nat) (lb : List (Int × ByteArray)) (pb : Option Addr) (cb : Nat) (fb : List Nat), e = .returned (.tuple #[.slice pa la.length ca, .slice pb lb.length cb]) ∧ la.length ≤ ca ∧ lb.length ≤ cb ∧ Fair la ∧ Fair lb ∧ LaySub w' pa la fa ∧ LaySub w' pb lb fb ∧ Below w.heap.size w w'

/-- what is known of the first layout and of the reader -/
structure Got (w wr : World) (q : Nat) (l : List (Int × ByteArray)) (p : Option Addr) (f : List Nat) : Prop where
  rd : Rd wr w.heap.size w.heap.size q
  below : Below w.heap.size w wr
  sub : LaySub wr p l f
  hi : ∀ c ∈ f, w.heap.size < c
  lt : w.heap.size < wr.heap.size
theorem Got.but {w wr w' : World} {q q' : Nat} {l : List (Int × ByteArray)} {p : Option Addr} {f : List Nat} (h : Got w wr q l p f) (k : But wr.heap.size w.heap.size wr w') (hr : Rd w' w.heap.size w.heap.size q') : Got w w' q' l p f :=
  ⟨hr, h.below.trans (k.below h.below.size (Nat.le_refl _)), sub_but h.sub k (fun c hc => ⟨h.sub.lt c hc, by have := h.hi c hc; omega⟩), h.hi, Nat.lt_of_lt_of_le h.lt k.size⟩
theorem Got.below' {w wr w' : World} {q : Nat} {l : List (Int × ByteArray)} {p : Option Addr} {f : List Nat} (h : Got w wr q l p f) (k : Below wr.heap.size wr w') : Got w w' q l p f :=
  h.but (But.of_below k) (rdBelow h.rd h.lt k)

theorem at_sub {w : World} {l : List (Int × ByteArray)} {b off : Nat} (h : LayAt w l b off) : ∃ fs, LaySub w (some ⟨b, off, none⟩) l fs := by
  by_cases e : l = []
  · exact ⟨[], .inl ⟨e, rfl⟩⟩
  · exact ⟨[b], .inr ⟨b, off, rfl, e, rfl, h⟩⟩
theorem own0 (w : World) (T : TypeId) : Own (w.alloc (.cells #[] T)) [] w.heap.size 0 w.heap.size :=
  ⟨LayAt.nil _ _ _, fun j hj => by omega, Nat.le_refl _, Nat.le_refl _, by simp, fun o => World.frozen?_alloc_new _ _ _ _⟩

set_option maxRecDepth 100000 in
set_option maxHeartbeats 6400000 in
theorem drawSame (w : World) (a : Option Addr) (len cap : Nat) (hb : Bytes w a len) (hlc : len ≤ cap) (hcm : cap ≤ maxLen) :
    Calls Try.prog 46 #[.slice a len cap] w (SameDraw w) := by
  obtain ⟨i0, hi, hz0, hz1, hz2⟩ := info_parts info
  have HI := Lib.hid (And.intro hi (And.intro hz0 (And.intro hz1 hz2)))
  have HO := Lib.hid (l15Open w a len cap hb hlc hcm)
  clear hb hlc hcm hi hz0 hz1 hz2
  go_enter Try.func46, Try.ntmps46
  go_wp2_with fail
  refine HO.out.mono ?_
  rintro e1 w1 ⟨rfl, hrd1, hlt1, hb1⟩
  have HD := Lib.hid (l2Draw w1 w.heap.size w.heap.size 0 hrd1 (by omega) hlt1)
  have H1 := Lib.hid (And.intro hlt1 hb1)
  clear hrd1 hlt1 hb1
  go_wp2_with fail
  refine HD.out.mono ?_
  rintro e2 w2 ⟨la, pa, ca, fa, q, rfl, hca, hsa, hla, hfa, hrd2, hq, hbut2⟩
  have hg2 : Got w w2 q la pa fa := ⟨hrd2, H1.out.2.trans (hbut2.below H1.out.2.size (Nat.le_refl _)), hla, fun c hc => by have := (hfa.2 c hc).1; have := H1.out.1; omega, Nat.lt_of_lt_of_le H1.out.1 hbut2.size⟩
  have G2 := Lib.hid hg2
  have HP := Lib.hid (pick w2 w.heap.size w.heap.size q 2 hg2.rd (by omega))
  have HS := Lib.hid (And.intro hca hsa)
  clear hla hfa hrd2 hbut2 hg2 hca hsa
  go_wp2_with fail
  refine HP.out.mono ?_
  rintro e3 w3 ⟨r, rfl, hr0, hr1, hrd3, hbut3⟩
  have hg3 := G2.out.but hbut3 hrd3
  have G3 := Lib.hid hg3
  have HA3 := Lib.hid (show ∀ ob, Below w3.heap.size w3 (w3.alloc ob) from fun ob => (Below.refl _ _).alloc (Nat.le_refl _) _)
  clear hrd3 hbut3 hg3
  have hr : r = 0 ∨ r ≠ 0 := by omega
  rcases pa with _ | ⟨ba, oa, pth⟩
  · obtain rfl : la = [] := by
      rcases G3.out.sub with ⟨h, _⟩ | ⟨b, off, h1, _⟩
      · exact h
      · cases h1
    simp only [List.length_nil]
    rcases hr with rfl | hr
    · go_wp2_with fail
      go_ret2
      exact ⟨[], none, ca, fa, [], _, _, [], rfl, HS.out.1, Nat.zero_le _, Fair.of HS.out.2, Fair.of Small.nil, (G3.out.below' (HA3.out _)).sub, .inl ⟨rfl, rfl⟩, (G3.out.below' (HA3.out _)).below⟩
    · have hrb : (r == 0) = false := beq_eq_false_iff_ne.2 hr
      have HD2 := Lib.hid (fun ob => l2Draw (w3.alloc ob) w.heap.size w.heap.size (q + 1) (G3.out.below' (HA3.out ob)).rd (by omega) (G3.out.below' (HA3.out ob)).lt)
      clear hr hr0 hr1
      go_wp2_with fail
      refine (HD2.out _).mono ?_
      rintro e4 w4 ⟨lb, pb, cb, fb, q4, rfl, hcb, hsb, hlb, hfb, hrd4, hq4, hbut4⟩
      have HF := Lib.hid (And.intro ((G3.out.below' (HA3.out _)).but hbut4 hrd4) (And.intro hcb (And.intro hsb hlb)))
      clear hcb hsb hlb hfb hrd4 hbut4
      go_wp2_with fail
      go_ret2
      exact ⟨[], none, ca, fa, lb, pb, cb, fb, rfl, HS.out.1, HF.out.2.1, Fair.of HS.out.2, Fair.of HF.out.2.2.1, HF.out.1.sub, HF.out.2.2.2, HF.out.1.below⟩
  · obtain ⟨m, hm⟩ : ∃ m, la.length = m := ⟨_, rfl⟩
    have HM := Lib.hid hm
    have hm200 : m ≤ 200 := by have := HS.out.2.1; omega
    have HNEWA := Lib.hid (show ∀ o i u, (cells2 la)[i]? = some u → (w3.alloc o).cell? ((⟨ba, oa, pth⟩ : Addr).add i) = some u from fun o i u hu => by
      rcases G3.out.sub with ⟨h, _⟩ | ⟨b, off, h1, h4, h2, h3⟩
      · rw [h] at hu; simp [cells2] at hu
      · cases h1; exact cells2_at (h3.below (h3.lt h4) (HA3.out _)) i u hu)
    have HOW := Lib.hid (own0 w3 31)
    have hs3 : ∀ o, w3.heap.size ≤ (w3.alloc o).heap.size := fun o => by simp
    have HS3 := Lib.hid hs3
    rw [hm]
    clear hm hs3
    rcases hr with rfl | hr
    · go_wp2_with (refine wpList_append_rows rfl (.tmp 15) (.tmp 16) rfl (l := []) (k := la) (n := 0) rfl HM.out HOW.out (HS3.out _) ⟨ba, oa, pth⟩ ca rfl rfl (HNEWA.out _) (by omega) ?_; intro g' cap' w' h1 h2 h3 h4 h5 h6)
      have HG := Lib.hid (G3.out.below' ((HA3.out _).trans h6))
      have HR := Lib.hid (And.intro h1 h2)
      clear h1 h2 h3 h4 h5 h6
      go_wp2_with fail
      go_ret2
      obtain ⟨fs, hsub⟩ := at_sub HR.out.2
      exact ⟨la, some ⟨ba, oa, pth⟩, ca, fa, la, some ⟨g', 0, none⟩, cap', fs, by show Ending.returned (.tuple #[.slice (some ⟨ba, oa, pth⟩) m ca, .slice (some ⟨g', 0, none⟩) m cap']) = _; rw [HM.out], HS.out.1, by rw [HM.out]; have := HR.out.1; omega, Fair.of HS.out.2, Fair.of HS.out.2, HG.out.sub, hsub, HG.out.below⟩
    · have hrb : (r == 0) = false := beq_eq_false_iff_ne.2 hr
      clear hr hr0 hr1
      rcases Nat.eq_zero_or_pos m with rfl | hm0
      · go_wp2_with (refine wpList_append_rows rfl (.tmp 18) (.tmp 19) rfl (l := []) (k := la) (n := 0) rfl HM.out HOW.out (HS3.out _) ⟨ba, oa, pth⟩ ca rfl rfl (HNEWA.out _) (by omega) ?_; intro g' cap' w' h1 h2 h3 h4 h5 h6)
        have HG := Lib.hid (G3.out.below' ((HA3.out _).trans h6))
        have HD2 := Lib.hid (l2Draw w' w.heap.size w.heap.size (q + 1) HG.out.rd (by omega) HG.out.lt)
        clear h1 h2 h3 h4 h5 h6
        go_wp2_with fail
        refine HD2.out.mono ?_
        rintro e4 w4 ⟨lb, pb, cb, fb, q4, rfl, hcb, hsb, hlb, hfb, hrd4, hq4, hbut4⟩
        have HF := Lib.hid (And.intro (HG.out.but hbut4 hrd4) (And.intro hcb (And.intro hsb hlb)))
        clear hcb hsb hlb hfb hrd4 hbut4
        go_wp2_with fail
        go_ret2
        exact ⟨la, some ⟨ba, oa, pth⟩, ca, fa, lb, pb, cb, fb, by show Ending.returned (.tuple #[.slice (some ⟨ba, oa, pth⟩) 0 ca, .slice pb lb.length cb]) = _; rw [HM.out], HS.out.1, HF.out.2.1, Fair.of HS.out.2, Fair.of HF.out.2.2.1, HF.out.1.sub, HF.out.2.2.2, HF.out.1.below⟩
      · obtain ⟨k, rfl⟩ : ∃ k, m = k + 1 := ⟨m - 1, by omega⟩
        clear hm0
        go_wp2_with (refine wpList_append_rows rfl (.tmp 18) (.tmp 19) rfl (l := []) (k := la) (n := 0) rfl HM.out HOW.out (HS3.out _) ⟨ba, oa, pth⟩ ca rfl rfl (HNEWA.out _) (by omega) ?_; intro g' cap' w' h1 h2 h3 h4 h5 h6)
        have hg4 := G3.out.below' ((HA3.out _).trans h6)
        have HG := Lib.hid hg4
        have HR := Lib.hid (And.intro h1 (And.intro h2 (And.intro h3 (And.intro h4 h5))))
        have HP2 := Lib.hid (pick w' w.heap.size w.heap.size (q + 1) 2 hg4.rd (by omega))
        clear h1 h2 h3 h4 h5 h6 hg4
        have i1 : (0 : Int) < (k : Int) + 1 := by omega
        go_wp2_with fail
        refine HP2.out.mono ?_
        rintro e5 w5 ⟨r5, rfl, hr0, hr1, hrd5, hbut5⟩
        have hg5 := HG.out.but hbut5 hrd5
        have hge : g' ≠ w.heap.size := by have := HR.out.2.2.1; have := G3.out.lt; omega
        have hrow5 := HR.out.2.1.congr (w' := w5) (fun o _ _ => hbut5.cell HR.out.2.2.2.1 hge)
        have hfz5 := fun o => (hbut5.frozen (o := o) HR.out.2.2.2.1 hge).trans (HR.out.2.2.2.2 o)
        have H5 := Lib.hid (And.intro hg5 (And.intro hrow5 hfz5))
        clear hrd5 hbut5 hg5
        have hr : r5 = 0 ∨ r5 ≠ 0 := by omega
        rcases hr with rfl | hr
        · have hkl : k < la.length := by rw [HM.out]; omega
          obtain ⟨⟨n1, t1⟩, e1⟩ : ∃ r, la[k] = r := ⟨_, rfl⟩
          have ht1 : t1.size ≤ 2000 := by have := HS.out.2.2 _ (List.getElem_mem hkl); rw [e1] at this; exact this.2.2
          have c1 := (hrow5 k hkl).2
          have e1' : ([] ++ la)[k]'(by simpa using hkl) = (n1, t1) := e1
          rw [e1', Nat.zero_add] at c1
          simp only at c1
          have z1 := hfz5 (k * 2 + 1)
          have HE := Lib.hid (show ∃ h : k < la.length, la[k] = (n1, t1) from ⟨hkl, e1⟩)
          have hsum : ¬ (9223372036854775807 < t1.size + 1) := by omega
          have i2 : (k : Int) < (k : Int) + 1 := by omega
          have i0 : (0 : Int) ≤ (k : Int) := Int.natCast_nonneg _
          clear hrow5 hfz5 hkl e1 e1' hr0 hr1
          go_wp2_with fail
          go_ret2
          obtain ⟨hkl, e1⟩ := HE.out
          have hset := H5.out.2.1.setT (k := k) (n := n1) (t := t1) hkl e1 (t1 ++ ⟨#[97]⟩)
          rw [Nat.zero_add] at hset
          simp only [List.nil_append] at hset
          obtain ⟨fs, hsub⟩ := at_sub hset
          have hlen : (la.set k (n1, t1 ++ ⟨#[97]⟩)).length = k + 1 := by rw [List.length_set, HM.out]
          have hg6 : Got w (w5.setCell ⟨g', k * 2 + 1, none⟩ (.string (t1 ++ ⟨#[97]⟩))) (q + 1 + 1) la (some ⟨ba, oa, pth⟩) fa := ⟨rdSet H5.out.1.rd (by have := HR.out.2.2.1; have := G3.out.lt; omega) _, H5.out.1.below.setCell (by have := HR.out.2.2.1; have := G3.out.lt; show w.heap.size ≤ g'; omega) _, H5.out.1.sub.congr (fun c hc o => World.cell?_setCell_other _ _ _ _ (fun e => by injection e with e3; have := G3.out.sub.lt c hc; have := HR.out.2.2.1; omega)), H5.out.1.hi, by simpa using H5.out.1.lt⟩
          refine ⟨la, some ⟨ba, oa, pth⟩, ca, fa, la.set k (n1, t1 ++ ⟨#[97]⟩), some ⟨g', 0, none⟩, cap', fs, ?_, HS.out.1, ?_, Fair.of HS.out.2, ⟨?_, ?_⟩, hg6.sub, hsub, hg6.below⟩
          · show Ending.returned (.tuple #[.slice (some ⟨ba, oa, pth⟩) (k + 1) ca, .slice (some ⟨g', 0, none⟩) (k + 1) cap']) = _
            rw [hlen, HM.out]
          · rw [hlen]; have := HR.out.1; omega
          · rw [hlen]; omega
          · intro r hr
            rcases List.mem_or_eq_of_mem_set hr with hr | rfl
            · exact HS.out.2.fits.1 r hr
            · unfold maxLen
              show (t1 ++ ⟨#[97]⟩).size ≤ _
              rw [ByteArray.size_append]
              show t1.size + 1 ≤ _
              omega
        · have hrb5 : (r5 == 0) = false := beq_eq_false_iff_ne.2 hr
          have HD2 := Lib.hid (l2Draw w5 w.heap.size w.heap.size (q + 1 + 1) H5.out.1.rd (by omega) H5.out.1.lt)
          clear hrow5 hfz5 hr hr0 hr1
          go_wp2_with fail
          refine HD2.out.mono ?_
          rintro e6 w6 ⟨lb, pb, cb, fb, q6, rfl, hcb, hsb, hlb, hfb, hrd6, hq6, hbut6⟩
          have HF := Lib.hid (And.intro (H5.out.1.but hbut6 hrd6) (And.intro hcb (And.intro hsb hlb)))
          clear hcb hsb hlb hfb hrd6 hbut6
          go_wp2_with fail
          go_ret2
          exact ⟨la, some ⟨ba, oa, pth⟩, ca, fa, lb, pb, cb, fb, by show Ending.returned (.tuple #[.slice (some ⟨ba, oa, pth⟩) (k + 1) ca, .slice pb lb.length cb]) = _; rw [HM.out], HS.out.1, HF.out.2.1, Fair.of HS.out.2, Fair.of HF.out.2.2.1, HF.out.1.sub, HF.out.2.2.2, HF.out.1.below⟩

end Go.Proofs.Ytgnpcfafdjebeaa.DrH

import Derived.Test.YtclifbjnooilmaaGreatDrM
/-
 What the model's draws of chapter 5 come to: some document of a bounded size in memory of its own, and a width from 0 to 201.
-/
set_option linter.unusedVariables false
set_option linter.unusedSimpArgs false
set_option maxRecDepth 100000
set_option maxHeartbeats 6400000
namespace Go.Proofs.YtclifbjnooilmaaGreat.Dr5
open Go.RowKit P1 Draw Draw2 Draw6 Copy DrA DrB DrC CatD ParseD DrD Mut Mut2 DrI DrN DrR
def small5 : ByteArray := ⟨#[40, 91, 40, 34, 97, 97, 97, 97, 34, 40, 95, 34, 98, 98, 34, 41, 41, 93, 91, 40, 95, 40, 34, 99, 99, 99, 34, 40, 95, 34, 100, 34, 41, 41, 41, 93, 41]⟩
theorem small5_ok : (parR false small5.data.toList).1 = true := by decide
theorem small5_size : small5.size ≤ 64 := by decide
def SmallDraw (w : World) (e : Ending) (w' : World) : Prop := ∃ (o n : Int) (t : ByteArray) (k : F) (a : Option Addr) (cap : Nat) (fs : List Nat), e = .returned (.agg #[.int .i64 o, .int .i64 n, .string t, .slice a k.len cap]) ∧ k.len ≤ cap ∧ t.size + k.size ≤ 1000 ∧ SubAt w' a k fs ∧ Fresh w.heap.size w' fs ∧ Below w.heap.size w w'
theorem SmallDraw.alloc {w : World} {e : Ending} {w' : World} (h : SmallDraw w e w') (ob : Obj) : SmallDraw w e (w'.alloc ob) := by
 obtain ⟨o, n, t, k, a, cap, fs, h1, h2, h3, h4, h5, h6⟩ := h
 exact ⟨o, n, t, k, a, cap, fs, h1, h2, h3, h4.below h5.lt ((Below.refl _ _).alloc (Nat.le_refl _) _), h5.below h5.lt ((Below.refl _ _).alloc (Nat.le_refl _) _), h6.alloc h6.size _⟩
structure InvT (w wr : World) (lo q : Nat) : Prop where
 rd : Rd wr (w.heap.size + 1) lo q
 bl : Below w.heap.size w wr
 z : ZBox wr w.heap.size
 lt : w.heap.size + 1 < wr.heap.size
theorem zbox_keep {w w' : World} {b : Nat} (h : ZBox w b) (hc : ∀ o, w'.cell? ⟨b, o, none⟩ = w.cell? ⟨b, o, none⟩) (hf : ∀ o, w'.frozen? ⟨b, o, none⟩ = w.frozen? ⟨b, o, none⟩) (hs : w.heap.size ≤ w'.heap.size) : ZBox w' b := by
 obtain ⟨⟨h0, h1, h2, h3⟩, ⟨z0, z1, z2, z3⟩, hb⟩ := h
 exact ⟨⟨(hc _).trans h0, (hc _).trans h1, (hc _).trans h2, (hc _).trans h3⟩, ⟨(hf _).trans z0, (hf _).trans z1, (hf _).trans z2, (hf _).trans z3⟩, Nat.lt_of_lt_of_le hb hs⟩
theorem InvT.start {w w1 : World} {lo q : Nat} {T : TypeId} (h : Rd w1 (w.heap.size + 1) lo q) (hl : w.heap.size + 1 < w1.heap.size) (hb : Below (w.alloc (.cells #[.int .i64 0, .int .i64 0, .string ⟨#[]⟩, .slice none 0 0] T)).heap.size (w.alloc (.cells #[.int .i64 0, .int .i64 0, .string ⟨#[]⟩, .slice none 0 0] T)) w1) : InvT w w1 lo q :=
 ⟨h, opened' hb, zbox_keep (ZBox.alloc w T) (fun o => hb.cell (p := ⟨w.heap.size, o, none⟩) (by simp)) (fun o => hb.frozen (p := ⟨w.heap.size, o, none⟩) (by simp)) hb.size, hl⟩
theorem InvT.step {w wr w' : World} {lo q q' : Nat} (h : InvT w wr lo q) (k : But wr.heap.size (w.heap.size + 1) wr w') (hr : Rd w' (w.heap.size + 1) lo q') : InvT w w' lo q' :=
 ⟨hr, h.bl.trans (k.below (by have := h.lt; omega) (by omega)), zbox_keep h.z (fun o => k.cell (by have := h.lt; omega) (by omega)) (fun o => k.frozen (by have := h.lt; omega) (by omega)) k.size, Nat.lt_of_lt_of_le h.lt k.size⟩
theorem InvT.below {w wr w' : World} {lo q : Nat} (h : InvT w wr lo q) (k : Below wr.heap.size wr w') : InvT w w' lo q :=
 h.step (But.of_below k) (rdBelow h.rd h.lt k)
theorem end_small5 {w w1 w2 : World} {lo q : Nat} {o n : Int} {t : ByteArray} {k : F} {a : Option Addr} {cap : Nat} {fs : List Nat} (hI : InvT w w1 lo q) (hc : k.len ≤ cap) (hsz : t.size + k.size ≤ 1000) (hv : validD o n t k = true) (hs : SubAt w1 a k fs) (hf : Fresh (w.heap.size + 1) w1 fs)
  (ht : Touch w.heap.size (w.heap.size + 1) w1 w2) : SmallDraw w (.returned (.agg #[.int .i64 o, .int .i64 n, .string t, .slice a k.len cap])) w2 :=
 ⟨o, n, t, k, a, cap, fs, rfl, hc, hsz, ht.sub hs (fun c hc => Or.inr (hf.2 c hc).1), (ht.fresh hf (fun c hc => Or.inr (hf.2 c hc).1)).mono (by omega), ht.below hI.bl (Nat.le_refl _)⟩
def nums5 : List Int := [8, 5, 12, 3, 20, 0, 16, 7, 10, 201]
theorem nums5_ok : ∀ r ∈ nums5, -1 ≤ r ∧ r ≤ 201 := by decide
theorem ints10b (V : World) : Ints (V.alloc (.cells #[.int .i64 8, .int .i64 5, .int .i64 12, .int .i64 3, .int .i64 20, .int .i64 0, .int .i64 16, .int .i64 7, .int .i64 10, .int .i64 201] 3)) V.heap.size 0 nums5 := fun j hj => by
 rw [World.cell?_alloc_new]
 have hj' : j < 10 := hj
 match j, hj' with
 | 0, _ => rfl
 | 1, _ => rfl
 | 2, _ => rfl
 | 3, _ => rfl
 | 4, _ => rfl
 | 5, _ => rfl
 | 6, _ => rfl
 | 7, _ => rfl
 | 8, _ => rfl
 | 9, _ => rfl
theorem l5Small (w : World) (a : Option Addr) (len cap : Nat) (hb : Bytes w a len) (hlc : len ≤ cap) (hcm : cap ≤ maxLen) :
  Calls Tryz.prog 72 #[.slice a len cap] w (SmallDraw w) := by
 have HO := Lib.hid (fun ob => l15Open (w.alloc ob) a len cap (LawC.bytes_below hb ((Below.refl _ _).alloc (Nat.le_refl _) ob)) hlc hcm)
 clear hb hlc hcm
 go_enter Tryz.func72, Tryz.ntmps72
 go_wp2_with fail
 refine (HO.out _).mono ?_
 rintro e1 w1 ⟨rfl, hrd1, hlt1, hb1⟩
 simp only [World.size_alloc] at hrd1 hlt1
 have HI0 := Lib.hid (InvT.start hrd1 hlt1 hb1)
 clear hrd1 hlt1 hb1
 go_wp2_with fail
 go_loopw [4] (fun i wr => ∃ (j q lo : Nat), j ≤ 4 ∧ i = .int .i64 j ∧ q ≤ 1000 * j ∧ InvT w wr lo q) (fun i _ => 4 - (intOf i).toNat)
 case atStart =>
  exact ⟨0, 0, _, by omega, rfl, by omega, HI0.out⟩
 case round =>
  obtain ⟨j, q, lo, hj, rfl, hq, hI⟩ := hrel
  by_cases hj4 : j < 4
  ·have hxr : w.heap.size + 1 < wr.heap.size := hI.lt
   have HP := Lib.hid (l1Draw wr (w.heap.size + 1) lo q hI.rd (by omega) hxr)
   have H0 := Lib.hid hI
   clear hI
   go_wp2_with fail
   refine HP.out.mono ?_
   rintro e1 w1 ⟨o, n, t, k, a, cap, fs, q', rfl, hc, hsz, hv, hsub, hfr, hrd1, hq', hbut1⟩
   have H1 := Lib.hid (H0.out.step hbut1 hrd1)
   have hct := fun (W : World) (hW : Below w1.heap.size w1 W) => ChS.specCount W o n t k a cap fs hv (hsub.below hfr.lt hW) (fun c hc => Nat.lt_of_lt_of_le (hfr.lt c hc) hW.size) hc (by omega)
   obtain ⟨z, hz⟩ : ∃ z : Int, ChS.mn (ChP.ctD o k) = z := ⟨_, rfl⟩
   rw [hz] at hct
   have HCT := Lib.hid hct
   have H4 := Lib.hid (And.intro hc (And.intro hsz (And.intro hv (And.intro hsub (hfr.mono (show w.heap.size + 1 ≤ wr.heap.size by have := H0.out.lt; omega))))))
   have hA1 := Lib.hid (show ∀ ob, Below w1.heap.size w1 (w1.alloc ob) from fun ob => (Below.refl _ _).alloc (Nat.le_refl _) _)
   clear hct hz hc hsz hv hsub hfr hrd1 hbut1
   go_wp2_with fail
   refine (HCT.out _ (hA1.out _)).mono ?_
   rintro e5 w5 ⟨rfl, hb5⟩
   have hbx : ∀ i u, (#[Value.int .i64 o, .int .i64 n, .string t, .slice a k.len cap] : Array Value)[i]? = some u → w5.cell? ⟨w1.heap.size, i, none⟩ = some u := fun i u hu => (hb5.cell (p := ⟨w1.heap.size, i, none⟩) (by simp)).trans (by rw [World.cell?_alloc_new]; exact hu)
   have b0 := hbx 0 _ rfl
   have b1 := hbx 1 _ rfl
   have b2 := hbx 2 _ rfl
   have b3 := hbx 3 _ rfl
   have hb15 : Below w1.heap.size w1 w5 := (hA1.out _).trans (hb5.mono (hA1.out _).size)
   have HB15 := Lib.hid hb15
   have hI5 := H1.out.below hb15
   obtain ⟨⟨z0, z1, z2, z3⟩, ⟨y0, y1, y2, y3⟩, hz⟩ := hI5.z
   have HI5 := Lib.hid hI5
   clear hI5 hb15 hb5 hbx
   by_cases hcnt : z ≤ 24
   ·go_wp2_with fail
    refine bodyPost_ret (v := .agg #[.int .i64 o, .int .i64 n, .string t, .slice a k.len cap]) (by simp [results, Tryz.results72, go_sem, z0, z1, z2, z3, y0, y1, y2, y3, hz]) rfl ?_
    obtain ⟨hc, hsz, hv, hsub, hfr⟩ := H4.out
    refine end_small5 (w1 := w5) HI5.out hc hsz hv (hsub.below hfr.lt HB15.out) (hfr.below hfr.lt HB15.out) ?_
    repeat (first | exact Touch.refl _ _ _ | refine Touch.setCell ?_ (by simp) (by simp) _)
   ·clear z0 z1 z2 z3 y0 y1 y2 y3 hz b0 b1 b2 b3
    go_wp2_with fail
    go_roundw
    case rel => exact ⟨j + 1, q', lo, by omega, by go_num, by omega, HI5.out⟩
    case measure => simp [intOf]; omega
  ·obtain ⟨⟨ok, o, n, t, k⟩, hpar⟩ : ∃ r, parR false small5.data.toList = r := ⟨_, rfl⟩
   have hok := small5_ok
   rw [hpar] at hok
   simp only at hok
   subst hok
   have hval := parR_true hpar
   have hpc := parseAt small5 small5_size wr
   rw [hpar] at hpc
   have HPC := Lib.hid (show Calls Tryz.prog 56 #[.string ⟨#[40, 91, 40, 34, 97, 97, 97, 97, 34, 40, 95, 34, 98, 98, 34, 41, 41, 93, 91, 40, 95, 40, 34, 99, 99, 99, 34, 40, 95, 34, 100, 34, 41, 41, 41, 93, 41]⟩] wr _ from hpc)
   have HV := Lib.hid (And.intro hval.1 (show t.size + k.size ≤ 1000 by have h2 := hval.2; have e : small5.data.toList.length = 37 := rfl; rw [e] at h2; omega))
   have H0 := Lib.hid hI
   clear hI hpar hval hpc
   go_wp2_with fail
   refine HPC.out.mono ?_
   rintro e3 w3 ⟨a, cap, fs, rfl, hc, hsub, hfr, hb3⟩
   simp only at hc hsub
   have hI3 := H0.out.below hb3
   obtain ⟨⟨z0, z1, z2, z3⟩, ⟨y0, y1, y2, y3⟩, hz⟩ := hI3.z
   have H3 := Lib.hid (And.intro hI3 (And.intro hc (And.intro hsub (hfr.mono (show w.heap.size + 1 ≤ wr.heap.size by have := H0.out.lt; omega)))))
   clear hI3 hc hsub hfr hb3
   go_wp2_with fail
   refine bodyPost_ret (v := .agg #[.int .i64 o, .int .i64 n, .string t, .slice a k.len cap]) (by simp [results, Tryz.results72, go_sem, z0, z1, z2, z3, y0, y1, y2, y3, hz]) rfl ?_
   obtain ⟨hI3, hc, hsub, hfr⟩ := H3.out
   refine SmallDraw.alloc (end_small5 (w1 := w3) hI3 hc HV.out.2 HV.out.1 hsub hfr ?_) _
   repeat (first | exact Touch.refl _ _ _ | refine Touch.setCell ?_ (by simp) (by simp) _)
theorem l5Case (w : World) (a : Option Addr) (len cap : Nat) (hb : Bytes w a len) (hlc : len ≤ cap) (hcm : cap ≤ maxLen) :
  Calls Tryz.prog 38 #[.slice a len cap] w (RnDraw w) := by
 have HO := Lib.hid (fun ob => l15Open (w.alloc ob) a len cap (LawC.bytes_below hb ((Below.refl _ _).alloc (Nat.le_refl _) ob)) hlc hcm)
 have HB0 := Lib.hid hb
 have HB1 := Lib.hid (And.intro hlc hcm)
 clear hb hlc hcm
 go_enter Tryz.func38, Tryz.ntmps38
 go_wp2_with fail
 refine (HO.out _).mono ?_
 rintro e1 w1 ⟨rfl, hrd1, hlt1, hb1⟩
 have hth1 := four_new hb1
 simp only [World.size_alloc] at hrd1 hlt1
 have HD := Lib.hid (l5Small w1 a len cap (LawC.bytes_below HB0.out (opened' hb1)) HB1.out.1 HB1.out.2)
 have H1 := Lib.hid (And.intro hlt1 (And.intro (opened' hb1) (And.intro hth1 hrd1)))
 clear hrd1 hlt1 hb1 hth1
 go_wp2_with fail
 refine HD.out.mono ?_
 rintro e2 w2 ⟨o2, n2, t2, k2, a2, c2, f2, rfl, hc2, hs2, hsub2, hfr2, hbl2⟩
 have hbut2 : But w1.heap.size (w.heap.size + 1) w1 w2 := But.of_below hbl2
 have hrd2 := rdBelow H1.out.2.2.2 H1.out.1 hbl2
 have hx2 : w.heap.size + 1 < w2.heap.size := Nat.lt_of_lt_of_le H1.out.1 hbut2.size
 have hth2 : w2.there w.heap.size 0 4 := there_but H1.out.2.2.1 hbut2 (by have := H1.out.1; omega) (by omega)
 have hB2 : Below w.heap.size w w2 := H1.out.2.1.trans (hbut2.below (by have := H1.out.1; omega) (by omega))
 have hf2 : ∀ c ∈ f2, w.heap.size + 1 < c ∧ c < w2.heap.size := fun c hc => ⟨Nat.lt_of_lt_of_le H1.out.1 (hfr2.2 c hc).1, (hfr2.2 c hc).2.1⟩
 have H2 := Lib.hid (And.intro hx2 (And.intro hth2 (And.intro hB2 (And.intro hf2 (And.intro hc2 (And.intro hs2 (And.intro hsub2 hfr2)))))))
 have HN0 := Lib.hid (show ∀ (V : World), Below w2.heap.size w2 V → V.heap.size = w2.heap.size + 1 → Calls Tryz.prog 73 #[.pointer (some ⟨w.heap.size + 1, 0, none⟩), .slice (some ⟨w2.heap.size + 1, 0, none⟩) 10 10] (V.alloc (.cells #[.int .i64 8, .int .i64 5, .int .i64 12, .int .i64 3, .int .i64 20, .int .i64 0, .int .i64 16, .int .i64 7, .int .i64 10, .int .i64 201] 3)) (NumOut (V.alloc (.cells #[.int .i64 8, .int .i64 5, .int .i64 12, .int .i64 3, .int .i64 20, .int .i64 0, .int .i64 16, .int .i64 7, .int .i64 10, .int .i64 201] 3)) (w.heap.size + 1) _ 0 nums5) from fun V h hz => by
  have hh := num (V.alloc (.cells #[.int .i64 8, .int .i64 5, .int .i64 12, .int .i64 3, .int .i64 20, .int .i64 0, .int .i64 16, .int .i64 7, .int .i64 10, .int .i64 201] 3)) (w.heap.size + 1) _ 0 V.heap.size 0 10 nums5 (rdBelow hrd2 hx2 (h.alloc h.size _)) (by omega) (ints10b V) (by decide) (by decide) (by decide) (by simp) (by omega)
  rw [hz] at hh
  exact hh)
 clear hc2 hs2 hbl2 hsub2 hfr2 hrd2 hbut2 hx2 hth2 hB2 hf2
 go_wp2_with fail
 obtain ⟨V, hV⟩ : ∃ V, w2.alloc (.cells #[.int .i64 o2, .int .i64 n2, .string t2, .slice a2 k2.len c2] 25) = V := ⟨_, rfl⟩
 have q0 : V.cell? ⟨w2.heap.size, 0, none⟩ = some (.int .i64 o2) := by rw [← hV, World.cell?_alloc_new]; rfl
 have q1 : V.cell? ⟨w2.heap.size, 1, none⟩ = some (.int .i64 n2) := by rw [← hV, World.cell?_alloc_new]; rfl
 have q2' : V.cell? ⟨w2.heap.size, 2, none⟩ = some (.string t2) := by rw [← hV, World.cell?_alloc_new]; rfl
 have q3 : V.cell? ⟨w2.heap.size, 3, none⟩ = some (.slice a2 k2.len c2) := by rw [← hV, World.cell?_alloc_new]; rfl
 have lq : w2.heap.size < V.heap.size := by rw [← hV]; simp
 have hbV : Below w2.heap.size w2 V := by rw [← hV]; exact (Below.refl _ _).alloc (Nat.le_refl _) _
 have HN := Lib.hid (HN0.out V hbV (by rw [← hV]; simp))
 rw [hV]
 clear hV
 refine HN.out.mono ?_
 rintro e3 w3 ⟨op, hmem, rfl, hrd3, hbut3⟩
 have hx2 := H2.out.1
 have hop := nums5_ok op hmem
 have hbW3 : But w2.heap.size (w.heap.size + 1) w2 w3 := (But.of_below (hbV.alloc hbV.size _)).trans (hbut3.mono (by simp; omega))
 have kV : ∀ i, w3.cell? ⟨w2.heap.size, i, none⟩ = V.cell? ⟨w2.heap.size, i, none⟩ := fun i => (hbut3.cell (by simp; omega) (by omega)).trans (((Below.refl V.heap.size V).alloc (Nat.le_refl _) _).cell (p := ⟨w2.heap.size, i, none⟩) lq)
 have r0 := (kV 0).trans q0
 have r1 := (kV 1).trans q1
 have r2 := (kV 2).trans q2'
 have r3 := (kV 3).trans q3
 have lr : w2.heap.size < w3.heap.size := Nat.lt_of_lt_of_le (by simp; omega) hbut3.size
 have HP := Lib.hid (pick w3 (w.heap.size + 1) _ _ 20 hrd3 (by omega))
 have H3 := Lib.hid (And.intro hop (And.intro hbW3 (And.intro lr (And.intro r0 (And.intro r1 (And.intro r2 r3))))))
 clear kV q0 q1 q2' q3 lq hbV hmem hrd3 hbut3 hbW3 hop r0 r1 r2 r3 lr hx2
 go_wp2_with fail
 refine HP.out.mono ?_
 rintro e4 w4 ⟨r, rfl, hr0, hr1, hrd4, hbut4⟩
 obtain ⟨hop, hbW3, lr, r0, r1, r2, r3⟩ := H3.out
 obtain ⟨hx2, hth2, hB2, hf2, hc2, hs2, hsub2, hfr2⟩ := H2.out
 have hbut : But w2.heap.size (w.heap.size + 1) w2 w4 := hbW3.trans (hbut4.mono (by omega))
 have d0 := (hbut4.cell (o := 0) lr (by omega)).trans r0
 have d1 := (hbut4.cell (o := 1) lr (by omega)).trans r1
 have d2 := (hbut4.cell (o := 2) lr (by omega)).trans r2
 have d3 := (hbut4.cell (o := 3) lr (by omega)).trans r3
 have ld : w2.heap.size < w4.heap.size := Nat.lt_of_lt_of_le lr hbut4.size
 have hx4 : w.heap.size + 1 < w4.heap.size := by omega
 have hth4 : w4.there w.heap.size 0 4 := there_but hth2 hbut (by omega) (by omega)
 have hsub4 := hbut.sub hsub2 (fun c hc => by have := hf2 c hc; omega)
 have hfr4 : Fresh (w.heap.size + 1) w4 f2 := (freshBut hfr2 hbut (Nat.le_refl _) (fun c hc => by have := hf2 c hc; omega)).mono (by have := H1.out.1; omega)
 have hB4 : Below w.heap.size w w4 := hB2.trans (hbut.below (by omega) (by omega))
 have hl : w.heap.size < w4.heap.size := by omega
 have HRD := Lib.hid hrd4
 have HE4 := Lib.hid (And.intro hop (And.intro hc2 (And.intro (show t2.size + k2.size ≤ 1040 by omega) (And.intro hsub4 (And.intro hfr4 hB4)))))
 have HT4 := Lib.hid (And.intro hth4 (And.intro hx4 (And.intro hs2 (fun c hc => And.intro (hfr4.2 c hc).1 (hfr4.2 c hc).2.1))))
 have hr : r = 0 ∨ r ≠ 0 := by omega
 clear hop hbW3 lr r0 r1 r2 r3 hx2 hth2 hB2 hf2 hc2 hs2 hsub2 hfr2 hbut hrd4 hbut4 hsub4 hfr4 hB4 hr0 hr1 hx4
 obtain ⟨⟨u0, u1, u2, u3, y0, y1, y2, y3⟩, z0, z1, z2, z3⟩ := there_at hth4
 clear hth4
 rcases hr with rfl | hr0
 ·have HM := Lib.hid (l1Mutate w4 (w.heap.size + 1) _ _ 1000 o2 n2 t2 k2 a2 c2 f2 HE4.out.2.2.2.1 (fun c hc => (HT4.out.2.2.2 c hc).2) HE4.out.2.1 HT4.out.2.2.1 (by omega) HRD.out (by omega) HT4.out.2.1)
  clear y0 y1 y2 y3 z0 z1 z2 z3
  go_wp2_with fail
  refine HM.out.mono ?_
  rintro e5 w5 ⟨o5, n5, t5, k5, a5, c5, f5, q5, rfl, hc5, hs5, hsub5, hfr5, hrd5, hq5, hbut5⟩
  have hx5 : w.heap.size + 1 < w5.heap.size := Nat.lt_of_lt_of_le HT4.out.2.1 hbut5.size
  have HM5 := Lib.hid (l1Mutate w5 (w.heap.size + 1) _ q5 1020 o5 n5 t5 k5 a5 c5 f5 hsub5 hfr5.lt hc5 hs5 (by omega) hrd5 (by omega) hx5)
  have H5 := Lib.hid (And.intro hx5 hbut5)
  clear hc5 hs5 hsub5 hfr5 hrd5 hbut5 hx5 d0 d1 d2 d3 ld hl
  go_wp2_with fail
  refine HM5.out.mono ?_
  rintro e6 w6 ⟨o6, n6, t6, k6, a6, c6, f6, q6, rfl, hc6, hs6, hsub6, hfr6, hrd6, hq6, hbut6⟩
  have g4 := HT4.out.2.1
  have g5 := H5.out.1
  have hth6 : w6.there w.heap.size 0 4 := there_but (there_but HT4.out.1 H5.out.2 (by omega) (by omega)) hbut6 (by omega) (by omega)
  have hl : w.heap.size < w6.heap.size := by have := hbut6.size; omega
  obtain ⟨⟨u0, u1, u2, u3, y0, y1, y2, y3⟩, z0, z1, z2, z3⟩ := there_at hth6
  have HE := Lib.hid (And.intro HE4.out.1 (And.intro hc6 (And.intro hs6 (And.intro hsub6 (And.intro (hfr6.mono (show w.heap.size + 1 ≤ w5.heap.size by omega)) ((HE4.out.2.2.2.2.2.trans (H5.out.2.below (by omega) (by omega))).trans (hbut6.below (by omega) (by omega))))))))
  clear hc6 hs6 hsub6 hfr6 hrd6 hbut6 hth6 g4 g5
  go_wp2_with fail
  refine bodyPost_ret (v := .tuple #[.agg #[.int .i64 o6, .int .i64 n6, .string t6, .slice a6 k6.len c6], .int .i64 op]) (by simp [results, Tryz.results38, go_sem, y0, y1, y2, y3, hl]) rfl ?_
  have htt : Touch w.heap.size (w.heap.size + 1) w6 ((((w6.setCell ⟨w.heap.size, 0, none⟩ (.int .i64 o6)).setCell ⟨w.heap.size, 1, none⟩ (.int .i64 n6)).setCell ⟨w.heap.size, 2, none⟩ (.string t6)).setCell ⟨w.heap.size, 3, none⟩ (.slice a6 k6.len c6)) := by
   refine Touch.setCell (Touch.setCell (Touch.setCell (Touch.setCell (Touch.refl _ _ _) ?_ ?_ _) ?_ ?_ _) ?_ ?_ _) ?_ ?_ _ <;> simp
  obtain ⟨hop, hc, hs, hsub, hfr, hB⟩ := HE.out
  have hfo : ∀ c ∈ f6, c < w.heap.size ∨ w.heap.size + 1 ≤ c := fun c hc => Or.inr (hfr.2 c hc).1
  exact ⟨o6, n6, t6, k6, a6, c6, f6, op, rfl, hop, hc, hs, htt.sub hsub hfo, (htt.fresh hfr hfo).mono (by omega), htt.below hB (Nat.le_refl _)⟩
 ·have hrb0 : (r == 0) = false := beq_eq_false_iff_ne.2 hr0
  have HE := HE4
  go_wp2_with fail
  refine bodyPost_ret (v := .tuple #[.agg #[.int .i64 o2, .int .i64 n2, .string t2, .slice a2 k2.len c2], .int .i64 op]) (by simp [results, Tryz.results38, go_sem, y0, y1, y2, y3, hl]) rfl ?_
  have htt : Touch w.heap.size (w.heap.size + 1) w4 ((((w4.setCell ⟨w.heap.size, 0, none⟩ (.int .i64 o2)).setCell ⟨w.heap.size, 1, none⟩ (.int .i64 n2)).setCell ⟨w.heap.size, 2, none⟩ (.string t2)).setCell ⟨w.heap.size, 3, none⟩ (.slice a2 k2.len c2)) := by
   refine Touch.setCell (Touch.setCell (Touch.setCell (Touch.setCell (Touch.refl _ _ _) ?_ ?_ _) ?_ ?_ _) ?_ ?_ _) ?_ ?_ _ <;> simp
  obtain ⟨hop, hc, hs, hsub, hfr, hB⟩ := HE.out
  have hfo : ∀ c ∈ f2, c < w.heap.size ∨ w.heap.size + 1 ≤ c := fun c hc => Or.inr (hfr.2 c hc).1
  exact ⟨o2, n2, t2, k2, a2, c2, f2, op, rfl, hop, hc, hs, htt.sub hsub hfo, (htt.fresh hfr hfo).mono (by omega), htt.below hB (Nat.le_refl _)⟩
theorem drawBestCost (w : World) (a : Option Addr) (len cap : Nat) (hb : Bytes w a len) (hlc : len ≤ cap) (hcm : cap ≤ maxLen) :
  Calls Tryz.prog 29 #[.slice a len cap] w (RnDraw w) := by
 have HO := Lib.hid (fun ob => l5Case (w.alloc ob) a len cap (LawC.bytes_below hb ((Below.refl _ _).alloc (Nat.le_refl _) ob)) hlc hcm)
 clear hb hlc hcm
 go_enter Tryz.func29, Tryz.ntmps29
 go_wp2_with fail
 refine (HO.out _).mono ?_
 rintro e1 w4 ⟨o3, n3, t3, k3, a3, c3, f3, op, rfl, hop, hc3, hs3, hsub3, hfr3, hb1⟩
 have hth1 := four_new hb1
 simp only [World.size_alloc] at hfr3
 have hl : w.heap.size < w4.heap.size := by have := hb1.size; simp at this; omega
 obtain ⟨⟨u0, u1, u2, u3, y0, y1, y2, y3⟩, z0, z1, z2, z3⟩ := there_at hth1
 have HE := Lib.hid (And.intro hop (And.intro hc3 (And.intro hs3 (And.intro hsub3 (And.intro hfr3 (opened' hb1))))))
 clear hop hc3 hs3 hsub3 hfr3 hb1 hth1
 go_wp2_with fail
 refine bodyPost_ret (v := .tuple #[.agg #[.int .i64 o3, .int .i64 n3, .string t3, .slice a3 k3.len c3], .int .i64 op]) (by simp [results, Tryz.results29, go_sem, y0, y1, y2, y3, hl]) rfl ?_
 have htt : Touch w.heap.size (w.heap.size + 1) w4 ((((w4.setCell ⟨w.heap.size, 0, none⟩ (.int .i64 o3)).setCell ⟨w.heap.size, 1, none⟩ (.int .i64 n3)).setCell ⟨w.heap.size, 2, none⟩ (.string t3)).setCell ⟨w.heap.size, 3, none⟩ (.slice a3 k3.len c3)) := by
  refine Touch.setCell (Touch.setCell (Touch.setCell (Touch.setCell (Touch.refl _ _ _) ?_ ?_ _) ?_ ?_ _) ?_ ?_ _) ?_ ?_ _ <;> simp
 obtain ⟨hop, hc, hs, hsub, hfr, hB⟩ := HE.out
 have hfo : ∀ c ∈ f3, c < w.heap.size ∨ w.heap.size + 1 ≤ c := fun c hc => Or.inr (hfr.2 c hc).1
 exact ⟨o3, n3, t3, k3, a3, c3, f3, op, rfl, hop, hc, hs, htt.sub hsub hfo, (htt.fresh hfr hfo).mono (by omega), htt.below hB (Nat.le_refl _)⟩
end Go.Proofs.YtclifbjnooilmaaGreat.Dr5

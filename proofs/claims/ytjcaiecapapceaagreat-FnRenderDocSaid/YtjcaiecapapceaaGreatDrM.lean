import Derived.Test.YtjcaiecapapceaaGreatDrZ
import Derived.Test.YtjcaiecapapceaaGreatShX
/-
 What the model's draws of documents with few choices come to: some document of a bounded size in memory of its own, and perhaps a number.
-/
set_option linter.unusedVariables false
set_option linter.unusedSimpArgs false
set_option maxRecDepth 100000
set_option maxHeartbeats 6400000
namespace Go.Proofs.YtjcaiecapapceaaGreat.DrN
theorem zpgDrM {α : Type} : (∀ (l : List α) (i : Nat) (h : i < l.toArray.size), l.toArray[i]'h = l[i]'(by simpa using h)) ∧ (∀ (x : α) (l : List α) (h : 0 < (x :: l).length), (x :: l)[0]'h = x) ∧ (∀ (x : α) (l : List α) (i : Nat) (h : i + 1 < (x :: l).length), (x :: l)[i + 1]'h = l[i]'(by simpa using h)) := ⟨fun _ _ _ => rfl, fun _ _ _ => rfl, fun _ _ _ _ => rfl⟩
open Go.RowKit P1 Draw Draw2 Draw6 Copy DrA DrB DrC CatD ParseD DrD Mut Mut2 DrI
def small : ByteArray := ⟨#[91, 40, 34, 97, 34, 40, 95, 91, 40, 34, 98, 34, 40, 46, 34, 99, 34, 41, 41, 93, 41, 41, 93]⟩
theorem small_ok : (parR false small.data.toList).1 = true := by decide
theorem small_size : small.size ≤ 64 := by decide
structure InvS (w wr : World) (x lo q : Nat) : Prop where
 rd : Rd wr x lo q
 but : But w.heap.size x w wr
 z : ZBox wr w.heap.size
theorem InvS.lt {w wr : World} {x lo q : Nat} (h : InvS w wr x lo q) : w.heap.size < wr.heap.size := h.z.2.2
theorem InvS.step {w wr w' : World} {x lo q q' : Nat} (h : InvS w wr x lo q) (hx : x < w.heap.size) (k : But wr.heap.size x wr w') (hr : Rd w' x lo q') : InvS w w' x lo q' := by
 obtain ⟨⟨h0, h1, h2, h3⟩, ⟨z0, z1, z2, z3⟩, hb⟩ := h.z
 refine ⟨hr, h.but.trans (k.mono (by omega)), ⟨⟨(k.cell hb (by omega)).trans h0, (k.cell hb (by omega)).trans h1, (k.cell hb (by omega)).trans h2, (k.cell hb (by omega)).trans h3⟩, ⟨(k.frozen hb (by omega)).trans z0, (k.frozen hb (by omega)).trans z1, (k.frozen hb (by omega)).trans z2, (k.frozen hb (by omega)).trans z3⟩, Nat.lt_of_lt_of_le hb k.size⟩⟩
theorem InvS.below {w wr w' : World} {x lo q : Nat} (h : InvS w wr x lo q) (hx : x < w.heap.size) (k : Below wr.heap.size wr w') : InvS w w' x lo q :=
 h.step hx (But.of_below k) (rdBelow h.rd (by have := h.lt; omega) k)
theorem end_small {w w1 w2 : World} {x lo p c q : Nat} {o n : Int} {t : ByteArray} {k : F} {a : Option Addr} {cap : Nat} {fs : List Nat} (hI : InvS w w1 x lo q) (hx : x < w.heap.size) (hc : k.len ≤ cap) (hsz : t.size + k.size ≤ 1000) (hv : validD o n t k = true) (hs : SubAt w1 a k fs) (hf : Fresh (w.heap.size + 1) w1 fs) (hq : q ≤ p + c)
  (ht : Touch w.heap.size (w.heap.size + 1) w1 w2) : DrawRes w x lo p c (.returned (.agg #[.int .i64 o, .int .i64 n, .string t, .slice a k.len cap])) w2 :=
 ⟨o, n, t, k, a, cap, fs, q, rfl, hc, hsz, hv, ht.sub hs (fun c hc => Or.inr (hf.2 c hc).1), (ht.fresh hf (fun c hc => Or.inr (hf.2 c hc).1)).mono (by omega), rdTouch hI.rd hx ht, hq, butTouch hI.but ht (Nat.le_refl _)⟩
theorem l3Small (w : World) (x lo p : Nat) (hrd : Rd w x lo p) (hp : p + 4000 ≤ 1073741824) (hx : x < w.heap.size) :
  Calls Tryz.prog 79 #[.pointer (some ⟨x, 0, none⟩)] w (DrawRes w x lo p 4000) := by
 have hA : ∀ o1, Below w.heap.size w (w.alloc o1) := fun o1 => (Below.refl _ _).alloc (Nat.le_refl _) _
 have HI0 := Lib.hid (fun o1 => rdBelow hrd hx (hA o1))
 have HA := Lib.hid hA
 clear hA hrd
 go_enter Tryz.func79, Tryz.ntmps79
 go_wp2_with fail
 go_loopw [3] (fun i wr => ∃ (j q : Nat), j ≤ 4 ∧ i = .int .i64 j ∧ q ≤ p + 1000 * j ∧ InvS w wr x lo q) (fun i _ => 4 - (intOf i).toNat)
 case atStart =>
  exact ⟨0, p, by omega, rfl, by omega, HI0.out _, But.of_below (HA.out _), ZBox.alloc w _⟩
 case round =>
  obtain ⟨j, q, hj, rfl, hq, hI⟩ := hrel
  by_cases hj4 : j < 4
  ·have hxr : x < wr.heap.size := by have := hI.lt; omega
   have HP := Lib.hid (l1Draw wr x lo q hI.rd (by omega) hxr)
   have H0 := Lib.hid hI
   clear hI
   go_wp2_with fail
   refine HP.out.mono ?_
   rintro e1 w1 ⟨o, n, t, k, a, cap, fs, q', rfl, hc, hsz, hv, hsub, hfr, hrd1, hq', hbut1⟩
   have H1 := Lib.hid (H0.out.step hx hbut1 hrd1)
   have hct := fun (W : World) (hW : Below w1.heap.size w1 W) => ChS.specCount W o n t k a cap fs hv (hsub.below hfr.lt hW) (fun c hc => Nat.lt_of_lt_of_le (hfr.lt c hc) hW.size) hc (by omega)
   obtain ⟨z, hz⟩ : ∃ z : Int, ChS.mn (ChP.ctD o k) = z := ⟨_, rfl⟩
   rw [hz] at hct
   have HCT := Lib.hid hct
   have H4 := Lib.hid (And.intro hc (And.intro hsz (And.intro hv (And.intro hsub (hfr.mono (show w.heap.size + 1 ≤ wr.heap.size by have := H0.out.lt; omega))))))
   have hA1 := Lib.hid (show ∀ ob, Below w1.heap.size w1 (w1.alloc ob) from fun ob => (Below.refl _ _).alloc (Nat.le_refl _) _)
   clear hct hz hc hsz hv hsub hfr hrd1 hbut1
   go_wp2_with fail
   refine (HCT.out _ (hA1.out _)).mono ?_
   rintro e5 w5 ⟨rfl, hb5⟩
   have hbx : ∀ i u, (#[Value.int .i64 o, .int .i64 n, .string t, .slice a k.len cap] : Array Value)[i]? = some u → w5.cell? ⟨w1.heap.size, i, none⟩ = some u := fun i u hu => (hb5.cell (p := ⟨w1.heap.size, i, none⟩) (by simp)).trans (by rw [World.cell?_alloc_new]; exact hu)
   have b0 := hbx 0 _ rfl
   have b1 := hbx 1 _ rfl
   have b2 := hbx 2 _ rfl
   have b3 := hbx 3 _ rfl
   have hb15 : Below w1.heap.size w1 w5 := (hA1.out _).trans (hb5.mono (hA1.out _).size)
   have HB15 := Lib.hid hb15
   have hI5 := H1.out.below hx hb15
   obtain ⟨⟨z0, z1, z2, z3⟩, ⟨y0, y1, y2, y3⟩, hz⟩ := hI5.z
   have HI5 := Lib.hid hI5
   clear hI5 hb15 hb5 hbx
   by_cases hcnt : z ≤ 60
   ·go_wp2_with fail
    refine bodyPost_ret (v := .agg #[.int .i64 o, .int .i64 n, .string t, .slice a k.len cap]) (by simp [results, Tryz.results79, go_sem, z0, z1, z2, z3, y0, y1, y2, y3, hz]) rfl ?_
    obtain ⟨hc, hsz, hv, hsub, hfr⟩ := H4.out
    refine end_small (w1 := w5) (q := q') HI5.out hx hc hsz hv (hsub.below hfr.lt HB15.out) (hfr.below hfr.lt HB15.out) (by omega) ?_
    repeat (first | exact Touch.refl _ _ _ | refine Touch.setCell ?_ (by simp) (by simp) _)
   ·clear z0 z1 z2 z3 y0 y1 y2 y3 hz b0 b1 b2 b3
    go_wp2_with fail
    go_roundw
    case rel => exact ⟨j + 1, q', by omega, by go_num, by omega, HI5.out⟩
    case measure => simp [intOf]; omega
  ·obtain ⟨⟨ok, o, n, t, k⟩, hpar⟩ : ∃ r, parR false small.data.toList = r := ⟨_, rfl⟩
   have hok := small_ok
   rw [hpar] at hok
   simp only at hok
   subst hok
   have hval := parR_true hpar
   have hpc := parseAt small small_size wr
   rw [hpar] at hpc
   have HPC := Lib.hid (show Calls Tryz.prog 127 #[.string ⟨#[91, 40, 34, 97, 34, 40, 95, 91, 40, 34, 98, 34, 40, 46, 34, 99, 34, 41, 41, 93, 41, 41, 93]⟩] wr _ from hpc)
   have HV := Lib.hid (And.intro hval.1 (show t.size + k.size ≤ 1000 by have h2 := hval.2; have e : small.data.toList.length = 23 := rfl; rw [e] at h2; omega))
   have H0 := Lib.hid hI
   clear hI hpar hval hpc
   go_wp2_with fail
   refine HPC.out.mono ?_
   rintro e3 w3 ⟨a, cap, fs, rfl, hc, hsub, hfr, hb3⟩
   simp only at hc hsub
   have hI3 := H0.out.below hx hb3
   obtain ⟨⟨z0, z1, z2, z3⟩, ⟨y0, y1, y2, y3⟩, hz⟩ := hI3.z
   have H3 := Lib.hid (And.intro hI3 (And.intro hc (And.intro hsub (hfr.mono (show w.heap.size + 1 ≤ wr.heap.size by have := H0.out.lt; omega)))))
   clear hI3 hc hsub hfr hb3
   go_wp2_with fail
   refine bodyPost_ret (v := .agg #[.int .i64 o, .int .i64 n, .string t, .slice a k.len cap]) (by simp [results, Tryz.results79, go_sem, z0, z1, z2, z3, y0, y1, y2, y3, hz]) rfl ?_
   obtain ⟨hI3, hc, hsub, hfr⟩ := H3.out
   refine DrawRes.alloc (end_small (w1 := w3) (q := q) hI3 hx hc HV.out.2 HV.out.1 hsub hfr (by omega) ?_) _
   repeat (first | exact Touch.refl _ _ _ | refine Touch.setCell ?_ (by simp) (by simp) _)
def nums : List Int := [0, 1, 2, 3, 5, -1, 100000]
end Go.Proofs.YtjcaiecapapceaaGreat.DrN
namespace Go.Proofs.YtjcaiecapapceaaGreat.DrR
open Go.RowKit P1 Draw Draw2 Draw6 Copy DrA DrB DrC CatD ParseD DrD Mut Mut2 DrI DrN
def nums : List Int := [8, 5, 12, 3, 20, 0, 16, 30, 7, 10]
def bads : List Int := [-1, 201, 200]
theorem nums_ok : ∀ r ∈ nums, -1 ≤ r ∧ r ≤ 201 := by decide
theorem bads_ok : ∀ r ∈ bads, -1 ≤ r ∧ r ≤ 201 := by decide
def RnDraw (w : World) (e : Ending) (w' : World) : Prop := ∃ (o n : Int) (t : ByteArray) (k : F) (a : Option Addr) (cap : Nat) (fs : List Nat) (op : Int), e = .returned (.tuple #[.agg #[.int .i64 o, .int .i64 n, .string t, .slice a k.len cap], .int .i64 op]) ∧ (-1 ≤ op ∧ op ≤ 201) ∧ k.len ≤ cap ∧ t.size + k.size ≤ 1040 ∧ SubAt w' a k fs ∧ Fresh w.heap.size w' fs ∧ Below w.heap.size w w'
theorem freshBut {lo B x : Nat} {w w' : World} {fs : List Nat} (h : Fresh lo w fs) (k : But B x w w') (hB : w.heap.size ≤ B) (hx : ∀ c ∈ fs, c ≠ x) : Fresh lo w' fs :=
 ⟨h.1, fun c hc => ⟨(h.2 c hc).1, Nat.lt_of_lt_of_le (h.2 c hc).2.1 k.size, fun o => (k.frozen (Nat.lt_of_lt_of_le (h.2 c hc).2.1 hB) (hx c hc)).trans ((h.2 c hc).2.2 o)⟩⟩
theorem keepSet {w : World} {b c : Nat} {u0 u1 u2 u3 v0 v1 v2 v3 : Value} (hne : c ≠ b) (h : w.cell? ⟨b, 0, none⟩ = some u0 ∧ w.cell? ⟨b, 1, none⟩ = some u1 ∧ w.cell? ⟨b, 2, none⟩ = some u2 ∧ w.cell? ⟨b, 3, none⟩ = some u3) :
  ((((w.setCell ⟨c, 0, none⟩ v0).setCell ⟨c, 1, none⟩ v1).setCell ⟨c, 2, none⟩ v2).setCell ⟨c, 3, none⟩ v3).cell? ⟨b, 0, none⟩ = some u0 ∧ ((((w.setCell ⟨c, 0, none⟩ v0).setCell ⟨c, 1, none⟩ v1).setCell ⟨c, 2, none⟩ v2).setCell ⟨c, 3, none⟩ v3).cell? ⟨b, 1, none⟩ = some u1 ∧
  ((((w.setCell ⟨c, 0, none⟩ v0).setCell ⟨c, 1, none⟩ v1).setCell ⟨c, 2, none⟩ v2).setCell ⟨c, 3, none⟩ v3).cell? ⟨b, 2, none⟩ = some u2 ∧ ((((w.setCell ⟨c, 0, none⟩ v0).setCell ⟨c, 1, none⟩ v1).setCell ⟨c, 2, none⟩ v2).setCell ⟨c, 3, none⟩ v3).cell? ⟨b, 3, none⟩ = some u3 := by
 obtain ⟨h0, h1, h2, h3⟩ := h
 refine ⟨?_, ?_, ?_, ?_⟩ <;> (rw [World.cell?_setCell_far _ _ _ _ hne, World.cell?_setCell_far _ _ _ _ hne, World.cell?_setCell_far _ _ _ _ hne, World.cell?_setCell_far _ _ _ _ hne]; assumption)
theorem box4 {w w' : World} {b : Nat} {u0 u1 u2 u3 : Value} (h : w.cell? ⟨b, 0, none⟩ = some u0 ∧ w.cell? ⟨b, 1, none⟩ = some u1 ∧ w.cell? ⟨b, 2, none⟩ = some u2 ∧ w.cell? ⟨b, 3, none⟩ = some u3) (hb : b < w.heap.size) (k : Below w.heap.size w w') :
  w'.cell? ⟨b, 0, none⟩ = some u0 ∧ w'.cell? ⟨b, 1, none⟩ = some u1 ∧ w'.cell? ⟨b, 2, none⟩ = some u2 ∧ w'.cell? ⟨b, 3, none⟩ = some u3 :=
 ⟨(k.cell (p := ⟨b, 0, none⟩) hb).trans h.1, (k.cell (p := ⟨b, 1, none⟩) hb).trans h.2.1, (k.cell (p := ⟨b, 2, none⟩) hb).trans h.2.2.1, (k.cell (p := ⟨b, 3, none⟩) hb).trans h.2.2.2⟩
theorem ints10 (V : World) : Ints (V.alloc (.cells #[.int .i64 8, .int .i64 5, .int .i64 12, .int .i64 3, .int .i64 20, .int .i64 0, .int .i64 16, .int .i64 30, .int .i64 7, .int .i64 10] 3)) V.heap.size 0 nums := fun j hj => by
 rw [World.cell?_alloc_new]
 have hj' : j < 10 := hj
 match j, hj' with
 | 0, _ => rfl
 | 1, _ => rfl
 | 2, _ => rfl
 | 3, _ => rfl
 | 4, _ => rfl
 | 5, _ => rfl
 | 6, _ => rfl
 | 7, _ => rfl
 | 8, _ => rfl
 | 9, _ => rfl
theorem ints3 (V : World) : Ints (V.alloc (.cells #[.int .i64 (-1), .int .i64 201, .int .i64 200] 3)) V.heap.size 0 bads := fun j hj => by
 rw [World.cell?_alloc_new]
 have hj' : j < 3 := hj
 match j, hj' with
 | 0, _ => rfl
 | 1, _ => rfl
 | 2, _ => rfl
theorem l4Case (w : World) (a : Option Addr) (len cap : Nat) (hb : Bytes w a len) (hlc : len ≤ cap) (hcm : cap ≤ maxLen) :
  Calls Tryz.prog 40 #[.slice a len cap] w (RnDraw w) := by
 have HO := Lib.hid (fun ob => l15Open (w.alloc ob) a len cap (LawC.bytes_below hb ((Below.refl _ _).alloc (Nat.le_refl _) ob)) hlc hcm)
 clear hb hlc hcm
 go_enter Tryz.func40, Tryz.ntmps40
 go_wp2_with fail
 refine (HO.out _).mono ?_
 rintro e1 w1 ⟨rfl, hrd1, hlt1, hb1⟩
 have hth1 := four_new hb1
 simp only [World.size_alloc] at hrd1 hlt1
 have HD := Lib.hid (l3Small w1 (w.heap.size + 1) _ 0 hrd1 (by omega) hlt1)
 have H1 := Lib.hid (And.intro hlt1 (And.intro (opened' hb1) hth1))
 clear hrd1 hlt1 hb1 hth1
 go_wp2_with fail
 refine HD.out.mono ?_
 rintro e2 w2 ⟨o2, n2, t2, k2, a2, c2, f2, q2, rfl, hc2, hs2, hv2, hsub2, hfr2, hrd2, hq2, hbut2⟩
 have hx2 : w.heap.size + 1 < w2.heap.size := Nat.lt_of_lt_of_le H1.out.1 hbut2.size
 have hth2 : w2.there w.heap.size 0 4 := there_but H1.out.2.2 hbut2 (by have := H1.out.1; omega) (by omega)
 have hB2 : Below w.heap.size w w2 := H1.out.2.1.trans (hbut2.below (by have := H1.out.1; omega) (by omega))
 have hf2 : ∀ c ∈ f2, w.heap.size + 1 < c ∧ c < w2.heap.size := fun c hc => ⟨Nat.lt_of_lt_of_le H1.out.1 (hfr2.2 c hc).1, (hfr2.2 c hc).2.1⟩
 have H2 := Lib.hid (And.intro hx2 (And.intro hth2 (And.intro hB2 (And.intro hf2 (And.intro hc2 (And.intro hs2 (And.intro hsub2 hfr2)))))))
 have HN0 := Lib.hid (show ∀ (V : World), Below w2.heap.size w2 V → V.heap.size = w2.heap.size + 1 → Calls Tryz.prog 80 #[.pointer (some ⟨w.heap.size + 1, 0, none⟩), .slice (some ⟨w2.heap.size + 1, 0, none⟩) 10 10] (V.alloc (.cells #[.int .i64 8, .int .i64 5, .int .i64 12, .int .i64 3, .int .i64 20, .int .i64 0, .int .i64 16, .int .i64 30, .int .i64 7, .int .i64 10] 3)) (NumOut (V.alloc (.cells #[.int .i64 8, .int .i64 5, .int .i64 12, .int .i64 3, .int .i64 20, .int .i64 0, .int .i64 16, .int .i64 30, .int .i64 7, .int .i64 10] 3)) (w.heap.size + 1) _ q2 nums) from fun V h hz => by
  have hh := num (V.alloc (.cells #[.int .i64 8, .int .i64 5, .int .i64 12, .int .i64 3, .int .i64 20, .int .i64 0, .int .i64 16, .int .i64 30, .int .i64 7, .int .i64 10] 3)) (w.heap.size + 1) _ q2 V.heap.size 0 10 nums (rdBelow hrd2 hx2 (h.alloc h.size _)) (by omega) (ints10 V) (by decide) (by decide) (by decide) (by simp) (by omega)
  rw [hz] at hh
  exact hh)
 clear hc2 hs2 hv2 hsub2 hfr2 hrd2 hbut2 hx2 hth2 hB2 hf2
 go_wp2_with fail
 obtain ⟨V, hV⟩ : ∃ V, w2.alloc (.cells #[.int .i64 o2, .int .i64 n2, .string t2, .slice a2 k2.len c2] 25) = V := ⟨_, rfl⟩
 have q0 : V.cell? ⟨w2.heap.size, 0, none⟩ = some (.int .i64 o2) := by rw [← hV, World.cell?_alloc_new]; rfl
 have q1 : V.cell? ⟨w2.heap.size, 1, none⟩ = some (.int .i64 n2) := by rw [← hV, World.cell?_alloc_new]; rfl
 have q2' : V.cell? ⟨w2.heap.size, 2, none⟩ = some (.string t2) := by rw [← hV, World.cell?_alloc_new]; rfl
 have q3 : V.cell? ⟨w2.heap.size, 3, none⟩ = some (.slice a2 k2.len c2) := by rw [← hV, World.cell?_alloc_new]; rfl
 have lq : w2.heap.size < V.heap.size := by rw [← hV]; simp
 have hbV : Below w2.heap.size w2 V := by rw [← hV]; exact (Below.refl _ _).alloc (Nat.le_refl _) _
 have HN := Lib.hid (HN0.out V hbV (by rw [← hV]; simp))
 rw [hV]
 clear hV
 refine HN.out.mono ?_
 rintro e3 w3 ⟨op, hmem, rfl, hrd3, hbut3⟩
 have hx2 := H2.out.1
 have hop := nums_ok op hmem
 have hbW3 : But w2.heap.size (w.heap.size + 1) w2 w3 := (But.of_below (hbV.alloc hbV.size _)).trans (hbut3.mono (by simp; omega))
 have kV : ∀ i, w3.cell? ⟨w2.heap.size, i, none⟩ = V.cell? ⟨w2.heap.size, i, none⟩ := fun i => (hbut3.cell (by simp; omega) (by omega)).trans (((Below.refl V.heap.size V).alloc (Nat.le_refl _) _).cell (p := ⟨w2.heap.size, i, none⟩) lq)
 have r0 := (kV 0).trans q0
 have r1 := (kV 1).trans q1
 have r2 := (kV 2).trans q2'
 have r3 := (kV 3).trans q3
 have lr : w2.heap.size < w3.heap.size := Nat.lt_of_lt_of_le (by simp; omega) hbut3.size
 have HP := Lib.hid (pick w3 (w.heap.size + 1) _ _ 20 hrd3 (by omega))
 have H3 := Lib.hid (And.intro hop (And.intro hbW3 (And.intro lr (And.intro r0 (And.intro r1 (And.intro r2 r3))))))
 clear kV q0 q1 q2' q3 lq hbV hmem hrd3 hbut3 hbW3 hop r0 r1 r2 r3 lr hx2
 go_wp2_with fail
 refine HP.out.mono ?_
 rintro e4 w4 ⟨r, rfl, hr0, hr1, hrd4, hbut4⟩
 obtain ⟨hop, hbW3, lr, r0, r1, r2, r3⟩ := H3.out
 obtain ⟨hx2, hth2, hB2, hf2, hc2, hs2, hsub2, hfr2⟩ := H2.out
 have hbut : But w2.heap.size (w.heap.size + 1) w2 w4 := hbW3.trans (hbut4.mono (by omega))
 have d0 := (hbut4.cell (o := 0) lr (by omega)).trans r0
 have d1 := (hbut4.cell (o := 1) lr (by omega)).trans r1
 have d2 := (hbut4.cell (o := 2) lr (by omega)).trans r2
 have d3 := (hbut4.cell (o := 3) lr (by omega)).trans r3
 have ld : w2.heap.size < w4.heap.size := Nat.lt_of_lt_of_le lr hbut4.size
 have hx4 : w.heap.size + 1 < w4.heap.size := by omega
 have hth4 : w4.there w.heap.size 0 4 := there_but hth2 hbut (by omega) (by omega)
 have hsub4 := hbut.sub hsub2 (fun c hc => by have := hf2 c hc; omega)
 have hfr4 : Fresh (w.heap.size + 1) w4 f2 := (freshBut hfr2 hbut (Nat.le_refl _) (fun c hc => by have := hf2 c hc; omega)).mono (by have := H1.out.1; omega)
 have hB4 : Below w.heap.size w w4 := hB2.trans (hbut.below (by omega) (by omega))
 have hl : w.heap.size < w4.heap.size := by omega
 have HRD := Lib.hid hrd4
 have HE4 := Lib.hid (And.intro hop (And.intro hc2 (And.intro (show t2.size + k2.size ≤ 1040 by omega) (And.intro hsub4 (And.intro hfr4 hB4)))))
 have HT4 := Lib.hid (And.intro hth4 (And.intro hx4 (And.intro hs2 (fun c hc => And.intro (hfr4.2 c hc).1 (hfr4.2 c hc).2.1))))
 have hr : r = 0 ∨ r = 1 ∨ (r ≠ 0 ∧ r ≠ 1) := by omega
 clear hop hbW3 lr r0 r1 r2 r3 hx2 hth2 hB2 hf2 hc2 hs2 hsub2 hfr2 hbut hrd4 hbut4 hsub4 hfr4 hB4 hr0 hr1 hx4
 obtain ⟨⟨u0, u1, u2, u3, y0, y1, y2, y3⟩, z0, z1, z2, z3⟩ := there_at hth4
 clear hth4
 rcases hr with rfl | rfl | ⟨hr0, hr1⟩
 ·have HM := Lib.hid (l1Mutate w4 (w.heap.size + 1) _ _ 1000 o2 n2 t2 k2 a2 c2 f2 HE4.out.2.2.2.1 (fun c hc => (HT4.out.2.2.2 c hc).2) HE4.out.2.1 HT4.out.2.2.1 (by omega) HRD.out (by omega) HT4.out.2.1)
  clear y0 y1 y2 y3 z0 z1 z2 z3
  go_wp2_with fail
  refine HM.out.mono ?_
  rintro e5 w5 ⟨o5, n5, t5, k5, a5, c5, f5, q5, rfl, hc5, hs5, hsub5, hfr5, hrd5, hq5, hbut5⟩
  have hx5 : w.heap.size + 1 < w5.heap.size := Nat.lt_of_lt_of_le HT4.out.2.1 hbut5.size
  have HM5 := Lib.hid (l1Mutate w5 (w.heap.size + 1) _ q5 1020 o5 n5 t5 k5 a5 c5 f5 hsub5 hfr5.lt hc5 hs5 (by omega) hrd5 (by omega) hx5)
  have H5 := Lib.hid (And.intro hx5 hbut5)
  clear hc5 hs5 hsub5 hfr5 hrd5 hbut5 hx5 d0 d1 d2 d3 ld hl
  go_wp2_with fail
  refine HM5.out.mono ?_
  rintro e6 w6 ⟨o6, n6, t6, k6, a6, c6, f6, q6, rfl, hc6, hs6, hsub6, hfr6, hrd6, hq6, hbut6⟩
  have g4 := HT4.out.2.1
  have g5 := H5.out.1
  have hth6 : w6.there w.heap.size 0 4 := there_but (there_but HT4.out.1 H5.out.2 (by omega) (by omega)) hbut6 (by omega) (by omega)
  have hl : w.heap.size < w6.heap.size := by have := hbut6.size; omega
  obtain ⟨⟨u0, u1, u2, u3, y0, y1, y2, y3⟩, z0, z1, z2, z3⟩ := there_at hth6
  have HE := Lib.hid (And.intro HE4.out.1 (And.intro hc6 (And.intro hs6 (And.intro hsub6 (And.intro (hfr6.mono (show w.heap.size + 1 ≤ w5.heap.size by omega)) ((HE4.out.2.2.2.2.2.trans (H5.out.2.below (by omega) (by omega))).trans (hbut6.below (by omega) (by omega))))))))
  clear hc6 hs6 hsub6 hfr6 hrd6 hbut6 hth6 g4 g5
  go_wp2_with fail
  refine bodyPost_ret (v := .tuple #[.agg #[.int .i64 o6, .int .i64 n6, .string t6, .slice a6 k6.len c6], .int .i64 op]) (by simp [results, Tryz.results40, go_sem, y0, y1, y2, y3, hl]) rfl ?_
  have htt : Touch w.heap.size (w.heap.size + 1) w6 ((((w6.setCell ⟨w.heap.size, 0, none⟩ (.int .i64 o6)).setCell ⟨w.heap.size, 1, none⟩ (.int .i64 n6)).setCell ⟨w.heap.size, 2, none⟩ (.string t6)).setCell ⟨w.heap.size, 3, none⟩ (.slice a6 k6.len c6)) := by
   refine Touch.setCell (Touch.setCell (Touch.setCell (Touch.setCell (Touch.refl _ _ _) ?_ ?_ _) ?_ ?_ _) ?_ ?_ _) ?_ ?_ _ <;> simp
  obtain ⟨hop, hc, hs, hsub, hfr, hB⟩ := HE.out
  have hfo : ∀ c ∈ f6, c < w.heap.size ∨ w.heap.size + 1 ≤ c := fun c hc => Or.inr (hfr.2 c hc).1
  exact ⟨o6, n6, t6, k6, a6, c6, f6, op, rfl, hop, hc, hs, htt.sub hsub hfo, (htt.fresh hfr hfo).mono (by omega), htt.below hB (Nat.le_refl _)⟩
 ·have HD4 := Lib.hid (And.intro d0 (And.intro d1 (And.intro d2 d3)))
  have HLD := Lib.hid ld
  have HX4 := Lib.hid (show ∀ c ∈ f2, w.heap.size + 1 < c from fun c hc => (H2.out.2.2.2.1 c hc).1)
  have HSA := Lib.hid (box4 HD4.out HLD.out ((Below.refl w4.heap.size w4).drew.alloc (by simp) (.cells #[.int .i64 (-1), .int .i64 201, .int .i64 200] 3)))
  have HN1 := Lib.hid (show Calls Tryz.prog 80 #[.pointer (some ⟨w.heap.size + 1, 0, none⟩), .slice (some ⟨w4.heap.size, 0, none⟩) 3 3] (w4.drew.alloc (.cells #[.int .i64 (-1), .int .i64 201, .int .i64 200] 3)) (NumOut (w4.drew.alloc (.cells #[.int .i64 (-1), .int .i64 201, .int .i64 200] 3)) (w.heap.size + 1) _ _ bads) from num (w4.drew.alloc (.cells #[.int .i64 (-1), .int .i64 201, .int .i64 200] 3)) (w.heap.size + 1) _ _ w4.heap.size 0 3 bads (rdBelow HRD.out HT4.out.2.1 ((Below.refl w4.heap.size w4).drew.alloc (by simp) _)) (by omega) (ints3 w4.drew) (by decide) (by decide) (by decide) (by simp) (by have := HT4.out.2.1; omega))
  clear y0 y1 y2 y3 z0 z1 z2 z3 hl d0 d1 d2 d3 ld
  go_wp2_with fail
  refine wp_region_held_drew (S := (fun w' => w'.cell? ⟨w2.heap.size, 0, none⟩ = some (.int .i64 o2) ∧ w'.cell? ⟨w2.heap.size, 1, none⟩ = some (.int .i64 n2) ∧ w'.cell? ⟨w2.heap.size, 2, none⟩ = some (.string t2) ∧ w'.cell? ⟨w2.heap.size, 3, none⟩ = some (.slice a2 k2.len c2))) (by kernel_rfl) ?_ (fun hHeld => ?_)
  ·exact HD4.out
  refine wpAnyH_take (i := 0) (v := ?_) rfl (by kernel_rfl) (by kernel_rfl) (by kernel_rfl) (fun _ _ _ h => h) (Or.inl ⟨by rfl, ?_⟩) (by assumption) ?_
  rotate_left
  ·(intro w hSw; (try dsimp only at hSw); (go_simp <;> with_reducible rfl))
  try simp only [Act.put, zpu, zpgDrM]
  refine wpAnyH_take (i := 1) (v := ?_) rfl (by kernel_rfl) (by kernel_rfl) (by kernel_rfl) (fun _ _ _ h => h) (Or.inl ⟨by rfl, ?_⟩) (by assumption) ?_
  rotate_left
  ·(intro w hSw; (try dsimp only at hSw); (go_simp <;> with_reducible rfl))
  try simp only [Act.put, zpu, zpgDrM]
  refine wpAnyH_ready (rs := [2]) (by kernel_rfl) (by simp) ?_
  refine AllReadyH.cons rfl (fun K hK => ?_) AllReadyH.nil
  go_simp
  refine hK.out _ _ ?_ (fun hHeld2 => ?_)
  ·exact HSA.out
  clear hK K hHeld
  try simp only [Act.put, zpu, zpgDrM]
  refine wpAnyH_ready (rs := [3]) (by kernel_rfl) (by simp) ?_
  refine AllReadyH.cons rfl (fun K hK => ?_) AllReadyH.nil
  go_simp
  go_at_call 80
  refine HN1.out.mono ?_
  rintro e5 w5 ⟨op2, hmem, rfl, hrd5, hbut5⟩
  have hop2 := bads_ok op2 hmem
  have hbut : But w4.heap.size (w.heap.size + 1) w4 w5 := (But.of_below ((Below.refl w4.heap.size w4).drew.alloc (by simp) _)).trans (hbut5.mono (by simp))
  have hth5 : w5.there w.heap.size 0 4 := there_but HT4.out.1 hbut (by have := HT4.out.2.1; omega) (by omega)
  have hl : w.heap.size < w5.heap.size := by have := hbut.size; have := HT4.out.2.1; omega
  obtain ⟨⟨u0, u1, u2, u3, y0, y1, y2, y3⟩, z0, z1, z2, z3⟩ := there_at hth5
  have hne : ¬ (w.heap.size = w2.heap.size) := by have := H2.out.1; omega
  have s0 := (hbut.cell (o := 0) HLD.out (by have := H2.out.1; omega)).trans HD4.out.1
  have s1 := (hbut.cell (o := 1) HLD.out (by have := H2.out.1; omega)).trans HD4.out.2.1
  have s2 := (hbut.cell (o := 2) HLD.out (by have := H2.out.1; omega)).trans HD4.out.2.2.1
  have s3 := (hbut.cell (o := 3) HLD.out (by have := H2.out.1; omega)).trans HD4.out.2.2.2
  have HS5 := Lib.hid (And.intro s0 (And.intro s1 (And.intro s2 s3)))
  have HE := Lib.hid (And.intro hop2 (And.intro HE4.out.2.1 (And.intro HE4.out.2.2.1 (And.intro (hbut.sub HE4.out.2.2.2.1 (fun c hc => by have h1 := HT4.out.2.2.2 c hc; have h2 := HX4.out c hc; omega)) (And.intro (freshBut HE4.out.2.2.2.2.1 hbut (Nat.le_refl _) (fun c hc => by have := HX4.out c hc; omega)) (HE4.out.2.2.2.2.2.trans (hbut.below (by have := HT4.out.2.1; omega) (by omega))))))))
  clear hop2 hmem hrd5 hbut5 hbut hth5 s0 s1 s2 s3
  try go_wp2_with fail
  refine hK.out _ _ ?_ (fun hHeld3 => ?_)
  ·exact HS5.out
  clear hK K hHeld2
  try simp only [Act.put, zpu, zpgDrM]
  refine wpAnyH_ready (rs := [4]) (by kernel_rfl) (by simp) ?_
  refine AllReadyH.cons rfl (fun K hK => ?_) AllReadyH.nil
  go_simp
  refine hK.out _ _ ?_ (fun hHeld4 => ?_)
  ·exact keepSet hne HS5.out
  clear hK K hHeld3
  try simp only [Act.put, zpu, zpgDrM]
  refine wpAnyH_take (i := 5) (v := ?_) rfl (by kernel_rfl) (by kernel_rfl) (by kernel_rfl) (fun _ _ _ h => h) (Or.inl ⟨by rfl, ?_⟩) (by assumption) ?_
  rotate_left
  ·(intro w hSw; (try dsimp only at hSw); (go_simp <;> with_reducible rfl))
  try simp only [Act.put, zpu, zpgDrM]
  refine wpAnyH_done (by kernel_rfl) ?_ _
  go_wp2_with fail
  refine bodyPost_ret (v := .tuple #[.agg #[.int .i64 o2, .int .i64 n2, .string t2, .slice a2 k2.len c2], .int .i64 op2]) (by simp [results, Tryz.results40, go_sem, y0, y1, y2, y3, hl]) rfl ?_
  have htt : Touch w.heap.size (w.heap.size + 1) w5 ((((w5.setCell ⟨w.heap.size, 0, none⟩ (.int .i64 o2)).setCell ⟨w.heap.size, 1, none⟩ (.int .i64 n2)).setCell ⟨w.heap.size, 2, none⟩ (.string t2)).setCell ⟨w.heap.size, 3, none⟩ (.slice a2 k2.len c2)) := by
   refine Touch.setCell (Touch.setCell (Touch.setCell (Touch.setCell (Touch.refl _ _ _) ?_ ?_ _) ?_ ?_ _) ?_ ?_ _) ?_ ?_ _ <;> simp
  obtain ⟨hop, hc, hs, hsub, hfr, hB⟩ := HE.out
  have hfo : ∀ c ∈ f2, c < w.heap.size ∨ w.heap.size + 1 ≤ c := fun c hc => Or.inr (hfr.2 c hc).1
  exact ⟨o2, n2, t2, k2, a2, c2, f2, op2, rfl, hop, hc, hs, htt.sub hsub hfo, (htt.fresh hfr hfo).mono (by omega), htt.below hB (Nat.le_refl _)⟩
 ·have hrb0 : (r == 0) = false := beq_eq_false_iff_ne.2 hr0
  have hrb1 : (r == 1) = false := beq_eq_false_iff_ne.2 hr1
  have HE := HE4
  go_wp2_with fail
  refine bodyPost_ret (v := .tuple #[.agg #[.int .i64 o2, .int .i64 n2, .string t2, .slice a2 k2.len c2], .int .i64 op]) (by simp [results, Tryz.results40, go_sem, y0, y1, y2, y3, hl]) rfl ?_
  have htt : Touch w.heap.size (w.heap.size + 1) w4 ((((w4.setCell ⟨w.heap.size, 0, none⟩ (.int .i64 o2)).setCell ⟨w.heap.size, 1, none⟩ (.int .i64 n2)).setCell ⟨w.heap.size, 2, none⟩ (.string t2)).setCell ⟨w.heap.size, 3, none⟩ (.slice a2 k2.len c2)) := by
   refine Touch.setCell (Touch.setCell (Touch.setCell (Touch.setCell (Touch.refl _ _ _) ?_ ?_ _) ?_ ?_ _) ?_ ?_ _) ?_ ?_ _ <;> simp
  obtain ⟨hop, hc, hs, hsub, hfr, hB⟩ := HE.out
  have hfo : ∀ c ∈ f2, c < w.heap.size ∨ w.heap.size + 1 ≤ c := fun c hc => Or.inr (hfr.2 c hc).1
  exact ⟨o2, n2, t2, k2, a2, c2, f2, op, rfl, hop, hc, hs, htt.sub hsub hfo, (htt.fresh hfr hfo).mono (by omega), htt.below hB (Nat.le_refl _)⟩
theorem drawRenderDoc (w : World) (a : Option Addr) (len cap : Nat) (hb : Bytes w a len) (hlc : len ≤ cap) (hcm : cap ≤ maxLen) :
  Calls Tryz.prog 11 #[.slice a len cap] w (RnDraw w) := by
 have HO := Lib.hid (fun ob => l4Case (w.alloc ob) a len cap (LawC.bytes_below hb ((Below.refl _ _).alloc (Nat.le_refl _) ob)) hlc hcm)
 clear hb hlc hcm
 go_enter Tryz.func11, Tryz.ntmps11
 go_wp2_with fail
 refine (HO.out _).mono ?_
 rintro e1 w4 ⟨o3, n3, t3, k3, a3, c3, f3, op, rfl, hop, hc3, hs3, hsub3, hfr3, hb1⟩
 have hth1 := four_new hb1
 simp only [World.size_alloc] at hfr3
 have hl : w.heap.size < w4.heap.size := by have := hb1.size; simp at this; omega
 obtain ⟨⟨u0, u1, u2, u3, y0, y1, y2, y3⟩, z0, z1, z2, z3⟩ := there_at hth1
 have HE := Lib.hid (And.intro hop (And.intro hc3 (And.intro hs3 (And.intro hsub3 (And.intro hfr3 (opened' hb1))))))
 clear hop hc3 hs3 hsub3 hfr3 hb1 hth1
 go_wp2_with fail
 refine bodyPost_ret (v := .tuple #[.agg #[.int .i64 o3, .int .i64 n3, .string t3, .slice a3 k3.len c3], .int .i64 op]) (by simp [results, Tryz.results11, go_sem, y0, y1, y2, y3, hl]) rfl ?_
 have htt : Touch w.heap.size (w.heap.size + 1) w4 ((((w4.setCell ⟨w.heap.size, 0, none⟩ (.int .i64 o3)).setCell ⟨w.heap.size, 1, none⟩ (.int .i64 n3)).setCell ⟨w.heap.size, 2, none⟩ (.string t3)).setCell ⟨w.heap.size, 3, none⟩ (.slice a3 k3.len c3)) := by
  refine Touch.setCell (Touch.setCell (Touch.setCell (Touch.setCell (Touch.refl _ _ _) ?_ ?_ _) ?_ ?_ _) ?_ ?_ _) ?_ ?_ _ <;> simp
 obtain ⟨hop, hc, hs, hsub, hfr, hB⟩ := HE.out
 have hfo : ∀ c ∈ f3, c < w.heap.size ∨ w.heap.size + 1 ≤ c := fun c hc => Or.inr (hfr.2 c hc).1
 exact ⟨o3, n3, t3, k3, a3, c3, f3, op, rfl, hop, hc, hs, htt.sub hsub hfo, (htt.fresh hfr hfo).mono (by omega), htt.below hB (Nat.le_refl _)⟩
end Go.Proofs.YtjcaiecapapceaaGreat.DrR

import Derived.Test.YtjcaiecapapceaaDrZ
import Derived.Test.YtjcaiecapapceaaShX
/-
 What the model's draws of documents with few choices come to: some document of a bounded size in memory of its own, and perhaps a number.
-/
set_option linter.unusedVariables false
set_option linter.unusedSimpArgs false
set_option maxRecDepth 100000
set_option maxHeartbeats 6400000
namespace Go.Proofs.Ytjcaiecapapceaa.DrN
open Go.RowKit P1 Draw Draw2 Draw6 Copy DrA DrB DrC CatD ParseD DrD Mut Mut2 DrI
def small : ByteArray := ⟨#[91, 40, 34, 97, 34, 40, 95, 91, 40, 34, 98, 34, 40, 46, 34, 99, 34, 41, 41, 93, 41, 41, 93]⟩
theorem small_ok : (parR false small.data.toList).1 = true := by decide
theorem small_size : small.size ≤ 64 := by decide
structure InvS (w wr : World) (x lo q : Nat) : Prop where
 rd : Rd wr x lo q
 but : But w.heap.size x w wr
 z : ZBox wr w.heap.size
theorem InvS.lt {w wr : World} {x lo q : Nat} (h : InvS w wr x lo q) : w.heap.size < wr.heap.size := h.z.2.2
theorem InvS.step {w wr w' : World} {x lo q q' : Nat} (h : InvS w wr x lo q) (hx : x < w.heap.size) (k : But wr.heap.size x wr w') (hr : Rd w' x lo q') : InvS w w' x lo q' := by
 obtain ⟨⟨h0, h1, h2, h3⟩, ⟨z0, z1, z2, z3⟩, hb⟩ := h.z
 refine ⟨hr, h.but.trans (k.mono (by omega)), ⟨⟨(k.cell hb (by omega)).trans h0, (k.cell hb (by omega)).trans h1, (k.cell hb (by omega)).trans h2, (k.cell hb (by omega)).trans h3⟩, ⟨(k.frozen hb (by omega)).trans z0, (k.frozen hb (by omega)).trans z1, (k.frozen hb (by omega)).trans z2, (k.frozen hb (by omega)).trans z3⟩, Nat.lt_of_lt_of_le hb k.size⟩⟩
theorem InvS.below {w wr w' : World} {x lo q : Nat} (h : InvS w wr x lo q) (hx : x < w.heap.size) (k : Below wr.heap.size wr w') : InvS w w' x lo q :=
 h.step hx (But.of_below k) (rdBelow h.rd (by have := h.lt; omega) k)
theorem end_small {w w1 w2 : World} {x lo p c q : Nat} {o n : Int} {t : ByteArray} {k : F} {a : Option Addr} {cap : Nat} {fs : List Nat} (hI : InvS w w1 x lo q) (hx : x < w.heap.size) (hc : k.len ≤ cap) (hsz : t.size + k.size ≤ 1000) (hv : validD o n t k = true) (hs : SubAt w1 a k fs) (hf : Fresh (w.heap.size + 1) w1 fs) (hq : q ≤ p + c)
  (ht : Touch w.heap.size (w.heap.size + 1) w1 w2) : DrawRes w x lo p c (.returned (.agg #[.int .i64 o, .int .i64 n, .string t, .slice a k.len cap])) w2 :=
 ⟨o, n, t, k, a, cap, fs, q, rfl, hc, hsz, hv, ht.sub hs (fun c hc => Or.inr (hf.2 c hc).1), (ht.fresh hf (fun c hc => Or.inr (hf.2 c hc).1)).mono (by omega), rdTouch hI.rd hx ht, hq, butTouch hI.but ht (Nat.le_refl _)⟩
theorem l3Small (w : World) (x lo p : Nat) (hrd : Rd w x lo p) (hp : p + 4000 ≤ 1073741824) (hx : x < w.heap.size) :
  Calls Try.prog 61 #[.pointer (some ⟨x, 0, none⟩)] w (DrawRes w x lo p 4000) := by
 have hA : ∀ o1, Below w.heap.size w (w.alloc o1) := fun o1 => (Below.refl _ _).alloc (Nat.le_refl _) _
 have HI0 := Lib.hid (fun o1 => rdBelow hrd hx (hA o1))
 have HA := Lib.hid hA
 clear hA hrd
 go_enter Try.func61, Try.ntmps61
 go_wp2_with fail
 go_loopw [3] (fun i wr => ∃ (j q : Nat), j ≤ 4 ∧ i = .int .i64 j ∧ q ≤ p + 1000 * j ∧ InvS w wr x lo q) (fun i _ => 4 - (intOf i).toNat)
 case atStart =>
  exact ⟨0, p, by omega, rfl, by omega, HI0.out _, But.of_below (HA.out _), ZBox.alloc w _⟩
 case round =>
  obtain ⟨j, q, hj, rfl, hq, hI⟩ := hrel
  by_cases hj4 : j < 4
  ·have hxr : x < wr.heap.size := by have := hI.lt; omega
   have HP := Lib.hid (l1Draw wr x lo q hI.rd (by omega) hxr)
   have H0 := Lib.hid hI
   clear hI
   go_wp2_with fail
   refine HP.out.mono ?_
   rintro e1 w1 ⟨o, n, t, k, a, cap, fs, q', rfl, hc, hsz, hv, hsub, hfr, hrd1, hq', hbut1⟩
   have H1 := Lib.hid (H0.out.step hx hbut1 hrd1)
   have hct := fun (W : World) (hW : Below w1.heap.size w1 W) => ChS.specCount W o n t k a cap fs hv (hsub.below hfr.lt hW) (fun c hc => Nat.lt_of_lt_of_le (hfr.lt c hc) hW.size) hc (by omega)
   obtain ⟨z, hz⟩ : ∃ z : Int, ChS.mn (ChP.ctD o k) = z := ⟨_, rfl⟩
   rw [hz] at hct
   have HCT := Lib.hid hct
   have H4 := Lib.hid (And.intro hc (And.intro hsz (And.intro hv (And.intro hsub (hfr.mono (show w.heap.size + 1 ≤ wr.heap.size by have := H0.out.lt; omega))))))
   have hA1 := Lib.hid (show ∀ ob, Below w1.heap.size w1 (w1.alloc ob) from fun ob => (Below.refl _ _).alloc (Nat.le_refl _) _)
   clear hct hz hc hsz hv hsub hfr hrd1 hbut1
   go_wp2_with fail
   refine (HCT.out _ (hA1.out _)).mono ?_
   rintro e5 w5 ⟨rfl, hb5⟩
   have hbx : ∀ i u, (#[Value.int .i64 o, .int .i64 n, .string t, .slice a k.len cap] : Array Value)[i]? = some u → w5.cell? ⟨w1.heap.size, i, none⟩ = some u := fun i u hu => (hb5.cell (p := ⟨w1.heap.size, i, none⟩) (by simp)).trans (by rw [World.cell?_alloc_new]; exact hu)
   have b0 := hbx 0 _ rfl
   have b1 := hbx 1 _ rfl
   have b2 := hbx 2 _ rfl
   have b3 := hbx 3 _ rfl
   have hb15 : Below w1.heap.size w1 w5 := (hA1.out _).trans (hb5.mono (hA1.out _).size)
   have HB15 := Lib.hid hb15
   have hI5 := H1.out.below hx hb15
   obtain ⟨⟨z0, z1, z2, z3⟩, ⟨y0, y1, y2, y3⟩, hz⟩ := hI5.z
   have HI5 := Lib.hid hI5
   clear hI5 hb15 hb5 hbx
   by_cases hcnt : z ≤ 60
   ·go_wp2_with fail
    refine bodyPost_ret (v := .agg #[.int .i64 o, .int .i64 n, .string t, .slice a k.len cap]) (by simp [results, Try.results61, go_sem, z0, z1, z2, z3, y0, y1, y2, y3, hz]) rfl ?_
    obtain ⟨hc, hsz, hv, hsub, hfr⟩ := H4.out
    refine end_small (w1 := w5) (q := q') HI5.out hx hc hsz hv (hsub.below hfr.lt HB15.out) (hfr.below hfr.lt HB15.out) (by omega) ?_
    repeat (first | exact Touch.refl _ _ _ | refine Touch.setCell ?_ (by simp) (by simp) _)
   ·clear z0 z1 z2 z3 y0 y1 y2 y3 hz b0 b1 b2 b3
    go_wp2_with fail
    go_roundw
    case rel => exact ⟨j + 1, q', by omega, by go_num, by omega, HI5.out⟩
    case measure => simp [intOf]; omega
  ·obtain ⟨⟨ok, o, n, t, k⟩, hpar⟩ : ∃ r, parR false small.data.toList = r := ⟨_, rfl⟩
   have hok := small_ok
   rw [hpar] at hok
   simp only at hok
   subst hok
   have hval := parR_true hpar
   have hpc := parseAt small small_size wr
   rw [hpar] at hpc
   have HPC := Lib.hid (show Calls Try.prog 96 #[.string ⟨#[91, 40, 34, 97, 34, 40, 95, 91, 40, 34, 98, 34, 40, 46, 34, 99, 34, 41, 41, 93, 41, 41, 93]⟩] wr _ from hpc)
   have HV := Lib.hid (And.intro hval.1 (show t.size + k.size ≤ 1000 by have h2 := hval.2; have e : small.data.toList.length = 23 := rfl; rw [e] at h2; omega))
   have H0 := Lib.hid hI
   clear hI hpar hval hpc
   go_wp2_with fail
   refine HPC.out.mono ?_
   rintro e3 w3 ⟨a, cap, fs, rfl, hc, hsub, hfr, hb3⟩
   simp only at hc hsub
   have hI3 := H0.out.below hx hb3
   obtain ⟨⟨z0, z1, z2, z3⟩, ⟨y0, y1, y2, y3⟩, hz⟩ := hI3.z
   have H3 := Lib.hid (And.intro hI3 (And.intro hc (And.intro hsub (hfr.mono (show w.heap.size + 1 ≤ wr.heap.size by have := H0.out.lt; omega)))))
   clear hI3 hc hsub hfr hb3
   go_wp2_with fail
   refine bodyPost_ret (v := .agg #[.int .i64 o, .int .i64 n, .string t, .slice a k.len cap]) (by simp [results, Try.results61, go_sem, z0, z1, z2, z3, y0, y1, y2, y3, hz]) rfl ?_
   obtain ⟨hI3, hc, hsub, hfr⟩ := H3.out
   refine DrawRes.alloc (end_small (w1 := w3) (q := q) hI3 hx hc HV.out.2 HV.out.1 hsub hfr (by omega) ?_) _
   repeat (first | exact Touch.refl _ _ _ | refine Touch.setCell ?_ (by simp) (by simp) _)
end Go.Proofs.Ytjcaiecapapceaa.DrN
namespace Go.Proofs.Ytjcaiecapapceaa.DrR
open Go.RowKit P1 Draw Draw2 Draw6 Copy DrA DrB DrC CatD ParseD DrD Mut Mut2 DrI DrN
end Go.Proofs.Ytjcaiecapapceaa.DrR

import Derived.Test.YtafhefmjnjibdaaNfE1
import Derived.Test.YtafhefmjnjibdaaSpV
import Derived.Test.YtafhefmjnjibdaaCpA
/-
  What the model's functions of normal forms share: l7Empty, l7Map, l7Done, and what holds at the head of a round of their loops over the Kids.
-/
set_option linter.unusedVariables false
set_option linter.unusedSimpArgs false
namespace Go.Proofs.Ytafhefmjnjibdaa.Nf
open Go.RowKit P1 Copy CatD

abbrev Four (b : Nat) (u0 u1 u2 u3 : Value) (w : World) : Prop := w.cell? ⟨b, 0, none⟩ = some u0 ∧ w.cell? ⟨b, 1, none⟩ = some u1 ∧ w.cell? ⟨b, 2, none⟩ = some u2 ∧ w.cell? ⟨b, 3, none⟩ = some u3
theorem Four.below {b : Nat} {u0 u1 u2 u3 : Value} {W w' : World} (h : Four b u0 u1 u2 u3 W) {B : Nat} (k : Below B W w') (hb : b < B) : Four b u0 u1 u2 u3 w' := by
  obtain ⟨h0, h1, h2, h3⟩ := h
  exact ⟨(k.cell (p := ⟨_, _, _⟩) hb).trans h0, (k.cell (p := ⟨_, _, _⟩) hb).trans h1, (k.cell (p := ⟨_, _, _⟩) hb).trans h2, (k.cell (p := ⟨_, _, _⟩) hb).trans h3⟩

/-- what holds at the head of a round: the Kids so far, changed, in a row of the call's own; the document's variable; the result's -/
def KdAt (w : World) (o n : Int) (t : ByteArray) (u : Value) (φ : Rule) (k : F) (v i : Value) (wr : World) : Prop :=
  ∃ (j : Nat) (p g : F) (fs : List Nat), i = .int .i64 j ∧ k = p.app g ∧ p.len = j ∧ Grow wr 25 (w.heap.size + 2) v (mapL φ p) fs ∧ Below w.heap.size w wr ∧ Four w.heap.size (.int .i64 o) (.int .i64 n) (.string t) u wr ∧ ZBox wr (w.heap.size + 1)

theorem kd_start (w : World) (o n : Int) (t : ByteArray) (u : Value) (φ : Rule) (k : F) (T : TypeId) : KdAt w o n t u φ k (.slice (some ⟨w.heap.size + 1 + 1, 0, none⟩) 0 0) (.int .i64 0)
    (((w.alloc (.cells #[.int .i64 o, .int .i64 n, .string t, u] T)).alloc (.cells #[.int .i64 0, .int .i64 0, .string ⟨#[]⟩, .slice none 0 0] T)).alloc (.cells #[] 25)) := by
  have e : ((w.alloc (.cells #[.int .i64 o, .int .i64 n, .string t, u] T)).alloc (.cells #[.int .i64 0, .int .i64 0, .string ⟨#[]⟩, .slice none 0 0] T)).heap.size = w.heap.size + 1 + 1 := by simp
  refine ⟨0, .nil, k, [], rfl, rfl, rfl, ?_, (((Ext.refl w).alloc _).alloc _).alloc _, ?_, ?_⟩
  · have := Grow.made ((w.alloc (.cells #[.int .i64 o, .int .i64 n, .string t, u] T)).alloc (.cells #[.int .i64 0, .int .i64 0, .string ⟨#[]⟩, .slice none 0 0] T)) 25 (w.heap.size + 2) (by rw [e]; omega)
    rw [e] at this
    exact this
  · have h1 : Four w.heap.size (.int .i64 o) (.int .i64 n) (.string t) u (w.alloc (.cells #[.int .i64 o, .int .i64 n, .string t, u] T)) := by
      refine ⟨?_, ?_, ?_, ?_⟩ <;> (rw [World.cell?_alloc_new]; rfl)
    exact (h1.below ((Below.refl _ _).alloc (Nat.le_refl _) _) (by simp)).below ((Below.refl _ _).alloc (Nat.le_refl _) _) (by simp; omega)
  · exact (zbox_second w _ T).ext ((Ext.refl _).alloc _)

/-- from the call to the append -/
theorem mid_d {wr w1 : World} {ob : Obj} {T : TypeId} {lo : Nat} {v : Value} {p : F} {fs : List Nat} (hG : Grow wr T lo v p fs) (hb : Below wr.heap.size wr w1) :
    Grow (w1.alloc ob) T lo v p fs ∧ lo ≤ wr.heap.size ∧ (∀ q ∈ fs, q < wr.heap.size) ∧ (∀ q, v.ownBlock = some q → q < wr.heap.size) ∧ Below wr.heap.size wr w1 :=
  ⟨(hG.below (Nat.le_refl _) hb).alloc ob, hG.2.2.2, fun q hq => hG.fresh.lt q hq, fun q hq => (hG.own_lt q hq).2, hb⟩
theorem mid_end {wr w1 w2 : World} {ob : Obj} {lo : Nat} (hb : Below wr.heap.size wr w1) (hb' : Below lo (w1.alloc ob) w2) (hlo : lo ≤ wr.heap.size) : Below lo wr w2 :=
  (((hb.mono hlo).alloc (Nat.le_trans hlo hb.size) ob)).trans hb'

/-- the end: what was made lies there still, when all that was written since is the result's variable, and new -/
theorem end_but {w w3 w4 : World} {x lo : Nat} {o n : Int} {t : ByteArray} {k : F} {a : Option Addr} {cap l : Nat} {fs : List Nat} (hl : k.len = l) (hs : SubAt w3 a k fs) (hF : Fresh lo w3 fs) (hc : k.len ≤ cap) (hx : x < lo) (hw : w.heap.size ≤ x) (hb : Below w.heap.size w w3) (hB : But w3.heap.size x w3 w4) :
    NewOut w o n t k (.returned (.agg #[.int .i64 o, .int .i64 n, .string t, .slice a l cap])) w4 := by
  subst hl
  have h1 : ∀ c ∈ fs, c < w3.heap.size ∧ c ≠ x := fun c hc => ⟨hF.lt c hc, fun e => by have := (hF.2 c hc).1; omega⟩
  exact ⟨a, cap, fs, rfl, hc, hB.sub hs h1, (hF.alike hB.size (fun c hc o => hB.frozen (h1 c hc).1 (h1 c hc).2)).mono (by omega), hb.trans (hB.below hb.size hw)⟩

theorem specEmpty (W : World) (o n : Int) (t : ByteArray) (a : Option Addr) (l cap : Nat) :
    Calls Try.prog 117 #[.agg #[.int .i64 o, .int .i64 n, .string t, .slice a l cap]] W fun e w' => e = .returned (.bool (o == 1)) ∧ w' = W.alloc (.cells #[.int .i64 o, .int .i64 n, .string t, .slice a l cap] 25) := by
  go_enter Try.func117, Try.ntmps117
  go_wp2_with fail
  go_ret
  exact ⟨rfl, rfl⟩

theorem specMap (W : World) (o n : Int) (t : ByteArray) (a : Option Addr) (l cap : Nat) (a2 : Option Addr) (l2 cap2 : Nat) :
    Calls Try.prog 103 #[.agg #[.int .i64 o, .int .i64 n, .string t, .slice a l cap], .slice a2 l2 cap2] W fun e w' => e = .returned (.agg #[.int .i64 o, .int .i64 n, .string t, .slice a2 l2 cap2]) ∧ Below W.heap.size W w' := by
  go_enter Try.func103, Try.ntmps103
  go_wp2_with fail
  refine bodyPost_ret (v := .agg #[.int .i64 o, .int .i64 n, .string t, .slice a2 l2 cap2]) (by simp [results, Try.results103, go_sem]) rfl ?_
  exact ⟨rfl, by repeat (first | exact Below.refl _ _ | refine Below.alloc ?_ (by simp) _ | refine Below.setCell ?_ (by simp) _)⟩

theorem spec_end {w w3 w4 : World} {d : D} {lo hi B : Nat} {a : Option Addr} {cap : Nat} {fs : List Nat} (hc : d.2.2.2.len ≤ cap) (hs : SubAt w3 a d.2.2.2 fs) (hF : Fresh B w3 fs) (hB : hi ≤ B) (hlh : lo ≤ hi) (hlo : w.heap.size ≤ lo) (hb : Below w.heap.size w w3) (ht : Touch lo hi w3 w4) {ok : Bool} :
    DocRes w (ok, d) (.returned (.tuple #[aggD d a cap, .bool ok])) w4 := end_pair hs hF hc hB hlo hlh hb ht

set_option maxRecDepth 100000 in
set_option maxHeartbeats 1600000 in
theorem specDone (w : World) (o n : Int) (t : ByteArray) (k : F) (a : Option Addr) (cap : Nat) (fs : List Nat) (hs : SubAt w a k fs) (hfs : ∀ c ∈ fs, c < w.heap.size) (hc : k.len ≤ cap) (hsz : k.size ≤ 1048576) (ht : t.size ≤ 1048576) :
    Calls Try.prog 68 #[.agg #[.int .i64 o, .int .i64 n, .string t, .slice a k.len cap], .bool true] w (DocRes w (if validD o n t k then (true, (o, n, t, k)) else (false, zeroD))) := by
  have hl := F.len_le_size k
  have hft : k.Fits := fits_of_size (m := 1048576) (by unfold maxLen; omega) k (by omega)
  have hval := fun (W : World) (e : Ext w W) => SpecC.docValid W o n t k a cap fs (e.sub hs hfs) (fun c hc => Nat.lt_of_lt_of_le (hfs c hc) e.size) hc (by omega) hft (by unfold maxLen; omega)
  have hcpy := fun (W : World) (e : Ext w W) => CopyS.l1Copy W o n t k a cap fs (e.sub hs hfs) (fun c hc => Nat.lt_of_lt_of_le (hfs c hc) e.size) hc (by omega) (by omega)
  have HE := Lib.hid (show ∀ x y, Ext w ((w.alloc x).alloc y) from fun x y => ((Ext.refl w).alloc x).alloc y)
  have HZ := Lib.hid (fun x => zbox_second w x 25)
  obtain ⟨L, hL⟩ : ∃ L, k.len = L := ⟨_, rfl⟩
  have HL := Lib.hid hL
  rw [hL] at hval hcpy ⊢
  cases hv : validD o n t k with
  | false =>
    rw [hv] at hval
    rw [show (if false = true then (true, ((o, n, t, k) : D)) else (false, zeroD)) = (false, zeroD) from rfl]
    have HV := Lib.hid hval
    clear hval hcpy hs hfs hc hsz ht hl hft hv hL
    go_enter Try.func68, Try.ntmps68
    go_wp2_with fail
    refine (HV.out _ (HE.out _ _)).mono ?_
    rintro e1 w1 ⟨rfl, hb⟩
    have E1 := Lib.hid (Ext.trans (HE.out _ _) hb)
    obtain ⟨⟨z0, z1, z2, z3⟩, ⟨z4, z5, z6, z7⟩, z8⟩ := (HZ.out _).ext hb
    clear hb
    go_wp2_with fail
    refine bodyPost_ret (v := .tuple #[.agg #[.int .i64 0, .int .i64 0, .string ⟨#[]⟩, .slice none 0 0], .bool false]) (by simp [results, Try.results68, go_sem, z0, z1, z2, z3, z4, z5, z6, z7, z8]) rfl ?_
    refine end_no (lo := w.heap.size + 1) (hi := w.heap.size + 2) (by omega) E1.out ?_
    repeat (first | exact Touch.refl _ _ _ | refine Touch.setCell ?_ (by simp) (by simp) _)
  | true =>
    rw [hv] at hval
    rw [show (if true = true then (true, ((o, n, t, k) : D)) else (false, zeroD)) = (true, (o, n, t, k)) from rfl]
    have HV := Lib.hid hval
    have HC := Lib.hid hcpy
    clear hval hcpy hs hfs hc hsz ht hl hft hv hL
    go_enter Try.func68, Try.ntmps68
    go_wp2_with fail
    refine (HV.out _ (HE.out _ _)).mono ?_
    rintro e1 w1 ⟨rfl, hb⟩
    have E1 := Lib.hid (Ext.trans (HE.out _ _) hb)
    have Z1 := Lib.hid ((HZ.out _).ext hb)
    have hs1 : w.heap.size + 2 ≤ w1.heap.size := by have := hb.size; simp at this; omega
    have C1 := fun o => hb.cell (p := ⟨w.heap.size, o, none⟩) (by simp; omega)
    clear hb
    go_wp2_with fail
    refine (HC.out _ E1.out).mono ?_
    rintro e2 w2 ⟨a2, cap2, f2, rfl, hc2, hs2, hfr2, hb2⟩
    rw [HL.out] at hc2 ⊢
    obtain ⟨⟨z0, z1, z2, z3⟩, ⟨z4, z5, z6, z7⟩, z8⟩ := Z1.out.ext hb2
    have H2 := Lib.hid (And.intro hc2 (And.intro hs2 (And.intro hfr2 hb2)))
    clear hc2 hs2 hfr2 hb2 C1
    go_wp2_with fail
    refine bodyPost_ret (v := .tuple #[.agg #[.int .i64 o, .int .i64 n, .string t, .slice a2 L cap2], .bool true]) (by simp [results, Try.results68, go_sem, z0, z1, z2, z3, z4, z5, z6, z7, z8]) rfl ?_
    obtain ⟨hc2, hs2, hfr2, hb2⟩ := H2.out
    rw [← HL.out] at hc2 ⊢
    refine spec_end (d := (o, n, t, k)) (lo := w.heap.size + 1) (hi := w.heap.size + 2) hc2 hs2 hfr2 hs1 (by omega) (by omega) (E1.out.trans hb2) ?_
    repeat (first | exact Touch.refl _ _ _ | refine Touch.setCell ?_ (by simp) (by simp) _)

end Go.Proofs.Ytafhefmjnjibdaa.Nf


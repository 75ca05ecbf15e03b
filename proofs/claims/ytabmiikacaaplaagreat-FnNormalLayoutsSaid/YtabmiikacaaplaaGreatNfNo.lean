import Derived.Test.YtabmiikacaaplaaGreatFuI
import Derived.Test.YtabmiikacaaplaaGreatNfGx
/-
  The normal form as a plain function: five changes, each well-formed and not too large.
-/
set_option linter.unusedVariables false
set_option linter.unusedSimpArgs false
set_option maxRecDepth 100000
set_option maxHeartbeats 1600000
namespace Go.Proofs.YtabmiikacaaplaaGreat.Nf
open Go.RowKit P1 Copy CatD

def n2D (d : D) : D := ap (pushD 0) (n1D d)
def n3D (d : D) : D := ap (chD grR) (n2D d)
def n4D (d : D) : D := ap (chD emR) (n3D d)
def noD (d : D) : D := ap (rowD fzR) (n4D d)
def noRes (o n : Int) (t : ByteArray) (k : F) : Bool × D := chR (o, n, t, k) (noD (o, n, t, k))

theorem no_2 {d : D} (h : validD d.1 d.2.1 d.2.2.1 d.2.2.2 = true) : niceD (n2D d) = true ∧ (n2D d).2.2.2.cnt ≤ 10000 := by
  obtain ⟨h1, h2, h3⟩ := no_1 h
  obtain ⟨⟨o1, n1, t1, k1⟩, hd⟩ : ∃ x, n1D d = x := ⟨_, rfl⟩
  unfold n2D
  rw [hd] at h1 h2 h3 ⊢
  exact push_fit h1 h3 h2
theorem no_3 {d : D} (h : validD d.1 d.2.1 d.2.2.1 d.2.2.2 = true) : niceD (n3D d) = true ∧ (n3D d).2.2.2.cnt ≤ 10000 := by
  obtain ⟨h1, h2⟩ := no_2 h
  obtain ⟨⟨o1, n1, t1, k1⟩, hd⟩ : ∃ x, n2D d = x := ⟨_, rfl⟩
  unfold n3D
  rw [hd] at h1 h2 ⊢
  obtain ⟨h3, h4⟩ := gr_nice h1
  exact ⟨h3, Nat.le_trans h4 h2⟩
theorem no_4 {d : D} (h : validD d.1 d.2.1 d.2.2.1 d.2.2.2 = true) : niceD (n4D d) = true ∧ (n4D d).2.2.2.cnt ≤ 10000 := by
  obtain ⟨h1, h2⟩ := no_3 h
  obtain ⟨⟨o1, n1, t1, k1⟩, hd⟩ : ∃ x, n3D d = x := ⟨_, rfl⟩
  unfold n4D
  rw [hd] at h1 h2 ⊢
  obtain ⟨h3, h4⟩ := em_nice h1
  exact ⟨h3, Nat.le_trans h4 h2⟩
theorem no_5 {d : D} (h : validD d.1 d.2.1 d.2.2.1 d.2.2.2 = true) : niceD (noD d) = true ∧ (noD d).2.2.2.cnt ≤ 10000 := by
  obtain ⟨h1, h2⟩ := no_4 h
  obtain ⟨⟨o1, n1, t1, k1⟩, hd⟩ : ∃ x, n4D d = x := ⟨_, rfl⟩
  unfold noD
  rw [hd] at h1 h2 ⊢
  obtain ⟨h3, h4⟩ := row_nice fzR_ok h1
  exact ⟨h3, Nat.le_trans h4 h2⟩

def noPs (d : D) : List (Nat × D) := [(12, n1D d), (13, n2D d), (14, n3D d), (12, n4D d), (15, noD d)]
theorem no_chain {d : D} (h : validD d.1 d.2.1 d.2.2.1 d.2.2.2 = true) : Chain (noPs d) d := by
  obtain ⟨a1, a2, a3⟩ := no_1 h
  obtain ⟨b1, b2⟩ := no_2 h
  obtain ⟨c1, c2⟩ := no_3 h
  obtain ⟨e1, e2⟩ := no_4 h
  have h0 := valid_nice h
  exact ⟨em_pass d.1 d.2.1 d.2.2.1 d.2.2.2 h0.1 (by have := h0.2.2; omega), pu_pass (n1D d).1 (n1D d).2.1 (n1D d).2.2.1 (n1D d).2.2.2 a1 (by omega) (by omega), gr_pass _ _ _ _ b1 b2, em_pass _ _ _ _ c1 c2, fu_pass _ _ _ _ e1 e2, trivial⟩

end Go.Proofs.YtabmiikacaaplaaGreat.Nf

namespace Go.Proofs.YtabmiikacaaplaaGreat.Nf
open Go.RowKit P1 Copy CatD

theorem implNormalDoc (w : World) (o n : Int) (t : ByteArray) (k : F) (a : Option Addr) (cap : Nat) (fs : List Nat) (hs : SubAt w a k fs) (hfs : ∀ c ∈ fs, c < w.heap.size ∧ ∀ o, w.frozen? ⟨c, o, none⟩ = false) (hc : k.len ≤ cap) (hle : t.size + k.size ≤ 1048576) :
    Calls Tryz.prog 5 #[.agg #[.int .i64 o, .int .i64 n, .string t, .slice a k.len cap]] w (DocRes w (noRes o n t k)) := by
  have hfit : validD o n t k = true → (noD (o, n, t, k)).2.2.2.size ≤ 1048576 ∧ (noD (o, n, t, k)).2.2.1.size ≤ 1048576 := fun hv => nice_fit (no_5 (d := (o, n, t, k)) hv).1 (no_5 (d := (o, n, t, k)) hv).2
  have hd := fun (W : World) (e : Ext w W) (bp : Nat) (hb : bp < W.heap.size) (h0 : W.cell? ⟨bp, 0, none⟩ = some (.func (.func 12) #[] #[])) (h1 : W.cell? ⟨bp, 1, none⟩ = some (.func (.func 13) #[] #[])) (h2 : W.cell? ⟨bp, 2, none⟩ = some (.func (.func 14) #[] #[])) (h3 : W.cell? ⟨bp, 3, none⟩ = some (.func (.func 12) #[] #[])) (h4 : W.cell? ⟨bp, 4, none⟩ = some (.func (.func 15) #[] #[])) => changed W o n t k a cap fs (e.sub hs (fun c hc => (hfs c hc).1)) (fun c hc => Nat.lt_of_lt_of_le (hfs c hc).1 e.size) hc hle (noPs (o, n, t, k)) bp 5 hb (fun j hj => by
    have hj5 : j < 5 := hj
    have e : j = 0 ∨ j = 1 ∨ j = 2 ∨ j = 3 ∨ j = 4 := (by omega)
    rcases e with rfl | rfl | rfl | rfl | rfl
    · exact h0
    · exact h1
    · exact h2
    · exact h3
    · exact h4) (Nat.le_refl _) (by show 5 ≤ 1000; omega) (fun hv => no_chain (d := (o, n, t, k)) hv) hfit
  obtain ⟨⟨ok, o2, n2, t2, k2⟩, hR⟩ : ∃ R, noRes o n t k = R := ⟨_, rfl⟩
  rw [hR]
  rw [show chR (o, n, t, k) (lastD (noPs (o, n, t, k)) (o, n, t, k)) = (ok, o2, n2, t2, k2) from hR, show (noPs (o, n, t, k)).length = 5 from rfl] at hd
  have HD := Lib.hid hd
  have HE := Lib.hid (show ∀ x y z, Ext w (((w.alloc x).alloc y).alloc z) from fun x y z => (((Ext.refl w).alloc x).alloc y).alloc z)
  have HZ := Lib.hid (fun x => zbox_second w x 25)
  obtain ⟨L, hL⟩ : ∃ L, k.len = L := ⟨_, rfl⟩
  rw [hL] at HD ⊢
  clear hd hs hfs hc hR hL hle hfit
  go_enter Tryz.func5, Tryz.ntmps5
  go_wp2_with fail
  have hez : ((w.alloc (.cells #[.int .i64 o, .int .i64 n, .string t, .slice a L cap] 25)).alloc (.cells #[.int .i64 0, .int .i64 0, .string ⟨#[]⟩, .slice none 0 0] 25)).heap.size = w.heap.size + 1 + 1 := by simp
  refine (HD.out _ (HE.out _ _ _) (w.heap.size + 1 + 1) (by simp) (by rw [← hez]; exact cell_new _ _ _ 0 _ rfl) (by rw [← hez]; exact cell_new _ _ _ 1 _ rfl) (by rw [← hez]; exact cell_new _ _ _ 2 _ rfl) (by rw [← hez]; exact cell_new _ _ _ 3 _ rfl) (by rw [← hez]; exact cell_new _ _ _ 4 _ rfl)).mono ?_
  rintro e1 w1 ⟨a3, cap3, f3, rfl, hc3, hs3, hfr3, hb3⟩
  obtain ⟨⟨z0, z1, z2, z3⟩, ⟨z4, z5, z6, z7⟩, z8⟩ := ((HZ.out _).ext ((Ext.refl _).alloc _)).ext hb3
  have H2 := Lib.hid (And.intro hc3 (And.intro hs3 (And.intro hfr3 hb3)))
  clear hc3 hs3 hfr3 hb3
  go_wp2_with fail
  refine bodyPost_ret (v := .tuple #[.agg #[.int .i64 o2, .int .i64 n2, .string t2, .slice a3 k2.len cap3], .bool ok]) (by simp [results, Tryz.results5, go_sem, z0, z1, z2, z3, z4, z5, z6, z7, z8]) rfl ?_
  obtain ⟨hc3, hs3, hfr3, hb3⟩ := H2.out
  refine end_pair (d := (o2, n2, t2, k2)) (lo := w.heap.size + 1) (hi := w.heap.size + 2) hs3 (hfr3.mono (lo' := w.heap.size + 2) (by simp)) hc3 (Nat.le_refl _) (by omega) (by omega) (Below.trans (HE.out _ _ _) (hb3.mono (by simp; omega))) ?_
  repeat (first | exact Touch.refl _ _ _ | refine Touch.setCell ?_ (by simp) (by simp) _)

end Go.Proofs.YtabmiikacaaplaaGreat.Nf


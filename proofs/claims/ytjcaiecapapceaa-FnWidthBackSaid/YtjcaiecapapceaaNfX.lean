import Derived.Test.YtjcaiecapapceaaNfB
import Derived.Test.YtjcaiecapapceaaRfY
/-
 What impl.partsOf comes to: the parts of a document's row, in a row of the call's own, their Kids where they were.
-/
set_option linter.unusedVariables false
set_option linter.unusedSimpArgs false
namespace Go.Proofs.Ytjcaiecapapceaa.Nf
open Go.RowKit P1 Copy
def Sh (w : World) : F → List Value → List Nat → Prop
 | .nil, xs, gs => xs = [] ∧ gs = []
 | .cons o n t k r, xs, gs => ∃ (a : Option Addr) (cap : Nat) (f1 f2 : List Nat) (ys : List Value), xs = .int .i64 o :: .int .i64 n :: .string t :: .slice a k.len cap :: ys ∧ k.len ≤ cap ∧ SubAt w a k f1 ∧ Sh w r ys f2 ∧ gs = f1 ++ f2
theorem Sh.app {w : World} {g : F} {ys : List Value} {hs : List Nat} (k : Sh w g ys hs) : ∀ {f : F} {xs : List Value} {gs : List Nat}, Sh w f xs gs → Sh w (f.app g) (xs ++ ys) (gs ++ hs) := by
 intro f
 induction f with
 | nil => rintro xs gs ⟨rfl, rfl⟩; exact k
 | cons o n t kk r _ ih =>
   rintro xs gs ⟨a, cap, f1, f2, zs, rfl, h1, h2, h3, rfl⟩
   exact ⟨a, cap, f1, f2 ++ hs, zs ++ ys, by simp, h1, h2, ih h3, by simp⟩
def PtAt (w0 : World) (lo : Nat) (v : Value) (f : F) (gs : List Nat) (w : World) : Prop := ∃ xs, w.ownsRow lo 25 4 v f.len xs ∧ Sh w0 f xs gs
theorem PtAt.later {w0 : World} {lo : Nat} {v : Value} {f : F} {gs : List Nat} {w w' : World} (h : PtAt w0 lo v f gs w) (e : Ext w w') : PtAt w0 lo v f gs w' := by
 obtain ⟨xs, h1, h2⟩ := h
 have hg : w.grownBy w' none := ⟨e.os, e.tape, e.output, e.size, fun i hi _ => e.block i hi⟩
 exact ⟨xs, h1.kept hg (by cases hv : v.ownBlock <;> simp), h2⟩
theorem pair_at {w : World} {b off : Nat} {o1 n1 : Int} {t1 : ByteArray} {k1 : F} {o2 n2 : Int} {t2 : ByteArray} {k2 : F} {fs : List Nat} (h : RowAt w (.cons o1 n1 t1 k1 (.cons o2 n2 t2 k2 .nil)) b off fs) :
  ∃ (a1 : Option Addr) (c1 : Nat) (f1 : List Nat) (a2 : Option Addr) (c2 : Nat) (f2 : List Nat), w.cell? ⟨b, off, none⟩ = some (.int .i64 o1) ∧ w.cell? ⟨b, off + 1, none⟩ = some (.int .i64 n1) ∧ w.cell? ⟨b, off + 2, none⟩ = some (.string t1) ∧ w.cell? ⟨b, off + 3, none⟩ = some (.slice a1 k1.len c1) ∧
   w.cell? ⟨b, off + 4, none⟩ = some (.int .i64 o2) ∧ w.cell? ⟨b, off + 4 + 1, none⟩ = some (.int .i64 n2) ∧ w.cell? ⟨b, off + 4 + 2, none⟩ = some (.string t2) ∧ w.cell? ⟨b, off + 4 + 3, none⟩ = some (.slice a2 k2.len c2) ∧
   k1.len ≤ c1 ∧ k2.len ≤ c2 ∧ SubAt w a1 k1 f1 ∧ SubAt w a2 k2 f2 ∧ fs = f1 ++ f2 := by
 obtain ⟨a1, c1, f1, f3, h0, h1, h2, h3, h4, h5, h6, rfl⟩ := RowAt.cons_iff.1 h
 obtain ⟨a2, c2, f2, f4, g0, g1, g2, g3, g4, g5, g6, rfl⟩ := RowAt.cons_iff.1 h6
 have h7 : f4 = [] := g6
 subst h7
 exact ⟨a1, c1, f1, a2, c2, f2, h0, h1, h2, h3, g0, g1, g2, g3, h4, g4, h5, g5, by simp⟩
abbrev Eight8 (b off : Nat) (u0 u1 u2 u3 v0 v1 v2 v3 : Value) (w' : World) : Prop := w'.cell? ⟨b, off, none⟩ = some u0 ∧ w'.cell? ⟨b, off + 1, none⟩ = some u1 ∧ w'.cell? ⟨b, off + 2, none⟩ = some u2 ∧ w'.cell? ⟨b, off + 3, none⟩ = some u3 ∧ w'.cell? ⟨b, off + 4, none⟩ = some v0 ∧ w'.cell? ⟨b, off + 4 + 1, none⟩ = some v1 ∧ w'.cell? ⟨b, off + 4 + 2, none⟩ = some v2 ∧ w'.cell? ⟨b, off + 4 + 3, none⟩ = some v3
theorem pt_pos {o n : Int} {t : ByteArray} {k : F} (h : niceD (o, n, t, k) = true) : 0 < (ptD o n t k).len := by
 have hn : nice (.cons o n t k .nil) = true := by rw [show nice (.cons o n t k .nil) = (niceD (o, n, t, k) && nice .nil) from rfl, h]; rfl
 have h1 := parts_len _ hn
 rw [parts0_cons, show parts0 .nil = .nil from rfl, F.app_nil] at h1
 simp only [F.len] at h1
 omega
end Go.Proofs.Ytjcaiecapapceaa.Nf
namespace Go.Proofs.Ytjcaiecapapceaa.Nf
open Go.RowKit P1 Copy Rf
attribute [local go_sem] Oper.semAt_some
end Go.Proofs.Ytjcaiecapapceaa.Nf
namespace Go.Proofs.Ytjcaiecapapceaa.Nf
open Go.RowKit Go.Shelf P1 Copy Rf
attribute [local go_sem] Oper.semAt_some
def LoOut (lo : Nat) (w : World) (d : D) (e : Ending) (w' : World) : Prop := ∃ (a : Option Addr) (cap : Nat) (fs : List Nat), e = .returned (.agg #[.int .i64 d.1, .int .i64 d.2.1, .string d.2.2.1, .slice a d.2.2.2.len cap]) ∧ d.2.2.2.len ≤ cap ∧ SubAt w' a d.2.2.2 fs ∧ Fresh lo w' fs ∧ Ext w w'
theorem subAt_same {A B : World} {a : Option Addr} {k : F} {fs : List Nat} (hs : SubAt A a k fs) (h : ∀ c ∈ fs, B.heap[c]? = A.heap[c]?) : SubAt B a k fs :=
 hs.congr (fun c hc o => World.cell?_of_block (w := A) (h c hc))
def DVar (A : World) (J : Nat) (d : D) (a : Option Addr) (c : Nat) : Prop := A.heap[J]? = some (.cells #[.int .i64 d.1, .int .i64 d.2.1, .string d.2.2.1, .slice a d.2.2.2.len c] 25 (0, 0))
theorem set_at {W : World} {b : Nat} {c : Array Value} {T : TypeId} {fz : Nat × Nat} (h : W.heap[b]? = some (.cells c T fz)) (j : Nat) (v : Value) : (W.setCell ⟨b, j, none⟩ v).heap[b]? = some (.cells (c.set! j v) T fz) := by
 obtain ⟨hlt, hk⟩ := Array.getElem?_eq_some_iff.1 h
 show (W.heap.modify b _)[b]? = _
 rw [Array.getElem?_eq_getElem (by rw [Array.size_modify]; exact hlt), Array.getElem_modify_self, hk]
 rfl
theorem set_four {W : World} {b : Nat} {u0 u1 u2 u3 : Value} {T : TypeId} (h : W.heap[b]? = some (.cells #[u0, u1, u2, u3] T (0, 0))) (v0 v1 v2 v3 : Value) :
  ((((W.setCell ⟨b, 0, none⟩ v0).setCell ⟨b, 1, none⟩ v1).setCell ⟨b, 2, none⟩ v2).setCell ⟨b, 3, none⟩ v3).heap[b]? = some (.cells #[v0, v1, v2, v3] T (0, 0)) :=
 set_at (set_at (set_at (set_at h 0 v0) 1 v1) 2 v2) 3 v3
theorem snoc_of : ∀ f : F, f ≠ .nil → ∃ (p : F) (o n : Int) (t : ByteArray) (k : F), f = p.app (.cons o n t k .nil) := by
 intro f
 induction f with
 | nil => intro h; exact absurd rfl h
 | cons o n t k r _ ih =>
   intro _
   by_cases hr : r = .nil
   ·subst hr; exact ⟨.nil, o, n, t, k, rfl⟩
   ·obtain ⟨p, o2, n2, t2, k2, rfl⟩ := ih hr
    exact ⟨.cons o n t k p, o2, n2, t2, k2, rfl⟩
end Go.Proofs.Ytjcaiecapapceaa.Nf
namespace Go.Proofs.Ytjcaiecapapceaa.Nf
open Go.RowKit P1 Copy
theorem part_at {w0 w : World} {lo g cap : Nat} {p k1 r : F} {o1 n1 : Int} {t1 : ByteArray} {gs : List Nat} (h : PtAt w0 lo (.slice (some ⟨g, 0, none⟩) (p.app (.cons o1 n1 t1 k1 r)).len cap) (p.app (.cons o1 n1 t1 k1 r)) gs w) :
  ∃ (a1 : Option Addr) (c1 : Nat) (f1 : List Nat), w.cell? ⟨g, p.len * 4, none⟩ = some (.int .i64 o1) ∧ w.cell? ⟨g, p.len * 4 + 1, none⟩ = some (.int .i64 n1) ∧ w.cell? ⟨g, p.len * 4 + 2, none⟩ = some (.string t1) ∧ w.cell? ⟨g, p.len * 4 + 3, none⟩ = some (.slice a1 k1.len c1) ∧ k1.len ≤ c1 ∧ SubAt w0 a1 k1 f1 ∧ ∀ c ∈ f1, c ∈ gs := by
 obtain ⟨xs, hown, hsh⟩ := h
 have hspl : ∀ (p : F) (xs : List Value) (gs : List Nat), Sh w0 (p.app (.cons o1 n1 t1 k1 r)) xs gs → ∃ (a1 : Option Addr) (c1 : Nat) (f1 : List Nat) (ys zs : List Value), xs = ys ++ (.int .i64 o1 :: .int .i64 n1 :: .string t1 :: .slice a1 k1.len c1 :: zs) ∧ ys.length = p.len * 4 ∧ k1.len ≤ c1 ∧ SubAt w0 a1 k1 f1 ∧ ∀ c ∈ f1, c ∈ gs := by
  intro p
  induction p with
  | nil =>
    rintro xs gs ⟨a, c, f1, f2, ys, rfl, hc, hs, _, rfl⟩
    exact ⟨a, c, f1, [], ys, rfl, rfl, hc, hs, fun c hc => by simp [hc]⟩
  | cons o n t k q _ ih =>
    rintro xs gs ⟨a, c, f1, f2, ys, rfl, hc, hs, hr, rfl⟩
    obtain ⟨a1, c1, g1, y1, z1, rfl, hl, hc1, hs1, hi⟩ := ih ys f2 hr
    exact ⟨a1, c1, g1, .int .i64 o :: .int .i64 n :: .string t :: .slice a k.len c :: y1, z1, rfl, by simp only [List.length_cons, hl, F.len]; omega, hc1, hs1, fun c hc => by simp [hi c hc]⟩
 obtain ⟨a1, c1, f1, ys, zs, rfl, hl, hc1, hs1, hi⟩ := hspl p xs gs hsh
 have hcell : ∀ i, i < 4 → w.cell? ⟨g, p.len * 4 + i, none⟩ = (ys ++ (Value.int .i64 o1 :: .int .i64 n1 :: .string t1 :: .slice a1 k1.len c1 :: zs))[p.len * 4 + i]? := fun i hi => by
  have hlt : p.len * 4 + i < (p.app (.cons o1 n1 t1 k1 r)).len * 4 := by rw [F.len_app]; simp only [F.len]; omega
  have := hown.cellAt (p.len * 4 + i) hlt
  exact this
 have hget : ∀ i, (ys ++ (Value.int .i64 o1 :: .int .i64 n1 :: .string t1 :: .slice a1 k1.len c1 :: zs))[p.len * 4 + i]? = (Value.int .i64 o1 :: .int .i64 n1 :: .string t1 :: .slice a1 k1.len c1 :: zs)[i]? := fun i => by
  rw [← hl, List.getElem?_append_right (by omega), Nat.add_sub_cancel_left]
 exact ⟨a1, c1, f1, (hcell 0 (by omega)).trans (hget 0), (hcell 1 (by omega)).trans (hget 1), (hcell 2 (by omega)).trans (hget 2), (hcell 3 (by omega)).trans (hget 3), hc1, hs1, hi⟩
end Go.Proofs.Ytjcaiecapapceaa.Nf
namespace Go.Proofs.Ytjcaiecapapceaa.Nf
open Go.RowKit P1 Copy CatD
theorem cat_keep : ∀ f : F, nice f = true → f ≠ .nil → niceD (catAll f) = true ∧ (catAll f).2.2.2.cnt + 2 = f.cnt + f.len := by
 intro f
 induction f with
 | nil => intro _ h; exact absurd rfl h
 | cons o n t k r _ ih =>
   intro h _
   have hD : niceD (o, n, t, k) = true := by simp only [nice, Bool.and_eq_true] at h; exact Bool.and_eq_true_iff.2 h.1
   have hr : nice r = true := by simp only [nice, Bool.and_eq_true] at h; exact h.2
   by_cases he : r.len = 0
   ·have := F.len_eq_zero he
    subst this
    rw [show catAll (.cons o n t k .nil) = (o, n, t, k) from rfl]
    exact ⟨hD, by simp only [F.cnt, F.len]; omega⟩
   ·obtain ⟨h1, h2⟩ := ih hr (by intro e; rw [e] at he; exact he rfl)
    have e : catAll (.cons o n t k r) = (7, 0, ⟨#[]⟩, .cons o n t k (consD (catAll r) .nil)) := by show (if r.len = 0 then _ else _) = _; rw [if_neg he]
    rw [e]
    have hk : nice (.cons o n t k (consD (catAll r) .nil)) = true := by
     show (niceD (o, n, t, k) && (niceD (catAll r) && nice .nil)) = true
     rw [hD, h1]; rfl
    refine ⟨?_, ?_⟩
    ·show (nodeB 7 0 ⟨#[]⟩ 2 && nice (.cons o n t k (consD (catAll r) .nil))) = true
     rw [hk, Bool.and_true]; decide
    ·show 1 + k.cnt + (1 + (catAll r).2.2.2.cnt + 0) + 2 = 1 + k.cnt + r.cnt + (r.len + 1)
     omega
theorem ps_pos (g : F → F) {o n : Int} {t : ByteArray} {k : F} (h : niceD (o, n, t, k) = true) : psD g o n t k ≠ .nil := by
 intro e
 have h1 := pt_pos h
 have h2 : (psD g o n t k).len = (ptD o n t k).len := by rw [ps_parts, len_mapL]
 rw [e] at h2
 simp only [F.len] at h2
 omega
theorem ri_keep : ∀ f : F, nice f = true → nice (pr (fun f => f) f).1 = true ∧ nice (pr (fun f => f) f).2 = true ∧ (pr (fun f => f) f).1.cnt + (pr (fun f => f) f).1.len = f.cnt + f.len ∧ (pr (fun f => f) f).2.cnt = f.cnt := by
 intro f
 induction f with
 | nil => intro _; exact ⟨rfl, rfl, rfl, rfl⟩
 | cons o n t k r ihk ihr =>
   intro h
   have hD : niceD (o, n, t, k) = true := by simp only [nice, Bool.and_eq_true] at h; exact Bool.and_eq_true_iff.2 h.1
   have hr : nice r = true := by simp only [nice, Bool.and_eq_true] at h; exact h.2
   obtain ⟨a1, a2, a3, a4⟩ := ihk (nice_kids hD).2
   obtain ⟨b1, b2, b3, b4⟩ := ihr hr
   have hps : nice (psD (fun f => f) o n t k) = true ∧ (psD (fun f => f) o n t k).cnt + (psD (fun f => f) o n t k).len = k.cnt + 2 := by
    unfold psD
    split
    ·rename_i h7
     obtain ⟨x, y, hxy⟩ := kids_two hD h7
     have e2 : k.len = 2 := by rw [hxy]; rfl
     exact ⟨a1, by omega⟩
    ·refine ⟨?_, by simp only [F.cnt, F.len]; omega⟩
     have hl : (pr (fun f => f) k).2.len = k.len := by rw [pr_map, len_mapL]
     show (nodeB o n t (pr (fun f => f) k).2.len && nice (pr (fun f => f) k).2 && nice .nil) = true
     rw [hl, a2]
     have h1 : nodeB o n t k.len = true := by unfold niceD at hD; exact (Bool.and_eq_true_iff.1 hD).1
     rw [h1]; rfl
   obtain ⟨c1, c2⟩ := cat_keep _ hps.1 (ps_pos _ hD)
   rw [pr_cons]
   refine ⟨by rw [nice_app, hps.1, b1]; rfl, ?_, ?_, ?_⟩
   ·show (niceD (rowD (fun f => f) o n t k) && nice (pr (fun f => f) r).2) = true
    rw [b2, Bool.and_true]; exact c1
   ·show ((psD (fun f => f) o n t k).app (pr (fun f => f) r).1).cnt + ((psD (fun f => f) o n t k).app (pr (fun f => f) r).1).len = 1 + k.cnt + r.cnt + (r.len + 1)
    rw [F.cnt_app, F.len_app]; omega
   ·show 1 + (catAll (psD (fun f => f) o n t k)).2.2.2.cnt + (pr (fun f => f) r).2.cnt = 1 + k.cnt + r.cnt
    omega
theorem ri_parts {o n : Int} {t : ByteArray} {k : F} (h : niceD (o, n, t, k) = true) : nice (psD (fun f => f) o n t k) = true ∧ (psD (fun f => f) o n t k).cnt + (psD (fun f => f) o n t k).len = k.cnt + 2 := by
 obtain ⟨h1, _, h3, _⟩ := ri_keep (.cons o n t k .nil) (by rw [show nice (.cons o n t k .nil) = (niceD (o, n, t, k) && nice .nil) from rfl, h]; rfl)
 rw [pr_cons, show (pr (fun f => f) .nil).1 = .nil from rfl, F.app_nil] at h1 h3
 simp only [F.cnt, F.len] at h3
 exact ⟨h1, by omega⟩
end Go.Proofs.Ytjcaiecapapceaa.Nf

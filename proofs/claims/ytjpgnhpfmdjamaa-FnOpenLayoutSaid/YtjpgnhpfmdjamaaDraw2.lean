/-
  What the model's l15Open, l1Word2 and l1Cat come to.
-/
import Derived.Test.YtjpgnhpfmdjamaaDraw
import Derived.Test.YtjpgnhpfmdjamaaTo
namespace Go.Proofs.Ytjpgnhpfmdjamaa.Draw2
open Go.RowKit Draw
set_option linter.unusedVariables false
set_option linter.unusedSimpArgs false

/-- two documents in one -/
def CatOut (w : World) (k : F) (fs : List Nat) (e : Ending) (w' : World) : Prop := ∃ b : Nat, e = .returned (.agg #[.int .i64 7, .int .i64 0, .string ⟨#[]⟩, .slice (some ⟨b, 0, none⟩) 2 2]) ∧ w.heap.size ≤ b ∧ b < w'.heap.size ∧ RowAt w' k b 0 fs ∧ (∀ o, w'.frozen? ⟨b, o, none⟩ = false) ∧ Below w.heap.size w w'

theorem frozen_new {W : World} {N : Nat} (C : Array Value) (T : TypeId) (hN : W.heap.size = N) (o : Nat) : (W.alloc (.cells C T)).frozen? ⟨N, o, none⟩ = false := by
  subst hN; exact World.frozen?_alloc_new _ _ _ _

theorem rdBelow {w w' : World} {x lo p B : Nat} (h : Rd w x lo p) (hx : x < B) (k : Below B w w') : Rd w' x lo p := by
  obtain ⟨a, l, c, h0, h1, h2, h3, h4, h5, h6⟩ := h
  refine ⟨a, l, c, by rw [k.cell (p := ⟨_, _, _⟩) hx]; exact h0, by rw [k.cell (p := ⟨_, _, _⟩) hx]; exact h1, by rw [k.frozen (p := ⟨_, _, _⟩) hx]; exact h2, h3, h4, h5, fun hl => ?_⟩
  obtain ⟨b, off, ha, hb, hc⟩ := h6 hl
  refine ⟨b, off, ha, hb, fun i hi => ?_⟩
  obtain ⟨v, hv, hcell⟩ := hc i hi
  exact ⟨v, hv, by rw [k.cell (p := ⟨_, _, _⟩) (show b < B by omega)]; exact hcell⟩

/-- two documents in a new row -/
theorem row2 {W : World} {B : Nat} {w : World} (hb : Below B w W) (hBw : B ≤ w.heap.size) {o1 n1 : Int} {t1 : ByteArray} {k1 : F} {a1 : Option Addr} {cap1 : Nat} {f1 : List Nat} {o2 n2 : Int} {t2 : ByteArray} {k2 : F} {a2 : Option Addr} {cap2 : Nat} {f2 : List Nat}
    (h1 : SubAt w a1 k1 f1) (h2 : SubAt w a2 k2 f2) (hf1 : ∀ c ∈ f1, c < B) (hf2 : ∀ c ∈ f2, c < B) (hc1 : k1.len ≤ cap1) (hc2 : k2.len ≤ cap2) (T : TypeId) {N : Nat} (hN : W.heap.size = N) :
    RowAt (W.alloc (.cells #[.int .i64 o1, .int .i64 n1, .string t1, .slice a1 k1.len cap1, .int .i64 o2, .int .i64 n2, .string t2, .slice a2 k2.len cap2] T)) (.cons o1 n1 t1 k1 (.cons o2 n2 t2 k2 .nil)) N 0 (f1 ++ f2) := by
  subst hN
  have hA : Below B w (W.alloc (.cells #[.int .i64 o1, .int .i64 n1, .string t1, .slice a1 k1.len cap1, .int .i64 o2, .int .i64 n2, .string t2, .slice a2 k2.len cap2] T)) := hb.alloc (by have := hb.size; omega) _
  refine RowAt.cons_iff.2 ⟨a1, cap1, f1, f2, ?_, ?_, ?_, ?_, hc1, h1.below hf1 hA, RowAt.cons_iff.2 ⟨a2, cap2, f2, [], ?_, ?_, ?_, ?_, hc2, h2.below hf2 hA, rfl, by simp⟩, rfl⟩
  all_goals (rw [World.cell?_alloc_new]; rfl)

set_option maxRecDepth 100000 in
set_option maxHeartbeats 800000 in
theorem l1Cat (w : World) (o1 n1 : Int) (t1 : ByteArray) (k1 : F) (a1 : Option Addr) (cap1 : Nat) (f1 : List Nat) (o2 n2 : Int) (t2 : ByteArray) (k2 : F) (a2 : Option Addr) (cap2 : Nat) (f2 : List Nat)
    (h1 : SubAt w a1 k1 f1) (h2 : SubAt w a2 k2 f2) (hf1 : ∀ c ∈ f1, c < w.heap.size) (hf2 : ∀ c ∈ f2, c < w.heap.size) (hc1 : k1.len ≤ cap1) (hc2 : k2.len ≤ cap2) :
    Calls Try.prog 55 #[.agg #[.int .i64 o1, .int .i64 n1, .string t1, .slice a1 k1.len cap1], .agg #[.int .i64 o2, .int .i64 n2, .string t2, .slice a2 k2.len cap2]] w
      (CatOut w (.cons o1 n1 t1 k1 (.cons o2 n2 t2 k2 .nil)) (f1 ++ f2)) := by
  have H := Lib.hid (And.intro h1 (And.intro h2 (And.intro hf1 (And.intro hf2 (And.intro hc1 hc2)))))
  clear h1 h2 hf1 hf2 hc1 hc2
  go_enter Try.func55, Try.ntmps55
  go_wp2_with fail
  refine bodyPost_ret (v := .agg #[.int .i64 7, .int .i64 0, .string ⟨#[]⟩, .slice (some ⟨w.heap.size + 1 + 1 + 1, 0, none⟩) 2 2]) (by simp [results, Try.results55, go_sem]) rfl ?_
  obtain ⟨h1, h2, hf1, hf2, hc1, hc2⟩ := H.out
  have B3 : ∀ (x1 x2 x3 : Obj), Below w.heap.size w (((w.alloc x1).alloc x2).alloc x3) := fun x1 x2 x3 => (((Below.refl _ _).alloc (Nat.le_refl _) _).alloc (by simp) _).alloc (by simp; omega) _
  have hsz : ∀ (x1 x2 x3 : Obj), (((w.alloc x1).alloc x2).alloc x3).heap.size = w.heap.size + 1 + 1 + 1 := fun x1 x2 x3 => by simp
  refine ⟨w.heap.size + 1 + 1 + 1, rfl, by omega, by simp, ?_, fun o => ?_, (B3 _ _ _).alloc (by simp; omega) _⟩
  · exact row2 (B3 _ _ _) (Nat.le_refl _) h1 h2 hf1 hf2 hc1 hc2 _ (hsz _ _ _)
  · exact frozen_new _ _ (hsz _ _ _) o

/-- the words that l1Word2 draws from -/
def words : List ByteArray := [⟨#[97]⟩, ⟨#[98, 98]⟩, ⟨#[99, 99, 99]⟩, ⟨#[100, 100, 100, 100]⟩, ⟨#[102, 40]⟩, ⟨#[41]⟩, ⟨#[44]⟩, ⟨#[120, 61, 49]⟩, ⟨#[97, 98, 99, 100, 101, 102, 103, 104]⟩, ⟨#[101]⟩]

/-- a short text, and one number more drawn -/
def WordOut (w : World) (x lo p : Nat) (e : Ending) (w' : World) : Prop := ∃ r : ByteArray, e = .returned (.string r) ∧ r.size ≤ 8 ∧ Rd w' x lo (p + 1) ∧ But w.heap.size x w w'

set_option maxRecDepth 100000 in
set_option maxHeartbeats 800000 in
theorem l1Word2 (w : World) (x lo p : Nat) (hrd : Rd w x lo p) (hp : p ≤ 1073741824) (hx : x < w.heap.size) :
    Calls Try.prog 102 #[.pointer (some ⟨x, 0, none⟩)] w (WordOut w x lo p) := by
  go_enter Try.func102, Try.ntmps102
  go_wp2_with fail
  refine (Draw.of _ x lo p w.heap.size 0 10 words (rdBelow hrd hx ((Below.refl _ _).alloc (Nat.le_refl _) _)) hp (fun i hi => ?_) (by decide) (by decide) (by decide) (by simp) (by omega)).mono ?_
  · rw [World.cell?_alloc_new]
    have hi' : i < 10 := hi
    match i, hi' with
    | 0, _ => rfl
    | 1, _ => rfl
    | 2, _ => rfl
    | 3, _ => rfl
    | 4, _ => rfl
    | 5, _ => rfl
    | 6, _ => rfl
    | 7, _ => rfl
    | 8, _ => rfl
    | 9, _ => rfl
  · rintro e1 w1 ⟨r, hr, rfl, hrd1, hbut⟩
    have hsz : r.size ≤ 8 := by
      have : ∀ r ∈ words, r.size ≤ 8 := by decide
      exact this r hr
    have HR := Lib.hid (And.intro hsz (And.intro hrd1 hbut))
    clear hsz hrd1 hbut hr
    go_wp2_with fail
    go_ret
    obtain ⟨hsz, hrd1, hbut⟩ := HR.out
    exact ⟨r, rfl, hsz, hrd1, ((But.refl _ _ _).alloc (Nat.le_refl _) _).trans (hbut.mono (by simp))⟩

end Go.Proofs.Ytjpgnhpfmdjamaa.Draw2

import Derived.Test.YtjcaiecapapceaaShelf2
import Derived.Lib.OthersKept
import Derived.Test.YtjcaiecapapceaaCntC
/-
 What the methods of strings.Builder do, by the bytes that it holds (over a shelf laid by shelf4.py).
-/
set_option linter.unusedVariables false
set_option linter.unusedSimpArgs false
namespace Go.Proofs.Ytjcaiecapapceaa.BufB
open Go.RowKit P1
def Holds (B b : Nat) (l : List UInt8) (w : World) : Prop := Lib.IsBuilderF 56 5 B b (Lib.byteCells l) w
def Wrote (B b : Nat) (l : List UInt8) (w w' : World) : Prop := Holds B b l w' ∧ Below B w w' ∧ Lib.OthersKept 5 (some b) w w'
theorem heap_new (w : World) (c : Array Value) (T : TypeId) : (w.alloc (.cells c T)).heap[w.heap.size]? = some (.cells c T (0, 0)) := by show (w.heap.push _)[w.heap.size]? = _; simp
end Go.Proofs.Ytjcaiecapapceaa.BufB
namespace Go.Proofs.Ytjcaiecapapceaa.Flat
open Go.RowKit P1 Cnt CntC
def fl : F → ByteArray
 | .nil => ⟨#[]⟩
 | .cons o _ t k r => (if o == 3 then ⟨#[32]⟩ else t ++ fl k) ++ fl r
def flD (o : Int) (t : ByteArray) (k : F) : ByteArray := if o == 3 then ⟨#[32]⟩ else t ++ fl k
theorem none_app (x : ByteArray) : (⟨#[]⟩ : ByteArray) ++ x = x := ByteArray.empty_append
theorem app_none (x : ByteArray) : x ++ (⟨#[]⟩ : ByteArray) = x := ByteArray.append_empty
theorem fl_one (o n : Int) (t : ByteArray) (k : F) : fl (.cons o n t k .nil) = flD o t k := by simp only [fl, flD, app_none]
def wf : F → List UInt8
 | .nil => []
 | .cons o _ t k r => ((if o == 3 then [32] else []) ++ t.data.toList ++ wf k) ++ wf r
def wfD (o : Int) (t : ByteArray) (k : F) : List UInt8 := (if o == 3 then [32] else []) ++ t.data.toList ++ wf k
theorem wf_app (f g : F) : wf (f.app g) = wf f ++ wf g := by
 induction f with
 | nil => rfl
 | cons o n t k r _ ih => simp only [F.app, wf, ih, List.append_assoc]
theorem wf_one (o n : Int) (t : ByteArray) (k : F) : wf (.cons o n t k .nil) = wfD o t k := by simp only [wf, wfD, List.append_nil]
theorem wf_size (f : F) : (wf f).length ≤ f.size := by
 induction f with
 | nil => simp [wf, F.size]
 | cons o n t k r ihk ihr =>
   have h2 : t.data.toList.length = t.size := Array.length_toList
   simp only [wf, F.size, List.length_append, h2]
   split <;> simp <;> omega
theorem node_line {o n : Int} {t : ByteArray} {l : Nat} (h : nodeB o n t l = true) (h3 : (o == 3) = true) : l = 0 ∧ t = ⟨#[]⟩ := by
 have : o = 3 := by simpa using h3
 subst this
 simp [nodeB, kidsOf, textB, numB] at h
 obtain ⟨⟨h1, h2⟩, _⟩ := h
 exact ⟨by omega, h2⟩
theorem nil_of_len {k : F} (h : k.len = 0) : k = .nil := by cases k with | nil => rfl | cons => simp [F.len] at h
theorem wf_fl (f : F) : ∀ d, f.ok d = true → wf f = (fl f).data.toList := by
 induction f with
 | nil => intro d _; rfl
 | cons o n t k r ihk ihr =>
   intro d h
   simp only [F.ok, Bool.and_eq_true] at h
   obtain ⟨⟨⟨_, hn⟩, hk⟩, hr⟩ := h
   simp only [wf, fl, ihr _ hr, ihk _ hk]
   cases h3 : (o == 3) with
   | true =>
     obtain ⟨hl, rfl⟩ := node_line hn h3
     rw [nil_of_len hl]; simp [fl]
   | false => simp
end Go.Proofs.Ytjcaiecapapceaa.Flat
namespace Go.Proofs.Ytjcaiecapapceaa.FlatI
open Go.RowKit P1 Cnt CntC Flat BufB
def WriteI (B b : Nat) (f : F) : Prop := ∀ (w : World) (l : List UInt8) (o n : Int) (t : ByteArray) (k : F) (p r : F) (a : Option Addr) (cap : Nat) (fs : List Nat), f = p.app (.cons o n t k r) → SubAt w a k fs → (∀ c ∈ fs, c < B) → k.len ≤ cap → l.length + (1 + t.size + k.size) ≤ 50000000 → Holds B b l w → B ≤ w.heap.size → b < w.heap.size →
 Calls Try.prog 101 #[.pointer (some ⟨b, 0, none⟩), .agg #[.int .i64 o, .int .i64 n, .string t, .slice a k.len cap]] w fun e w' => e = .returned (.tuple #[]) ∧ Wrote B b (l ++ wfD o t k) w w'
theorem text_len (t : ByteArray) : t.data.toList.length = t.size := Array.length_toList
end Go.Proofs.Ytjcaiecapapceaa.FlatI

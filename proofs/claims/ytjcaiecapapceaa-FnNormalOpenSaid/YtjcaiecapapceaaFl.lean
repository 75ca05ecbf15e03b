import Derived.Test.YtjcaiecapapceaaShelf2
import Derived.Lib.OthersKept
import Derived.Test.YtjcaiecapapceaaCntC
/-
 What the methods of strings.Builder do, by the bytes that it holds (over a shelf laid by shelf4.py).
-/
set_option linter.unusedVariables false
set_option linter.unusedSimpArgs false
namespace Go.Proofs.Ytjcaiecapapceaa.BufB
open Go.RowKit P1
theorem heap_new (w : World) (c : Array Value) (T : TypeId) : (w.alloc (.cells c T)).heap[w.heap.size]? = some (.cells c T (0, 0)) := by show (w.heap.push _)[w.heap.size]? = _; simp
end Go.Proofs.Ytjcaiecapapceaa.BufB
namespace Go.Proofs.Ytjcaiecapapceaa.Flat
open Go.RowKit P1 Cnt CntC
def fl : F → ByteArray
 | .nil => ⟨#[]⟩
 | .cons o _ t k r => (if o == 3 then ⟨#[32]⟩ else t ++ fl k) ++ fl r
def flD (o : Int) (t : ByteArray) (k : F) : ByteArray := if o == 3 then ⟨#[32]⟩ else t ++ fl k
theorem none_app (x : ByteArray) : (⟨#[]⟩ : ByteArray) ++ x = x := ByteArray.empty_append
theorem app_none (x : ByteArray) : x ++ (⟨#[]⟩ : ByteArray) = x := ByteArray.append_empty
theorem fl_one (o n : Int) (t : ByteArray) (k : F) : fl (.cons o n t k .nil) = flD o t k := by simp only [fl, flD, app_none]
def wf : F → List UInt8
 | .nil => []
 | .cons o _ t k r => ((if o == 3 then [32] else []) ++ t.data.toList ++ wf k) ++ wf r
theorem nil_of_len {k : F} (h : k.len = 0) : k = .nil := by cases k with | nil => rfl | cons => simp [F.len] at h
end Go.Proofs.Ytjcaiecapapceaa.Flat
namespace Go.Proofs.Ytjcaiecapapceaa.FlatI
open Go.RowKit P1 Cnt CntC Flat BufB
theorem text_len (t : ByteArray) : t.data.toList.length = t.size := Array.length_toList
end Go.Proofs.Ytjcaiecapapceaa.FlatI

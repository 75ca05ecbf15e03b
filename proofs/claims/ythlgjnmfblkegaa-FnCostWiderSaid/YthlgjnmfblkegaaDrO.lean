import Derived.Test.YthlgjnmfblkegaaDrF
/-
  What the model's draw of the arguments of CostOf comes to.
-/
set_option linter.unusedVariables false
set_option linter.unusedSimpArgs false
namespace Go.Proofs.Ythlgjnmfblkegaa.DrO
open Go.RowKit P1 Draw Draw2 Draw6 DrA DrD DrE DrF LayN

/-- a layout and a width that are drawn -/
def CostDraw (w : World) (e : Ending) (w' : World) : Prop := ∃ (n : Int) (l : List (Int × ByteArray)) (p : Option Addr) (c : Nat) (f : List Nat), e = .returned (.tuple #[.slice p l.length c, .int .i64 n]) ∧ (-1 ≤ n ∧ n ≤ 201) ∧ l.length ≤ c ∧ Small l ∧ LaySub w' p l f ∧ Below w.heap.size w w'

set_option maxRecDepth 100000 in
set_option maxHeartbeats 1600000 in
theorem drawCost (w : World) (a : Option Addr) (len cap : Nat) (hb : Bytes w a len) (hlc : len ≤ cap) (hcm : cap ≤ maxLen) :
    Calls Try.prog 21 #[.slice a len cap] w (CostDraw w) := by
  have HO := Lib.hid (l15Open w a len cap hb hlc hcm)
  clear hb hlc hcm
  go_enter Try.func21, Try.ntmps21
  go_wp2_with fail
  refine HO.out.mono ?_
  rintro e1 w1 ⟨rfl, hrd1, hlt1, hb1⟩
  have HD := Lib.hid (l2Draw w1 w.heap.size w.heap.size 0 hrd1 (by omega) hlt1)
  have H1 := Lib.hid (And.intro hlt1 hb1)
  clear hrd1 hlt1 hb1
  go_wp2_with fail
  refine HD.out.mono ?_
  rintro e2 w2 ⟨l, p, c, f, q, rfl, hc, hs, hl, hf, hrd2, hq, hbut2⟩
  have hx2 : w.heap.size < w2.heap.size := Nat.lt_of_lt_of_le H1.out.1 hbut2.size
  have hA2 : ∀ ob, Below w2.heap.size w2 (w2.alloc ob) := fun ob => (Below.refl _ _).alloc (Nat.le_refl _) _
  have HN := Lib.hid (Draw.num (w2.alloc (.cells #[.int .i64 3, .int .i64 5, .int .i64 1, .int .i64 8, .int .i64 0, .int .i64 20, .int .i64 (-1), .int .i64 201] 3)) w.heap.size w.heap.size q w2.heap.size 0 8 [3, 5, 1, 8, 0, 20, -1, 201] (rdBelow hrd2 hx2 (hA2 _)) (by omega) (fun j hj => by
      rw [World.cell?_alloc_new]
      have hj' : j < 8 := hj
      match j, hj' with
      | 0, _ => rfl
      | 1, _ => rfl
      | 2, _ => rfl
      | 3, _ => rfl
      | 4, _ => rfl
      | 5, _ => rfl
      | 6, _ => rfl
      | 7, _ => rfl) (by decide) (by decide) (by decide) (by first | (simp; done) | (simp; omega) | omega) (by first | (simp; done) | (simp; omega) | omega))
  have H2 := Lib.hid (And.intro hc (And.intro hs (And.intro hl (And.intro hf hbut2))))
  clear hc hs hl hf hrd2 hbut2 hA2
  go_wp2_with fail
  refine HN.out.mono ?_
  rintro e3 w3 ⟨n, hmem, rfl, hrd3, hbutn⟩
  have hbut3 : But w2.heap.size w.heap.size w2 w3 := ((But.refl _ _ _).alloc (Nat.le_refl _) _).trans (hbutn.mono (by simp))
  have H3 := Lib.hid (And.intro (show -1 ≤ n ∧ n ≤ 201 by
    simp only [List.mem_cons, List.not_mem_nil, or_false] at hmem
    rcases hmem with rfl | rfl | rfl | rfl | rfl | rfl | rfl | rfl <;> omega) hbut3)
  clear hmem hrd3 hbutn hbut3
  go_wp2_with fail
  go_ret2
  obtain ⟨hc, hs, hl, hf, hbut2⟩ := H2.out
  obtain ⟨hn, hbut3⟩ := H3.out
  have h12 : Below w.heap.size w1 w2 := hbut2.below H1.out.2.size (Nat.le_refl _)
  have h23 : Below w.heap.size w2 w3 := hbut3.below (Nat.le_trans H1.out.2.size hbut2.size) (Nat.le_refl _)
  exact ⟨n, l, p, c, f, rfl, hn, hc, hs, sub_but hl hbut3 (fun c hc => ⟨hf.lt c hc, by have := (hf.2 c hc).1; have := H1.out.1; omega⟩), (H1.out.2.trans h12).trans h23⟩

end Go.Proofs.Ythlgjnmfblkegaa.DrO


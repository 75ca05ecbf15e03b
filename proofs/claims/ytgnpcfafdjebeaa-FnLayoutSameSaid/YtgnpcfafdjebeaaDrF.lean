/-
  What the model's draws of the arguments of CatLayouts and NestLayout come to.
-/
import Derived.Test.YtgnpcfafdjebeaaDrE
set_option linter.unusedVariables false
set_option linter.unusedSimpArgs false
namespace Go.Proofs.Ytgnpcfafdjebeaa.DrF
open Go.RowKit P1 Draw Draw2 Draw6 DrA DrD DrE LayN

/-- two layouts that are drawn -/
def CatDraw (w : World) (e : Ending) (w' : World) : Prop := ∃ (la : List (Int × ByteArray)) (pa : Option Addr) (ca : Nat) (fa : List Nat) (lb : List (Int × ByteArray)) (pb : Option Addr) (cb : Nat) (fb : List Nat), e = .returned (.tuple #[.slice pa la.length ca, .slice pb lb.length cb]) ∧ la.length ≤ ca ∧ lb.length ≤ cb ∧ Small la ∧ Small lb ∧ LaySub w' pa la fa ∧ LaySub w' pb lb fb ∧ Below w.heap.size w w'
/-- a number and a layout that are drawn -/
def NestDraw (w : World) (e : Ending) (w' : World) : Prop := ∃ (n : Int) (l : List (Int × ByteArray)) (p : Option Addr) (c : Nat) (f : List Nat), e = .returned (.tuple #[.int .i64 n, .slice p l.length c]) ∧ (-1 ≤ n ∧ n ≤ 200) ∧ l.length ≤ c ∧ Small l ∧ LaySub w' p l f ∧ Below w.heap.size w w'

theorem sub_but {w w' : World} {p : Option Addr} {l : List (Int × ByteArray)} {f : List Nat} {B x : Nat} (h : LaySub w p l f) (k : But B x w w') (hB : ∀ c ∈ f, c < B ∧ c ≠ x) : LaySub w' p l f := h.congr fun b hb _ => k.cell (hB b hb).1 (hB b hb).2

set_option maxRecDepth 100000 in
set_option maxHeartbeats 1600000 in
theorem drawCat (w : World) (a : Option Addr) (len cap : Nat) (hb : Bytes w a len) (hlc : len ≤ cap) (hcm : cap ≤ maxLen) :
    Calls Try.prog 24 #[.slice a len cap] w (CatDraw w) := by
  have HO := Lib.hid (l15Open w a len cap hb hlc hcm)
  clear hb hlc hcm
  go_enter Try.func24, Try.ntmps24
  go_wp2_with fail
  refine HO.out.mono ?_
  rintro e1 w1 ⟨rfl, hrd1, hlt1, hb1⟩
  have HD := Lib.hid (l2Draw w1 w.heap.size w.heap.size 0 hrd1 (by omega) hlt1)
  have H1 := Lib.hid (And.intro hlt1 hb1)
  clear hrd1 hlt1 hb1
  go_wp2_with fail
  refine HD.out.mono ?_
  rintro e2 w2 ⟨la, pa, ca, fa, q, rfl, hca, hsa, hla, hfa, hrd2, hq, hbut2⟩
  have hx2 : w.heap.size < w2.heap.size := Nat.lt_of_lt_of_le H1.out.1 hbut2.size
  have HD2 := Lib.hid (l2Draw w2 w.heap.size w.heap.size q hrd2 (by omega) hx2)
  have H2 := Lib.hid (And.intro hca (And.intro hsa (And.intro hla (And.intro hfa hbut2))))
  clear hca hsa hla hfa hrd2 hbut2 hx2
  go_wp2_with fail
  refine HD2.out.mono ?_
  rintro e3 w3 ⟨lb, pb, cb, fb, q', rfl, hcb, hsb, hlb, hfb, hrd3, hq', hbut3⟩
  have H3 := Lib.hid (And.intro hcb (And.intro hsb (And.intro hlb hbut3)))
  clear hcb hsb hlb hfb hrd3 hbut3
  go_wp2_with fail
  go_ret2
  obtain ⟨hca, hsa, hla, hfa, hbut2⟩ := H2.out
  obtain ⟨hcb, hsb, hlb, hbut3⟩ := H3.out
  have h12 : Below w.heap.size w1 w2 := hbut2.below H1.out.2.size (Nat.le_refl _)
  have h23 : Below w.heap.size w2 w3 := hbut3.below (Nat.le_trans H1.out.2.size hbut2.size) (Nat.le_refl _)
  exact ⟨la, pa, ca, fa, lb, pb, cb, fb, rfl, hca, hcb, hsa, hsb, sub_but hla hbut3 (fun c hc => ⟨hfa.lt c hc, by have := (hfa.2 c hc).1; have := H1.out.1; omega⟩), hlb, (H1.out.2.trans h12).trans h23⟩

set_option maxRecDepth 100000 in
set_option maxHeartbeats 1600000 in
theorem drawNest (w : World) (a : Option Addr) (len cap : Nat) (hb : Bytes w a len) (hlc : len ≤ cap) (hcm : cap ≤ maxLen) :
    Calls Try.prog 29 #[.slice a len cap] w (NestDraw w) := by
  have HO := Lib.hid (l15Open w a len cap hb hlc hcm)
  clear hb hlc hcm
  go_enter Try.func29, Try.ntmps29
  go_wp2_with fail
  refine HO.out.mono ?_
  rintro e1 w1 ⟨rfl, hrd1, hlt1, hb1⟩
  have hA1 : ∀ ob, Below w1.heap.size w1 (w1.alloc ob) := fun ob => (Below.refl _ _).alloc (Nat.le_refl _) _
  have HN := Lib.hid (Draw.num (w1.alloc (.cells #[.int .i64 2, .int .i64 1, .int .i64 4, .int .i64 0, .int .i64 (-1), .int .i64 200] 3)) w.heap.size w.heap.size 0 w1.heap.size 0 6 [2, 1, 4, 0, -1, 200] (rdBelow hrd1 hlt1 (hA1 _)) (by omega) (fun j hj => by
      rw [World.cell?_alloc_new]
      have hj' : j < 6 := hj
      match j, hj' with
      | 0, _ => rfl
      | 1, _ => rfl
      | 2, _ => rfl
      | 3, _ => rfl
      | 4, _ => rfl
      | 5, _ => rfl) (by decide) (by decide) (by decide) (by simp) (by omega))
  have H1 := Lib.hid (And.intro hlt1 hb1)
  clear hrd1 hlt1 hb1 hA1
  go_wp2_with fail
  refine HN.out.mono ?_
  rintro e2 w2 ⟨n, hmem, rfl, hrd2, hbutn⟩
  have hbut2 : But w1.heap.size w.heap.size w1 w2 := ((But.refl _ _ _).alloc (Nat.le_refl _) _).trans (hbutn.mono (by simp))
  have hx2 : w.heap.size < w2.heap.size := Nat.lt_of_lt_of_le H1.out.1 hbut2.size
  have HD2 := Lib.hid (l2Draw w2 w.heap.size w.heap.size 1 hrd2 (by omega) hx2)
  have H2 := Lib.hid (And.intro (show -1 ≤ n ∧ n ≤ 200 by
    simp only [List.mem_cons, List.not_mem_nil, or_false] at hmem
    rcases hmem with rfl | rfl | rfl | rfl | rfl | rfl <;> omega) hbut2)
  clear hmem hrd2 hbutn hbut2 hx2
  go_wp2_with fail
  refine HD2.out.mono ?_
  rintro e3 w3 ⟨l, p, c, f, q', rfl, hc, hs, hl, hf, hrd3, hq', hbut3⟩
  have H3 := Lib.hid (And.intro hc (And.intro hs (And.intro hl hbut3)))
  clear hc hs hl hf hrd3 hbut3
  go_wp2_with fail
  go_ret2
  obtain ⟨hn, hbut2⟩ := H2.out
  obtain ⟨hc, hs, hl, hbut3⟩ := H3.out
  have h12 : Below w.heap.size w1 w2 := hbut2.below H1.out.2.size (Nat.le_refl _)
  have h23 : Below w.heap.size w2 w3 := hbut3.below (Nat.le_trans H1.out.2.size hbut2.size) (Nat.le_refl _)
  exact ⟨n, l, p, c, f, rfl, hn, hc, hs, hl, (H1.out.2.trans h12).trans h23⟩

end Go.Proofs.Ytgnpcfafdjebeaa.DrF

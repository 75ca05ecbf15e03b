import Derived.Test.YtjcaiecapapceaaGreatFl
import Derived.Test.YtjcaiecapapceaaGreatShelf3
import Derived.Test.YtjcaiecapapceaaGreatLzX
import Derived.Test.YtjcaiecapapceaaGreatLwA
/-
 What the methods of strings.Builder do, by the bytes that it holds, and what impl.writeRow writes.
-/
set_option linter.unusedVariables false
set_option linter.unusedSimpArgs false
set_option maxRecDepth 100000
set_option maxHeartbeats 1600000
namespace Go.Proofs.YtjcaiecapapceaaGreat.Buf
open Go.RowKit P1 TextV LayV LayW BufB
theorem spaces (c : Nat) (hc : c ≤ 100000) (w : World) :
  Calls Tryz.prog 99 #[.string ⟨#[32]⟩, .int .i64 c] w fun e w' => e = .returned (.string (sp c)) ∧ Below w.heap.size w w' := by
 refine (Tryz.strings_Repeat ⟨#[32]⟩ c w (by omega) (by show 1 * c ≤ _; omega)).mono ?_
 rintro e w' ⟨rfl, hb⟩
 refine ⟨?_, hb⟩
 have e1 := Lib.repeatL_replicate 32 1 c
 simp only [List.replicate_succ, List.replicate_zero, Nat.mul_one] at e1
 show _ = Ending.returned (.string (sp c))
 rw [show (⟨#[32]⟩ : ByteArray).data.toList = [32] from rfl, e1]; rfl
theorem writeRow (B b : Nat) (l : List UInt8) (c : Nat) (t : ByteArray) (hc : c ≤ 400) (ht : t.size ≤ 2000) (hl : l.length ≤ 10000000) (w : World) (h : Holds B b l w) (hB : B ≤ w.heap.size) (hb : b < w.heap.size) :
  Calls Tryz.prog 50 #[.pointer (some ⟨b, 0, none⟩), .agg #[.int .i64 c, .string t]] w fun e w' => e = .returned (.tuple #[]) ∧ Wrote B b (l ++ (ln c t).data.toList) w w' := by
 have HA := Lib.hid (fun o => Wrote.alloc h hB o)
 clear h
 by_cases hz : t.size = 0
 ·have HL := Lib.hid (ln_no (n := (c : Int)) hz)
  have e := bytes_none hz
  subst e
  clear hz
  go_enter Tryz.func50, Tryz.ntmps50
  go_wp2_with fail
  refine bodyPost_ret (v := .tuple #[]) (by simp [results, Tryz.results50, go_sem]) rfl ?_
  refine ⟨rfl, ?_⟩
  rw [HL.out]
  show Wrote B b (l ++ []) _ _
  rw [List.append_nil]
  exact HA.out _
 ·have HL := Lib.hid (ln_yes (n := (c : Int)) hz)
  obtain ⟨e1, e2⟩ := bytes_some hz
  have HSP := Lib.hid (fun W => spaces c (by omega) W)
  have HN := Lib.hid (heap_new w #[.int .i64 c, .string t] 67)
  clear hz
  go_enter Tryz.func50, Tryz.ntmps50
  go_wp2_with fail
  refine (HSP.out _).mono ?_
  rintro e3 w2 ⟨rfl, hb2⟩
  have h2 := (HA.out _).below hB hb2
  have HW2 := Lib.hid h2
  have hs2 : (sp c).size ≤ 100000000 := by rw [sp_size]; omega
  have HWS := Lib.hid (writeString B b l (sp c) w2 h2.1 (by omega) hs2 (Nat.le_trans hB h2.2.1.size))
  have hn2 := (hb2.block w.heap.size (by simp)).trans HN.out
  have hc2 : w2.cell? ⟨w.heap.size, 1, none⟩ = some (.string t) := (hb2.cell (p := ⟨_, _, _⟩) (by simp)).trans (by rw [World.cell?_alloc_new]; rfl)
  have HC2 := Lib.hid (And.intro hn2 hc2)
  clear hb2 h2 hn2 hc2
  go_wp2_with fail
  refine HWS.out.mono ?_
  rintro e4 w3 ⟨rfl, h3⟩
  have hc3 := (h3.cell (o := 1) HC2.out.1 (by decide) (by omega)).trans HC2.out.2
  have h3' := HW2.out.trans h3
  have HW3 := Lib.hid h3'
  have HWT := Lib.hid (writeString B b (l ++ (sp c).data.toList) t w3 h3'.1 (by have := sp_size c; simp at this ⊢; omega) (by omega) (Nat.le_trans hB h3'.2.1.size))
  clear h3 h3' hs2
  go_wp2_with fail
  refine HWT.out.mono ?_
  rintro e5 w4 ⟨rfl, h4⟩
  have HW4 := Lib.hid (HW3.out.trans h4)
  clear h4 hc3
  go_wp2_with fail
  go_end0
  refine ⟨rfl, ?_⟩
  rw [HL.out]
  have := HW4.out
  rw [List.append_assoc] at this
  rw [ByteArray.data_append, Array.toList_append]
  simpa using this
end Go.Proofs.YtjcaiecapapceaaGreat.Buf

import Derived.Test.YtcealfjkcbaelaaStE
/-
  newLine and hasRoom of the program, at the page of a streamer.
-/
set_option linter.unusedVariables false
set_option linter.unusedSimpArgs false
namespace Go.Proofs.Ytcealfjkcbaelaa.StM
open Go.RowKit Go.Shelf P1 Cnt CntC Flat Wid ChP Rn Bwd BufS

theorem len_text (t : ByteArray) : t.data.toList.length = t.size := Array.length_toList
/-- a field that is a number is stored to -/
theorem RF.set_ind {w0 w : World} {B b : Nat} {W : Int} {its : List Int} {s : St} {fa fr fl fi fg : Value} (h : RF w0 B b W its s ⟨fa, fr, fl, fi, fg⟩ w) (i : Int) : RF w0 B b W its { s with ind := i } ⟨fa, fr, fl, .int .i64 i, fg⟩ (w.setCell ⟨b, 2, none⟩ (.int .i64 i)) :=
  h.set (row := none) ⟨rfl, rfl, rfl, Nat.le_refl _, fun _ _ _ => rfl⟩ (by simp) 2 (.int .i64 i) ⟨fa, fr, fl, .int .i64 i, fg⟩ (fun p v => rfl) its { s with ind := i } rfl h.rest h.rows h.flags rfl h.wid

set_option maxRecDepth 100000 in
set_option maxHeartbeats 3200000 in
theorem newLine {w0 w : World} {B b : Nat} {W : Int} {its : List Int} {s : St} (hB : B ≤ w.heap.size) (h : RS w0 B b W its s w) (hn : s.rows.length ≤ 1000000) (i : Int) :
    Calls Try.prog 113 #[.pointer (some ⟨b, 0, none⟩), .int .i64 i] w fun e w' => e = .returned (.tuple #[]) ∧ RS w0 B b W its (s.line i) w' ∧ Below B w w' ∧ KeptBut [5, 91] b w w' := by
  have hBb : B ≤ b := by obtain ⟨F, hF⟩ := h; exact hF.cells.2.2.2.2.2.2.2
  have HEL := Lib.hid (endLine hB h hn)
  have HB := Lib.hid hBb
  clear h hBb
  go_enter Try.func113, Try.ntmps113
  go_wp2_with fail
  refine HEL.out.mono ?_
  rintro e2 w2 ⟨rfl, ⟨⟨fa, fr, fl, fi, fg⟩, hF2⟩, hb2, hk2⟩
  obtain ⟨_, _, _, c3, _, fz, _, _⟩ := hF2.cells
  have f3 := fz 2
  have H2 := Lib.hid (And.intro hF2 (And.intro hb2 hk2))
  clear hF2 hb2 hk2 fz
  go_wp2_with fail
  go_end0
  exact ⟨rfl, ⟨⟨fa, fr, fl, .int .i64 i, fg⟩, H2.out.1.set_ind i⟩, H2.out.2.1.setCell (p := ⟨b, 2, none⟩) HB.out _, H2.out.2.2.trans (kept_set _ b 2 _ _)⟩

set_option maxRecDepth 100000 in
set_option maxHeartbeats 3200000 in
theorem hasRoom {w0 w : World} {B b : Nat} {W : Int} {its : List Int} {s : St} {F : Fs} (h : RF w0 B b W its s F w) (hi0 : 0 ≤ s.ind) (hi1 : s.ind ≤ 1000000) (ht : s.txt.size ≤ 4194304) (z : Int) (hz0 : 0 ≤ z) (hz1 : z ≤ 100000000) :
    Calls Try.prog 114 #[.pointer (some ⟨b, 0, none⟩), .int .i64 z] w fun e w' => e = .returned (.bool (decide (s.ind + (s.txt.size : Int) + z ≤ W))) ∧ w' = w.drew := by
  have hFd : RF w0 B b W its s F w.drew := h.below (Below.refl _ _).drew
  have HLEN := Lib.hid (len B b _ _ w.drew hFd.hold)
  simp only [len_text] at HLEN
  obtain ⟨c0, _, _, c3, _, _, hbl, _⟩ := hFd.cells
  obtain ⟨ind, hind⟩ : ∃ i, s.ind = i := ⟨_, rfl⟩
  obtain ⟨X, hX⟩ : ∃ t, s.txt = t := ⟨_, rfl⟩
  rw [hind] at hi0 hi1 c3 ⊢
  rw [hX] at ht HLEN ⊢
  clear h hFd hind hX
  go_enter Try.func114, Try.ntmps114
  go_wp2_with fail
  go_region_held3 (fun w' => w'.cell? ⟨b, 0, none⟩ = some (.int .i64 W) ∧ w'.cell? ⟨b, 2, none⟩ = some (.int .i64 ind))
    (first | go_keep | exact ⟨c0, c3⟩)
    (first | (go_at_call 141; refine HLEN.out.mono ?_; rintro e2 w2 ⟨rfl, rfl⟩))
  go_wp2_with fail
  go_ret
  refine ⟨?_, rfl⟩
  show Ending.returned (Value.bool (decide (IntKind.i64.wrap (IntKind.i64.wrap (ind + (X.size : Int)) + z) ≤ W))) = _
  rw [show IntKind.i64.wrap (ind + (X.size : Int)) = ind + (X.size : Int) by rw [IntKind.wrap_i64]; omega, show IntKind.i64.wrap (ind + (X.size : Int) + z) = ind + (X.size : Int) + z by rw [IntKind.wrap_i64]; omega]

end Go.Proofs.Ytcealfjkcbaelaa.StM


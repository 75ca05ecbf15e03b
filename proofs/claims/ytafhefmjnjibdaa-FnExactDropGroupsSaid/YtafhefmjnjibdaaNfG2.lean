import Derived.Test.YtafhefmjnjibdaaNfU2
import Derived.Test.YtafhefmjnjibdaaNfG1
import Derived.Test.YtafhefmjnjibdaaNfE2
/-
  DropGroups of the model: l7Newlines, l7Groups.
-/
set_option linter.unusedVariables false
set_option linter.unusedSimpArgs false
namespace Go.Proofs.Ytafhefmjnjibdaa.Nf
open Go.RowKit P1 Copy CatD

theorem wrap_small (x : Int) (h0 : -1000000000 ≤ x) (h1 : x ≤ 1000000000) : IntKind.i64.wrap x = x := by rw [IntKind.wrap_i64]; omega

set_option maxRecDepth 100000 in
set_option maxHeartbeats 3200000 in
theorem l7Newlines (w : World) (o n : Int) (t : ByteArray) (k : F) (a : Option Addr) (cap : Nat) (fs : List Nat) (hs : SubAt w a k fs) (hfs : ∀ c ∈ fs, c < w.heap.size) (hc : k.len ≤ cap) (hsz : k.size ≤ 2097152) :
    Calls Try.prog 110 #[.agg #[.int .i64 o, .int .i64 n, .string t, .slice a k.len cap]] w fun e w' => e = .returned (.int .i64 ((nlF (.cons o n t k .nil) : Nat) : Int)) ∧ Below w.heap.size w w' := by
  have hco := fun (op : Int) (W : World) (e : Ext w W) => CntC.specCountOps op W o n t k a cap fs (e.sub hs hfs) (fun c hc => Nat.lt_of_lt_of_le (hfs c hc) e.size) hc (by omega)
  have hsum := nl_sum (.cons o n t k .nil)
  have hle3 := cntF_le (fun x => x == 3) (.cons o 0 ⟨#[]⟩ k .nil)
  have hle4 := cntF_le (fun x => x == 4) (.cons o 0 ⟨#[]⟩ k .nil)
  have hle5 := cntF_le (fun x => x == 5) (.cons o 0 ⟨#[]⟩ k .nil)
  have hz : (F.cons o 0 ⟨#[]⟩ k .nil).size = 1 + k.size := by show 1 + 0 + k.size + 0 = _; omega
  rw [hz] at hle3 hle4 hle5
  have h3 := hco 3
  have h4 := hco 4
  have h5 := hco 5
  obtain ⟨c3, hc3⟩ : ∃ c, CntC.opsD 3 o k = c := ⟨_, rfl⟩
  obtain ⟨c4, hc4⟩ : ∃ c, CntC.opsD 4 o k = c := ⟨_, rfl⟩
  obtain ⟨c5, hc5⟩ : ∃ c, CntC.opsD 5 o k = c := ⟨_, rfl⟩
  have e3 : c3 ≤ 1 + k.size := by rw [← hc3]; exact hle3
  have e4 : c4 ≤ 1 + k.size := by rw [← hc4]; exact hle4
  have e5 : c5 ≤ 1 + k.size := by rw [← hc5]; exact hle5
  have hN : nlF (.cons o n t k .nil) = c3 + c4 + c5 := by rw [← hc3, ← hc4, ← hc5]; exact hsum
  rw [hc3] at h3
  rw [hc4] at h4
  rw [hc5] at h5
  rw [hN]
  obtain ⟨L, hL⟩ : ∃ L, k.len = L := ⟨_, rfl⟩
  rw [hL] at h3 h4 h5 ⊢
  have H3 := Lib.hid h3
  have H4 := Lib.hid h4
  have H5 := Lib.hid h5
  have HW := Lib.hid (show IntKind.i64.wrap (IntKind.i64.wrap ((c3 : Int) + (c4 : Int)) + (c5 : Int)) = ((c3 + c4 + c5 : Nat) : Int) by rw [wrap_small ((c3 : Int) + (c4 : Int)) (by omega) (by omega), wrap_small _ (by omega) (by omega)]; omega)
  have hB : Four w.heap.size (.int .i64 o) (.int .i64 n) (.string t) (.slice a L cap) (w.alloc (.cells #[.int .i64 o, .int .i64 n, .string t, .slice a L cap] 25)) := by
    refine ⟨?_, ?_, ?_, ?_⟩ <;> (rw [World.cell?_alloc_new]; rfl)
  have HB := Lib.hid hB
  have HD := Lib.hid (hB.below (Below.refl (w.heap.size + 1) _).drew (by omega))
  have HE := Lib.hid (show ∀ x, Ext w (w.alloc x) from fun x => (Ext.refl w).alloc x)
  clear hco hsum hle3 hle4 hle5 hz h3 h4 h5 hc3 hc4 hc5 e3 e4 e5 hN hL hs hfs hc hsz hB
  go_enter Try.func110, Try.ntmps110
  go_wp2_with fail
  go_region_held3 (fun w' => w'.cell? ⟨w.heap.size, 0, none⟩ = some (.int .i64 o) ∧ w'.cell? ⟨w.heap.size, 1, none⟩ = some (.int .i64 n) ∧ w'.cell? ⟨w.heap.size, 2, none⟩ = some (.string t) ∧ w'.cell? ⟨w.heap.size, 3, none⟩ = some (.slice a L cap))
    (first | (go_keep; done) | with_reducible exact HB.out.below q5 (by omega) | with_reducible exact HB.out.below q4 (by omega) | with_reducible exact HB.out.below q3 (by omega) | with_reducible exact HD.out)
    (first
      | (go_at_call_of 111 (Value.int .i64 3); refine (H3.out _ (by exact (HE.out _).drew)).mono ?_; rintro e1 w3 ⟨rfl, hb3⟩; have q3 : Below (w.heap.size + 1) _ w3 := (Below.refl _ (w.alloc (.cells #[.int .i64 o, .int .i64 n, .string t, .slice a L cap] 25))).drew.trans (hb3.mono (by simp)))
      | (go_at_call_of 111 (Value.int .i64 4); refine (H4.out _ (by exact Ext.trans (HE.out _) (q3.mono (by simp)))).mono ?_; rintro e1 w4 ⟨rfl, hb4⟩; have q4 : Below (w.heap.size + 1) _ w4 := q3.trans (hb4.mono (by have := q3.size; simp at this; omega)))
      | (go_at_call_of 111 (Value.int .i64 5); refine (H5.out _ (by exact Ext.trans (HE.out _) (q4.mono (by simp)))).mono ?_; rintro e1 w5 ⟨rfl, hb5⟩; have q5 : Below (w.heap.size + 1) _ w5 := q4.trans (hb5.mono (by have := q4.size; simp at this; omega))))
  all_goals
    go_wp2_with fail
    go_ret
    exact ⟨by rw [HW.out]; rfl, Ext.trans (HE.out _) (q5.mono (by simp))⟩

end Go.Proofs.Ytafhefmjnjibdaa.Nf


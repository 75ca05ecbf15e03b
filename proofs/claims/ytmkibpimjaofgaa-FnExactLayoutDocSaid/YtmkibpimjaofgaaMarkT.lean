import Derived.Test.YtmkibpimjaofgaaPl
import Derived.Test.YtmkibpimjaofgaaChecked
import Derived.Outline
import Derived.Laws.IdiomStrings
/-
  What the law's own markText comes to: the letter m and the decimal digits.
-/
set_option linter.unusedVariables false
set_option linter.unusedSimpArgs false
namespace Go.Proofs.Ytmkibpimjaofgaa.MarkT
open Go.RowKit P1

theorem ret_str {a b : ByteArray} (h : a = b) : Ending.returned (.string a) = .returned (.string b) := by rw [h]

theorem app_mk (a b : List UInt8) : ((⟨a.toArray⟩ : ByteArray) ++ ⟨b.toArray⟩) = ⟨(a ++ b).toArray⟩ := by
  apply ByteArray.ext
  simp

/-- one byte made into a text -/
theorem conv1 (x : Nat) (hx : x ≤ 255) (W : World) : (convert 48 9 (.slice (some ⟨W.heap.size, 0, none⟩) 1 1)).run Try.prog (W.alloc (.cells #[.int .u8 (x : Int)] 5)) = .ok (.string ⟨#[UInt8.ofNat x]⟩) (W.alloc (.cells #[.int .u8 (x : Int)] 5)) := by
  have := run_convert_bytes_back (P := Try.prog) (W.alloc (.cells #[.int .u8 (x : Int)] 5)) 48 9 5 ⟨W.heap.size, 0, none⟩ 1 [UInt8.ofNat x] Try.underlying48 Try.underlying5 Try.underlying9 (fun j hj => by
    have hj0 : j = 0 := by simpa using hj
    subst hj0
    have e : (⟨W.heap.size, 0, none⟩ : Addr).add 0 = ⟨W.heap.size, 0, none⟩ := by unfold Addr.add; split <;> simp_all
    rw [e, World.cell?_alloc_new]
    simp [UInt8.toNat_ofNat, Nat.mod_eq_of_lt (show x < 256 by omega)])
  exact this

set_option maxRecDepth 100000 in
set_option maxHeartbeats 800000 in
theorem markText (k : Nat) (w : World) (h0 : 1 ≤ k) (h : k ≤ 1099511627776) :
    Calls Try.prog 75 #[.int .i64 (k : Int)] w fun e w' => e = .returned (.string (mt k)) ∧ Below w.heap.size w w' := by
  have hk0 : ¬ ((k : Int) ≤ 0) := by omega
  go_enter Try.func75, Try.ntmps75
  go_wp2_with fail
  go_loopw [0, 3] (fun i s wr => ∃ (f kk : Nat) (out : List UInt8), Hid (dec 64 k = dec f kk ++ out ∧ kk < 2 ^ f) ∧ kk ≤ 1099511627776 ∧ i = .int .i64 (kk : Int) ∧ s = .string ⟨out.toArray⟩ ∧ Below w.heap.size w wr) (fun i _ _ => (intOf i).toNat)
  case atStart => exact ⟨64, k, [], Lib.hid ⟨by simp, by omega⟩, h, rfl, rfl, Below.refl _ _⟩
  case round =>
    obtain ⟨f, kk, out, HD, hkk, rfl, rfl, hb⟩ := hrel
    by_cases hz : 0 < kk
    · have hcv := fun W => conv1 (48 + kk % 10) (by omega) W
      have e1 : ((48 + kk % 10 : Nat) : Int) = 48 + (kk : Int) % 10 := by omega
      rw [e1] at hcv
      obtain ⟨c, hc⟩ : ∃ c, UInt8.ofNat (48 + kk % 10) = c := ⟨_, rfl⟩
      rw [hc] at hcv
      have hlo : out.length ≤ 64 := by
        have h1 := dec_len 64 k
        rw [HD.out.1, List.length_append] at h1; omega
      have HC := Lib.hid hc
      clear e1 hc
      go_wp2_with fail
      go_roundw
      case rel =>
        cases f with
        | zero => have := HD.out.2; simp at this; omega
        | succ f =>
          refine ⟨f, kk / 10, c :: out, Lib.hid ⟨?_, ?_⟩, by omega, by go_num, ?_, hb.alloc hb.size _⟩
          · rw [HD.out.1, dec_step hz, HC.out]; simp
          · have := HD.out.2; rw [Nat.pow_succ] at this; omega
          · rw [show #[c] = [c].toArray from rfl, app_mk]; rfl
      case measure => simp [intOf]; omega
    · obtain rfl : kk = 0 := by omega
      have hlo : out.length ≤ 64 := by
        have h1 := dec_len 64 k
        rw [HD.out.1, List.length_append] at h1; omega
      go_wp2_with fail
      go_ret
      exact ⟨ret_str (by unfold mt; rw [HD.out.1, dec_zero]; rfl), hb⟩

end Go.Proofs.Ytmkibpimjaofgaa.MarkT


import Derived.Test.YtlhdoifjhoocfaaDrY
import Derived.Test.YtlhdoifjhoocfaaPl
import Derived.Deep.RegionHeld3
import Derived.Laws.IdiomStrings
/-
  What the model's text of a document comes to: some text of a bounded size.
-/
set_option linter.unusedVariables false
set_option linter.unusedSimpArgs false
namespace Go.Proofs.Ytlhdoifjhoocfaa.Txt
open Go.RowKit P1

/-- some text of at most M bytes -/
def TextOut (w : World) (M : Nat) (e : Ending) (w' : World) : Prop := ∃ s : ByteArray, e = .returned (.string s) ∧ s.size ≤ M ∧ Below w.heap.size w w'
theorem TextOut.mono {w w' : World} {M M' : Nat} {e : Ending} (h : TextOut w M e w') (hM : M ≤ M') : TextOut w M' e w' := by
  obtain ⟨s, h1, h2, h3⟩ := h; exact ⟨s, h1, by omega, h3⟩

theorem conv1 (x : Nat) (hx : x ≤ 255) (W : World) : (convert 22 9 (.slice (some ⟨W.heap.size, 0, none⟩) 1 1)).run Try.prog (W.alloc (.cells #[.int .u8 (x : Int)] 5)) = .ok (.string ⟨#[UInt8.ofNat x]⟩) (W.alloc (.cells #[.int .u8 (x : Int)] 5)) := by
  have := run_convert_bytes_back (P := Try.prog) (W.alloc (.cells #[.int .u8 (x : Int)] 5)) 22 9 5 ⟨W.heap.size, 0, none⟩ 1 [UInt8.ofNat x] Try.underlying22 Try.underlying5 Try.underlying9 (fun j hj => by
    have hj0 : j = 0 := by simpa using hj
    subst hj0
    have e : (⟨W.heap.size, 0, none⟩ : Addr).add 0 = ⟨W.heap.size, 0, none⟩ := by unfold Addr.add; split <;> simp_all
    rw [e, World.cell?_alloc_new]
    simp [UInt8.toNat_ofNat, Nat.mod_eq_of_lt (show x < 256 by omega)])
  exact this

set_option maxRecDepth 100000 in
set_option maxHeartbeats 3200000 in
theorem dec (w : World) (n : Int) (h0 : 0 ≤ n) (h9 : n ≤ 9) : Calls Try.prog 21 #[.int .i64 n] w (TextOut w 1) := by
  have hcv : ∀ W : World, (convert 22 9 (.slice (some ⟨W.heap.size, 0, none⟩) 1 1)).run Try.prog (W.alloc (.cells #[.int .u8 (48 + n)] 5)) = .ok (.string ⟨#[UInt8.ofNat (48 + n.toNat)]⟩) (W.alloc (.cells #[.int .u8 (48 + n)] 5)) := fun W => by
    have h := conv1 (48 + n.toNat) (by omega) W
    rw [show ((48 + n.toNat : Nat) : Int) = 48 + n by omega] at h
    exact h
  have hw : IntKind.i64.wrap (48 + n) = 48 + n := IntWalk.i64_in _ ⟨by omega, by omega⟩
  have hu : IntKind.u8.wrap (48 + n) = 48 + n := by rw [IntKind.wrap_u8]; omega
  have hn : ¬ (n < -9223372036854775807) := by omega
  have hn0 : ¬ (n < 0) := by omega
  have hn9 : ¬ (9 < n) := by omega
  go_enter Try.func21, Try.ntmps21
  go_wp2_with fail
  go_loopw [0, 3] (fun i s wr => i = .int .i64 n ∧ s = .string ⟨#[]⟩ ∧ wr = w) (fun _ _ _ => 0)
  case atStart => exact ⟨rfl, rfl, rfl⟩
  case round =>
    obtain ⟨rfl, rfl, rfl⟩ := hrel
    go_wp2_with fail
    go_ret
    exact ⟨_, rfl, by first | decide | (rw [ByteArray.size_append]; show 1 + 0 ≤ 1; omega) | (simp; done), (Below.refl _ _).alloc (Nat.le_refl _) _⟩

set_option maxRecDepth 100000 in
set_option maxHeartbeats 3200000 in
theorem txt_sign (o n : Int) (t : ByteArray) (w : World) (a : Option Addr) (l c : Nat) (ho : o = 1 ∨ o = 3 ∨ o = 4 ∨ o = 5) : Calls Try.prog 11 #[.agg #[.int .i64 o, .int .i64 n, .string t, .slice a l c]] w (TextOut w 1) := by
  have B1 := Lib.hid (show ∀ ob, Below w.heap.size w (w.alloc ob) from fun ob => (Below.refl _ _).alloc (Nat.le_refl _) _)
  rcases ho with rfl | rfl | rfl | rfl
  all_goals
    go_enter Try.func11, Try.ntmps11
    go_wp2_with fail
    go_ret
    exact ⟨_, rfl, by decide, B1.out _⟩

set_option maxRecDepth 100000 in
set_option maxHeartbeats 3200000 in
theorem txt_text (n : Int) (t : ByteArray) (w : World) (a : Option Addr) (l c : Nat) (ht : t.size ≤ 1000000) : Calls Try.prog 11 #[.agg #[.int .i64 2, .int .i64 n, .string t, .slice a l c]] w (TextOut w (t.size + 2)) := by
  have q1 : ¬ (9223372036854775807 < 1 + t.size) := by omega
  have q2 : ¬ (9223372036854775807 < 1 + t.size + 1) := by omega
  have B1 := Lib.hid (show ∀ ob, Below w.heap.size w (w.alloc ob) from fun ob => (Below.refl _ _).alloc (Nat.le_refl _) _)
  go_enter Try.func11, Try.ntmps11
  go_wp2_with fail
  go_ret
  refine ⟨_, rfl, ?_, B1.out _⟩
  rw [ByteArray.size_append, ByteArray.size_append]
  have e1 : (⟨#[34]⟩ : ByteArray).size = 1 := rfl
  omega

set_option maxRecDepth 100000 in
set_option maxHeartbeats 3200000 in
theorem txt_group (n : Int) (t : ByteArray) (w : World) (b off cap : Nat) (o1 n1 : Int) (t1 : ByteArray) (l1 c1 : Nat) (a1 : Option Addr) (M : Nat) (hM : M ≤ 1000000) (hb : b < w.heap.size) (hcap : 1 ≤ cap) (h10 : w.cell? ⟨b, off, none⟩ = some (.int .i64 o1)) (h11 : w.cell? ⟨b, off + 1, none⟩ = some (.int .i64 n1)) (h12 : w.cell? ⟨b, off + 2, none⟩ = some (.string t1)) (h13 : w.cell? ⟨b, off + 3, none⟩ = some (.slice a1 l1 c1))
    (hK1 : ∀ W, Below w.heap.size w W → Calls Try.prog 11 #[.agg #[.int .i64 o1, .int .i64 n1, .string t1, .slice a1 l1 c1]] W (TextOut W M)) :
    Calls Try.prog 11 #[.agg #[.int .i64 8, .int .i64 n, .string t, .slice (some ⟨b, off, none⟩) 1 cap]] w (TextOut w (M + 2)) := by
  have HK := Lib.hid hK1
  clear hK1
  go_enter Try.func11, Try.ntmps11
  go_wp2_with fail
  obtain ⟨W, hW⟩ : ∃ W, w.alloc (.cells #[.int .i64 8, .int .i64 n, .string t, .slice (some ⟨b, off, none⟩) 1 cap] 26) = W := ⟨_, rfl⟩
  have hbW : Below w.heap.size w W := by rw [← hW]; exact (Below.refl _ _).alloc (Nat.le_refl _) _
  have x1 : W.cell? ⟨w.heap.size, 1, none⟩ = some (.int .i64 n) := by rw [← hW, World.cell?_alloc_new]; rfl
  have x3 : W.cell? ⟨w.heap.size, 3, none⟩ = some (.slice (some ⟨b, off, none⟩) 1 cap) := by rw [← hW, World.cell?_alloc_new]; rfl
  have lW : w.heap.size < W.heap.size := by rw [← hW]; simp
  have lb : b < W.heap.size := by omega
  replace h10 := (hbW.cell (p := ⟨b, off, none⟩) hb).trans h10
  replace h11 := (hbW.cell (p := ⟨b, off + 1, none⟩) hb).trans h11
  replace h12 := (hbW.cell (p := ⟨b, off + 2, none⟩) hb).trans h12
  replace h13 := (hbW.cell (p := ⟨b, off + 3, none⟩) hb).trans h13
  try rw [hW]
  have HW := Lib.hid hbW
  clear hW hbW
  go_wp2_with fail
  refine (HK.out _ HW.out).mono ?_
  rintro e1 w2 ⟨s, rfl, hs, hb2⟩
  have q1 : ¬ (9223372036854775807 < 1 + s.size) := by omega
  have q2 : ¬ (9223372036854775807 < 1 + s.size + 1) := by omega
  have HB := Lib.hid (HW.out.trans (hb2.mono HW.out.size))
  clear hb2
  go_wp2_with fail
  go_ret
  refine ⟨_, rfl, ?_, HB.out⟩
  rw [ByteArray.size_append, ByteArray.size_append]
  have e1 : (⟨#[91]⟩ : ByteArray).size = 1 := rfl
  have e2 : (⟨#[93]⟩ : ByteArray).size = 1 := rfl
  omega

set_option maxRecDepth 100000 in
set_option maxHeartbeats 3200000 in
theorem txt_nest (n : Int) (hn0 : 0 ≤ n) (hn9 : n ≤ 9) (t : ByteArray) (w : World) (b off cap : Nat) (o1 n1 : Int) (t1 : ByteArray) (l1 c1 : Nat) (a1 : Option Addr) (M : Nat) (hM : M ≤ 1000000) (hb : b < w.heap.size) (hcap : 1 ≤ cap) (h10 : w.cell? ⟨b, off, none⟩ = some (.int .i64 o1)) (h11 : w.cell? ⟨b, off + 1, none⟩ = some (.int .i64 n1)) (h12 : w.cell? ⟨b, off + 2, none⟩ = some (.string t1)) (h13 : w.cell? ⟨b, off + 3, none⟩ = some (.slice a1 l1 c1))
    (hK1 : ∀ W, Below w.heap.size w W → Calls Try.prog 11 #[.agg #[.int .i64 o1, .int .i64 n1, .string t1, .slice a1 l1 c1]] W (TextOut W M)) :
    Calls Try.prog 11 #[.agg #[.int .i64 6, .int .i64 n, .string t, .slice (some ⟨b, off, none⟩) 1 cap]] w (TextOut w (M + 3)) := by
  have HK := Lib.hid hK1
  have HD := Lib.hid (fun W => dec W n hn0 hn9)
  clear hK1
  go_enter Try.func11, Try.ntmps11
  go_wp2_with fail
  obtain ⟨W, hW⟩ : ∃ W, w.alloc (.cells #[.int .i64 6, .int .i64 n, .string t, .slice (some ⟨b, off, none⟩) 1 cap] 26) = W := ⟨_, rfl⟩
  have hbW : Below w.heap.size w W := by rw [← hW]; exact (Below.refl _ _).alloc (Nat.le_refl _) _
  have x1 : W.cell? ⟨w.heap.size, 1, none⟩ = some (.int .i64 n) := by rw [← hW, World.cell?_alloc_new]; rfl
  have x3 : W.cell? ⟨w.heap.size, 3, none⟩ = some (.slice (some ⟨b, off, none⟩) 1 cap) := by rw [← hW, World.cell?_alloc_new]; rfl
  have lW : w.heap.size < W.heap.size := by rw [← hW]; simp
  have lb : b < W.heap.size := by omega
  replace h10 := (hbW.cell (p := ⟨b, off, none⟩) hb).trans h10
  replace h11 := (hbW.cell (p := ⟨b, off + 1, none⟩) hb).trans h11
  replace h12 := (hbW.cell (p := ⟨b, off + 2, none⟩) hb).trans h12
  replace h13 := (hbW.cell (p := ⟨b, off + 3, none⟩) hb).trans h13
  try rw [hW]
  have HW := Lib.hid hbW
  clear hW hbW
  go_region_held3 (fun w' => w'.cell? ⟨w.heap.size, 1, none⟩ = some (.int .i64 n) ∧ w'.cell? ⟨w.heap.size, 3, none⟩ = some (.slice (some ⟨b, off, none⟩) 1 cap) ∧ w'.cell? ⟨b, off, none⟩ = some (.int .i64 o1) ∧ w'.cell? ⟨b, off + 1, none⟩ = some (.int .i64 n1) ∧ w'.cell? ⟨b, off + 2, none⟩ = some (.string t1) ∧ w'.cell? ⟨b, off + 3, none⟩ = some (.slice a1 l1 c1))
    (first | go_keep | (refine ⟨?_, ?_, ?_, ?_, ?_, ?_⟩ <;> (first | assumption | (rw [hb2.cell (p := ⟨_, _, _⟩) (by  first | (simp; done) | (simp; omega) | omega)]; assumption) | (rw [hb3.cell (p := ⟨_, _, _⟩) (by have := hb2.size; simp at this; first | (simp; done) | (simp; omega) | omega), hb2.cell (p := ⟨_, _, _⟩) (by  first | (simp; done) | (simp; omega) | omega)]; assumption))))
    (first
      | (go_at_call 21; refine (HD.out _).mono ?_; rintro e1 w2 ⟨s1, rfl, hs1, hb2⟩; have q1 : ¬ (9223372036854775807 < s1.size + 1) := by omega)
      | (go_at_call 11; refine (HK.out _ (HW.out.trans (((Below.refl _ W).drew.trans hb2).mono HW.out.size))).mono ?_; rintro e2 w3 ⟨s2, rfl, hs2, hb3⟩; have q2 : ¬ (9223372036854775807 < s1.size + 1 + s2.size) := (by omega); have q3 : ¬ (9223372036854775807 < s1.size + 1 + s2.size + 1) := by omega))
  all_goals
    go_wp2_with fail
    go_ret
    have p2 : Below w.heap.size w w2 := HW.out.trans (((Below.refl _ W).drew.trans hb2).mono HW.out.size)
    refine ⟨_, rfl, ?_, p2.trans (hb3.mono p2.size)⟩
    rw [ByteArray.size_append, ByteArray.size_append, ByteArray.size_append]
    have e1 : (⟨#[60]⟩ : ByteArray).size = 1 := rfl
    have e2 : (⟨#[62]⟩ : ByteArray).size = 1 := rfl
    omega

set_option maxRecDepth 100000 in
set_option maxHeartbeats 3200000 in
theorem txt_cat (n : Int) (t : ByteArray) (w : World) (b off cap : Nat) (o1 n1 : Int) (t1 : ByteArray) (l1 c1 : Nat) (a1 : Option Addr) (o2 n2 : Int) (t2 : ByteArray) (l2 c2 : Nat) (a2 : Option Addr) (M M' : Nat) (hM : M ≤ 1000000) (hM' : M' ≤ 1000000) (hb : b < w.heap.size) (hcap : 2 ≤ cap) (h10 : w.cell? ⟨b, off, none⟩ = some (.int .i64 o1)) (h11 : w.cell? ⟨b, off + 1, none⟩ = some (.int .i64 n1)) (h12 : w.cell? ⟨b, off + 2, none⟩ = some (.string t1)) (h13 : w.cell? ⟨b, off + 3, none⟩ = some (.slice a1 l1 c1)) (h20 : w.cell? ⟨b, off + 4, none⟩ = some (.int .i64 o2)) (h21 : w.cell? ⟨b, off + 4 + 1, none⟩ = some (.int .i64 n2)) (h22 : w.cell? ⟨b, off + 4 + 2, none⟩ = some (.string t2)) (h23 : w.cell? ⟨b, off + 4 + 3, none⟩ = some (.slice a2 l2 c2))
    (hK1 : ∀ W, Below w.heap.size w W → Calls Try.prog 11 #[.agg #[.int .i64 o1, .int .i64 n1, .string t1, .slice a1 l1 c1]] W (TextOut W M))
    (hK2 : ∀ W, Below w.heap.size w W → Calls Try.prog 11 #[.agg #[.int .i64 o2, .int .i64 n2, .string t2, .slice a2 l2 c2]] W (TextOut W M')) :
    Calls Try.prog 11 #[.agg #[.int .i64 7, .int .i64 n, .string t, .slice (some ⟨b, off, none⟩) 2 cap]] w (TextOut w (M + M' + 2)) := by
  have HK := Lib.hid hK1
  have HK2 := Lib.hid hK2
  clear hK1 hK2
  go_enter Try.func11, Try.ntmps11
  go_wp2_with fail
  obtain ⟨W, hW⟩ : ∃ W, w.alloc (.cells #[.int .i64 7, .int .i64 n, .string t, .slice (some ⟨b, off, none⟩) 2 cap] 26) = W := ⟨_, rfl⟩
  have hbW : Below w.heap.size w W := by rw [← hW]; exact (Below.refl _ _).alloc (Nat.le_refl _) _
  have x1 : W.cell? ⟨w.heap.size, 1, none⟩ = some (.int .i64 n) := by rw [← hW, World.cell?_alloc_new]; rfl
  have x3 : W.cell? ⟨w.heap.size, 3, none⟩ = some (.slice (some ⟨b, off, none⟩) 2 cap) := by rw [← hW, World.cell?_alloc_new]; rfl
  have lW : w.heap.size < W.heap.size := by rw [← hW]; simp
  have lb : b < W.heap.size := by omega
  replace h10 := (hbW.cell (p := ⟨b, off, none⟩) hb).trans h10
  replace h11 := (hbW.cell (p := ⟨b, off + 1, none⟩) hb).trans h11
  replace h12 := (hbW.cell (p := ⟨b, off + 2, none⟩) hb).trans h12
  replace h13 := (hbW.cell (p := ⟨b, off + 3, none⟩) hb).trans h13
  replace h20 := (hbW.cell (p := ⟨b, off + 4, none⟩) hb).trans h20
  replace h21 := (hbW.cell (p := ⟨b, off + 4 + 1, none⟩) hb).trans h21
  replace h22 := (hbW.cell (p := ⟨b, off + 4 + 2, none⟩) hb).trans h22
  replace h23 := (hbW.cell (p := ⟨b, off + 4 + 3, none⟩) hb).trans h23
  try rw [hW]
  have HW := Lib.hid hbW
  clear hW hbW
  go_region_held3 (fun w' => w'.cell? ⟨w.heap.size, 3, none⟩ = some (.slice (some ⟨b, off, none⟩) 2 cap) ∧ w'.cell? ⟨b, off, none⟩ = some (.int .i64 o1) ∧ w'.cell? ⟨b, off + 1, none⟩ = some (.int .i64 n1) ∧ w'.cell? ⟨b, off + 2, none⟩ = some (.string t1) ∧ w'.cell? ⟨b, off + 3, none⟩ = some (.slice a1 l1 c1) ∧ w'.cell? ⟨b, off + 4, none⟩ = some (.int .i64 o2) ∧ w'.cell? ⟨b, off + 4 + 1, none⟩ = some (.int .i64 n2) ∧ w'.cell? ⟨b, off + 4 + 2, none⟩ = some (.string t2) ∧ w'.cell? ⟨b, off + 4 + 3, none⟩ = some (.slice a2 l2 c2))
    (first | go_keep | (refine ⟨?_, ?_, ?_, ?_, ?_, ?_, ?_, ?_, ?_⟩ <;> (first | assumption | (rw [hb2.cell (p := ⟨_, _, _⟩) (by  first | (simp; done) | (simp; omega) | omega)]; assumption) | (rw [hb3.cell (p := ⟨_, _, _⟩) (by have := hb2.size; simp at this; first | (simp; done) | (simp; omega) | omega), hb2.cell (p := ⟨_, _, _⟩) (by  first | (simp; done) | (simp; omega) | omega)]; assumption))))
    (first
      | (go_at_call_of 11 (Value.agg #[.int .i64 o1, .int .i64 n1, .string t1, .slice a1 l1 c1]); refine (HK.out _ (by first | exact HW.out | exact HW.out.drew)).mono ?_; rintro e1 w2 ⟨s1, rfl, hs1, hb2⟩; have q1 : ¬ (9223372036854775807 < 1 + s1.size) := by omega)
      | (go_at_call_of 11 (Value.agg #[.int .i64 o2, .int .i64 n2, .string t2, .slice a2 l2 c2]); refine (HK2.out _ (HW.out.trans (((Below.refl _ W).drew.trans hb2).mono HW.out.size))).mono ?_; rintro e2 w3 ⟨s2, rfl, hs2, hb3⟩; have q2 : ¬ (9223372036854775807 < 1 + s1.size + s2.size) := (by omega); have q3 : ¬ (9223372036854775807 < 1 + s1.size + s2.size + 1) := by omega))
  all_goals
    go_wp2_with fail
    go_ret
    have p2 : Below w.heap.size w w2 := HW.out.trans (((Below.refl _ W).drew.trans hb2).mono HW.out.size)
    refine ⟨_, rfl, ?_, p2.trans (hb3.mono p2.size)⟩
    rw [ByteArray.size_append, ByteArray.size_append, ByteArray.size_append]
    have e1 : (⟨#[40]⟩ : ByteArray).size = 1 := rfl
    have e2 : (⟨#[41]⟩ : ByteArray).size = 1 := rfl
    omega

/-- the contract of l1Text, down to a depth -/
def txtS (d : Nat) : Prop := ∀ (o n : Int) (t : ByteArray) (k : F), okD d o n t k = true → ∀ (w : World) (a : Option Addr) (cap : Nat) (fs : List Nat), SubAt w a k fs → (∀ c ∈ fs, c < w.heap.size) → k.len ≤ cap → t.size + k.size ≤ 100000 →
  Calls Try.prog 11 #[.agg #[.int .i64 o, .int .i64 n, .string t, .slice a k.len cap]] w (TextOut w (3 * (1 + t.size + k.size)))

theorem txt_all : ∀ d : Nat, txtS d := by
  intro d
  induction d with
  | zero => intro o n t k h; rw [okD_zero] at h; cases h
  | succ d IH =>
    intro o n t k h w a cap fs hs hfs hc hsz
    unfold okD nodeB at h
    simp only [Bool.and_eq_true, decide_eq_true_eq, Nat.add_sub_cancel] at h
    obtain ⟨⟨_, ⟨hl, ht⟩, hn⟩, hk⟩ := h
    rcases kidsOf_ways o with ⟨rfl, e⟩ | ⟨rfl, e⟩ | ⟨rfl, e⟩ | ⟨rfl, e⟩ | ⟨rfl, e⟩ | ⟨rfl, e⟩ | ⟨rfl, e⟩ | ⟨rfl, e⟩ | ⟨_, _, _, _, _, _, _, _, e⟩
    · exact (txt_sign 1 n t w a k.len cap (Or.inl rfl)).mono fun e w' h => h.mono (by omega)
    · exact (txt_text n t w a k.len cap (by omega)).mono fun e w' h => h.mono (by omega)
    · exact (txt_sign 3 n t w a k.len cap (Or.inr (Or.inl rfl))).mono fun e w' h => h.mono (by omega)
    · exact (txt_sign 4 n t w a k.len cap (Or.inr (Or.inr (Or.inl rfl)))).mono fun e w' h => h.mono (by omega)
    · exact (txt_sign 5 n t w a k.len cap (Or.inr (Or.inr (Or.inr rfl)))).mono fun e w' h => h.mono (by omega)
    · rw [e] at hl
      have hn' : 0 ≤ n ∧ n ≤ 9 := by simpa [numB] using hn
      obtain ⟨o1, n1, t1, k1, rfl⟩ := one_kid (show k.len = 1 by omega)
      rw [ok_cons, Bool.and_eq_true] at hk
      simp only [F.size] at hsz
      rcases hs with ⟨e', _⟩ | ⟨b, off, f', rfl, _, rfl, hr⟩
      · cases e'
      · obtain ⟨a1, c1, f1, f2, q0, q1, q2, q3, q4, q5, _, rfl⟩ := RowAt.cons_iff.1 hr
        refine (txt_nest n hn'.1 hn'.2 t w b off cap o1 n1 t1 k1.len c1 a1 (3 * (1 + t1.size + k1.size)) (by omega) (hfs b (by simp)) hc q0 q1 q2 q3 (fun W hW => IH _ _ _ _ hk.1 W a1 c1 f1 (q5.below (fun c hc => hfs c (by simp [hc])) hW) (fun c hc => Nat.lt_of_lt_of_le (hfs c (by simp [hc])) hW.size) q4 (by omega))).mono fun e w' h => h.mono (by simp only [F.size]; omega)
    · rw [e] at hl
      obtain ⟨o1, n1, t1, k1, rfl⟩ := one_kid (show k.len = 1 by omega)
      rw [ok_cons, Bool.and_eq_true] at hk
      simp only [F.size] at hsz
      rcases hs with ⟨e', _⟩ | ⟨b, off, f', rfl, _, rfl, hr⟩
      · cases e'
      · obtain ⟨a1, c1, f1, f2, q0, q1, q2, q3, q4, q5, _, rfl⟩ := RowAt.cons_iff.1 hr
        refine (txt_group n t w b off cap o1 n1 t1 k1.len c1 a1 (3 * (1 + t1.size + k1.size)) (by omega) (hfs b (by simp)) hc q0 q1 q2 q3 (fun W hW => IH _ _ _ _ hk.1 W a1 c1 f1 (q5.below (fun c hc => hfs c (by simp [hc])) hW) (fun c hc => Nat.lt_of_lt_of_le (hfs c (by simp [hc])) hW.size) q4 (by omega))).mono fun e w' h => h.mono (by simp only [F.size]; omega)
    · rw [e] at hl
      obtain ⟨o1, n1, t1, k1, o2, n2, t2, k2, rfl⟩ := two_kids (show k.len = 2 by omega)
      rw [ok_cons, ok_cons, Bool.and_eq_true, Bool.and_eq_true] at hk
      simp only [F.size] at hsz
      rcases hs with ⟨e', _⟩ | ⟨b, off, f', rfl, _, rfl, hr⟩
      · cases e'
      · obtain ⟨a1, c1, f1, f2, q0, q1, q2, q3, q4, q5, hr2, rfl⟩ := RowAt.cons_iff.1 hr
        obtain ⟨a2, c2, g1, g2, p0, p1, p2, p3, p4, p5, _, rfl⟩ := RowAt.cons_iff.1 hr2
        refine (txt_cat n t w b off cap o1 n1 t1 k1.len c1 a1 o2 n2 t2 k2.len c2 a2 (3 * (1 + t1.size + k1.size)) (3 * (1 + t2.size + k2.size)) (by omega) (by omega) (hfs b (by simp)) hc q0 q1 q2 q3 p0 p1 p2 p3 (fun W hW => IH _ _ _ _ hk.1 W a1 c1 f1 (q5.below (fun c hc => hfs c (by simp [hc])) hW) (fun c hc => Nat.lt_of_lt_of_le (hfs c (by simp [hc])) hW.size) q4 (by omega)) (fun W hW => IH _ _ _ _ hk.2.1 W a2 c2 g1 (p5.below (fun c hc => hfs c (by simp [hc])) hW) (fun c hc => Nat.lt_of_lt_of_le (hfs c (by simp [hc])) hW.size) p4 (by omega))).mono fun e w' h => h.mono (by simp only [F.size]; omega)
    · rw [e] at hl; omega


end Go.Proofs.Ytlhdoifjhoocfaa.Txt


import Derived.Test.YtafhefmjnjibdaaCntC
import Derived.Test.YtafhefmjnjibdaaSameL
import Derived.Test.YtafhefmjnjibdaaSpecS
/-
  A document that stays where it is while a law goes on: what the functions of chapter 1 come to at it, in whatever world lies above.
-/
set_option linter.unusedVariables false
set_option linter.unusedSimpArgs false
namespace Go.Proofs.Ytafhefmjnjibdaa.DocK
open Go.RowKit P1 CntC

theorem fits_of {m : Nat} (hm : m ≤ maxLen) : ∀ f : F, f.size ≤ m → f.Fits
  | .nil, _ => trivial
  | .cons o n t k r, h => by
    have h1 : t.size ≤ maxLen := by simp only [F.size] at h; omega
    have h2 : k.len ≤ maxLen := by have := F.len_le_size k; simp only [F.size] at h; omega
    exact ⟨h1, h2, fits_of hm k (by simp only [F.size] at h; omega), fits_of hm r (by simp only [F.size] at h; omega)⟩

/-- a document in memory that may be written, of a bounded size -/
structure Doc0 (w : World) (n : Int) (t : ByteArray) (k : F) (a : Option Addr) (cap : Nat) (fs : List Nat) : Prop where
  sub : SubAt w a k fs
  ok : ∀ c ∈ fs, c < w.heap.size ∧ ∀ o, w.frozen? ⟨c, o, none⟩ = false
  cap_le : k.len ≤ cap
  size : t.size + k.size ≤ 100000

section
variable {w w' : World} {o n : Int} {t : ByteArray} {k : F} {a : Option Addr} {cap : Nat} {fs : List Nat}

theorem Doc0.ext (h : Doc0 w n t k a cap fs) (e : Ext w w') : Doc0 w' n t k a cap fs :=
  ⟨e.sub h.sub (fun c hc => (h.ok c hc).1), fun c hc => ⟨Nat.lt_of_lt_of_le (h.ok c hc).1 e.size, fun o => (e.frozen (h.ok c hc).1).trans ((h.ok c hc).2 o)⟩, h.cap_le, h.size⟩
theorem Doc0.len (h : Doc0 w n t k a cap fs) : k.len ≤ 100000 := by have := h.size; have := F.len_le_size k; omega
theorem Doc0.fits (h : Doc0 w n t k a cap fs) : k.Fits := fits_of (m := 100000) (by unfold maxLen; omega) k (by have := h.size; omega)
theorem Doc0.tfit (h : Doc0 w n t k a cap fs) : t.size ≤ maxLen := by have := h.size; unfold maxLen; omega
theorem Doc0.lfit (h : Doc0 w n t k a cap fs) : k.len ≤ maxLen := by have := h.len; unfold maxLen; omega
theorem Doc0.docV (h : Doc0 w n t k a cap fs) (o : Int) : DocV w (o, n, t, k) [.int .i64 o, .int .i64 n, .string t, .slice a k.len cap] := ⟨a, cap, fs, rfl, h.cap_le, h.sub, h.ok, by have := h.size; show k.size ≤ _; omega⟩
theorem Doc0.lt (h : Doc0 w n t k a cap fs) : ∀ c ∈ fs, c < w.heap.size := fun c hc => (h.ok c hc).1

theorem Doc0.implCountOps (h : Doc0 w n t k a cap fs) (o op : Int) : Calls Try.prog 23 #[.agg #[.int .i64 o, .int .i64 n, .string t, .slice a k.len cap], .int .i64 op] w fun e w' => e = .returned (.int .i64 ((opsD op o k : Nat) : Int)) ∧ Ext w w' := CntC.countOps w (o, n, t, k) _ op (h.docV o)
theorem Doc0.specCountOps (h : Doc0 w n t k a cap fs) (o op : Int) : Calls Try.prog 111 #[.agg #[.int .i64 o, .int .i64 n, .string t, .slice a k.len cap], .int .i64 op] w fun e w' => e = .returned (.int .i64 ((opsD op o k : Nat) : Int)) ∧ Ext w w' := CntC.specCountOps op w o n t k a cap fs h.sub h.lt h.cap_le (by have := h.size; omega)
theorem Doc0.implDocSize (h : Doc0 w n t k a cap fs) (o : Int) : Calls Try.prog 24 #[.agg #[.int .i64 o, .int .i64 n, .string t, .slice a k.len cap]] w fun e w' => e = .returned (.int .i64 ((1 + k.cnt : Nat) : Int)) ∧ Ext w w' := CntC.docSize w (o, n, t, k) _ (h.docV o)
theorem Doc0.implDocValid (h : Doc0 w n t k a cap fs) (o : Int) : Calls Try.prog 80 #[.agg #[.int .i64 o, .int .i64 n, .string t, .slice a k.len cap]] w fun e w' => e = .returned (.bool (validD o n t k)) ∧ Ext w w' := PartV.docValid w o n t k a cap fs h.sub h.lt h.cap_le h.lfit h.fits h.tfit
theorem Doc0.specDocValid (h : Doc0 w n t k a cap fs) (o : Int) : Calls Try.prog 60 #[.agg #[.int .i64 o, .int .i64 n, .string t, .slice a k.len cap]] w fun e w' => e = .returned (.bool (validD o n t k)) ∧ Ext w w' := SpecC.docValid w o n t k a cap fs h.sub h.lt h.cap_le (by have := h.size; omega) h.fits h.tfit
theorem Doc0.implCanFlatten (h : Doc0 w n t k a cap fs) (o : Int) : Calls Try.prog 170 #[.agg #[.int .i64 o, .int .i64 n, .string t, .slice a k.len cap]] w fun e w' => e = .returned (.bool (canD o n t k)) ∧ Ext w w' := CntC.implCanFlatten w o n t k a cap fs h.sub h.ok h.cap_le (by have := h.size; omega) h.fits h.tfit
theorem Doc0.implDocSame {o' n' : Int} {t' : ByteArray} {k' : F} {a' : Option Addr} {cap' : Nat} {fs' : List Nat} (h : Doc0 w n t k a cap fs) (h' : Doc0 w n' t' k' a' cap' fs') (o : Int) : Calls Try.prog 22 #[.agg #[.int .i64 o, .int .i64 n, .string t, .slice a k.len cap], .agg #[.int .i64 o', .int .i64 n', .string t', .slice a' k'.len cap']] w fun e w' => e = .returned (.bool (sameD o n t k o' n' t' k')) ∧ Ext w w' := SameL.docSame w (o, n, t, k) (o', n', t', k') _ _ (h.docV o) (h'.docV o')

/-- a document of a list of Kids: where it lies, and that it stays -/
theorem Doc0.kid (h : Doc0 w n t k a cap fs) {j : Nat} (hj : j < k.len) : ∃ (b off : Nat) (p : F) (o1 n1 : Int) (t1 : ByteArray) (k1 r : F) (a1 : Option Addr) (c1 : Nat) (f1 : List Nat), a = some ⟨b, off, none⟩ ∧ k = p.app (.cons o1 n1 t1 k1 r) ∧ p.len = j ∧ b < w.heap.size ∧ Doc0 w n1 t1 k1 a1 c1 f1 ∧
    w.cell? ⟨b, off + j * 4, none⟩ = some (.int .i64 o1) ∧ w.cell? ⟨b, off + j * 4 + 1, none⟩ = some (.int .i64 n1) ∧ w.cell? ⟨b, off + j * 4 + 2, none⟩ = some (.string t1) ∧ w.cell? ⟨b, off + j * 4 + 3, none⟩ = some (.slice a1 k1.len c1) := by
  obtain ⟨p, o1, n1, t1, k1, r, hk, hp⟩ := F.at_len k j hj
  rcases h.sub with ⟨h0, _⟩ | ⟨b, off, f', rfl, _, hfs, hrow⟩
  · rw [h0] at hj; simp [F.len] at hj
  · rw [hk] at hrow
    obtain ⟨a1, c1, f1, h1, h2, h3, h4, h5, h6, h7⟩ := row_at hrow
    rw [hp] at h1 h2 h3 h4
    refine ⟨b, off, p, o1, n1, t1, k1, r, a1, c1, f1, rfl, hk, hp, (h.ok b (by rw [hfs]; simp)).1, ⟨h6, fun c hc => h.ok c (by rw [hfs]; simp [h7 c hc]), h5, ?_⟩, h1, h2, h3, h4⟩
    have := h.size
    rw [hk, F.size_app] at this
    simp only [F.size] at this
    omega
end

theorem ok_mono : ∀ (f : F) (d d' : Nat), f.ok d = true → d ≤ d' → f.ok d' = true := by
  intro f
  induction f with
  | nil => intro d d' _ _; rfl
  | cons o n t k r ihk ihr =>
    intro d d' h hd
    simp only [F.ok, Bool.and_eq_true, decide_eq_true_eq] at h ⊢
    exact ⟨⟨⟨by omega, h.1.1.2⟩, ihk _ _ h.1.2 (by omega)⟩, ihr _ _ h.2 hd⟩

/-- the parts of a valid document are valid -/
theorem valid_kid {o n : Int} {t : ByteArray} {p : F} {o1 n1 : Int} {t1 : ByteArray} {k1 r : F} (h : validD o n t (p.app (.cons o1 n1 t1 k1 r)) = true) : validD o1 n1 t1 k1 = true := by
  simp only [validD, okD, Bool.and_eq_true, decide_eq_true_eq, F.ok_app, F.ok, F.cnt_app, F.cnt] at h ⊢
  obtain ⟨⟨⟨_, _⟩, _, ⟨⟨h1, h2⟩, h3⟩, _⟩, h5⟩ := h
  exact ⟨⟨⟨by omega, h2⟩, ok_mono k1 _ _ h3 (by omega)⟩, by omega⟩

theorem canD_of {o n : Int} {t : ByteArray} {k : F} (h : validD o n t k = true) : canD o n t k = decide (opsD 5 o k = 0) := by simp [canD, h]

/-- a document of a list of Kids, by the list's parts -/
theorem Doc0.kid' {w : World} {n : Int} {t : ByteArray} {k : F} {a : Option Addr} {cap : Nat} {fs : List Nat} (h : Doc0 w n t k a cap fs) {p : F} {o1 n1 : Int} {t1 : ByteArray} {k1 r : F} (hk : k = p.app (.cons o1 n1 t1 k1 r)) : ∃ (b off : Nat) (a1 : Option Addr) (c1 : Nat) (f1 : List Nat), a = some ⟨b, off, none⟩ ∧ b < w.heap.size ∧ Doc0 w n1 t1 k1 a1 c1 f1 ∧
    w.cell? ⟨b, off + p.len * 4, none⟩ = some (.int .i64 o1) ∧ w.cell? ⟨b, off + p.len * 4 + 1, none⟩ = some (.int .i64 n1) ∧ w.cell? ⟨b, off + p.len * 4 + 2, none⟩ = some (.string t1) ∧ w.cell? ⟨b, off + p.len * 4 + 3, none⟩ = some (.slice a1 k1.len c1) := by
  rcases h.sub with ⟨h0, _⟩ | ⟨b, off, f', rfl, _, hfs, hrow⟩
  · rw [h0] at hk
    have := congrArg F.len hk
    rw [F.len_app] at this
    simp [F.len] at this
  · rw [hk] at hrow
    obtain ⟨a1, c1, f1, h1, h2, h3, h4, h5, h6, h7⟩ := row_at hrow
    refine ⟨b, off, a1, c1, f1, rfl, (h.ok b (by rw [hfs]; simp)).1, ⟨h6, fun c hc => h.ok c (by rw [hfs]; simp [h7 c hc]), h5, ?_⟩, h1, h2, h3, h4⟩
    have := h.size
    rw [hk, F.size_app] at this
    simp only [F.size] at this
    omega

/-- the four cells of a variable, later -/
theorem box4 {w w' : World} {b : Nat} {u0 u1 u2 u3 : Value} (h : w.cell? ⟨b, 0, none⟩ = some u0 ∧ w.cell? ⟨b, 1, none⟩ = some u1 ∧ w.cell? ⟨b, 2, none⟩ = some u2 ∧ w.cell? ⟨b, 3, none⟩ = some u3) (hb : b < w.heap.size) (k : Ext w w') :
    w'.cell? ⟨b, 0, none⟩ = some u0 ∧ w'.cell? ⟨b, 1, none⟩ = some u1 ∧ w'.cell? ⟨b, 2, none⟩ = some u2 ∧ w'.cell? ⟨b, 3, none⟩ = some u3 :=
  ⟨(k.cell hb).trans h.1, (k.cell hb).trans h.2.1, (k.cell hb).trans h.2.2.1, (k.cell hb).trans h.2.2.2⟩
theorem keep8 {w w' : World} {b c i : Nat} {u0 u1 u2 u3 v0 v1 v2 v3 : Value} (h : (w.cell? ⟨b, 0, none⟩ = some u0 ∧ w.cell? ⟨b, 1, none⟩ = some u1 ∧ w.cell? ⟨b, 2, none⟩ = some u2 ∧ w.cell? ⟨b, 3, none⟩ = some u3) ∧ (w.cell? ⟨c, i, none⟩ = some v0 ∧ w.cell? ⟨c, i + 1, none⟩ = some v1 ∧ w.cell? ⟨c, i + 2, none⟩ = some v2 ∧ w.cell? ⟨c, i + 3, none⟩ = some v3)) (l : b < w.heap.size ∧ c < w.heap.size) (k : Ext w w') :
    w'.cell? ⟨b, 0, none⟩ = some u0 ∧ w'.cell? ⟨b, 1, none⟩ = some u1 ∧ w'.cell? ⟨b, 2, none⟩ = some u2 ∧ w'.cell? ⟨b, 3, none⟩ = some u3 ∧ w'.cell? ⟨c, i, none⟩ = some v0 ∧ w'.cell? ⟨c, i + 1, none⟩ = some v1 ∧ w'.cell? ⟨c, i + 2, none⟩ = some v2 ∧ w'.cell? ⟨c, i + 3, none⟩ = some v3 :=
  ⟨(k.cell l.1).trans h.1.1, (k.cell l.1).trans h.1.2.1, (k.cell l.1).trans h.1.2.2.1, (k.cell l.1).trans h.1.2.2.2, (k.cell l.2).trans h.2.1, (k.cell l.2).trans h.2.2.1, (k.cell l.2).trans h.2.2.2.1, (k.cell l.2).trans h.2.2.2.2⟩
theorem box_new (w : World) (T : TypeId) (u0 u1 u2 u3 : Value) : (w.alloc (.cells #[u0, u1, u2, u3] T)).cell? ⟨w.heap.size, 0, none⟩ = some u0 ∧ (w.alloc (.cells #[u0, u1, u2, u3] T)).cell? ⟨w.heap.size, 1, none⟩ = some u1 ∧ (w.alloc (.cells #[u0, u1, u2, u3] T)).cell? ⟨w.heap.size, 2, none⟩ = some u2 ∧ (w.alloc (.cells #[u0, u1, u2, u3] T)).cell? ⟨w.heap.size, 3, none⟩ = some u3 := by
  refine ⟨?_, ?_, ?_, ?_⟩ <;> (rw [World.cell?_alloc_new]; rfl)

/-- the sum of the counts of the first kinds -/
def sumOps (o : Int) (k : F) : Nat → Nat
  | 0 => 0
  | j + 1 => sumOps o k j + opsD ((j + 1 : Nat) : Int) o k
def sumF (f : F) : Nat → Nat
  | 0 => 0
  | j + 1 => sumF f j + cntF (fun x => x == ((j + 1 : Nat) : Int)) f

theorem kids_op {o : Int} {l : Nat} (h : (l : Int) = kidsOf o) : 1 ≤ o ∧ o ≤ 8 := by
  unfold kidsOf at h
  split at h
  · omega
  · split at h
    · omega
    · split at h
      · omega
      · omega
theorem node_op {o n : Int} {t : ByteArray} {l : Nat} (h : nodeB o n t l = true) : 1 ≤ o ∧ o ≤ 8 := by
  simp only [nodeB, Bool.and_eq_true, decide_eq_true_eq] at h
  exact kids_op h.1.1

theorem sumF_cons (o n : Int) (t : ByteArray) (k r : F) : ∀ m, sumF (.cons o n t k r) m = (if 1 ≤ o ∧ o ≤ m then 1 else 0) + sumF k m + sumF r m
  | 0 => by simp [sumF]; omega
  | m + 1 => by
    have h := sumF_cons o n t k r m
    simp only [sumF, h, cntF]
    by_cases e : o = ((m + 1 : Nat) : Int)
    · have h1 : (o == ((m + 1 : Nat) : Int)) = true := by rw [beq_iff_eq]; exact e
      simp only [h1, if_true]
      rw [if_neg (by omega), if_pos (show 1 ≤ o ∧ o ≤ ((m + 1 : Nat) : Int) by omega)]
      omega
    · have h1 : (o == ((m + 1 : Nat) : Int)) = false := by rw [beq_eq_false_iff_ne]; exact e
      simp only [h1, Bool.false_eq_true, if_false]
      by_cases h2 : 1 ≤ o ∧ o ≤ m
      · rw [if_pos h2, if_pos (show 1 ≤ o ∧ o ≤ ((m + 1 : Nat) : Int) by omega)]
        omega
      · rw [if_neg h2, if_neg (show ¬ (1 ≤ o ∧ o ≤ ((m + 1 : Nat) : Int)) by omega)]
        omega

theorem sumF_all : ∀ (f : F) (d : Nat), f.ok d = true → sumF f 8 = f.cnt := by
  intro f
  induction f with
  | nil => intro d _; rfl
  | cons o n t k r ihk ihr =>
    intro d h
    simp only [F.ok, Bool.and_eq_true] at h
    have h1 := node_op h.1.1.2
    rw [sumF_cons, ihk _ h.1.2, ihr _ h.2, if_pos ⟨h1.1, by omega⟩]
    rfl

theorem sumOps_eq (o : Int) (k : F) : ∀ m, sumOps o k m = sumF (.cons o 0 ⟨#[]⟩ k .nil) m
  | 0 => rfl
  | m + 1 => by rw [sumOps, sumF, sumOps_eq o k m]; rfl
theorem sumOps_all {o n : Int} {t : ByteArray} {k : F} (h : validD o n t k = true) : sumOps o k 8 = 1 + k.cnt := by
  simp only [validD, okD, Bool.and_eq_true] at h
  have h1 := node_op h.1.1.2
  rw [sumOps_eq, sumF_cons, if_pos ⟨h1.1, by omega⟩, sumF_all k _ h.1.2]
  rfl
theorem opsD_le (op o : Int) (k : F) : opsD op o k ≤ 1 + k.cnt := by
  rw [opsD_eq]
  have h1 := cntF_nodes (fun x => x == op) k
  rw [nodes_cnt] at h1
  have h2 : (if (o == op) = true then 1 else 0) ≤ 1 := by split <;> omega
  omega
theorem sumOps_le (o : Int) (k : F) : ∀ m, sumOps o k m ≤ m * (1 + k.cnt)
  | 0 => by simp [sumOps]
  | m + 1 => by have h1 := sumOps_le o k m; have h2 := opsD_le ((m + 1 : Nat) : Int) o k; rw [sumOps, Nat.add_mul]; omega

end Go.Proofs.Ytafhefmjnjibdaa.DocK


import Derived.Test.YtmkibpimjaofgaaCntC
import Derived.Test.YtmkibpimjaofgaaFl
import Derived.Test.YtmkibpimjaofgaaOpX
import Derived.Test.YtmkibpimjaofgaaLyA
import Derived.Test.YtmkibpimjaofgaaLyB
import Derived.Test.YtmkibpimjaofgaaPl
/-
  As DocK, with FlatText and without DocSame: a document that stays where it is while a law goes on: what the functions of chapter 1 come to at it, in whatever world lies above.
-/
set_option linter.unusedVariables false
set_option linter.unusedSimpArgs false
namespace Go.Proofs.Ytmkibpimjaofgaa.DocK
open Go.RowKit P1 CntC

theorem fits_of {m : Nat} (hm : m ≤ maxLen) : ∀ f : F, f.size ≤ m → f.Fits
  | .nil, _ => trivial
  | .cons o n t k r, h => by
    have h1 : t.size ≤ maxLen := by simp only [F.size] at h; omega
    have h2 : k.len ≤ maxLen := by have := F.len_le_size k; simp only [F.size] at h; omega
    exact ⟨h1, h2, fits_of hm k (by simp only [F.size] at h; omega), fits_of hm r (by simp only [F.size] at h; omega)⟩

/-- a document in memory that may be written, of a bounded size -/
structure Doc0 (w : World) (n : Int) (t : ByteArray) (k : F) (a : Option Addr) (cap : Nat) (fs : List Nat) : Prop where
  sub : SubAt w a k fs
  ok : ∀ c ∈ fs, c < w.heap.size ∧ ∀ o, w.frozen? ⟨c, o, none⟩ = false
  cap_le : k.len ≤ cap
  size : t.size + k.size ≤ 100000

section
variable {w w' : World} {o n : Int} {t : ByteArray} {k : F} {a : Option Addr} {cap : Nat} {fs : List Nat}

theorem Doc0.ext (h : Doc0 w n t k a cap fs) (e : Ext w w') : Doc0 w' n t k a cap fs :=
  ⟨e.sub h.sub (fun c hc => (h.ok c hc).1), fun c hc => ⟨Nat.lt_of_lt_of_le (h.ok c hc).1 e.size, fun o => (e.frozen (h.ok c hc).1).trans ((h.ok c hc).2 o)⟩, h.cap_le, h.size⟩
theorem Doc0.len (h : Doc0 w n t k a cap fs) : k.len ≤ 100000 := by have := h.size; have := F.len_le_size k; omega
theorem Doc0.fits (h : Doc0 w n t k a cap fs) : k.Fits := fits_of (m := 100000) (by unfold maxLen; omega) k (by have := h.size; omega)
theorem Doc0.tfit (h : Doc0 w n t k a cap fs) : t.size ≤ maxLen := by have := h.size; unfold maxLen; omega
theorem Doc0.lfit (h : Doc0 w n t k a cap fs) : k.len ≤ maxLen := by have := h.len; unfold maxLen; omega
theorem Doc0.docV (h : Doc0 w n t k a cap fs) (o : Int) : DocV w (o, n, t, k) [.int .i64 o, .int .i64 n, .string t, .slice a k.len cap] := ⟨a, cap, fs, rfl, h.cap_le, h.sub, h.ok, by have := h.size; show k.size ≤ _; omega⟩
theorem Doc0.lt (h : Doc0 w n t k a cap fs) : ∀ c ∈ fs, c < w.heap.size := fun c hc => (h.ok c hc).1

theorem Doc0.implCountOps (h : Doc0 w n t k a cap fs) (o op : Int) : Calls Try.prog 46 #[.agg #[.int .i64 o, .int .i64 n, .string t, .slice a k.len cap], .int .i64 op] w fun e w' => e = .returned (.int .i64 ((opsD op o k : Nat) : Int)) ∧ Ext w w' := CntC.countOps w (o, n, t, k) _ op (h.docV o)
theorem Doc0.specCountOps (h : Doc0 w n t k a cap fs) (o op : Int) : Calls Try.prog 144 #[.agg #[.int .i64 o, .int .i64 n, .string t, .slice a k.len cap], .int .i64 op] w fun e w' => e = .returned (.int .i64 ((opsD op o k : Nat) : Int)) ∧ Ext w w' := CntC.specCountOps op w o n t k a cap fs h.sub h.lt h.cap_le (by have := h.size; omega)
theorem Doc0.implDocSize (h : Doc0 w n t k a cap fs) (o : Int) : Calls Try.prog 47 #[.agg #[.int .i64 o, .int .i64 n, .string t, .slice a k.len cap]] w fun e w' => e = .returned (.int .i64 ((1 + k.cnt : Nat) : Int)) ∧ Ext w w' := CntC.docSize w (o, n, t, k) _ (h.docV o)
theorem Doc0.implDocValid (h : Doc0 w n t k a cap fs) (o : Int) : Calls Try.prog 44 #[.agg #[.int .i64 o, .int .i64 n, .string t, .slice a k.len cap]] w fun e w' => e = .returned (.bool (validD o n t k)) ∧ Ext w w' := PartV.docValid w o n t k a cap fs h.sub h.lt h.cap_le h.lfit h.fits h.tfit
theorem Doc0.specDocValid (h : Doc0 w n t k a cap fs) (o : Int) : Calls Try.prog 60 #[.agg #[.int .i64 o, .int .i64 n, .string t, .slice a k.len cap]] w fun e w' => e = .returned (.bool (validD o n t k)) ∧ Ext w w' := SpecC.docValid w o n t k a cap fs h.sub h.lt h.cap_le (by have := h.size; omega) h.fits h.tfit
theorem Doc0.implCanFlatten (h : Doc0 w n t k a cap fs) (o : Int) : Calls Try.prog 212 #[.agg #[.int .i64 o, .int .i64 n, .string t, .slice a k.len cap]] w fun e w' => e = .returned (.bool (canD o n t k)) ∧ Ext w w' := CntC.implCanFlatten w o n t k a cap fs h.sub h.ok h.cap_le (by have := h.size; omega) h.fits h.tfit
theorem Doc0.implFlatText (h : Doc0 w n t k a cap fs) (o : Int) : Calls Try.prog 204 #[.agg #[.int .i64 o, .int .i64 n, .string t, .slice a k.len cap]] w fun e w' => e = .returned (.tuple #[.string (Flat.ftD o n t k), .bool (canD o n t k)]) ∧ Ext w w' := FlatI.implFlatText w o n t k a cap fs h.sub h.ok h.cap_le (by have := h.size; omega) h.fits h.tfit
/-- a document of a list of Kids: where it lies, and that it stays -/
theorem Doc0.kid (h : Doc0 w n t k a cap fs) {j : Nat} (hj : j < k.len) : ∃ (b off : Nat) (p : F) (o1 n1 : Int) (t1 : ByteArray) (k1 r : F) (a1 : Option Addr) (c1 : Nat) (f1 : List Nat), a = some ⟨b, off, none⟩ ∧ k = p.app (.cons o1 n1 t1 k1 r) ∧ p.len = j ∧ b < w.heap.size ∧ Doc0 w n1 t1 k1 a1 c1 f1 ∧
    w.cell? ⟨b, off + j * 4, none⟩ = some (.int .i64 o1) ∧ w.cell? ⟨b, off + j * 4 + 1, none⟩ = some (.int .i64 n1) ∧ w.cell? ⟨b, off + j * 4 + 2, none⟩ = some (.string t1) ∧ w.cell? ⟨b, off + j * 4 + 3, none⟩ = some (.slice a1 k1.len c1) := by
  obtain ⟨p, o1, n1, t1, k1, r, hk, hp⟩ := F.at_len k j hj
  rcases h.sub with ⟨h0, _⟩ | ⟨b, off, f', rfl, _, hfs, hrow⟩
  · rw [h0] at hj; simp [F.len] at hj
  · rw [hk] at hrow
    obtain ⟨a1, c1, f1, h1, h2, h3, h4, h5, h6, h7⟩ := row_at hrow
    rw [hp] at h1 h2 h3 h4
    refine ⟨b, off, p, o1, n1, t1, k1, r, a1, c1, f1, rfl, hk, hp, (h.ok b (by rw [hfs]; simp)).1, ⟨h6, fun c hc => h.ok c (by rw [hfs]; simp [h7 c hc]), h5, ?_⟩, h1, h2, h3, h4⟩
    have := h.size
    rw [hk, F.size_app] at this
    simp only [F.size] at this
    omega
end

theorem ok_mono : ∀ (f : F) (d d' : Nat), f.ok d = true → d ≤ d' → f.ok d' = true := by
  intro f
  induction f with
  | nil => intro d d' _ _; rfl
  | cons o n t k r ihk ihr =>
    intro d d' h hd
    simp only [F.ok, Bool.and_eq_true, decide_eq_true_eq] at h ⊢
    exact ⟨⟨⟨by omega, h.1.1.2⟩, ihk _ _ h.1.2 (by omega)⟩, ihr _ _ h.2 hd⟩

/-- the parts of a valid document are valid -/
theorem valid_kid {o n : Int} {t : ByteArray} {p : F} {o1 n1 : Int} {t1 : ByteArray} {k1 r : F} (h : validD o n t (p.app (.cons o1 n1 t1 k1 r)) = true) : validD o1 n1 t1 k1 = true := by
  simp only [validD, okD, Bool.and_eq_true, decide_eq_true_eq, F.ok_app, F.ok, F.cnt_app, F.cnt] at h ⊢
  obtain ⟨⟨⟨_, _⟩, _, ⟨⟨h1, h2⟩, h3⟩, _⟩, h5⟩ := h
  exact ⟨⟨⟨by omega, h2⟩, ok_mono k1 _ _ h3 (by omega)⟩, by omega⟩

theorem canD_of {o n : Int} {t : ByteArray} {k : F} (h : validD o n t k = true) : canD o n t k = decide (opsD 5 o k = 0) := by simp [canD, h]

/-- a document of a list of Kids, by the list's parts -/
theorem Doc0.kid' {w : World} {n : Int} {t : ByteArray} {k : F} {a : Option Addr} {cap : Nat} {fs : List Nat} (h : Doc0 w n t k a cap fs) {p : F} {o1 n1 : Int} {t1 : ByteArray} {k1 r : F} (hk : k = p.app (.cons o1 n1 t1 k1 r)) : ∃ (b off : Nat) (a1 : Option Addr) (c1 : Nat) (f1 : List Nat), a = some ⟨b, off, none⟩ ∧ b < w.heap.size ∧ Doc0 w n1 t1 k1 a1 c1 f1 ∧
    w.cell? ⟨b, off + p.len * 4, none⟩ = some (.int .i64 o1) ∧ w.cell? ⟨b, off + p.len * 4 + 1, none⟩ = some (.int .i64 n1) ∧ w.cell? ⟨b, off + p.len * 4 + 2, none⟩ = some (.string t1) ∧ w.cell? ⟨b, off + p.len * 4 + 3, none⟩ = some (.slice a1 k1.len c1) := by
  rcases h.sub with ⟨h0, _⟩ | ⟨b, off, f', rfl, _, hfs, hrow⟩
  · rw [h0] at hk
    have := congrArg F.len hk
    rw [F.len_app] at this
    simp [F.len] at this
  · rw [hk] at hrow
    obtain ⟨a1, c1, f1, h1, h2, h3, h4, h5, h6, h7⟩ := row_at hrow
    refine ⟨b, off, a1, c1, f1, rfl, (h.ok b (by rw [hfs]; simp)).1, ⟨h6, fun c hc => h.ok c (by rw [hfs]; simp [h7 c hc]), h5, ?_⟩, h1, h2, h3, h4⟩
    have := h.size
    rw [hk, F.size_app] at this
    simp only [F.size] at this
    omega

/-- the four cells of a variable, later -/
theorem box4 {w w' : World} {b : Nat} {u0 u1 u2 u3 : Value} (h : w.cell? ⟨b, 0, none⟩ = some u0 ∧ w.cell? ⟨b, 1, none⟩ = some u1 ∧ w.cell? ⟨b, 2, none⟩ = some u2 ∧ w.cell? ⟨b, 3, none⟩ = some u3) (hb : b < w.heap.size) (k : Ext w w') :
    w'.cell? ⟨b, 0, none⟩ = some u0 ∧ w'.cell? ⟨b, 1, none⟩ = some u1 ∧ w'.cell? ⟨b, 2, none⟩ = some u2 ∧ w'.cell? ⟨b, 3, none⟩ = some u3 :=
  ⟨(k.cell hb).trans h.1, (k.cell hb).trans h.2.1, (k.cell hb).trans h.2.2.1, (k.cell hb).trans h.2.2.2⟩
theorem keep8 {w w' : World} {b c i : Nat} {u0 u1 u2 u3 v0 v1 v2 v3 : Value} (h : (w.cell? ⟨b, 0, none⟩ = some u0 ∧ w.cell? ⟨b, 1, none⟩ = some u1 ∧ w.cell? ⟨b, 2, none⟩ = some u2 ∧ w.cell? ⟨b, 3, none⟩ = some u3) ∧ (w.cell? ⟨c, i, none⟩ = some v0 ∧ w.cell? ⟨c, i + 1, none⟩ = some v1 ∧ w.cell? ⟨c, i + 2, none⟩ = some v2 ∧ w.cell? ⟨c, i + 3, none⟩ = some v3)) (l : b < w.heap.size ∧ c < w.heap.size) (k : Ext w w') :
    w'.cell? ⟨b, 0, none⟩ = some u0 ∧ w'.cell? ⟨b, 1, none⟩ = some u1 ∧ w'.cell? ⟨b, 2, none⟩ = some u2 ∧ w'.cell? ⟨b, 3, none⟩ = some u3 ∧ w'.cell? ⟨c, i, none⟩ = some v0 ∧ w'.cell? ⟨c, i + 1, none⟩ = some v1 ∧ w'.cell? ⟨c, i + 2, none⟩ = some v2 ∧ w'.cell? ⟨c, i + 3, none⟩ = some v3 :=
  ⟨(k.cell l.1).trans h.1.1, (k.cell l.1).trans h.1.2.1, (k.cell l.1).trans h.1.2.2.1, (k.cell l.1).trans h.1.2.2.2, (k.cell l.2).trans h.2.1, (k.cell l.2).trans h.2.2.1, (k.cell l.2).trans h.2.2.2.1, (k.cell l.2).trans h.2.2.2.2⟩
theorem box_new (w : World) (T : TypeId) (u0 u1 u2 u3 : Value) : (w.alloc (.cells #[u0, u1, u2, u3] T)).cell? ⟨w.heap.size, 0, none⟩ = some u0 ∧ (w.alloc (.cells #[u0, u1, u2, u3] T)).cell? ⟨w.heap.size, 1, none⟩ = some u1 ∧ (w.alloc (.cells #[u0, u1, u2, u3] T)).cell? ⟨w.heap.size, 2, none⟩ = some u2 ∧ (w.alloc (.cells #[u0, u1, u2, u3] T)).cell? ⟨w.heap.size, 3, none⟩ = some u3 := by
  refine ⟨?_, ?_, ?_, ?_⟩ <;> (rw [World.cell?_alloc_new]; rfl)

/-- the sum of the counts of the first kinds -/
def sumOps (o : Int) (k : F) : Nat → Nat
  | 0 => 0
  | j + 1 => sumOps o k j + opsD ((j + 1 : Nat) : Int) o k
def sumF (f : F) : Nat → Nat
  | 0 => 0
  | j + 1 => sumF f j + cntF (fun x => x == ((j + 1 : Nat) : Int)) f

theorem kids_op {o : Int} {l : Nat} (h : (l : Int) = kidsOf o) : 1 ≤ o ∧ o ≤ 8 := by
  unfold kidsOf at h
  split at h
  · omega
  · split at h
    · omega
    · split at h
      · omega
      · omega
theorem node_op {o n : Int} {t : ByteArray} {l : Nat} (h : nodeB o n t l = true) : 1 ≤ o ∧ o ≤ 8 := by
  simp only [nodeB, Bool.and_eq_true, decide_eq_true_eq] at h
  exact kids_op h.1.1

theorem sumF_cons (o n : Int) (t : ByteArray) (k r : F) : ∀ m, sumF (.cons o n t k r) m = (if 1 ≤ o ∧ o ≤ m then 1 else 0) + sumF k m + sumF r m
  | 0 => by simp [sumF]; omega
  | m + 1 => by
    have h := sumF_cons o n t k r m
    simp only [sumF, h, cntF]
    by_cases e : o = ((m + 1 : Nat) : Int)
    · have h1 : (o == ((m + 1 : Nat) : Int)) = true := by rw [beq_iff_eq]; exact e
      simp only [h1, if_true]
      rw [if_neg (by omega), if_pos (show 1 ≤ o ∧ o ≤ ((m + 1 : Nat) : Int) by omega)]
      omega
    · have h1 : (o == ((m + 1 : Nat) : Int)) = false := by rw [beq_eq_false_iff_ne]; exact e
      simp only [h1, Bool.false_eq_true, if_false]
      by_cases h2 : 1 ≤ o ∧ o ≤ m
      · rw [if_pos h2, if_pos (show 1 ≤ o ∧ o ≤ ((m + 1 : Nat) : Int) by omega)]
        omega
      · rw [if_neg h2, if_neg (show ¬ (1 ≤ o ∧ o ≤ ((m + 1 : Nat) : Int)) by omega)]
        omega

theorem sumF_all : ∀ (f : F) (d : Nat), f.ok d = true → sumF f 8 = f.cnt := by
  intro f
  induction f with
  | nil => intro d _; rfl
  | cons o n t k r ihk ihr =>
    intro d h
    simp only [F.ok, Bool.and_eq_true] at h
    have h1 := node_op h.1.1.2
    rw [sumF_cons, ihk _ h.1.2, ihr _ h.2, if_pos ⟨h1.1, by omega⟩]
    rfl

theorem sumOps_eq (o : Int) (k : F) : ∀ m, sumOps o k m = sumF (.cons o 0 ⟨#[]⟩ k .nil) m
  | 0 => rfl
  | m + 1 => by rw [sumOps, sumF, sumOps_eq o k m]; rfl
theorem sumOps_all {o n : Int} {t : ByteArray} {k : F} (h : validD o n t k = true) : sumOps o k 8 = 1 + k.cnt := by
  simp only [validD, okD, Bool.and_eq_true] at h
  have h1 := node_op h.1.1.2
  rw [sumOps_eq, sumF_cons, if_pos ⟨h1.1, by omega⟩, sumF_all k _ h.1.2]
  rfl
theorem opsD_le (op o : Int) (k : F) : opsD op o k ≤ 1 + k.cnt := by
  rw [opsD_eq]
  have h1 := cntF_nodes (fun x => x == op) k
  rw [nodes_cnt] at h1
  have h2 : (if (o == op) = true then 1 else 0) ≤ 1 := by split <;> omega
  omega
theorem sumOps_le (o : Int) (k : F) : ∀ m, sumOps o k m ≤ m * (1 + k.cnt)
  | 0 => by simp [sumOps]
  | m + 1 => by have h1 := sumOps_le o k m; have h2 := opsD_le ((m + 1 : Nat) : Int) o k; rw [sumOps, Nat.add_mul]; omega

end Go.Proofs.Ytmkibpimjaofgaa.DocK

/-
  A document, and layouts, that stay where they are while a law goes on: what the functions of chapter 2 come to at them.
-/
set_option linter.unusedVariables false
set_option linter.unusedSimpArgs false
namespace Go.Proofs.Ytmkibpimjaofgaa.DocO
open Go.RowKit P1 LayN OpenR

theorem fits_of {m : Nat} (hm : m ≤ maxLen) : ∀ f : F, f.size ≤ m → f.Fits
  | .nil, _ => trivial
  | .cons o n t k r, h => by
    have h1 : t.size ≤ maxLen := by simp only [F.size] at h; omega
    have h2 : k.len ≤ maxLen := by have := F.len_le_size k; simp only [F.size] at h; omega
    exact ⟨h1, h2, fits_of hm k (by simp only [F.size] at h; omega), fits_of hm r (by simp only [F.size] at h; omega)⟩

/-- a document in memory that may be written, of a bounded size -/
structure Doc0 (w : World) (n : Int) (t : ByteArray) (k : F) (a : Option Addr) (cap : Nat) (fs : List Nat) : Prop where
  sub : SubAt w a k fs
  ok : ∀ c ∈ fs, c < w.heap.size ∧ ∀ o, w.frozen? ⟨c, o, none⟩ = false
  cap_le : k.len ≤ cap
  size : t.size + k.size ≤ 100000

section
variable {w w' : World} {o n : Int} {t : ByteArray} {k : F} {a : Option Addr} {cap : Nat} {fs : List Nat}

theorem Doc0.ext (h : Doc0 w n t k a cap fs) (e : Ext w w') : Doc0 w' n t k a cap fs :=
  ⟨e.sub h.sub (fun c hc => (h.ok c hc).1), fun c hc => ⟨Nat.lt_of_lt_of_le (h.ok c hc).1 e.size, fun o => (e.frozen (h.ok c hc).1).trans ((h.ok c hc).2 o)⟩, h.cap_le, h.size⟩
theorem Doc0.len (h : Doc0 w n t k a cap fs) : k.len ≤ 100000 := by have := h.size; have := F.len_le_size k; omega
theorem Doc0.fits (h : Doc0 w n t k a cap fs) : k.Fits := fits_of (m := 100000) (by unfold maxLen; omega) k (by have := h.size; omega)
theorem Doc0.tfit (h : Doc0 w n t k a cap fs) : t.size ≤ maxLen := by have := h.size; unfold maxLen; omega
theorem Doc0.lfit (h : Doc0 w n t k a cap fs) : k.len ≤ maxLen := by have := h.len; unfold maxLen; omega
theorem Doc0.lt (h : Doc0 w n t k a cap fs) : ∀ c ∈ fs, c < w.heap.size := fun c hc => (h.ok c hc).1
end

/-- a document of a list of Kids, by the list's parts -/
theorem Doc0.kid' {w : World} {n : Int} {t : ByteArray} {k : F} {a : Option Addr} {cap : Nat} {fs : List Nat} (h : Doc0 w n t k a cap fs) {p : F} {o1 n1 : Int} {t1 : ByteArray} {k1 r : F} (hk : k = p.app (.cons o1 n1 t1 k1 r)) : ∃ (b off : Nat) (a1 : Option Addr) (c1 : Nat) (f1 : List Nat), a = some ⟨b, off, none⟩ ∧ b < w.heap.size ∧ Doc0 w n1 t1 k1 a1 c1 f1 ∧
    w.cell? ⟨b, off + p.len * 4, none⟩ = some (.int .i64 o1) ∧ w.cell? ⟨b, off + p.len * 4 + 1, none⟩ = some (.int .i64 n1) ∧ w.cell? ⟨b, off + p.len * 4 + 2, none⟩ = some (.string t1) ∧ w.cell? ⟨b, off + p.len * 4 + 3, none⟩ = some (.slice a1 k1.len c1) := by
  rcases h.sub with ⟨h0, _⟩ | ⟨b, off, f', rfl, _, hfs, hrow⟩
  · rw [h0] at hk
    have := congrArg F.len hk
    rw [F.len_app] at this
    simp [F.len] at this
  · rw [hk] at hrow
    obtain ⟨a1, c1, f1, h1, h2, h3, h4, h5, h6, h7⟩ := row_at hrow
    refine ⟨b, off, a1, c1, f1, rfl, (h.ok b (by rw [hfs]; simp)).1, ⟨h6, fun c hc => h.ok c (by rw [hfs]; simp [h7 c hc]), h5, ?_⟩, h1, h2, h3, h4⟩
    have := h.size
    rw [hk, F.size_app] at this
    simp only [F.size] at this
    omega

/-- the four cells of a variable, later -/
theorem box4 {w w' : World} {b : Nat} {u0 u1 u2 u3 : Value} (h : w.cell? ⟨b, 0, none⟩ = some u0 ∧ w.cell? ⟨b, 1, none⟩ = some u1 ∧ w.cell? ⟨b, 2, none⟩ = some u2 ∧ w.cell? ⟨b, 3, none⟩ = some u3) (hb : b < w.heap.size) (k : Ext w w') :
    w'.cell? ⟨b, 0, none⟩ = some u0 ∧ w'.cell? ⟨b, 1, none⟩ = some u1 ∧ w'.cell? ⟨b, 2, none⟩ = some u2 ∧ w'.cell? ⟨b, 3, none⟩ = some u3 :=
  ⟨(k.cell hb).trans h.1, (k.cell hb).trans h.2.1, (k.cell hb).trans h.2.2.1, (k.cell hb).trans h.2.2.2⟩
theorem keep8 {w w' : World} {b c i : Nat} {u0 u1 u2 u3 v0 v1 v2 v3 : Value} (h : (w.cell? ⟨b, 0, none⟩ = some u0 ∧ w.cell? ⟨b, 1, none⟩ = some u1 ∧ w.cell? ⟨b, 2, none⟩ = some u2 ∧ w.cell? ⟨b, 3, none⟩ = some u3) ∧ (w.cell? ⟨c, i, none⟩ = some v0 ∧ w.cell? ⟨c, i + 1, none⟩ = some v1 ∧ w.cell? ⟨c, i + 2, none⟩ = some v2 ∧ w.cell? ⟨c, i + 3, none⟩ = some v3)) (l : b < w.heap.size ∧ c < w.heap.size) (k : Ext w w') :
    w'.cell? ⟨b, 0, none⟩ = some u0 ∧ w'.cell? ⟨b, 1, none⟩ = some u1 ∧ w'.cell? ⟨b, 2, none⟩ = some u2 ∧ w'.cell? ⟨b, 3, none⟩ = some u3 ∧ w'.cell? ⟨c, i, none⟩ = some v0 ∧ w'.cell? ⟨c, i + 1, none⟩ = some v1 ∧ w'.cell? ⟨c, i + 2, none⟩ = some v2 ∧ w'.cell? ⟨c, i + 3, none⟩ = some v3 :=
  ⟨(k.cell l.1).trans h.1.1, (k.cell l.1).trans h.1.2.1, (k.cell l.1).trans h.1.2.2.1, (k.cell l.1).trans h.1.2.2.2, (k.cell l.2).trans h.2.1, (k.cell l.2).trans h.2.2.1, (k.cell l.2).trans h.2.2.2.1, (k.cell l.2).trans h.2.2.2.2⟩
theorem box_new (w : World) (T : TypeId) (u0 u1 u2 u3 : Value) : (w.alloc (.cells #[u0, u1, u2, u3] T)).cell? ⟨w.heap.size, 0, none⟩ = some u0 ∧ (w.alloc (.cells #[u0, u1, u2, u3] T)).cell? ⟨w.heap.size, 1, none⟩ = some u1 ∧ (w.alloc (.cells #[u0, u1, u2, u3] T)).cell? ⟨w.heap.size, 2, none⟩ = some u2 ∧ (w.alloc (.cells #[u0, u1, u2, u3] T)).cell? ⟨w.heap.size, 3, none⟩ = some u3 := by
  refine ⟨?_, ?_, ?_, ?_⟩ <;> (rw [World.cell?_alloc_new]; rfl)

/-- a layout in memory, valid or empty -/
structure LayIs (w : World) (X : List (Int × ByteArray)) (a : Option Addr) (c : Nat) : Prop where
  sub : ∃ fs, LaySub w a X fs
  cap_le : X.length ≤ c
  good : X = [] ∨ lv X = true
theorem LayIs.ext {w w' : World} {X : List (Int × ByteArray)} {a : Option Addr} {c : Nat} (h : LayIs w X a c) (e : Ext w w') : LayIs w' X a c := by
  obtain ⟨fs, hs⟩ := h.sub
  exact ⟨⟨fs, hs.below hs.lt e⟩, h.cap_le, h.good⟩
theorem LayIs.len {w : World} {X : List (Int × ByteArray)} {a : Option Addr} {c : Nat} (h : LayIs w X a c) : X.length ≤ 200 := by
  rcases h.good with h | h
  · rw [h]; simp
  · exact (lv_len h).2
theorem LayIs.fits {w : World} {X : List (Int × ByteArray)} {a : Option Addr} {c : Nat} (h : LayIs w X a c) : L.Fits X ∧ X.length ≤ maxLen := by
  refine ⟨fun r hr => ?_, by have := h.len; unfold maxLen; omega⟩
  rcases h.good with g | g
  · rw [g] at hr; simp at hr
  · obtain ⟨i, hi, rfl⟩ := List.getElem_of_mem hr
    have := lv_small g i hi
    unfold maxLen; omega

/-- a layout, and whether there is one -/
def Out (w : World) (X : List (Int × ByteArray)) (V : Bool) (e : Ending) (w' : World) : Prop := ∃ (a : Option Addr) (c : Nat), e = .returned (.tuple #[.slice a X.length c, .bool V]) ∧ LayIs w' X a c ∧ Ext w w'
theorem Out.of {w w' : World} {r : List (Int × ByteArray) × Bool} {e : Ending} (h : LayRes w r e w') (g : r.1 = [] ∨ lv r.1 = true) : Out w r.1 r.2 e w' := by
  obtain ⟨a, c, fs, rfl, h1, h2, _, h4⟩ := h
  exact ⟨a, c, rfl, ⟨⟨fs, h2⟩, h1, g⟩, h4⟩
theorem open_good' (o n : Int) (t : ByteArray) (k : F) : (openRes o n t k).1 = [] ∨ lv (openRes o n t k).1 = true := by
  cases h : validD o n t k with
  | true => rw [openRes_yes h]; exact .inr (valid_lv h)
  | false => rw [openRes_no h]; exact .inl rfl
theorem nest_good (n : Int) (l : List (Int × ByteArray)) : (nestR n l).1 = [] ∨ lv (nestR n l).1 = true := by
  unfold nestR
  split
  · rename_i h; exact .inr h.2.2.2
  · exact .inl rfl
theorem nest_yes {n : Int} {l Z : List (Int × ByteArray)} (h : nestR n l = (Z, true)) : Z = nestL n l := by
  unfold nestR at h
  split at h
  · injection h with h1 _; exact h1.symm
  · injection h with _ h2; cases h2
theorem open_yes {o n : Int} {t : ByteArray} {k : F} {X : List (Int × ByteArray)} (h : openRes o n t k = (X, true)) : validD o n t k = true ∧ X = openD o n t k := by
  cases hv : validD o n t k with
  | true => rw [openRes_yes hv] at h; injection h with h1 _; exact ⟨rfl, h1.symm⟩
  | false => rw [openRes_no hv] at h; injection h with _ h2; cases h2

section
variable {w w' : World} {o n : Int} {t : ByteArray} {k : F} {a a' : Option Addr} {cap c c' : Nat} {fs : List Nat} {X X' : List (Int × ByteArray)}

theorem Doc0.implOpen (h : Doc0 w n t k a cap fs) (o : Int) : Calls Try.prog 43 #[.agg #[.int .i64 o, .int .i64 n, .string t, .slice a k.len cap]] w (Out w (openRes o n t k).1 (openRes o n t k).2) :=
  (implOpenLayout w o n t k a cap fs h.sub h.lt h.cap_le (by have := h.size; omega) h.fits h.tfit).mono fun e w' g => Out.of g (open_good' o n t k)
theorem nest_sub (h : Doc0 w n t k a cap fs) (o : Int) (T : TypeId) : SubAt (w.alloc (.cells #[.int .i64 o, .int .i64 n, .string t, .slice a k.len cap] T)) (some ⟨w.heap.size, 0, none⟩) (.cons o n t k .nil) (w.heap.size :: fs) := by
  obtain ⟨c0, c1, c2, c3⟩ := box_new w T (.int .i64 o) (.int .i64 n) (.string t) (.slice a k.len cap)
  exact .inr ⟨w.heap.size, 0, fs, rfl, by simp, rfl, RowAt.cons_iff.2 ⟨a, cap, fs, [], c0, c1, c2, c3, h.cap_le, h.sub.below h.lt ((Below.refl _ _).alloc (Nat.le_refl _) _), rfl, by simp⟩⟩

theorem Doc0.implOpenNest (h : Doc0 w n t k a cap fs) (o m : Int) (T : TypeId) (W : World) (hW : Ext (w.alloc (.cells #[.int .i64 o, .int .i64 n, .string t, .slice a k.len cap] T)) W) : Calls Try.prog 43 #[.agg #[.int .i64 6, .int .i64 m, .string ⟨#[]⟩, .slice (some ⟨w.heap.size, 0, none⟩) 1 1]] W (Out W (openRes 6 m ⟨#[]⟩ (.cons o n t k .nil)).1 (openRes 6 m ⟨#[]⟩ (.cons o n t k .nil)).2) := by
  have hs := h.size
  have hlt : ∀ c ∈ w.heap.size :: fs, c < (w.alloc (.cells #[.int .i64 o, .int .i64 n, .string t, .slice a k.len cap] T)).heap.size := by
    intro c hc
    rcases List.mem_cons.1 hc with rfl | hc
    · simp
    · have := h.lt c hc; simp; omega
  have hf : (F.cons o n t k .nil).Fits := ⟨h.tfit, by have := h.len; unfold maxLen; omega, h.fits, trivial⟩
  exact (implOpenLayout W 6 m ⟨#[]⟩ (.cons o n t k .nil) (some ⟨w.heap.size, 0, none⟩) 1 (w.heap.size :: fs) ((nest_sub h o T).below hlt hW) (fun c hc => Nat.lt_of_lt_of_le (hlt c hc) hW.size) (Nat.le_refl _) (by simp only [F.size]; omega) hf (Nat.zero_le _)).mono fun e w' g => Out.of g (open_good' 6 m ⟨#[]⟩ _)

theorem LayIs.same (h : LayIs w X a c) (h' : LayIs w X a' c') : Calls Try.prog 52 #[.slice a X.length c, .slice a' X.length c'] w fun e w' => e = .returned (.bool true) ∧ Ext w w' := by
  obtain ⟨f, hs⟩ := h.sub
  obtain ⟨f', hs'⟩ := h'.sub
  have H := LaySm.implLayoutSame X X w a c f hs a' c' f' hs' h.cap_le h'.cap_le h.fits.2 h.fits.2
  rw [decide_eq_true rfl] at H
  exact H
end

end Go.Proofs.Ytmkibpimjaofgaa.DocO

/-
  What CountOps, LayoutValid and CatLayouts come to while a law goes on; how many lines an open layout has.
-/
set_option linter.unusedVariables false
set_option linter.unusedSimpArgs false
namespace Go.Proofs.Ytmkibpimjaofgaa.DocO
open Go.RowKit P1 LayN LayC OpenR Cnt CntC

theorem Doc0.docV {w : World} {n : Int} {t : ByteArray} {k : F} {a : Option Addr} {cap : Nat} {fs : List Nat} (h : Doc0 w n t k a cap fs) (o : Int) : DocV w (o, n, t, k) [.int .i64 o, .int .i64 n, .string t, .slice a k.len cap] := ⟨a, cap, fs, rfl, h.cap_le, h.sub, h.ok, by have := h.size; show k.size ≤ _; omega⟩
theorem Doc0.implCountOps {w : World} {n : Int} {t : ByteArray} {k : F} {a : Option Addr} {cap : Nat} {fs : List Nat} (h : Doc0 w n t k a cap fs) (o op : Int) : Calls Try.prog 46 #[.agg #[.int .i64 o, .int .i64 n, .string t, .slice a k.len cap], .int .i64 op] w fun e w' => e = .returned (.int .i64 ((opsD op o k : Nat) : Int)) ∧ Ext w w' := CntC.countOps w (o, n, t, k) _ op (h.docV o)
theorem LayIs.valid {w : World} {X : List (Int × ByteArray)} {a : Option Addr} {c : Nat} (h : LayIs w X a c) : Calls Try.prog 83 #[.slice a X.length c] w fun e w' => e = .returned (.bool (lv X)) ∧ Ext w w' := by
  obtain ⟨f, hs⟩ := h.sub
  exact LayV.implLayoutValid X w a c f hs h.cap_le h.fits.2 h.fits.1
theorem cat_good (a b : List (Int × ByteArray)) : (catLR a b).1 = [] ∨ lv (catLR a b).1 = true := by
  unfold catLR
  split
  · rename_i h; exact .inr h.2.2
  · exact .inl rfl
theorem ok_mono : ∀ (f : F) (d d' : Nat), f.ok d = true → d ≤ d' → f.ok d' = true := by
  intro f
  induction f with
  | nil => intro d d' _ _; rfl
  | cons o n t k r ihk ihr =>
    intro d d' h hd
    simp only [F.ok, Bool.and_eq_true, decide_eq_true_eq] at h ⊢
    exact ⟨⟨⟨by omega, h.1.1.2⟩, ihk _ _ h.1.2 (by omega)⟩, ihr _ _ h.2 hd⟩

/-- the parts of a valid document are valid -/
theorem valid_kid {o n : Int} {t : ByteArray} {p : F} {o1 n1 : Int} {t1 : ByteArray} {k1 r : F} (h : validD o n t (p.app (.cons o1 n1 t1 k1 r)) = true) : validD o1 n1 t1 k1 = true := by
  simp only [validD, okD, Bool.and_eq_true, decide_eq_true_eq, F.ok_app, F.ok, F.cnt_app, F.cnt] at h ⊢
  obtain ⟨⟨⟨_, _⟩, _, ⟨⟨h1, h2⟩, h3⟩, _⟩, h5⟩ := h
  exact ⟨⟨⟨by omega, h2⟩, ok_mono k1 _ _ h3 (by omega)⟩, by omega⟩

theorem opsD_cons (op o o1 n1 : Int) (t1 : ByteArray) (k1 r : F) : opsD op o (.cons o1 n1 t1 k1 r) = (if o == op then 1 else 0) + opsD op o1 k1 + cntF (fun x => x == op) r := by
  rw [opsD_eq, opsD_eq]; simp only [cntF]; omega
theorem opsD_le' (op o : Int) (k : F) : opsD op o k ≤ 1 + k.cnt := by
  rw [opsD_eq]
  have h1 := cntF_nodes (fun x => x == op) k
  have h2 := nodes_cnt k
  split <;> omega
theorem catL_length {a b : List (Int × ByteArray)} (ha : 0 < a.length) (hb : 0 < b.length) : (catL a b).length + 1 = a.length + b.length := by
  rw [catL_set ha hb]; simp; omega

/-- the lines of an open layout -/
theorem open_len : ∀ (d : Nat) (o n : Int) (t : ByteArray) (k : F), okD d o n t k = true → (openD o n t k).length = opsD 3 o k + opsD 4 o k + opsD 5 o k + 1 := by
  intro d
  induction d with
  | zero => intro o n t k h; rw [okD_zero] at h; cases h
  | succ d ih =>
    intro o n t k h
    simp only [okD, Bool.and_eq_true, decide_eq_true_eq] at h
    obtain ⟨⟨_, hn⟩, hk⟩ := h
    rw [show d + 1 - 1 = d by omega] at hk
    have nil_of : k.len = 0 → k = .nil := fun h => by cases k with | nil => rfl | cons => simp [F.len] at h
    rcases node_kinds hn with ⟨rfl, ht, hl⟩ | ⟨ho, rfl, hl⟩ | ⟨rfl, rfl, h0, h9, hl⟩ | ⟨rfl, rfl, hl⟩ | ⟨rfl, rfl, hl⟩
    · rw [nil_of hl, openD_text]; simp [opsD_eq, cntF]
    · rw [nil_of hl]
      rcases ho with rfl | rfl | rfl | rfl
      · simp [openD_empty, opsD_eq, cntF]
      · rw [openD_line (.inl rfl)]; simp [opsD_eq, cntF]
      · rw [openD_line (.inr (.inl rfl))]; simp [opsD_eq, cntF]
      · rw [openD_line (.inr (.inr rfl))]; simp [opsD_eq, cntF]
    · obtain ⟨o1, n1, t1, k1, rfl⟩ := one_kid hl
      rw [ok_cons, Bool.and_eq_true] at hk
      rw [openD_nest, nestL_length, ih _ _ _ _ hk.1]
      simp [opsD_cons, cntF]
    · obtain ⟨o1, n1, t1, k1, o2, n2, t2, k2, rfl⟩ := two_kids hl
      rw [ok_cons, ok_cons, Bool.and_eq_true, Bool.and_eq_true] at hk
      rw [openD_cat]
      have h1 := ih _ _ _ _ hk.1
      have h2 := ih _ _ _ _ hk.2.1
      have h3 := catL_length (a := openD o1 n1 t1 k1) (b := openD o2 n2 t2 k2) (by omega) (by omega)
      have e : ∀ op : Int, (7 == op) = false → opsD op 7 (.cons o1 n1 t1 k1 (.cons o2 n2 t2 k2 .nil)) = opsD op o1 k1 + opsD op o2 k2 := fun op ho => by
        rw [opsD_cons, ho, opsD_any]; simp
      rw [e 3 rfl, e 4 rfl, e 5 rfl]
      omega
    · obtain ⟨o1, n1, t1, k1, rfl⟩ := one_kid hl
      rw [ok_cons, Bool.and_eq_true] at hk
      rw [openD_group, ih _ _ _ _ hk.1]
      simp [opsD_cons, cntF]

/-- the parts of a valid document of two: their layouts joined are its own -/
theorem cat_open {n : Int} {t : ByteArray} {o1 n1 : Int} {t1 : ByteArray} {k1 : F} {o2 n2 : Int} {t2 : ByteArray} {k2 : F} (h : validD 7 n t (.cons o1 n1 t1 k1 (.cons o2 n2 t2 k2 .nil)) = true) :
    openRes o1 n1 t1 k1 = (openD o1 n1 t1 k1, true) ∧ openRes o2 n2 t2 k2 = (openD o2 n2 t2 k2, true) ∧ catLR (openD o1 n1 t1 k1) (openD o2 n2 t2 k2) = (openD 7 n t (.cons o1 n1 t1 k1 (.cons o2 n2 t2 k2 .nil)), true) := by
  have h1 : validD o1 n1 t1 k1 = true := valid_kid (p := .nil) h
  have h2 : validD o2 n2 t2 k2 = true := valid_kid (p := .cons o1 n1 t1 k1 .nil) h
  exact ⟨openRes_yes h1, openRes_yes h2, by rw [openD_cat]; exact catLR_yes (valid_lv h1) (valid_lv h2) (by rw [← openD_cat n t]; exact valid_lv h)⟩
theorem valid_two {o n : Int} {t : ByteArray} {k : F} (h : validD o n t k = true) (ho : o = 7) : k.len = 2 := by
  simp only [validD, okD, Bool.and_eq_true, decide_eq_true_eq] at h
  rcases node_kinds h.1.1.2 with ⟨rfl, _, _⟩ | ⟨h1, _, _⟩ | ⟨rfl, _, _, _, _⟩ | ⟨_, _, h2⟩ | ⟨rfl, _, _⟩
  · omega
  · omega
  · omega
  · exact h2
  · omega

end Go.Proofs.Ytmkibpimjaofgaa.DocO


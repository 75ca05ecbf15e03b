/-
  Counting through lists that are gone through once each: the order of work, as plain data; nothing here speaks of the program.
-/
set_option linter.unusedVariables false
set_option linter.unusedSimpArgs false
set_option linter.unusedSectionVars false
namespace Go.Proofs.Ytjpgnhpfmdjamaa

section
variable {κ : Type} [DecidableEq κ]

/-- lists that lead to lists: below each one, smaller ones -/
structure Forest (κ : Type) where
  good : κ → Prop
  kids : κ → List κ
  sz : κ → Nat
  cnt : κ → Nat
  wt : κ → Nat
  down : ∀ k, good k → ∀ c ∈ kids k, good c ∧ sz c < sz k
  wt_eq : ∀ k, good k → wt k = 2 + ((kids k).map wt).sum

/-- the work that is left, the next first; what the map says of each list -/
structure Inv (T : Forest κ) (root : κ) (st : List (κ × Bool)) (m : κ → Option Int) : Prop where
  good : ∀ x ∈ st, T.good x.1
  val : ∀ k, T.good k → ∀ c, m k = some c → c = (T.cnt k : Int) ∨ (c = -1 ∧ (k, true) ∈ st)
  low : ∀ pre k post, st = pre ++ (k, true) :: post → (∀ c ∈ T.kids k, m c = some (T.cnt c : Int) ∨ ∃ b, (c, b) ∈ pre) ∧ ∀ x ∈ pre, T.sz x.1 < T.sz k
  root : (∃ b, (root, b) ∈ st) ∨ m root = some (T.cnt root : Int)

/-- the work that is left, as a number -/
def weight (T : Forest κ) : List (κ × Bool) → Nat
  | [] => 0
  | (k, true) :: r => 1 + weight T r
  | (k, false) :: r => T.wt k + weight T r

theorem weight_app (T : Forest κ) (a b : List (κ × Bool)) : weight T (a ++ b) = weight T a + weight T b := by
  induction a with
  | nil => simp [weight]
  | cons x a ih =>
    obtain ⟨k, q⟩ := x
    cases q <;> simp [weight, ih] <;> omega

def upd (m : κ → Option Int) (k : κ) (c : Int) : κ → Option Int := fun x => if x = k then some c else m x

theorem Inv.start (T : Forest κ) (root : κ) (h : T.good root) : Inv T root [(root, false)] (fun _ => none) := by
  refine ⟨fun x hx => by simp at hx; rw [hx]; exact h, fun k _ c hc => (by simp at hc), fun pre k post he => ?_, .inl ⟨false, by simp⟩⟩
  cases pre with
  | nil => simp at he
  | cons x pre => simp at he

/-- a list whose lists are all counted -/
theorem Inv.done {T : Forest κ} {root k : κ} {st : List (κ × Bool)} {m : κ → Option Int} (h : Inv T root ((k, true) :: st) m) :
    (∀ c ∈ T.kids k, m c = some (T.cnt c : Int)) ∧ Inv T root st (upd m k (T.cnt k)) := by
  have h0 := h.low [] k st rfl
  refine ⟨fun c hc => (h0.1 c hc).elim id (fun ⟨b, h1⟩ => by cases h1), ?_⟩
  refine ⟨fun x hx => h.good x (by simp [hx]), fun q hq c hc => ?_, fun pre q post he => ?_, ?_⟩
  · unfold upd at hc
    by_cases e : q = k
    · subst e; rw [if_pos rfl] at hc; cases hc; exact .inl rfl
    · rw [if_neg e] at hc
      rcases h.val q hq c hc with h1 | ⟨h1, h2⟩
      · exact .inl h1
      · refine .inr ⟨h1, ?_⟩
        rcases List.mem_cons.1 h2 with h3 | h3
        · cases h3; exact absurd rfl e
        · exact h3
  · have h1 := h.low ((k, true) :: pre) q post (by rw [he]; rfl)
    refine ⟨fun c hc => ?_, fun x hx => h1.2 x (by simp [hx])⟩
    unfold upd
    by_cases e : c = k
    · subst e; rw [if_pos rfl]; exact .inl rfl
    · rw [if_neg e]
      rcases h1.1 c hc with h2 | ⟨b, h2⟩
      · exact .inl h2
      · rcases List.mem_cons.1 h2 with h3 | h3
        · cases h3; exact absurd rfl e
        · exact .inr ⟨b, h3⟩
  · unfold upd
    by_cases e : root = k
    · subst e; rw [if_pos rfl]; exact .inr rfl
    · rw [if_neg e]
      rcases h.root with ⟨b, h1⟩ | h1
      · rcases List.mem_cons.1 h1 with h3 | h3
        · cases h3; exact absurd rfl e
        · exact .inl ⟨b, h3⟩
      · exact .inr h1

/-- a list that is known already -/
theorem Inv.known {T : Forest κ} {root k : κ} {st : List (κ × Bool)} {m : κ → Option Int} (h : Inv T root ((k, false) :: st) m) {v : Int} (hv : m k = some v) : v = (T.cnt k : Int) ∧ Inv T root st m := by
  have hk : T.good k := h.good (k, false) (by simp)
  have hc : v = (T.cnt k : Int) := by
    rcases h.val k hk v hv with h1 | ⟨h1, h2⟩
    · exact h1
    · rcases List.mem_cons.1 h2 with h3 | h3
      · cases h3
      · obtain ⟨pre, post, rfl⟩ := List.append_of_mem h3
        have := (h.low ((k, false) :: pre) k post rfl).2 (k, false) (by simp)
        simp at this
  subst hc
  refine ⟨rfl, fun x hx => h.good x (by simp [hx]), fun q hq c hc => ?_, fun pre q post he => ?_, ?_⟩
  · rcases h.val q hq c hc with h1 | ⟨h1, h2⟩
    · exact .inl h1
    · rcases List.mem_cons.1 h2 with h3 | h3
      · cases h3
      · exact .inr ⟨h1, h3⟩
  · have h1 := h.low ((k, false) :: pre) q post (by rw [he]; rfl)
    refine ⟨fun c hc => ?_, fun x hx => h1.2 x (by simp [hx])⟩
    rcases h1.1 c hc with h2 | ⟨b, h2⟩
    · exact .inl h2
    · rcases List.mem_cons.1 h2 with h3 | h3
      · cases h3; exact .inl hv
      · exact .inr ⟨b, h3⟩
  · rcases h.root with ⟨b, h1⟩ | h1
    · rcases List.mem_cons.1 h1 with h3 | h3
      · cases h3; exact .inr hv
      · exact .inl ⟨b, h3⟩
    · exact .inr h1

/-- a list that is reached for the first time -/
theorem Inv.open {T : Forest κ} {root k : κ} {st : List (κ × Bool)} {m : κ → Option Int} (h : Inv T root ((k, false) :: st) m) (hv : m k = none) :
    Inv T root (((T.kids k).reverse.map fun c => (c, false)) ++ (k, true) :: st) (upd m k (-1)) := by
  have hk : T.good k := h.good (k, false) (by simp)
  refine ⟨fun x hx => ?_, fun q hq c hc => ?_, fun pre q post he => ?_, ?_⟩
  · rcases List.mem_append.1 hx with hx | hx
    · obtain ⟨c, hc, rfl⟩ := List.mem_map.1 hx
      exact (T.down k hk c (List.mem_reverse.1 hc)).1
    · rcases List.mem_cons.1 hx with rfl | hx
      · exact hk
      · exact h.good x (by simp [hx])
  · unfold upd at hc
    by_cases e : q = k
    · subst e; rw [if_pos rfl] at hc; cases hc; exact .inr ⟨rfl, by simp⟩
    · rw [if_neg e] at hc
      rcases h.val q hq c hc with h1 | ⟨h1, h2⟩
      · exact .inl h1
      · rcases List.mem_cons.1 h2 with h3 | h3
        · cases h3
        · exact .inr ⟨h1, by simp [h3]⟩
  · -- where the reached list stands
    have hcase : (∃ mid, pre = ((T.kids k).reverse.map fun c => (c, false)) ++ (k, true) :: mid ∧ st = mid ++ (q, true) :: post) ∨ (pre = ((T.kids k).reverse.map fun c => (c, false)) ∧ q = k) := by
      have hs : ∀ (l : List κ) (a : List (κ × Bool)), (l.map fun c => (c, false)) ++ (k, true) :: st = a ++ (q, true) :: post → (∃ mid, a = (l.map fun c => (c, false)) ++ (k, true) :: mid ∧ st = mid ++ (q, true) :: post) ∨ (a = (l.map fun c => (c, false)) ∧ q = k) := by
        intro l
        induction l with
        | nil =>
          intro a ha
          cases a with
          | nil => simp at ha; exact .inr ⟨rfl, ha.1.symm⟩
          | cons x a => simp at ha; obtain ⟨rfl, rfl⟩ := ha; exact .inl ⟨a, rfl, rfl⟩
        | cons c l ih =>
          intro a ha
          cases a with
          | nil => simp at ha
          | cons x a =>
            simp only [List.map_cons, List.cons_append, List.cons.injEq] at ha
            obtain ⟨rfl, ha⟩ := ha
            rcases ih a ha with ⟨mid, rfl, hm⟩ | ⟨rfl, hm⟩
            · exact .inl ⟨mid, rfl, hm⟩
            · exact .inr ⟨rfl, hm⟩
      exact hs _ pre he
    rcases hcase with ⟨mid, rfl, rfl⟩ | ⟨rfl, rfl⟩
    · have h1 := h.low ((k, false) :: mid) q post rfl
      have hkq : T.sz k < T.sz q := h1.2 (k, false) (by simp)
      refine ⟨fun c hc => ?_, fun x hx => ?_⟩
      · unfold upd
        rcases h1.1 c hc with h2 | ⟨b, h2⟩
        · by_cases e : c = k
          · subst e; rw [hv] at h2; cases h2
          · rw [if_neg e]; exact .inl h2
        · rcases List.mem_cons.1 h2 with h3 | h3
          · cases h3; exact .inr ⟨true, by simp⟩
          · exact .inr ⟨b, by simp [h3]⟩
      · rcases List.mem_append.1 hx with hx | hx
        · obtain ⟨c, hc, rfl⟩ := List.mem_map.1 hx
          have := (T.down k hk c (List.mem_reverse.1 hc)).2
          exact Nat.lt_trans this hkq
        · rcases List.mem_cons.1 hx with rfl | hx
          · exact hkq
          · exact h1.2 x (by simp [hx])
    · refine ⟨fun c hc => .inr ⟨false, List.mem_map.2 ⟨c, List.mem_reverse.2 hc, rfl⟩⟩, fun x hx => ?_⟩
      obtain ⟨c, hc, rfl⟩ := List.mem_map.1 hx
      exact (T.down q hk c (List.mem_reverse.1 hc)).2
  · unfold upd
    by_cases e : root = k
    · subst e; exact .inl ⟨true, by simp⟩
    · rw [if_neg e]
      rcases h.root with ⟨b, h1⟩ | h1
      · rcases List.mem_cons.1 h1 with h3 | h3
        · cases h3; exact absurd rfl e
        · exact .inl ⟨b, by simp [h3]⟩
      · exact .inr h1

theorem weight_map (T : Forest κ) (l : List κ) : weight T (l.map fun c => (c, false)) = (l.map T.wt).sum := by
  induction l with
  | nil => rfl
  | cons c l ih => simp [weight, ih]

theorem weight_open {T : Forest κ} {k : κ} (hk : T.good k) (st : List (κ × Bool)) : weight T (((T.kids k).reverse.map fun c => (c, false)) ++ (k, true) :: st) < weight T ((k, false) :: st) := by
  rw [weight_app, weight_map, weight, weight, T.wt_eq k hk, List.map_reverse, List.sum_reverse]
  omega

theorem Inv.end {T : Forest κ} {root : κ} {m : κ → Option Int} (h : Inv T root [] m) : m root = some (T.cnt root : Int) := by
  rcases h.root with ⟨b, h1⟩ | h1
  · cases h1
  · exact h1
end

end Go.Proofs.Ytjpgnhpfmdjamaa

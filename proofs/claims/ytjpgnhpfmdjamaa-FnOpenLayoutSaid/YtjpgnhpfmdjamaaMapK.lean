/-
  A map of the call's own whose keys hold addresses: what a look-up and a store come to; nothing here speaks of the program.
-/
import Derived.Maps.Own
import Derived.Maps.OwnOps
import Derived.LaidEqlPtr
import Derived.Deep.MidRow
set_option linter.unusedVariables false
set_option linter.unusedSimpArgs false
set_option linter.unusedSectionVars false
namespace Go.Proofs.Ytjpgnhpfmdjamaa
open Go.RowKit

section
variable {κ : Type} [DecidableEq κ]

/-- Keys as the program spells them, in worlds in which they lead somewhere. -/
structure KeyOK (P : Program) (K : TypeId) (kv : κ → Value) (G : World → κ → Prop) : Prop where
  kind : ∃ d, P.underlying K = some d ∧ ∀ a b, Instr.sameNow d (kv a) (kv b) = none
  check : ∀ (w : World) (em : Bool) (a : κ), G w a → (Instr.checkKey em 10000 K (kv a)).run P w = .ok () w
  equal : ∀ (w : World) (a b : κ), G w a → G w b → (Op.equal K (kv a) (kv b)).run P w = .ok (decide (a = b)) w
  bits : ∀ a, Instr.sameBits 10000 (kv a) (kv a) = true

/-- an entry -/
def ent (kv : κ → Value) (x : κ × Value × Nat) : MapEntry := ⟨kv x.1, x.2.1, x.2.2⟩

def findI (a : κ) : List (κ × Value × Nat) → Nat → Option (Nat × Value)
  | [], _ => none
  | x :: l, i => if a = x.1 then some (i, x.2.1) else findI a l (i + 1)

def look (a : κ) (l : List (κ × Value × Nat)) : Option Value := (findI a l 0).map (·.2)

theorem findI_shift (a : κ) (l : List (κ × Value × Nat)) : ∀ i, (findI a l i).map (·.2) = (findI a l 0).map (·.2) := by
  induction l with
  | nil => intro i; rfl
  | cons x l ih =>
    intro i
    simp only [findI]
    split
    · rfl
    · rw [ih (i + 1), ih (0 + 1)]

theorem look_cons (a : κ) (x : κ × Value × Nat) (l : List (κ × Value × Nat)) : look a (x :: l) = if a = x.1 then some x.2.1 else look a l := by
  unfold look
  simp only [findI]
  split
  · rfl
  · exact findI_shift a l 1

theorem look_snoc (a b : κ) (v : Value) (n : Nat) (l : List (κ × Value × Nat)) (h : look a l = none) : look b (l ++ [(a, v, n)]) = if b = a then some v else look b l := by
  induction l with
  | nil => rw [List.nil_append, look_cons]
  | cons x l ih =>
    rw [look_cons] at h
    split at h
    · cases h
    · rename_i hne
      rw [List.cons_append, look_cons, look_cons, ih h]
      by_cases hb : b = x.1
      · rw [if_pos hb, if_pos hb, if_neg (show ¬ b = a from fun e => hne (e.symm.trans hb))]
      · rw [if_neg hb, if_neg hb]

/-- the i-th entry holds another value -/
def setI (v : Value) : List (κ × Value × Nat) → Nat → List (κ × Value × Nat)
  | [], _ => []
  | x :: l, 0 => (x.1, v, x.2.2) :: l
  | x :: l, i + 1 => x :: setI v l i

theorem findI_at (a : κ) : ∀ (l : List (κ × Value × Nat)) (s i : Nat) (u : Value), findI a l s = some (i, u) → ∃ j x, i = s + j ∧ l[j]? = some x ∧ x.1 = a ∧ ∀ v b, look b (setI v l j) = if b = a then some v else look b l
  | [], s, i, u, h => by simp [findI] at h
  | x :: l, s, i, u, h => by
    simp only [findI] at h
    split at h
    · rename_i e
      simp only [Option.some.injEq, Prod.mk.injEq] at h
      refine ⟨0, x, by omega, rfl, e.symm, fun v b => ?_⟩
      rw [setI, look_cons, look_cons]
      by_cases hb : b = a
      · rw [if_pos hb, if_pos (by rw [hb]; exact e)]
      · rw [if_neg hb, if_neg (fun q => hb (q.trans e.symm)), if_neg (fun q => hb (q.trans e.symm))]
    · rename_i hne
      obtain ⟨j, y, h1, h2, h3, h4⟩ := findI_at a l (s + 1) i u h
      refine ⟨j + 1, y, by omega, by simpa using h2, h3, fun v b => ?_⟩
      rw [setI, look_cons, look_cons, h4]
      by_cases hb : b = x.1
      · rw [if_pos hb, if_pos hb, if_neg (show ¬ b = a from fun e => hne (e.symm.trans hb))]
      · rw [if_neg hb, if_neg hb]

theorem setI_keys (v : Value) : ∀ (l : List (κ × Value × Nat)) (j : Nat), ∀ x ∈ setI v l j, ∃ y ∈ l, y.1 = x.1
  | [], _, x, h => by simp [setI] at h
  | y :: l, 0, x, h => by
    simp only [setI, List.mem_cons] at h
    rcases h with rfl | h
    · exact ⟨y, by simp, rfl⟩
    · exact ⟨x, by simp [h], rfl⟩
  | y :: l, j + 1, x, h => by
    simp only [setI, List.mem_cons] at h
    rcases h with rfl | h
    · exact ⟨x, by simp, rfl⟩
    · obtain ⟨z, h1, h2⟩ := setI_keys v l j x h
      exact ⟨z, by simp [h1], h2⟩

theorem setI_ent (kv : κ → Value) (v : Value) (a : κ) : ∀ (l : List (κ × Value × Nat)) (j : Nat), (∀ x, l[j]? = some x → x.1 = a) → (l.map (ent kv)).modify j (fun e => { e with key := kv a, val := v }) = (setI v l j).map (ent kv)
  | [], j, _ => by cases j <;> rfl
  | y :: l, 0, h => by
    have := h y rfl
    simp [setI, ent, this]
  | y :: l, j + 1, h => by
    have := setI_ent kv v a l j (fun x hx => h x (by simpa using hx))
    simp [setI, this]

section
variable {P : Program} {K : TypeId} {kv : κ → Value} {G : World → κ → Prop}

theorem run_findAsking (h : KeyOK P K kv G) {w : World} {a : κ} (ha : G w a) : ∀ (l : List (κ × Value × Nat)) (i : Nat), (∀ x ∈ l, G w x.1) → (Instr.findAsking K (kv a) (l.map (ent kv)) i).run P w = .ok (findI a l i) w
  | [], i, _ => by simp [Instr.findAsking, findI, Sem.run_pure]
  | x :: l, i, hl => by
    have he := h.equal w a x.1 ha (hl x (by simp))
    have ih := run_findAsking h ha l (i + 1) (fun y hy => hl y (by simp [hy]))
    simp only [List.map_cons, Instr.findAsking, Sem.run_bind, ent, he, Result.andThen_ok, findI]
    by_cases hx : a = x.1
    · simp [hx, Sem.run_pure]
    · simp only [hx, decide_false, Bool.false_eq_true, if_false]
      exact ih

theorem run_findKey (h : KeyOK P K kv G) {w : World} {a : κ} (ha : G w a) (l : List (κ × Value × Nat)) (hl : ∀ x ∈ l, G w x.1) : (Instr.findKey K (kv a) (l.map (ent kv))).run P w = .ok (findI a l 0) w := by
  obtain ⟨d, hd, hs⟩ := h.kind
  unfold Instr.findKey
  simp only [Sem.run_bind, run_underlying hd, Result.andThen_ok]
  cases l with
  | nil => simp [Instr.findNow, findI, Sem.run_pure]
  | cons x l =>
    have : Instr.findNow d (kv a) ((x :: l).map (ent kv)) 0 = none := by simp [Instr.findNow, ent, hs]
    rw [this]
    exact run_findAsking h ha (x :: l) 0 hl

/-- block r is a map that holds the entries l -/
def PMap (w : World) (kv : κ → Value) (r : Nat) (l : List (κ × Value × Nat)) : Prop := ∃ clock, w.heap[r]? = some (.map (l.map (ent kv)).toArray clock)

theorem PMap.made (w : World) (kv : κ → Value) : PMap (w.alloc (.map #[] 0)) kv w.heap.size [] := ⟨0, by simpa using heap_alloc_new w (.map #[] 0)⟩
theorem PMap.of_block {w w' : World} {r : Nat} {l : List (κ × Value × Nat)} (h : PMap w kv r l) (e : w'.heap[r]? = w.heap[r]?) : PMap w' kv r l := by obtain ⟨c, h⟩ := h; exact ⟨c, e.trans h⟩
theorem PMap.lt {w : World} {r : Nat} {l : List (κ × Value × Nat)} (h : PMap w kv r l) : r < w.heap.size := by obtain ⟨c, h⟩ := h; exact (Array.getElem?_eq_some_iff.1 h).1

theorem run_look (h : KeyOK P K kv G) {t E : TypeId} (ht : P.underlying t = some (.map K E)) {w : World} {z : Value} (hz : (zeroValue E).run P w = .ok z w) {r : Nat} {l : List (κ × Value × Nat)} (hb : PMap w kv r l) {a : κ} (ha : G w a) (hl : ∀ x ∈ l, G w x.1) (c : Bool) :
    (Instr.lookup t (.map (some r)) (kv a) c).run P w = .ok (if c then .tuple #[(look a l).getD z, .bool (look a l).isSome] else (look a l).getD z) w := by
  obtain ⟨clock, hb⟩ := hb
  have hf := run_findKey h ha l hl
  have hck := fun em => h.check w em a ha
  unfold Instr.lookup
  simp only [Sem.run_bind, run_underlying ht, Result.andThen_ok, run_getObj_map (P := P) w r _ clock hb, Sem.run_pure, hck, List.toList_toArray, hf]
  unfold look
  cases findI a l 0 with
  | none => simp [Sem.run_bind, hz, Sem.run_pure, Result.andThen_ok]
  | some q => simp [Sem.run_pure, Result.andThen_ok]

theorem run_store_map (h : KeyOK P K kv G) {t E : TypeId} (ht : P.underlying t = some (.map K E)) {w : World} {r : Nat} {l : List (κ × Value × Nat)} (hb : PMap w kv r l) {a : κ} (ha : G w a) (hl : ∀ x ∈ l, G w x.1) (v : Value) :
    ∃ l' w', (Instr.mapUpdate t (.map (some r)) (kv a) v).run P w = .ok () w' ∧ PMap w' kv r l' ∧ (∀ b, look b l' = if b = a then some v else look b l) ∧ (∀ x ∈ l', x.1 = a ∨ ∃ y ∈ l, y.1 = x.1) ∧ w.grownBy w' (some r) := by
  obtain ⟨clock, hb⟩ := hb
  have hf := run_findKey h ha l hl
  have hck := h.check w false a ha
  have grown : ∀ es c, w.grownBy { w with heap := w.heap.setIfInBounds r (.map es c) } (some r) := fun es c => ⟨rfl, rfl, rfl, by simp, fun i _ hi => by
    have : r ≠ i := fun e => hi (by rw [e])
    simp [Array.getElem?_setIfInBounds, this]⟩
  have hlt : r < w.heap.size := (Array.getElem?_eq_some_iff.1 hb).1
  have hset : ∀ es c, ({ w with heap := w.heap.setIfInBounds r (.map es c) } : World).heap[r]? = some (.map es c) := fun es c => by simp [Array.getElem?_setIfInBounds, hlt]
  cases hq : findI a l 0 with
  | none =>
    refine ⟨l ++ [(a, v, clock)], _, ?_, ⟨clock + 1, hset _ _⟩, fun b => look_snoc a b v clock l (by unfold look; rw [hq]; rfl), fun x hx => ?_, grown _ _⟩
    · unfold Instr.mapUpdate
      rw [hq] at hf
      simp only [Sem.run_bind, run_underlying ht, Result.andThen_ok, run_getObj_map (P := P) w r _ clock hb, hck, List.toList_toArray, hf]
      rw [MapKept.run_setObj_map _ hb]
      simp [ent]
    · rcases List.mem_append.1 hx with hx | hx
      · exact .inr ⟨x, hx, rfl⟩
      · simp at hx; exact .inl (by rw [hx])
  | some q =>
    obtain ⟨i, u⟩ := q
    obtain ⟨j, x, h1, h2, h3, h4⟩ := findI_at a l 0 i u hq
    obtain rfl : i = j := by omega
    refine ⟨setI v l i, _, ?_, ⟨clock, hset _ _⟩, h4 v, fun x hx => .inr (setI_keys v l i x hx), grown _ _⟩
    unfold Instr.mapUpdate
    rw [hq] at hf
    have hk : (((l.map (ent kv)).toArray[i]?).map (·.key)).getD (kv a) = kv a := by simp [h2, ent, h3]
    have hst : (Instr.keyThatStays (kv a) (kv a)).run P w = .ok (kv a) w := by unfold Instr.keyThatStays; rw [if_pos (h.bits a)]; rfl
    simp only [Sem.run_bind, run_underlying ht, Result.andThen_ok, run_getObj_map (P := P) w r _ clock hb, hck, List.toList_toArray, hf, hk, hst]
    rw [MapKept.run_setObj_map _ hb]
    have e := setI_ent kv v a l i (fun y hy => by rw [h2] at hy; cases hy; exact h3)
    rw [List.modify_toArray, e]
end
end

end Go.Proofs.Ytjpgnhpfmdjamaa

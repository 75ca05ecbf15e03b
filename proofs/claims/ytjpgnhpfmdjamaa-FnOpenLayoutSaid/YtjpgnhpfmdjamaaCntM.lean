/-
  Lists of documents in memory, told apart by where they lie, as a forest; how many of their nodes are of a kind. Nothing here speaks of the program.
-/
import Derived.Test.YtjpgnhpfmdjamaaCountP
import Derived.Test.YtjpgnhpfmdjamaaKeys
import Derived.Test.YtjpgnhpfmdjamaaSameP
set_option linter.unusedVariables false
set_option linter.unusedSimpArgs false
namespace Go.Proofs.Ytjpgnhpfmdjamaa
open Go.RowKit

/-- how many nodes of a list are of a kind -/
def cntF (m : Int → Bool) : F → Nat
  | .nil => 0
  | .cons o _ _ k r => (if m o then 1 else 0) + cntF m k + cntF m r

theorem cntF_app (m : Int → Bool) (f g : F) : cntF m (f.app g) = cntF m f + cntF m g := by
  induction f with
  | nil => simp [F.app, cntF]
  | cons o n t k r _ ih => simp [F.app, cntF, ih]; omega

theorem cntF_le (m : Int → Bool) (f : F) : cntF m f ≤ f.size := by
  induction f with
  | nil => simp [cntF, F.size]
  | cons o n t k r ihk ihr =>
    simp only [cntF, F.size]
    have : (if m o then 1 else 0) ≤ 1 := by split <;> omega
    omega

/-- how many nodes a list has -/
def nodes (f : F) : Nat := cntF (fun _ => true) f
theorem nodes_app (f g : F) : nodes (f.app g) = nodes f + nodes g := cntF_app _ f g
theorem nodes_cons (o n : Int) (t : ByteArray) (k r : F) : nodes (.cons o n t k r) = 1 + nodes k + nodes r := rfl
theorem nodes_size (f : F) : nodes f ≤ f.size := cntF_le _ f
theorem cntF_nodes (m : Int → Bool) (f : F) : cntF m f ≤ nodes f := by
  induction f with
  | nil => exact Nat.le_refl _
  | cons o n t k r ihk ihr =>
    rw [nodes_cons]
    simp only [cntF]
    have : (if m o then 1 else 0) ≤ 1 := by split <;> omega
    omega
theorem len_nodes (f : F) : f.len ≤ nodes f := by
  induction f with
  | nil => simp [F.len]
  | cons o n t k r _ ihr => rw [nodes_cons]; simp only [F.len]; omega

/-- the work of a list -/
def wtL : F → Nat
  | .nil => 0
  | .cons _ _ _ k r => (if k.len = 0 then 0 else 2 + wtL k) + wtL r

theorem wtL_le (f : F) : wtL f ≤ 2 * nodes f := by
  induction f with
  | nil => simp [wtL]
  | cons o n t k r ihk ihr =>
    simp only [wtL, nodes_cons]
    split <;> omega

/-- the document at a place of a list -/
theorem F.at_len : ∀ (f : F) (j : Nat), j < f.len → ∃ (p : F) (o n : Int) (t : ByteArray) (k r : F), f = p.app (.cons o n t k r) ∧ p.len = j
  | .nil, j, h => by simp [F.len] at h
  | .cons o n t k r, 0, _ => ⟨.nil, o, n, t, k, r, rfl, rfl⟩
  | .cons o n t k r, j + 1, h => by
    obtain ⟨p, o', n', t', k', r', h1, h2⟩ := F.at_len r j (by simp only [F.len] at h; omega)
    exact ⟨.cons o n t k p, o', n', t', k', r', by rw [h1]; rfl, by simp only [F.len]; omega⟩

/-- a list that is not empty lies where a key says -/
def Lie (w : World) (k : LK) (f : F) : Prop := k.2.2 = f.len ∧ 0 < f.len ∧ ∃ fs, RowAt w f k.1 k.2.1 fs ∧ ∀ q ∈ k.1 :: fs, q < w.heap.size ∧ ∀ o, w.frozen? ⟨q, o, none⟩ = false

theorem Lie.unique {w : World} {k : LK} {f g : F} (h : Lie w k f) (h' : Lie w k g) : f = g := by
  obtain ⟨e, _, fs, r, _⟩ := h
  obtain ⟨e', _, gs, r', _⟩ := h'
  exact r.unique r' (e.symm.trans e')

theorem Lie.plain {w : World} {k : LK} {f : F} (h : Lie w k f) : Plain w k.1 := by
  obtain ⟨_, h0, fs, r, hq⟩ := h
  cases f with
  | nil => simp [F.len] at h0
  | cons o n t ks r' =>
    obtain ⟨_, _, _, _, h1, _⟩ := RowAt.cons_iff.1 r
    exact Plain.of_cell h1 (hq k.1 (by simp)).2

theorem Lie.lt {w : World} {k : LK} {f : F} (h : Lie w k f) : k.1 < w.heap.size := by
  obtain ⟨_, _, fs, _, hq⟩ := h
  exact (hq k.1 (by simp)).1

open Classical in
/-- the list that lies where a key says -/
noncomputable def listAt (w : World) (k : LK) : F := if h : ∃ f, Lie w k f then h.choose else .nil

theorem listAt_eq {w : World} {k : LK} {f : F} (h : Lie w k f) : listAt w k = f := by
  unfold listAt
  have hex : ∃ f, Lie w k f := ⟨f, h⟩
  rw [dif_pos hex]
  exact hex.choose_spec.unique h

/-- the key of a document's Kids, if it has any -/
def kidOf : Option Value → List LK
  | some (.slice (some ⟨b, o, none⟩) (l + 1) _) => [(b, o, l + 1)]
  | _ => []

def kidAt (w : World) (b o : Nat) : List LK := kidOf (w.cell? ⟨b, o + 3, none⟩)

/-- the keys of the lists below a list -/
def kidKeys (w : World) (b : Nat) : Nat → Nat → List LK
  | _, 0 => []
  | o, n + 1 => kidAt w b o ++ kidKeys w b (o + 4) n

theorem kidKeys_snoc (w : World) (b : Nat) : ∀ (n o : Nat), kidKeys w b o (n + 1) = kidKeys w b o n ++ kidAt w b (o + n * 4)
  | 0, o => by simp [kidKeys]
  | n + 1, o => by
    rw [kidKeys, kidKeys_snoc w b n (o + 4), kidKeys, List.append_assoc]
    congr 3
    omega

theorem kidAt_len (w : World) (b o : Nat) : (kidAt w b o).length ≤ 1 := by
  unfold kidAt kidOf
  split <;> simp

theorem kidKeys_len (w : World) (b : Nat) : ∀ (n o : Nat), (kidKeys w b o n).length ≤ n
  | 0, o => by simp [kidKeys]
  | n + 1, o => by
    have h1 := kidKeys_len w b n (o + 4)
    have h2 := kidAt_len w b o
    simp only [kidKeys, List.length_append]
    omega

theorem kidKeys_mem (w : World) (b : Nat) : ∀ (n o : Nat) (c : LK), c ∈ kidKeys w b o n → ∃ j, j < n ∧ c ∈ kidAt w b (o + j * 4)
  | 0, o, c, h => by simp [kidKeys] at h
  | n + 1, o, c, h => by
    rw [kidKeys_snoc] at h
    rcases List.mem_append.1 h with h | h
    · obtain ⟨j, hj, hc⟩ := kidKeys_mem w b n o c h
      exact ⟨j, by omega, hc⟩
    · exact ⟨n, by omega, h⟩

theorem kidKeys_of (w : World) (b : Nat) : ∀ (n o : Nat) (c : LK) (j : Nat), j < n → c ∈ kidAt w b (o + j * 4) → c ∈ kidKeys w b o n
  | 0, o, c, j, h, _ => by omega
  | n + 1, o, c, j, h, hc => by
    rw [kidKeys_snoc]
    by_cases e : j = n
    · subst e; exact List.mem_append.2 (.inr hc)
    · exact List.mem_append.2 (.inl (kidKeys_of w b n o c j (by omega) hc))

/-- a document's Kids -/
theorem kid_none {w : World} {b o : Nat} {a : Option Addr} {cap : Nat} (h : w.cell? ⟨b, o + 3, none⟩ = some (.slice a 0 cap)) : kidAt w b o = [] := by
  unfold kidAt; rw [h]
  cases a with
  | none => rfl
  | some a => obtain ⟨b1, o1, s1⟩ := a; cases s1 <;> rfl

theorem kid_some {w : World} {b o b' o' l cap : Nat} (h : w.cell? ⟨b, o + 3, none⟩ = some (.slice (some ⟨b', o', none⟩) l cap)) (h0 : l ≠ 0) : kidAt w b o = [(b', o', l)] := by
  unfold kidAt; rw [h]
  cases l with
  | zero => exact absurd rfl h0
  | succ l => rfl

theorem Lie.of_sub {w : World} {a : Option Addr} {k : F} {fs : List Nat} (h : SubAt w a k fs) (h0 : k.len ≠ 0) (hq : ∀ q ∈ fs, q < w.heap.size ∧ ∀ o, w.frozen? ⟨q, o, none⟩ = false) : ∃ b' o', a = some ⟨b', o', none⟩ ∧ Lie w (b', o', k.len) k := by
  rcases h with ⟨rfl, _⟩ | ⟨b', o', f', rfl, _, rfl, hr⟩
  · exact absurd rfl h0
  · exact ⟨b', o', rfl, rfl, by show 0 < k.len; omega, f', hr, hq⟩

/-- a list's document and its Kids -/
theorem Lie.at {w : World} {k : LK} {p : F} {o n : Int} {t : ByteArray} {ks r : F} (h : Lie w k (p.app (.cons o n t ks r))) :
    ∃ (a : Option Addr) (cap : Nat), w.cell? ⟨k.1, k.2.1 + p.len * 4, none⟩ = some (.int .i64 o) ∧ w.cell? ⟨k.1, k.2.1 + p.len * 4 + 1, none⟩ = some (.int .i64 n) ∧ w.cell? ⟨k.1, k.2.1 + p.len * 4 + 2, none⟩ = some (.string t) ∧
      w.cell? ⟨k.1, k.2.1 + p.len * 4 + 3, none⟩ = some (.slice a ks.len cap) ∧ ks.len ≤ cap ∧
      ((ks.len = 0 ∧ kidAt w k.1 (k.2.1 + p.len * 4) = []) ∨ ∃ b' o', a = some ⟨b', o', none⟩ ∧ 0 < ks.len ∧ Lie w (b', o', ks.len) ks ∧ kidAt w k.1 (k.2.1 + p.len * 4) = [(b', o', ks.len)]) := by
  obtain ⟨_, _, fs, hr, hq⟩ := h
  obtain ⟨a, cap, f1, h1, h2, h3, h4, h5, h6, h7⟩ := row_at hr
  refine ⟨a, cap, h1, h2, h3, h4, h5, ?_⟩
  by_cases h0 : ks.len = 0
  · refine .inl ⟨h0, ?_⟩
    rw [h0] at h4
    exact kid_none h4
  · obtain ⟨b', o', rfl, hl⟩ := Lie.of_sub h6 h0 (fun q hq' => hq q (by simp [h7 q hq']))
    exact .inr ⟨b', o', rfl, by omega, hl, kid_some h4 h0⟩

theorem Lie.len {w : World} {k : LK} {f : F} (h : Lie w k f) : k.2.2 = f.len := h.1

/-- below the first documents of a list -/
theorem Lie.below {w : World} {k : LK} : ∀ (n : Nat) (p g : F), p.len = n → Lie w k (p.app g) → (∀ c ∈ kidKeys w k.1 k.2.1 n, ∃ f, Lie w c f ∧ nodes f < nodes (p.app g)) ∧ ((kidKeys w k.1 k.2.1 n).map fun c => 2 + wtL (listAt w c)).sum = wtL p
  | 0, p, g, hn, h => by
    have := F.len_eq_zero hn
    subst this
    simp [kidKeys, wtL]
  | n + 1, p, g, hn, h => by
    -- the last document of p
    have hp : ∃ q o m t ks, p = F.app q (.cons o m t ks .nil) := by
      clear h
      induction p generalizing n with
      | nil => simp [F.len] at hn
      | cons o m t ks r _ ih =>
        cases n with
        | zero =>
          simp only [F.len] at hn
          have := F.len_eq_zero (f := r) (by omega)
          subst this
          exact ⟨.nil, o, m, t, ks, rfl⟩
        | succ n =>
          simp only [F.len] at hn
          obtain ⟨q, o', m', t', ks', rfl⟩ := ih n (by omega)
          exact ⟨.cons o m t ks q, o', m', t', ks', rfl⟩
    obtain ⟨q, o, m, t, ks, rfl⟩ := hp
    have hq : q.len = n := by rw [F.len_app] at hn; simp only [F.len] at hn; omega
    have he : (q.app (.cons o m t ks .nil)).app g = q.app (.cons o m t ks g) := by rw [F.app_assoc]; rfl
    rw [he] at h ⊢
    obtain ⟨h1, h2⟩ := Lie.below n q _ hq h
    obtain ⟨a, cap, _, _, _, _, _, hk⟩ := h.at
    have hw : ∀ (q : F), wtL (q.app (.cons o m t ks .nil)) = wtL q + (if ks.len = 0 then 0 else 2 + wtL ks) := by
      intro q
      induction q with
      | nil => simp [F.app, wtL]
      | cons o' m' t' ks' r' _ ih => simp only [F.app, wtL, ih]; omega
    rw [hw, kidKeys_snoc, ← hq]
    rw [← hq] at h1 h2
    rcases hk with ⟨h0, hk⟩ | ⟨b', o', _, h0, hl, hk⟩
    · rw [hk, List.append_nil, if_pos h0]
      exact ⟨h1, h2⟩
    · rw [hk, if_neg (by omega)]
      refine ⟨fun c hc => ?_, ?_⟩
      · rcases List.mem_append.1 hc with hc | hc
        · exact h1 c hc
        · simp only [List.mem_singleton] at hc
          subst hc
          refine ⟨ks, hl, ?_⟩
          rw [nodes_app, nodes_cons]
          omega
      · rw [List.map_append, List.sum_append, h2]
        simp [listAt_eq hl]

theorem Lie.kids {w : World} {k : LK} {f : F} (h : Lie w k f) : (∀ c ∈ kidKeys w k.1 k.2.1 k.2.2, ∃ g, Lie w c g ∧ nodes g < nodes f) ∧ ((kidKeys w k.1 k.2.1 k.2.2).map fun c => 2 + wtL (listAt w c)).sum = wtL f := by
  have := Lie.below (w := w) (k := k) f.len f .nil rfl (by rw [F.app_nil]; exact h)
  rw [F.app_nil] at this
  rw [h.1]
  exact this

/-- the lists in memory -/
noncomputable def forest (w : World) (m : Int → Bool) : Forest LK where
  good := fun k => ∃ f, Lie w k f ∧ nodes f ≤ 2097153
  kids := fun k => kidKeys w k.1 k.2.1 k.2.2
  sz := fun k => nodes (listAt w k)
  cnt := fun k => cntF m (listAt w k)
  wt := fun k => 2 + wtL (listAt w k)
  down := fun k hk c hc => by
    obtain ⟨f, hf, hn⟩ := hk
    obtain ⟨g, hg, hlt⟩ := hf.kids.1 c hc
    exact ⟨⟨g, hg, by omega⟩, by rw [listAt_eq hf, listAt_eq hg]; exact hlt⟩
  wt_eq := fun k hk => by
    obtain ⟨f, hf, _⟩ := hk
    show 2 + wtL (listAt w k) = 2 + ((kidKeys w k.1 k.2.1 k.2.2).map fun c => 2 + wtL (listAt w c)).sum
    rw [listAt_eq hf, hf.kids.2]

/-- the map knows the counts of some lists -/
def Knows (l : List (LK × Value × Nat)) (mm : LK → Option Int) : Prop := ∀ a, look a l = (mm a).map (fun c => Value.int .i64 c)

theorem Knows.start : Knows [] (fun _ => none) := fun a => rfl
theorem Knows.upd {l l' : List (LK × Value × Nat)} {mm : LK → Option Int} (h : Knows l mm) {a : LK} {c : Int} (hl : ∀ b, look b l' = if b = a then some (.int .i64 c) else look b l) : Knows l' (upd mm a c) := fun b => by
  rw [hl b]
  unfold Go.Proofs.Ytjpgnhpfmdjamaa.upd
  by_cases e : b = a
  · rw [if_pos e, if_pos e]; rfl
  · rw [if_neg e, if_neg e]; exact h b

theorem weight_len (T : Forest LK) (h2 : ∀ k, 1 ≤ T.wt k) : ∀ st : List (LK × Bool), st.length ≤ weight T st
  | [] => Nat.le_refl _
  | (k, true) :: r => by have := weight_len T h2 r; simp only [List.length_cons, weight]; omega
  | (k, false) :: r => by have := weight_len T h2 r; have := h2 k; simp only [List.length_cons, weight]; omega

end Go.Proofs.Ytjpgnhpfmdjamaa

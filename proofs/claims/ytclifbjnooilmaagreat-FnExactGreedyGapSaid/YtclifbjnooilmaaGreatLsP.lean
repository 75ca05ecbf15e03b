import Derived.Test.YtclifbjnooilmaaGreatPl
/-
 Lists of layouts, and how they lie in memory; nothing here speaks of the program.
-/
set_option linter.unusedVariables false
set_option linter.unusedSimpArgs false
namespace Go.Proofs.YtclifbjnooilmaaGreat.Ls
open Go.RowKit P1
abbrev Lay := List (Int × ByteArray)
def Each (w : World) : List Value → List Lay → List Nat → Prop
 | [], [], fs => fs = []
 | v :: vs, l :: ls, fs => ∃ (a : Option Addr) (cap : Nat) (f1 f2 : List Nat), v = .slice a l.length cap ∧ l.length ≤ cap ∧ LaySub w a l f1 ∧ Each w vs ls f2 ∧ fs = f1 ++ f2
 | [], _ :: _, _ => False
 | _ :: _, [], _ => False
theorem Each.len {w : World} : ∀ {vs : List Value} {ls : List Lay} {fs : List Nat}, Each w vs ls fs → vs.length = ls.length
 | [], [], _, _ => rfl
 | v :: vs, l :: ls, fs, h => by
   obtain ⟨_, _, _, _, _, _, _, h2, _⟩ := h
   simp [Each.len h2]
 | [], _ :: _, _, h => h.elim
 | _ :: _, [], _, h => h.elim
theorem Each.congr {w w' : World} : ∀ {vs : List Value} {ls : List Lay} {fs : List Nat}, Each w vs ls fs → (∀ b ∈ fs, ∀ o, w'.cell? ⟨b, o, none⟩ = w.cell? ⟨b, o, none⟩) → Each w' vs ls fs
 | [], [], _, h, _ => h
 | v :: vs, l :: ls, fs, h, hb => by
   obtain ⟨a, cap, f1, f2, rfl, hc, h1, h2, rfl⟩ := h
   exact ⟨a, cap, f1, f2, rfl, hc, h1.congr (fun b hb1 o => hb b (by simp [hb1]) o), h2.congr (fun b hb1 o => hb b (by simp [hb1]) o), rfl⟩
 | [], _ :: _, _, h, _ => h.elim
 | _ :: _, [], _, h, _ => h.elim
theorem Each.lt {w : World} : ∀ {vs : List Value} {ls : List Lay} {fs : List Nat}, Each w vs ls fs → ∀ c ∈ fs, c < w.heap.size
 | [], [], _, h => by rw [show _ = [] from h]; simp
 | v :: vs, l :: ls, fs, h => by
   obtain ⟨a, cap, f1, f2, rfl, hc, h1, h2, rfl⟩ := h
   intro c hc
   rcases List.mem_append.1 hc with hc | hc
   ·exact h1.lt c hc
   ·exact h2.lt c hc
 | [], _ :: _, _, h => h.elim
 | _ :: _, [], _, h => h.elim
theorem Each.app {w : World} : ∀ {vs : List Value} {ls : List Lay} {fs : List Nat} {us : List Value} {ks : List Lay} {gs : List Nat}, Each w vs ls fs → Each w us ks gs → Each w (vs ++ us) (ls ++ ks) (fs ++ gs)
 | [], [], _, us, ks, gs, h, g => by rw [show _ = [] from h]; exact g
 | v :: vs, l :: ls, fs, us, ks, gs, h, g => by
   obtain ⟨a, cap, f1, f2, rfl, hc, h1, h2, rfl⟩ := h
   exact ⟨a, cap, f1, f2 ++ gs, rfl, hc, h1, Each.app h2 g, by simp⟩
 | [], _ :: _, _, _, _, _, h, _ => h.elim
 | _ :: _, [], _, _, _, _, h, _ => h.elim
theorem Each.one {w : World} {a : Option Addr} {l : Lay} {cap : Nat} {f : List Nat} (hc : l.length ≤ cap) (h : LaySub w a l f) : Each w [.slice a l.length cap] [l] f := ⟨a, cap, f, [], rfl, hc, h, rfl, by simp⟩
theorem Each.split {w : World} : ∀ {vs : List Value} {p : List Lay} {l : Lay} {s : List Lay} {fs : List Nat}, Each w vs (p ++ l :: s) fs →
  ∃ (vp : List Value) (a : Option Addr) (cap : Nat) (us : List Value) (fp f g : List Nat), vs = vp ++ .slice a l.length cap :: us ∧ fs = fp ++ (f ++ g) ∧ vp.length = p.length ∧ l.length ≤ cap ∧ Each w vp p fp ∧ LaySub w a l f ∧ Each w us s g
 | [], [], l, s, fs, h => h.elim
 | [], _ :: _, l, s, fs, h => h.elim
 | v :: vs, [], l, s, fs, h => by
   obtain ⟨a, cap, f1, f2, rfl, hc, h1, h2, rfl⟩ := h
   exact ⟨[], a, cap, vs, [], f1, f2, rfl, rfl, rfl, hc, rfl, h1, h2⟩
 | v :: vs, x :: p, l, s, fs, h => by
   obtain ⟨a, cap, f1, f2, rfl, hc, h1, h2, rfl⟩ := h
   obtain ⟨vp, a', cap', us, fp, f, g, rfl, rfl, e, hc', g1, g2, g3⟩ := Each.split (p := p) h2
   exact ⟨_ :: vp, a', cap', us, f1 ++ fp, f, g, rfl, by simp, by simp [e], hc', ⟨a, cap, f1, fp, rfl, hc, h1, g1, rfl⟩, g2, g3⟩
def LLSub (w : World) (a : Option Addr) (ls : List Lay) (fs : List Nat) : Prop :=
 (ls = [] ∧ fs = []) ∨ ∃ (b off : Nat) (vs : List Value) (f : List Nat), a = some ⟨b, off, none⟩ ∧ ls ≠ [] ∧ fs = b :: f ∧ (∀ i v, vs[i]? = some v → w.cell? ⟨b, off + i, none⟩ = some v) ∧ Each w vs ls f
theorem LLSub.congr {w w' : World} {a : Option Addr} {ls : List Lay} {fs : List Nat} (h : LLSub w a ls fs) (hb : ∀ b ∈ fs, ∀ o, w'.cell? ⟨b, o, none⟩ = w.cell? ⟨b, o, none⟩) : LLSub w' a ls fs := by
 rcases h with h | ⟨b, off, vs, f, ha, hl, rfl, hr, he⟩
 ·exact .inl h
 ·exact .inr ⟨b, off, vs, f, ha, hl, rfl, fun i v hv => (hb b (by simp) _).trans (hr i v hv), he.congr (fun c hc o => hb c (by simp [hc]) o)⟩
theorem LLSub.lt {w : World} {a : Option Addr} {ls : List Lay} {fs : List Nat} (h : LLSub w a ls fs) : ∀ c ∈ fs, c < w.heap.size := by
 rcases h with ⟨_, rfl⟩ | ⟨b, off, vs, f, ha, hl, rfl, hr, he⟩
 ·simp
 ·intro c hc
  rcases List.mem_cons.1 hc with rfl | hc
  ·have hv : 0 < vs.length := by rw [he.len]; exact List.length_pos_iff.2 hl
   exact World.block_lt_of_cell? w _ (hr 0 vs[0] (List.getElem?_eq_getElem hv))
  ·exact he.lt c hc
theorem LLSub.below {w w' : World} {a : Option Addr} {ls : List Lay} {fs : List Nat} {B : Nat} (h : LLSub w a ls fs) (hfs : ∀ c ∈ fs, c < B) (k : Below B w w') : LLSub w' a ls fs :=
 h.congr fun b hb _ => k.cell (p := ⟨_, _, _⟩) (hfs b hb)
theorem LLSub.nil (w : World) (a : Option Addr) : LLSub w a [] [] := .inl ⟨rfl, rfl⟩
theorem LLSub.get {w : World} {a : Option Addr} {ls : List Lay} {fs : List Nat} (h : LLSub w a ls fs) {k : Nat} (hk : k < ls.length) :
  ∃ (b off : Nat) (a1 : Option Addr) (c1 : Nat) (f1 : List Nat), a = some ⟨b, off, none⟩ ∧ b < w.heap.size ∧ w.cell? ⟨b, off + k, none⟩ = some (.slice a1 ls[k].length c1) ∧ ls[k].length ≤ c1 ∧ LaySub w a1 ls[k] f1 ∧ (∀ c ∈ f1, c ∈ fs) := by
 have hlt := h.lt
 rcases h with ⟨rfl, _⟩ | ⟨b, off, vs, f, ha, hl, rfl, hr, he⟩
 ·simp at hk
 ·have e : ls = ls.take k ++ ls[k] :: ls.drop (k + 1) := by rw [List.getElem_cons_drop, List.take_append_drop]
  have he' := he
  rw [e] at he'
  obtain ⟨vp, a1, c1, us, fp, f1, g, rfl, rfl, hp, hc1, _, hs, _⟩ := Each.split he'
  rw [List.length_take_of_le (by omega)] at hp
  refine ⟨b, off, a1, c1, f1, ha, hlt b (by simp), ?_, hc1, hs, fun c hc => by simp [hc]⟩
  exact hr k _ (by rw [List.getElem?_append_right (by omega), hp]; simp)
theorem Each.fam {w : World} : ∀ {vs : List Value} {ls : List Lay} {fs : List Nat}, Each w vs ls fs → fs.Nodup → ∃ (A : Nat → Option Addr) (C : Nat → Nat) (g : Nat → List Nat),
  (∀ k, (hk : k < ls.length) → vs[k]? = some (.slice (A k) ls[k].length (C k)) ∧ ls[k].length ≤ C k ∧ LaySub w (A k) ls[k] (g k) ∧ (∀ q ∈ g k, q ∈ fs) ∧ (g k).Nodup) ∧ (∀ j k, j < k → k < ls.length → ∀ q ∈ g j, q ∉ g k)
 | [], [], _, _, _ => ⟨fun _ => none, fun _ => 0, fun _ => [], fun k hk => absurd hk (by simp), fun j k _ hk => absurd hk (by simp)⟩
 | v :: vs, l :: ls, fs, h, hn => by
   obtain ⟨a, cap, f1, f2, rfl, hc, h1, h2, rfl⟩ := h
   obtain ⟨n1, n2, n3⟩ := List.nodup_append.1 hn
   obtain ⟨A, C, g, i1, i2⟩ := Each.fam h2 n2
   refine ⟨fun k => if k = 0 then a else A (k - 1), fun k => if k = 0 then cap else C (k - 1), fun k => if k = 0 then f1 else g (k - 1), fun k hk => ?_, fun j k hj hk q hq hm => ?_⟩
   ·cases k with
    | zero => exact ⟨rfl, hc, h1, fun q hq => List.mem_append_left _ hq, n1⟩
    | succ k =>
      simp only [List.length_cons] at hk
      obtain ⟨e1, e2, e3, e4, e5⟩ := i1 k (by omega)
      simp only [Nat.add_sub_cancel, List.getElem_cons_succ, List.getElem?_cons_succ, if_neg (Nat.succ_ne_zero k)]
      exact ⟨e1, e2, e3, fun q hq => List.mem_append_right _ (e4 q hq), e5⟩
   ·simp only [List.length_cons] at hk
    dsimp only at hq hm
    rw [if_neg (by omega)] at hm
    by_cases hj0 : j = 0
    ·rw [if_pos hj0] at hq
     exact n3 q hq q ((i1 (k - 1) (by omega)).2.2.2.1 q hm) rfl
    ·rw [if_neg hj0] at hq
     exact i2 (j - 1) (k - 1) (by omega) (by omega) q hq hm
 | [], _ :: _, _, h, _ => h.elim
 | _ :: _, [], _, h, _ => h.elim
theorem LLSub.fam {w : World} {a : Option Addr} {ls : List Lay} {fs : List Nat} (h : LLSub w a ls fs) (hn : fs.Nodup) : ∃ (b off : Nat) (A : Nat → Option Addr) (C : Nat → Nat) (g : Nat → List Nat),
  (∀ k, (hk : k < ls.length) → a = some ⟨b, off, none⟩ ∧ b ∈ fs ∧ w.cell? ⟨b, off + k, none⟩ = some (.slice (A k) ls[k].length (C k)) ∧ ls[k].length ≤ C k ∧ LaySub w (A k) ls[k] (g k) ∧ (∀ q ∈ g k, q ∈ fs) ∧ (g k).Nodup) ∧ (∀ j k, j < k → k < ls.length → ∀ q ∈ g j, q ∉ g k) := by
 rcases h with ⟨rfl, _⟩ | ⟨b, off, vs, f, rfl, hl, rfl, hr, he⟩
 ·exact ⟨0, 0, fun _ => none, fun _ => 0, fun _ => [], fun k hk => absurd hk (by simp), fun j k _ hk => absurd hk (by simp)⟩
 ·obtain ⟨A, C, g, i1, i2⟩ := he.fam (List.nodup_cons.1 hn).2
  exact ⟨b, off, A, C, g, fun k hk => ⟨rfl, by simp, hr k _ (i1 k hk).1, (i1 k hk).2.1, (i1 k hk).2.2.1, fun q hq => List.mem_cons_of_mem _ ((i1 k hk).2.2.2.1 q hq), (i1 k hk).2.2.2.2⟩, i2⟩
def Acc (w : World) (T : TypeId) (lo : Nat) (v : Value) (ls : List Lay) (f : List Nat) : Prop :=
 ∃ vs, w.ownsRow lo T 1 v ls.length vs ∧ Each w vs ls f ∧ Fresh lo w f ∧ (∀ q, v.ownBlock = some q → q ∉ f) ∧ lo ≤ w.heap.size
theorem Acc.start (w : World) (T : TypeId) (lo : Nat) (h : lo ≤ w.heap.size) : Acc w T lo (.slice none 0 0) [] [] := ⟨[], w.ownsRow_nil lo T 1, rfl, Fresh.nil _ _, by simp, h⟩
theorem Acc.made (w : World) (T : TypeId) (lo : Nat) (h : lo ≤ w.heap.size) : Acc (w.alloc (.cells #[] T)) T lo (.slice (some ⟨w.heap.size, 0, none⟩) 0 0) [] [] :=
 ⟨[], w.ownsRow_made #[] 0 h (by simp [maxLen]) rfl, rfl, Fresh.nil _ _, by simp, by simp; omega⟩
theorem Acc.kept {w w' : World} {T : TypeId} {lo : Nat} {v : Value} {ls : List Lay} {f : List Nat} (h : Acc w T lo v ls f) {row : Option Nat} (hg : w.grownBy w' row) (hv : ∀ q, row = some q → v.ownBlock ≠ some q ∧ q ∉ f) : Acc w' T lo v ls f := by
 obtain ⟨vs, h1, h2, h3, h4, h5⟩ := h
 have hb : ∀ c ∈ f, w'.heap[c]? = w.heap[c]? := fun c hc => hg.block c (h3.lt c hc) (fun e => (hv c e.symm).2 hc)
 refine ⟨vs, h1.kept hg ?_, h2.congr (fun c hc o => World.cell?_of_block (w := w) (hb c hc)), ?_, h4, Nat.le_trans h5 hg.size⟩
 ·cases hr : row with
  | none => cases hvo : v.ownBlock <;> simp
  | some q => exact .inr (hv q hr).1
 ·exact ⟨h3.1, fun c hc => ⟨(h3.2 c hc).1, Nat.lt_of_lt_of_le (h3.2 c hc).2.1 hg.size, fun o => (World.frozen?_of_block (w := w) (hb c hc)).trans ((h3.2 c hc).2.2 o)⟩⟩
theorem grown_of_ext {w w' : World} (k : Ext w w') : w.grownBy w' none := ⟨k.os, k.tape, k.output, k.size, fun i hi _ => k.block i hi⟩
theorem Acc.ext {w w' : World} {T : TypeId} {lo : Nat} {v : Value} {ls : List Lay} {f : List Nat} (h : Acc w T lo v ls f) (k : Ext w w') : Acc w' T lo v ls f := h.kept (grown_of_ext k) (by simp)
theorem Acc.own_lt {w : World} {T : TypeId} {lo : Nat} {v : Value} {ls : List Lay} {f : List Nat} (h : Acc w T lo v ls f) : ∀ q, v.ownBlock = some q → lo ≤ q ∧ q < w.heap.size := by
 obtain ⟨vs, h1, _⟩ := h; exact h1.lt
theorem Acc.own_cells {w : World} {T : TypeId} {lo : Nat} {v : Value} {ls : List Lay} {f : List Nat} (h : Acc w T lo v ls f) : ∀ q, v.ownBlock = some q → ∃ cur, w.heap[q]? = some (.cells cur T (0, 0)) := by
 obtain ⟨vs, h1, _⟩ := h
 intro q hq
 rcases h1.2 with ⟨rfl, _⟩ | ⟨g, cap, cur, rfl, _, hgb, _⟩
 ·cases hq
 ·simp only [Value.ownBlock, Option.some.injEq] at hq
  subst hq
  exact ⟨cur, hgb⟩
theorem Acc.ge {w : World} {T : TypeId} {lo : Nat} {v : Value} {ls : List Lay} {f : List Nat} (h : Acc w T lo v ls f) : ∀ q ∈ f, lo ≤ q := by
 obtain ⟨vs, _, _, h3, _⟩ := h
 exact fun q hq => (h3.2 q hq).1
theorem Acc.lt {w : World} {T : TypeId} {lo : Nat} {v : Value} {ls : List Lay} {f : List Nat} (h : Acc w T lo v ls f) : ∀ q ∈ f, q < w.heap.size := by
 obtain ⟨vs, _, _, h3, _⟩ := h
 exact h3.lt
theorem Acc.slice {w : World} {T : TypeId} {lo : Nat} {v : Value} {ls : List Lay} {f : List Nat} (h : Acc w T lo v ls f) : ∃ (a : Option Addr) (cap : Nat) (fs : List Nat), v = .slice a ls.length cap ∧ ls.length ≤ cap ∧ cap ≤ maxLen ∧ LLSub w a ls fs ∧ Fresh lo w fs ∧ (∀ c ∈ fs, v.ownBlock = some c ∨ c ∈ f) ∧ (v = .slice none 0 0 ∨ ∃ b, a = some ⟨b, 0, none⟩) := by
 obtain ⟨vs, h1, h2, h3, h4, h5⟩ := h
 rcases h1.2 with ⟨rfl, h0⟩ | ⟨g, cap, cur, rfl, hg, hgb, hle, hcm, hcs, htk⟩
 ·have hl : ls = [] := List.length_eq_zero_iff.1 h0
  subst hl
  exact ⟨none, 0, [], by simp, by simp, by simp [maxLen], .inl ⟨rfl, rfl⟩, Fresh.nil _ _, by simp, .inl rfl⟩
 ·by_cases hl : ls = []
  ·subst hl
   exact ⟨_, cap, [], rfl, hle, hcm, .inl ⟨rfl, rfl⟩, Fresh.nil _ _, by simp, .inr ⟨g, rfl⟩⟩
  ·refine ⟨_, cap, g :: f, rfl, hle, hcm, .inr ⟨g, 0, vs, f, rfl, hl, rfl, fun i u hu => ?_, h2⟩, ⟨List.nodup_cons.2 ⟨h4 g rfl, h3.1⟩, fun c hc => ?_⟩, fun c hc => ?_, .inr ⟨g, rfl⟩⟩
   ·have := h1.cells (g := g) rfl i u hu
    rw [show (⟨g, 0, none⟩ : Addr).add i = ⟨g, 0 + i, none⟩ by unfold Addr.add; split <;> simp_all] at this
    exact this
   ·rcases List.mem_cons.1 hc with rfl | hc
    ·exact ⟨hg, (Array.getElem?_eq_some_iff.1 hgb).1, fun o => frozen_of_row w _ _ _ _ hgb⟩
    ·exact h3.2 c hc
   ·rcases List.mem_cons.1 hc with rfl | hc
    ·exact .inl rfl
    ·exact .inr hc
section
variable {P : Program}
theorem append_where1 (w : World) (t ty e : TypeId) (i : TypeInfo) (z : Value) (ht : P.underlying t = some (.slice e)) (hi : P.info? e = some i) (hz : i.zero = some z) (h4 : i.size = 1) (h56 : i.bytes = 24)
  (lo : Nat) (v : Value) (n : Nat) (xs : List Value) (hown : w.ownsRow lo e 1 v n xs)
  (a : Addr) (c : Nat) (u : Value) (hnews : w.cell? a = some u) (h1 : u.oneCell' = true)
  (hn : n + 1 ≤ 1099511627776) {v' : Value} {w' : World} (hr : (Builtin.append_ #[t, t] ty #[v, .slice (some a) 1 c]).run P w = .ok v' w') :
  ∃ b cap, v' = .slice (some ⟨b, 0, none⟩) (n + 1) cap ∧ (some b = v.ownBlock ∨ b = w.heap.size) := by
 have hnews' : ∀ j y, [u][j]? = some y → w.cell? (a.add j) = some y := by
  intro j y hy
  match j, hy with
  | 0, hy => simp at hy; rw [← hy, show a.add 0 = a by unfold Addr.add; split <;> simp_all]; exact hnews
  | j + 1, hy => simp at hy
 have hone : ∀ y ∈ [u], y.oneCell' = true := by simpa using h1
 rcases hown.2 with ⟨rfl, rfl⟩ | ⟨g, cap, cur, rfl, hbg, hg, hnc, hcm, hcs, htake⟩
 ·rw [run_append_nil (P := P) w t ty e i z ht hi hz a 1 c [u] (by rw [h4]; rfl) hnews' (by omega) (by omega) (by omega)] at hr
  injection hr with e1 e2
  exact ⟨_, _, by rw [← e1], .inr rfl⟩
 ·by_cases hroom : n + 1 ≤ cap
  ·rw [run_append_room (P := P) w t ty e i ht hi g n cap cur hg a 1 c [u] (by rw [h4]; rfl) hnews' hone hroom (by rw [hcs, h4]; simp; omega)] at hr
   injection hr with e1 e2
   exact ⟨_, _, by rw [← e1], .inl rfl⟩
  ·have holds : ∀ j y, xs[j]? = some y → w.cell? ((⟨g, 0, none⟩ : Addr).add j) = some y := hown.cells (g := g) rfl
   rw [run_append_grow (P := P) w t ty e i z ht hi hz ⟨g, 0, none⟩ n cap xs (by rw [h4]; exact hown.1) holds a 1 c [u] (by rw [h4]; rfl) hnews' (by omega) (by omega) (growslice_fits (by omega) (by rw [h56]; omega))] at hr
   injection hr with e1 e2
   exact ⟨_, _, by rw [← e1], .inr rfl⟩
theorem Acc.append {w : World} {t ty e : TypeId} {i : TypeInfo} {z : Value} (ht : P.underlying t = some (.slice e)) (hi : P.info? e = some i) (hz : i.zero = some z) (h4 : i.size = 1) (h56 : i.bytes = 24) (hzs : z.cells.size = 1)
  {lo : Nat} {v : Value} {ls : List Lay} {f : List Nat} (G : Acc w e lo v ls f) {p : Addr} {c : Nat} {a : Option Addr} {cap : Nat} {l : Lay} {f1 : List Nat}
  (c0 : w.cell? p = some (.slice a l.length cap)) (hc : l.length ≤ cap) (hs : LaySub w a l f1) (hf : Fresh lo w f1) (hd : ∀ q ∈ f1, q ∉ f) (ho : ∀ q, v.ownBlock = some q → q ∉ f1) (hl : ls.length + 1 ≤ 1099511627776) :
  ∃ v' w', (Builtin.append_ #[t, t] ty #[v, .slice (some p) 1 c]).run P w = .ok v' w' ∧ Acc w' e lo v' (ls ++ [l]) (f ++ f1) ∧ Below lo w w' ∧ w.grownBy w' v.ownBlock ∧ (∃ b cap', v' = .slice (some ⟨b, 0, none⟩) (ls.length + 1) cap' ∧ (some b = v.ownBlock ∨ b = w.heap.size)) := by
 obtain ⟨vs, h1, h2, h3, h4', h5⟩ := G
 have hnews : ∀ j y, [Value.slice a l.length cap][j]? = some y → w.cell? (p.add j) = some y := by
  intro j y hy
  match j, hy with
  | 0, hy => simp at hy; rw [← hy, show p.add 0 = p by unfold Addr.add; split <;> simp_all]; exact c0
  | j + 1, hy => simp at hy
 obtain ⟨v', w', hr, hown, hgr, _⟩ := run_append_own (P := P) w lo t ty e i z 1 24 ht hi hz h4 h56 hzs (by omega) v ls.length vs h1 p 1 c _ rfl hnews (by simp [Value.oneCell']) (by unfold maxLen; omega) (by omega) h5
 obtain ⟨b, cp, rfl, hb⟩ := append_where1 (P := P) w t ty e i z ht hi hz h4 h56 lo v ls.length vs h1 p c _ c0 (by simp [Value.oneCell']) hl hr
 have hkeep : ∀ q, q < w.heap.size → v.ownBlock ≠ some q → w'.heap[q]? = w.heap[q]? := fun q hq hne => hgr.block q hq (fun e => hne e.symm)
 have hfk : ∀ q ∈ f, w'.heap[q]? = w.heap[q]? := fun q hq => hkeep q (h3.lt q hq) (fun e => h4' q e hq)
 have hfk1 : ∀ q ∈ f1, w'.heap[q]? = w.heap[q]? := fun q hq => hkeep q (hf.lt q hq) (fun e => ho q e hq)
 refine ⟨_, w', hr, ⟨vs ++ [.slice a l.length cap], ?_, (h2.congr fun q hq o => World.cell?_of_block (w := w) (hfk q hq)).app (Each.one hc (hs.congr fun q hq o => World.cell?_of_block (w := w) (hfk1 q hq))), ?_, ?_, Nat.le_trans h5 hgr.size⟩, ?_, hgr, ⟨b, cp, rfl, hb⟩⟩
 ·rw [List.length_append]; exact hown
 ·refine ⟨List.nodup_append.2 ⟨h3.1, hf.1, fun x hx y hy e => hd y hy (e ▸ hx)⟩, fun q hq => ?_⟩
  rcases List.mem_append.1 hq with hq | hq
  ·exact ⟨(h3.2 q hq).1, Nat.lt_of_lt_of_le (h3.lt q hq) hgr.size, fun o => (World.frozen?_of_block (w := w) (hfk q hq)).trans ((h3.2 q hq).2.2 o)⟩
  ·exact ⟨(hf.2 q hq).1, Nat.lt_of_lt_of_le (hf.lt q hq) hgr.size, fun o => (World.frozen?_of_block (w := w) (hfk1 q hq)).trans ((hf.2 q hq).2.2 o)⟩
 ·intro q hq hm
  simp only [Value.ownBlock, Option.some.injEq] at hq
  subst hq
  rcases hb with hb | hb
  ·rcases List.mem_append.1 hm with hm | hm
   ·exact h4' _ hb.symm hm
   ·exact ho _ hb.symm hm
  ·rcases List.mem_append.1 hm with hm | hm
   ·have := h3.lt _ hm; omega
   ·have := hf.lt _ hm; omega
 ·exact ⟨hgr.os, hgr.tape, hgr.output, hgr.size, fun q hq => hgr.block q (by omega) (fun e => by have := h1.lt q e.symm; omega)⟩
end
theorem snoc_ind {P : List Lay → Prop} (h0 : P []) (h1 : ∀ l x, P l → P (l ++ [x])) (l : List Lay) : P l := by
 have : ∀ k : List Lay, P k.reverse := by
  intro k
  induction k with
  | nil => exact h0
  | cons x k ih => rw [List.reverse_cons]; exact h1 _ _ ih
 have h := this l.reverse
 rwa [List.reverse_reverse] at h
def inL (ls : List Lay) (l : Lay) : Bool := ls.any fun x => decide (x = l)
theorem inL_iff {ls : List Lay} {l : Lay} : inL ls l = true ↔ l ∈ ls := by
 unfold inL; rw [List.any_eq_true]
 constructor
 ·rintro ⟨x, hx, e⟩; rw [decide_eq_true_eq] at e; exact e ▸ hx
 ·intro h; exact ⟨l, h, by simp⟩
def dist (ls : List Lay) : List Lay := ls.foldl (fun acc l => if inL acc l then acc else acc ++ [l]) []
theorem dist_snoc (ls : List Lay) (l : Lay) : dist (ls ++ [l]) = if inL (dist ls) l then dist ls else dist ls ++ [l] := by unfold dist; rw [List.foldl_append]; rfl
def least (f : Lay → Int) : List Lay → Lay
 | [] => []
 | x :: ls => ls.foldl (fun m l => if f l < f m then l else m) x
theorem least_snoc (f : Lay → Int) (x : Lay) (ls : List Lay) (l : Lay) : least f (x :: (ls ++ [l])) = if f l < f (least f (x :: ls)) then l else least f (x :: ls) := by simp only [least]; rw [List.foldl_append]; rfl
theorem least_mem (f : Lay → Int) (ls : List Lay) : ∀ x, least f (x :: ls) ∈ x :: ls := by
 induction ls using snoc_ind with
 | h0 => intro x; simp [least]
 | h1 ls l ih =>
   intro x
   rw [least_snoc]
   have := ih x
   split
   ·simp
   ·rw [List.mem_cons] at this ⊢
    rcases this with h | h
    ·exact .inl h
    ·exact .inr (List.mem_append_left _ h)
theorem least_le (f : Lay → Int) (ls : List Lay) : ∀ x, ∀ l ∈ x :: ls, f (least f (x :: ls)) ≤ f l := by
 induction ls using snoc_ind with
 | h0 => intro x l hl; simp at hl; subst hl; exact Int.le_refl _
 | h1 ls y ih =>
   intro x l hl
   rw [least_snoc]
   have h0 := ih x
   rw [← List.cons_append, List.mem_append, List.mem_singleton] at hl
   split
   ·rcases hl with hl | rfl
    ·have := h0 l hl; omega
    ·exact Int.le_refl _
   ·rcases hl with hl | rfl
    ·exact h0 l hl
    ·omega
end Go.Proofs.YtclifbjnooilmaaGreat.Ls

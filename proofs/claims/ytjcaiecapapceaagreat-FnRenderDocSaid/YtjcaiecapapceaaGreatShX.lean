import Derived.Test.YtjcaiecapapceaaGreatChP
import Derived.Test.YtjcaiecapapceaaGreatOpX
/-
 Lists of layouts, and how they lie in memory; nothing here speaks of the program.
-/
set_option linter.unusedVariables false
set_option linter.unusedSimpArgs false
set_option maxRecDepth 100000
set_option maxHeartbeats 3200000
namespace Go.Proofs.YtjcaiecapapceaaGreat.Ls
open Go.RowKit P1
abbrev Lay := List (Int × ByteArray)
def Each (w : World) : List Value → List Lay → List Nat → Prop
 | [], [], fs => fs = []
 | v :: vs, l :: ls, fs => ∃ (a : Option Addr) (cap : Nat) (f1 f2 : List Nat), v = .slice a l.length cap ∧ l.length ≤ cap ∧ LaySub w a l f1 ∧ Each w vs ls f2 ∧ fs = f1 ++ f2
 | [], _ :: _, _ => False
 | _ :: _, [], _ => False
theorem Each.len {w : World} : ∀ {vs : List Value} {ls : List Lay} {fs : List Nat}, Each w vs ls fs → vs.length = ls.length
 | [], [], _, _ => rfl
 | v :: vs, l :: ls, fs, h => by
   obtain ⟨_, _, _, _, _, _, _, h2, _⟩ := h
   simp [Each.len h2]
 | [], _ :: _, _, h => h.elim
 | _ :: _, [], _, h => h.elim
theorem Each.congr {w w' : World} : ∀ {vs : List Value} {ls : List Lay} {fs : List Nat}, Each w vs ls fs → (∀ b ∈ fs, ∀ o, w'.cell? ⟨b, o, none⟩ = w.cell? ⟨b, o, none⟩) → Each w' vs ls fs
 | [], [], _, h, _ => h
 | v :: vs, l :: ls, fs, h, hb => by
   obtain ⟨a, cap, f1, f2, rfl, hc, h1, h2, rfl⟩ := h
   exact ⟨a, cap, f1, f2, rfl, hc, h1.congr (fun b hb1 o => hb b (by simp [hb1]) o), h2.congr (fun b hb1 o => hb b (by simp [hb1]) o), rfl⟩
 | [], _ :: _, _, h, _ => h.elim
 | _ :: _, [], _, h, _ => h.elim
theorem Each.lt {w : World} : ∀ {vs : List Value} {ls : List Lay} {fs : List Nat}, Each w vs ls fs → ∀ c ∈ fs, c < w.heap.size
 | [], [], _, h => by rw [show _ = [] from h]; simp
 | v :: vs, l :: ls, fs, h => by
   obtain ⟨a, cap, f1, f2, rfl, hc, h1, h2, rfl⟩ := h
   intro c hc
   rcases List.mem_append.1 hc with hc | hc
   ·exact h1.lt c hc
   ·exact h2.lt c hc
 | [], _ :: _, _, h => h.elim
 | _ :: _, [], _, h => h.elim
theorem Each.app {w : World} : ∀ {vs : List Value} {ls : List Lay} {fs : List Nat} {us : List Value} {ks : List Lay} {gs : List Nat}, Each w vs ls fs → Each w us ks gs → Each w (vs ++ us) (ls ++ ks) (fs ++ gs)
 | [], [], _, us, ks, gs, h, g => by rw [show _ = [] from h]; exact g
 | v :: vs, l :: ls, fs, us, ks, gs, h, g => by
   obtain ⟨a, cap, f1, f2, rfl, hc, h1, h2, rfl⟩ := h
   exact ⟨a, cap, f1, f2 ++ gs, rfl, hc, h1, Each.app h2 g, by simp⟩
 | [], _ :: _, _, _, _, _, h, _ => h.elim
 | _ :: _, [], _, _, _, _, h, _ => h.elim
theorem Each.one {w : World} {a : Option Addr} {l : Lay} {cap : Nat} {f : List Nat} (hc : l.length ≤ cap) (h : LaySub w a l f) : Each w [.slice a l.length cap] [l] f := ⟨a, cap, f, [], rfl, hc, h, rfl, by simp⟩
theorem Each.split {w : World} : ∀ {vs : List Value} {p : List Lay} {l : Lay} {s : List Lay} {fs : List Nat}, Each w vs (p ++ l :: s) fs →
  ∃ (vp : List Value) (a : Option Addr) (cap : Nat) (us : List Value) (fp f g : List Nat), vs = vp ++ .slice a l.length cap :: us ∧ fs = fp ++ (f ++ g) ∧ vp.length = p.length ∧ l.length ≤ cap ∧ Each w vp p fp ∧ LaySub w a l f ∧ Each w us s g
 | [], [], l, s, fs, h => h.elim
 | [], _ :: _, l, s, fs, h => h.elim
 | v :: vs, [], l, s, fs, h => by
   obtain ⟨a, cap, f1, f2, rfl, hc, h1, h2, rfl⟩ := h
   exact ⟨[], a, cap, vs, [], f1, f2, rfl, rfl, rfl, hc, rfl, h1, h2⟩
 | v :: vs, x :: p, l, s, fs, h => by
   obtain ⟨a, cap, f1, f2, rfl, hc, h1, h2, rfl⟩ := h
   obtain ⟨vp, a', cap', us, fp, f, g, rfl, rfl, e, hc', g1, g2, g3⟩ := Each.split (p := p) h2
   exact ⟨_ :: vp, a', cap', us, f1 ++ fp, f, g, rfl, by simp, by simp [e], hc', ⟨a, cap, f1, fp, rfl, hc, h1, g1, rfl⟩, g2, g3⟩
def LLSub (w : World) (a : Option Addr) (ls : List Lay) (fs : List Nat) : Prop :=
 (ls = [] ∧ fs = []) ∨ ∃ (b off : Nat) (vs : List Value) (f : List Nat), a = some ⟨b, off, none⟩ ∧ ls ≠ [] ∧ fs = b :: f ∧ (∀ i v, vs[i]? = some v → w.cell? ⟨b, off + i, none⟩ = some v) ∧ Each w vs ls f
theorem LLSub.congr {w w' : World} {a : Option Addr} {ls : List Lay} {fs : List Nat} (h : LLSub w a ls fs) (hb : ∀ b ∈ fs, ∀ o, w'.cell? ⟨b, o, none⟩ = w.cell? ⟨b, o, none⟩) : LLSub w' a ls fs := by
 rcases h with h | ⟨b, off, vs, f, ha, hl, rfl, hr, he⟩
 ·exact .inl h
 ·exact .inr ⟨b, off, vs, f, ha, hl, rfl, fun i v hv => (hb b (by simp) _).trans (hr i v hv), he.congr (fun c hc o => hb c (by simp [hc]) o)⟩
theorem LLSub.lt {w : World} {a : Option Addr} {ls : List Lay} {fs : List Nat} (h : LLSub w a ls fs) : ∀ c ∈ fs, c < w.heap.size := by
 rcases h with ⟨_, rfl⟩ | ⟨b, off, vs, f, ha, hl, rfl, hr, he⟩
 ·simp
 ·intro c hc
  rcases List.mem_cons.1 hc with rfl | hc
  ·have hv : 0 < vs.length := by rw [he.len]; exact List.length_pos_iff.2 hl
   exact World.block_lt_of_cell? w _ (hr 0 vs[0] (List.getElem?_eq_getElem hv))
  ·exact he.lt c hc
theorem LLSub.below {w w' : World} {a : Option Addr} {ls : List Lay} {fs : List Nat} {B : Nat} (h : LLSub w a ls fs) (hfs : ∀ c ∈ fs, c < B) (k : Below B w w') : LLSub w' a ls fs :=
 h.congr fun b hb _ => k.cell (p := ⟨_, _, _⟩) (hfs b hb)
theorem LLSub.nil (w : World) (a : Option Addr) : LLSub w a [] [] := .inl ⟨rfl, rfl⟩
theorem LLSub.get {w : World} {a : Option Addr} {ls : List Lay} {fs : List Nat} (h : LLSub w a ls fs) {k : Nat} (hk : k < ls.length) :
  ∃ (b off : Nat) (a1 : Option Addr) (c1 : Nat) (f1 : List Nat), a = some ⟨b, off, none⟩ ∧ b < w.heap.size ∧ w.cell? ⟨b, off + k, none⟩ = some (.slice a1 ls[k].length c1) ∧ ls[k].length ≤ c1 ∧ LaySub w a1 ls[k] f1 ∧ (∀ c ∈ f1, c ∈ fs) := by
 have hlt := h.lt
 rcases h with ⟨rfl, _⟩ | ⟨b, off, vs, f, ha, hl, rfl, hr, he⟩
 ·simp at hk
 ·have e : ls = ls.take k ++ ls[k] :: ls.drop (k + 1) := by rw [List.getElem_cons_drop, List.take_append_drop]
  have he' := he
  rw [e] at he'
  obtain ⟨vp, a1, c1, us, fp, f1, g, rfl, rfl, hp, hc1, _, hs, _⟩ := Each.split he'
  rw [List.length_take_of_le (by omega)] at hp
  refine ⟨b, off, a1, c1, f1, ha, hlt b (by simp), ?_, hc1, hs, fun c hc => by simp [hc]⟩
  exact hr k _ (by rw [List.getElem?_append_right (by omega), hp]; simp)
def Acc (w : World) (T : TypeId) (lo : Nat) (v : Value) (ls : List Lay) (f : List Nat) : Prop :=
 ∃ vs, w.ownsRow lo T 1 v ls.length vs ∧ Each w vs ls f ∧ Fresh lo w f ∧ (∀ q, v.ownBlock = some q → q ∉ f) ∧ lo ≤ w.heap.size
theorem Acc.start (w : World) (T : TypeId) (lo : Nat) (h : lo ≤ w.heap.size) : Acc w T lo (.slice none 0 0) [] [] := ⟨[], w.ownsRow_nil lo T 1, rfl, Fresh.nil _ _, by simp, h⟩
theorem Acc.kept {w w' : World} {T : TypeId} {lo : Nat} {v : Value} {ls : List Lay} {f : List Nat} (h : Acc w T lo v ls f) {row : Option Nat} (hg : w.grownBy w' row) (hv : ∀ q, row = some q → v.ownBlock ≠ some q ∧ q ∉ f) : Acc w' T lo v ls f := by
 obtain ⟨vs, h1, h2, h3, h4, h5⟩ := h
 have hb : ∀ c ∈ f, w'.heap[c]? = w.heap[c]? := fun c hc => hg.block c (h3.lt c hc) (fun e => (hv c e.symm).2 hc)
 refine ⟨vs, h1.kept hg ?_, h2.congr (fun c hc o => World.cell?_of_block (w := w) (hb c hc)), ?_, h4, Nat.le_trans h5 hg.size⟩
 ·cases hr : row with
  | none => cases hvo : v.ownBlock <;> simp
  | some q => exact .inr (hv q hr).1
 ·exact ⟨h3.1, fun c hc => ⟨(h3.2 c hc).1, Nat.lt_of_lt_of_le (h3.2 c hc).2.1 hg.size, fun o => (World.frozen?_of_block (w := w) (hb c hc)).trans ((h3.2 c hc).2.2 o)⟩⟩
theorem grown_of_ext {w w' : World} (k : Ext w w') : w.grownBy w' none := ⟨k.os, k.tape, k.output, k.size, fun i hi _ => k.block i hi⟩
theorem Acc.ext {w w' : World} {T : TypeId} {lo : Nat} {v : Value} {ls : List Lay} {f : List Nat} (h : Acc w T lo v ls f) (k : Ext w w') : Acc w' T lo v ls f := h.kept (grown_of_ext k) (by simp)
theorem Acc.own_lt {w : World} {T : TypeId} {lo : Nat} {v : Value} {ls : List Lay} {f : List Nat} (h : Acc w T lo v ls f) : ∀ q, v.ownBlock = some q → lo ≤ q ∧ q < w.heap.size := by
 obtain ⟨vs, h1, _⟩ := h; exact h1.lt
theorem Acc.own_cells {w : World} {T : TypeId} {lo : Nat} {v : Value} {ls : List Lay} {f : List Nat} (h : Acc w T lo v ls f) : ∀ q, v.ownBlock = some q → ∃ cur, w.heap[q]? = some (.cells cur T (0, 0)) := by
 obtain ⟨vs, h1, _⟩ := h
 intro q hq
 rcases h1.2 with ⟨rfl, _⟩ | ⟨g, cap, cur, rfl, _, hgb, _⟩
 ·cases hq
 ·simp only [Value.ownBlock, Option.some.injEq] at hq
  subst hq
  exact ⟨cur, hgb⟩
theorem Acc.ge {w : World} {T : TypeId} {lo : Nat} {v : Value} {ls : List Lay} {f : List Nat} (h : Acc w T lo v ls f) : ∀ q ∈ f, lo ≤ q := by
 obtain ⟨vs, _, _, h3, _⟩ := h
 exact fun q hq => (h3.2 q hq).1
theorem Acc.lt {w : World} {T : TypeId} {lo : Nat} {v : Value} {ls : List Lay} {f : List Nat} (h : Acc w T lo v ls f) : ∀ q ∈ f, q < w.heap.size := by
 obtain ⟨vs, _, _, h3, _⟩ := h
 exact h3.lt
theorem Acc.slice {w : World} {T : TypeId} {lo : Nat} {v : Value} {ls : List Lay} {f : List Nat} (h : Acc w T lo v ls f) : ∃ (a : Option Addr) (cap : Nat) (fs : List Nat), v = .slice a ls.length cap ∧ ls.length ≤ cap ∧ cap ≤ maxLen ∧ LLSub w a ls fs ∧ Fresh lo w fs ∧ (∀ c ∈ fs, v.ownBlock = some c ∨ c ∈ f) ∧ (v = .slice none 0 0 ∨ ∃ b, a = some ⟨b, 0, none⟩) := by
 obtain ⟨vs, h1, h2, h3, h4, h5⟩ := h
 rcases h1.2 with ⟨rfl, h0⟩ | ⟨g, cap, cur, rfl, hg, hgb, hle, hcm, hcs, htk⟩
 ·have hl : ls = [] := List.length_eq_zero_iff.1 h0
  subst hl
  exact ⟨none, 0, [], by simp, by simp, by simp [maxLen], .inl ⟨rfl, rfl⟩, Fresh.nil _ _, by simp, .inl rfl⟩
 ·by_cases hl : ls = []
  ·subst hl
   exact ⟨_, cap, [], rfl, hle, hcm, .inl ⟨rfl, rfl⟩, Fresh.nil _ _, by simp, .inr ⟨g, rfl⟩⟩
  ·refine ⟨_, cap, g :: f, rfl, hle, hcm, .inr ⟨g, 0, vs, f, rfl, hl, rfl, fun i u hu => ?_, h2⟩, ⟨List.nodup_cons.2 ⟨h4 g rfl, h3.1⟩, fun c hc => ?_⟩, fun c hc => ?_, .inr ⟨g, rfl⟩⟩
   ·have := h1.cells (g := g) rfl i u hu
    rw [show (⟨g, 0, none⟩ : Addr).add i = ⟨g, 0 + i, none⟩ by unfold Addr.add; split <;> simp_all] at this
    exact this
   ·rcases List.mem_cons.1 hc with rfl | hc
    ·exact ⟨hg, (Array.getElem?_eq_some_iff.1 hgb).1, fun o => frozen_of_row w _ _ _ _ hgb⟩
    ·exact h3.2 c hc
   ·rcases List.mem_cons.1 hc with rfl | hc
    ·exact .inl rfl
    ·exact .inr hc
section
variable {P : Program}
theorem append_where1 (w : World) (t ty e : TypeId) (i : TypeInfo) (z : Value) (ht : P.underlying t = some (.slice e)) (hi : P.info? e = some i) (hz : i.zero = some z) (h4 : i.size = 1) (h56 : i.bytes = 24)
  (lo : Nat) (v : Value) (n : Nat) (xs : List Value) (hown : w.ownsRow lo e 1 v n xs)
  (a : Addr) (c : Nat) (u : Value) (hnews : w.cell? a = some u) (h1 : u.oneCell' = true)
  (hn : n + 1 ≤ 1099511627776) {v' : Value} {w' : World} (hr : (Builtin.append_ #[t, t] ty #[v, .slice (some a) 1 c]).run P w = .ok v' w') :
  ∃ b cap, v' = .slice (some ⟨b, 0, none⟩) (n + 1) cap ∧ (some b = v.ownBlock ∨ b = w.heap.size) := by
 have hnews' : ∀ j y, [u][j]? = some y → w.cell? (a.add j) = some y := by
  intro j y hy
  match j, hy with
  | 0, hy => simp at hy; rw [← hy, show a.add 0 = a by unfold Addr.add; split <;> simp_all]; exact hnews
  | j + 1, hy => simp at hy
 have hone : ∀ y ∈ [u], y.oneCell' = true := by simpa using h1
 rcases hown.2 with ⟨rfl, rfl⟩ | ⟨g, cap, cur, rfl, hbg, hg, hnc, hcm, hcs, htake⟩
 ·rw [run_append_nil (P := P) w t ty e i z ht hi hz a 1 c [u] (by rw [h4]; rfl) hnews' (by omega) (by omega) (by omega)] at hr
  injection hr with e1 e2
  exact ⟨_, _, by rw [← e1], .inr rfl⟩
 ·by_cases hroom : n + 1 ≤ cap
  ·rw [run_append_room (P := P) w t ty e i ht hi g n cap cur hg a 1 c [u] (by rw [h4]; rfl) hnews' hone hroom (by rw [hcs, h4]; simp; omega)] at hr
   injection hr with e1 e2
   exact ⟨_, _, by rw [← e1], .inl rfl⟩
  ·have holds : ∀ j y, xs[j]? = some y → w.cell? ((⟨g, 0, none⟩ : Addr).add j) = some y := hown.cells (g := g) rfl
   rw [run_append_grow (P := P) w t ty e i z ht hi hz ⟨g, 0, none⟩ n cap xs (by rw [h4]; exact hown.1) holds a 1 c [u] (by rw [h4]; rfl) hnews' (by omega) (by omega) (growslice_fits (by omega) (by rw [h56]; omega))] at hr
   injection hr with e1 e2
   exact ⟨_, _, by rw [← e1], .inr rfl⟩
theorem Acc.append {w : World} {t ty e : TypeId} {i : TypeInfo} {z : Value} (ht : P.underlying t = some (.slice e)) (hi : P.info? e = some i) (hz : i.zero = some z) (h4 : i.size = 1) (h56 : i.bytes = 24) (hzs : z.cells.size = 1)
  {lo : Nat} {v : Value} {ls : List Lay} {f : List Nat} (G : Acc w e lo v ls f) {p : Addr} {c : Nat} {a : Option Addr} {cap : Nat} {l : Lay} {f1 : List Nat}
  (c0 : w.cell? p = some (.slice a l.length cap)) (hc : l.length ≤ cap) (hs : LaySub w a l f1) (hf : Fresh lo w f1) (hd : ∀ q ∈ f1, q ∉ f) (ho : ∀ q, v.ownBlock = some q → q ∉ f1) (hl : ls.length + 1 ≤ 1099511627776) :
  ∃ v' w', (Builtin.append_ #[t, t] ty #[v, .slice (some p) 1 c]).run P w = .ok v' w' ∧ Acc w' e lo v' (ls ++ [l]) (f ++ f1) ∧ Below lo w w' ∧ w.grownBy w' v.ownBlock ∧ (∃ b cap', v' = .slice (some ⟨b, 0, none⟩) (ls.length + 1) cap' ∧ (some b = v.ownBlock ∨ b = w.heap.size)) := by
 obtain ⟨vs, h1, h2, h3, h4', h5⟩ := G
 have hnews : ∀ j y, [Value.slice a l.length cap][j]? = some y → w.cell? (p.add j) = some y := by
  intro j y hy
  match j, hy with
  | 0, hy => simp at hy; rw [← hy, show p.add 0 = p by unfold Addr.add; split <;> simp_all]; exact c0
  | j + 1, hy => simp at hy
 obtain ⟨v', w', hr, hown, hgr, _⟩ := run_append_own (P := P) w lo t ty e i z 1 24 ht hi hz h4 h56 hzs (by omega) v ls.length vs h1 p 1 c _ rfl hnews (by simp [Value.oneCell']) (by unfold maxLen; omega) (by omega) h5
 obtain ⟨b, cp, rfl, hb⟩ := append_where1 (P := P) w t ty e i z ht hi hz h4 h56 lo v ls.length vs h1 p c _ c0 (by simp [Value.oneCell']) hl hr
 have hkeep : ∀ q, q < w.heap.size → v.ownBlock ≠ some q → w'.heap[q]? = w.heap[q]? := fun q hq hne => hgr.block q hq (fun e => hne e.symm)
 have hfk : ∀ q ∈ f, w'.heap[q]? = w.heap[q]? := fun q hq => hkeep q (h3.lt q hq) (fun e => h4' q e hq)
 have hfk1 : ∀ q ∈ f1, w'.heap[q]? = w.heap[q]? := fun q hq => hkeep q (hf.lt q hq) (fun e => ho q e hq)
 refine ⟨_, w', hr, ⟨vs ++ [.slice a l.length cap], ?_, (h2.congr fun q hq o => World.cell?_of_block (w := w) (hfk q hq)).app (Each.one hc (hs.congr fun q hq o => World.cell?_of_block (w := w) (hfk1 q hq))), ?_, ?_, Nat.le_trans h5 hgr.size⟩, ?_, hgr, ⟨b, cp, rfl, hb⟩⟩
 ·rw [List.length_append]; exact hown
 ·refine ⟨List.nodup_append.2 ⟨h3.1, hf.1, fun x hx y hy e => hd y hy (e ▸ hx)⟩, fun q hq => ?_⟩
  rcases List.mem_append.1 hq with hq | hq
  ·exact ⟨(h3.2 q hq).1, Nat.lt_of_lt_of_le (h3.lt q hq) hgr.size, fun o => (World.frozen?_of_block (w := w) (hfk q hq)).trans ((h3.2 q hq).2.2 o)⟩
  ·exact ⟨(hf.2 q hq).1, Nat.lt_of_lt_of_le (hf.lt q hq) hgr.size, fun o => (World.frozen?_of_block (w := w) (hfk1 q hq)).trans ((hf.2 q hq).2.2 o)⟩
 ·intro q hq hm
  simp only [Value.ownBlock, Option.some.injEq] at hq
  subst hq
  rcases hb with hb | hb
  ·rcases List.mem_append.1 hm with hm | hm
   ·exact h4' _ hb.symm hm
   ·exact ho _ hb.symm hm
  ·rcases List.mem_append.1 hm with hm | hm
   ·have := h3.lt _ hm; omega
   ·have := hf.lt _ hm; omega
 ·exact ⟨hgr.os, hgr.tape, hgr.output, hgr.size, fun q hq => hgr.block q (by omega) (fun e => by have := h1.lt q e.symm; omega)⟩
end
def inL (ls : List Lay) (l : Lay) : Bool := ls.any fun x => decide (x = l)
theorem inL_iff {ls : List Lay} {l : Lay} : inL ls l = true ↔ l ∈ ls := by
 unfold inL; rw [List.any_eq_true]
 constructor
 ·rintro ⟨x, hx, e⟩; rw [decide_eq_true_eq] at e; exact e ▸ hx
 ·intro h; exact ⟨l, h, by simp⟩
end Go.Proofs.YtjcaiecapapceaaGreat.Ls
namespace Go.Proofs.YtjcaiecapapceaaGreat.ChS
open Go.RowKit P1 Cnt CntC Flat Wid ChP OpenR
def NumR (w : World) (x : Int) (e : Ending) (w' : World) : Prop := e = .returned (.int .i64 x) ∧ Below w.heap.size w w'
theorem cnt_leaf (o n : Int) (t : ByteArray) (w : World) (a : Option Addr) (L cap : Nat) (h6 : o ≠ 6) (h7 : o ≠ 7) (h8 : o ≠ 8) (b6 : (o == 6) = false) (b7 : (o == 7) = false) (b8 : (o == 8) = false) : Calls Tryz.prog 126 #[.agg #[.int .i64 o, .int .i64 n, .string t, .slice a L cap]] w (NumR w 1) := by
 have B1 := Lib.hid (show ∀ ob, Below w.heap.size w (w.alloc ob) from fun ob => (Below.refl _ _).alloc (Nat.le_refl _) _)
 go_enter Tryz.func126, Tryz.ntmps126
 go_wp2_with fail
 go_ret
 exact ⟨rfl, B1.out _⟩
theorem cnt_nest (n : Int) (t : ByteArray) (w : World) (b off cap : Nat) (o1 n1 : Int) (t1 : ByteArray) (l1 c1 : Nat) (a1 : Option Addr) (X : Int) (hb : b < w.heap.size) (hcap : 1 ≤ cap)
  (h0 : w.cell? ⟨b, off, none⟩ = some (.int .i64 o1)) (h1 : w.cell? ⟨b, off + 1, none⟩ = some (.int .i64 n1)) (h2 : w.cell? ⟨b, off + 2, none⟩ = some (.string t1)) (h3 : w.cell? ⟨b, off + 3, none⟩ = some (.slice a1 l1 c1))
  (hK : ∀ W, Below w.heap.size w W → Calls Tryz.prog 126 #[.agg #[.int .i64 o1, .int .i64 n1, .string t1, .slice a1 l1 c1]] W (NumR W X)) :
  Calls Tryz.prog 126 #[.agg #[.int .i64 6, .int .i64 n, .string t, .slice (some ⟨b, off, none⟩) 1 cap]] w (NumR w X) := by
 have B1 := Lib.hid (show ∀ ob, Below w.heap.size w (w.alloc ob) from fun ob => (Below.refl _ _).alloc (Nat.le_refl _) _)
 have HK := Lib.hid hK
 clear hK
 go_enter Tryz.func126, Tryz.ntmps126
 go_wp2_with fail
 refine (HK.out _ (B1.out _)).mono ?_
 rintro e1 w2 ⟨rfl, hb2⟩
 have H2 := Lib.hid ((B1.out _).trans (hb2.mono (B1.out _).size))
 clear hb2 h0 h1 h2 h3
 go_wp2_with fail
 go_ret
 exact ⟨rfl, H2.out⟩
theorem cnt_cat (n : Int) (t : ByteArray) (w : World) (b off cap : Nat) (o1 n1 : Int) (t1 : ByteArray) (l1 c1 : Nat) (a1 : Option Addr) (o2 n2 : Int) (t2 : ByteArray) (l2 c2 : Nat) (a2 : Option Addr) (X Y Z : Int) (hX0 : 0 ≤ X) (hY0 : 0 ≤ Y) (hX1 : X ≤ 100001) (hY1 : Y ≤ 100001) (hb : b < w.heap.size) (hcap : 2 ≤ cap)
  (h8 : Eight w b off o1 n1 t1 a1 l1 c1 o2 n2 t2 a2 l2 c2)
  (hK : ∀ W, Below w.heap.size w W → Calls Tryz.prog 126 #[.agg #[.int .i64 o1, .int .i64 n1, .string t1, .slice a1 l1 c1]] W (NumR W X))
  (hK2 : ∀ W, Below w.heap.size w W → Calls Tryz.prog 126 #[.agg #[.int .i64 o2, .int .i64 n2, .string t2, .slice a2 l2 c2]] W (NumR W Y))
  (hbig : 100000 < X ∨ 100000 < Y ∨ 100000 < X * Y → Z = 100001) (hsmall : X ≤ 100000 → Y ≤ 100000 → X * Y ≤ 100000 → Z = X * Y) :
  Calls Tryz.prog 126 #[.agg #[.int .i64 7, .int .i64 n, .string t, .slice (some ⟨b, off, none⟩) 2 cap]] w (NumR w Z) := by
 have B1 := Lib.hid (show ∀ ob, Below w.heap.size w (w.alloc ob) from fun ob => (Below.refl _ _).alloc (Nat.le_refl _) _)
 have HK := Lib.hid hK
 have HK2 := Lib.hid hK2
 obtain ⟨⟨x0, x1, x2, x3⟩, y0, y1, y2, y3⟩ := h8
 have HY := Lib.hid (And.intro y0 (And.intro y1 (And.intro y2 y3)))
 have HBIG := Lib.hid hbig
 have HSM := Lib.hid hsmall
 clear hK hK2 y0 y1 y2 y3 hbig hsmall
 go_enter Tryz.func126, Tryz.ntmps126
 go_wp2_with fail
 obtain ⟨W, hW, hbW, lW, lb, xx, xs, x4, x5, x6, x7⟩ := boxed_one (T := 25) 7 n t b off 2 cap hb x0 x1 x2 x3
 rw [hW]
 have HW := Lib.hid hbW
 clear hW hbW x0 x1 x2 x3 xx
 go_wp2_with fail
 refine (HK.out _ HW.out).mono ?_
 rintro e1 w2 ⟨rfl, hb2⟩
 have H2 := Lib.hid (HW.out.trans (hb2.mono HW.out.size))
 have xs2 := (hb2.cell (p := ⟨w.heap.size, 3, none⟩) lW).trans xs
 have lb2 : b < w2.heap.size := Nat.lt_of_lt_of_le lb hb2.size
 have z0 := (H2.out.cell (p := ⟨b, off + 4, none⟩) hb).trans HY.out.1
 have z1 := (H2.out.cell (p := ⟨b, off + 4 + 1, none⟩) hb).trans HY.out.2.1
 have z2 := (H2.out.cell (p := ⟨b, off + 4 + 2, none⟩) hb).trans HY.out.2.2.1
 have z3 := (H2.out.cell (p := ⟨b, off + 4 + 3, none⟩) hb).trans HY.out.2.2.2
 clear hb2 xs x4 x5 x6 x7 lW lb
 go_wp2_with fail
 refine (HK2.out _ H2.out).mono ?_
 rintro e2 w3 ⟨rfl, hb3⟩
 have H3 := Lib.hid (H2.out.trans (hb3.mono H2.out.size))
 clear hb3 xs2 z0 z1 z2 z3 lb2
 by_cases hx : 100000 < X
 ·have HZ := Lib.hid (HBIG.out (.inl hx))
  go_wp2_with fail
  go_ret
  exact ⟨by rw [HZ.out]; rfl, H3.out⟩
 ·by_cases hy : 100000 < Y
  ·have HZ := Lib.hid (HBIG.out (.inr (.inl hy)))
   go_wp2_with fail
   go_ret
   exact ⟨by rw [HZ.out]; rfl, H3.out⟩
  ·have hm0 : 0 ≤ X * Y := Int.mul_nonneg hX0 hY0
   have hm1 : X * Y ≤ 100000 * 100000 := Int.mul_le_mul (by omega) (by omega) hY0 (by omega)
   by_cases hz : 100000 < X * Y
   ·have HZ := Lib.hid (HBIG.out (.inr (.inr hz)))
    go_wp2_with fail
    go_ret
    exact ⟨by rw [HZ.out]; rfl, H3.out⟩
   ·have HZ := Lib.hid (HSM.out (by omega) (by omega) (by omega))
    go_wp2_with fail
    go_ret
    exact ⟨by rw [HZ.out]; rfl, H3.out⟩
theorem cnt_group (n : Int) (t : ByteArray) (w : World) (b off cap : Nat) (o1 n1 : Int) (t1 : ByteArray) (l1 c1 : Nat) (a1 : Option Addr) (X N Z : Int) (hX0 : 0 ≤ X) (hX1 : X ≤ 100001) (hb : b < w.heap.size) (hcap : 1 ≤ cap)
  (h0 : w.cell? ⟨b, off, none⟩ = some (.int .i64 o1)) (h1 : w.cell? ⟨b, off + 1, none⟩ = some (.int .i64 n1)) (h2 : w.cell? ⟨b, off + 2, none⟩ = some (.string t1)) (h3 : w.cell? ⟨b, off + 3, none⟩ = some (.slice a1 l1 c1))
  (hK : ∀ W, Below w.heap.size w W → Calls Tryz.prog 126 #[.agg #[.int .i64 o1, .int .i64 n1, .string t1, .slice a1 l1 c1]] W (NumR W X))
  (hO : ∀ W, Below w.heap.size w W → Calls Tryz.prog 86 #[.agg #[.int .i64 8, .int .i64 n, .string t, .slice (some ⟨b, off, none⟩) 1 cap], .int .i64 5] W (NumR W N))
  (hZ : Z = if N = 0 then min (X + 1) 100001 else X) :
  Calls Tryz.prog 126 #[.agg #[.int .i64 8, .int .i64 n, .string t, .slice (some ⟨b, off, none⟩) 1 cap]] w (NumR w Z) := by
 have B1 := Lib.hid (show ∀ ob, Below w.heap.size w (w.alloc ob) from fun ob => (Below.refl _ _).alloc (Nat.le_refl _) _)
 have HK := Lib.hid hK
 have HO := Lib.hid hO
 have HZ := Lib.hid hZ
 clear hK hO hZ
 go_enter Tryz.func126, Tryz.ntmps126
 go_wp2_with fail
 obtain ⟨W, hW, hbW, lW, lb, x1, xs, x4, x5, x6, x7⟩ := boxed_one (T := 25) 8 n t b off 1 cap hb h0 h1 h2 h3
 have x0 : W.cell? ⟨w.heap.size, 0, none⟩ = some (.int .i64 8) := by rw [← hW, World.cell?_alloc_new]; rfl
 have x2 : W.cell? ⟨w.heap.size, 2, none⟩ = some (.string t) := by rw [← hW, World.cell?_alloc_new]; rfl
 rw [hW]
 have HW := Lib.hid hbW
 clear hW hbW h0 h1 h2 h3
 go_wp2_with fail
 refine (HK.out _ HW.out).mono ?_
 rintro e1 w2 ⟨rfl, hb2⟩
 have H2 := Lib.hid (HW.out.trans (hb2.mono HW.out.size))
 have y0 := (hb2.cell (p := ⟨w.heap.size, 0, none⟩) lW).trans x0
 have y1 := (hb2.cell (p := ⟨w.heap.size, 1, none⟩) lW).trans x1
 have y2 := (hb2.cell (p := ⟨w.heap.size, 2, none⟩) lW).trans x2
 have y3 := (hb2.cell (p := ⟨w.heap.size, 3, none⟩) lW).trans xs
 have l2 : w.heap.size < w2.heap.size := Nat.lt_of_lt_of_le lW hb2.size
 clear hb2 x0 x1 x2 xs x4 x5 x6 x7 lW lb
 go_wp2_with fail
 refine (HO.out _ H2.out).mono ?_
 rintro e2 w3 ⟨rfl, hb3⟩
 have H3 := Lib.hid (H2.out.trans (hb3.mono H2.out.size))
 clear hb3 y0 y1 y2 y3 l2
 by_cases hn : N = 0
 ·subst hn
  by_cases hx : 100000 < X + 1
  ·have HR := Lib.hid (show Z = 100001 by rw [HZ.out, if_pos rfl]; omega)
   go_wp2_with fail
   go_ret
   exact ⟨by rw [HR.out]; rfl, H3.out⟩
  ·have HR := Lib.hid (show Z = X + 1 by rw [HZ.out, if_pos rfl]; omega)
   go_wp2_with fail
   go_ret
   exact ⟨by rw [HR.out]; rfl, H3.out⟩
 ·have hnb : (N == 0) = false := by rw [beq_eq_false_iff_ne]; exact hn
  by_cases hx : 100000 < X
  ·have HR := Lib.hid (show Z = 100001 by rw [HZ.out, if_neg hn]; omega)
   go_wp2_with fail
   go_ret
   exact ⟨by rw [HR.out]; rfl, H3.out⟩
  ·have HR := Lib.hid (show Z = X by rw [HZ.out, if_neg hn])
   go_wp2_with fail
   go_ret
   exact ⟨by rw [HR.out]; rfl, H3.out⟩
def mn (x : Nat) : Int := ((min x 100001 : Nat) : Int)
theorem mn_mul {a b : Nat} (ha : 0 < a) (hb : 0 < b) : (100000 < mn a ∨ 100000 < mn b ∨ 100000 < mn a * mn b → mn (a * b) = 100001) ∧ (mn a ≤ 100000 → mn b ≤ 100000 → mn a * mn b ≤ 100000 → mn (a * b) = mn a * mn b) := by
 have h1 : a ≤ a * b := Nat.le_mul_of_pos_right a hb
 have h2 : b ≤ a * b := Nat.le_mul_of_pos_left b ha
 have hle : a ≤ 100000 → b ≤ 100000 → mn a * mn b = ((a * b : Nat) : Int) := fun h h' => by
  unfold mn; rw [Nat.min_eq_left (by omega), Nat.min_eq_left (by omega)]; simp
 constructor
 ·intro h
  by_cases ha' : a ≤ 100000
  ·by_cases hb' : b ≤ 100000
   ·rw [hle ha' hb'] at h
    unfold mn at h ⊢
    omega
   ·unfold mn; omega
  ·unfold mn; omega
 ·intro h h' h3
  have ha' : a ≤ 100000 := by unfold mn at h; omega
  have hb' : b ≤ 100000 := by unfold mn at h'; omega
  rw [hle ha' hb'] at h3 ⊢
  unfold mn; omega
def cntS (d : Nat) : Prop := ∀ (o n : Int) (t : ByteArray) (k : F), okD d o n t k = true → k.size ≤ 4194304 → ∀ (w : World) (a : Option Addr) (cap : Nat) (fs : List Nat), SubAt w a k fs → (∀ c ∈ fs, c < w.heap.size) → k.len ≤ cap →
 Calls Tryz.prog 126 #[.agg #[.int .i64 o, .int .i64 n, .string t, .slice a k.len cap]] w (NumR w (mn (ctD o k)))
theorem cntS_all : ∀ d : Nat, cntS d := by
 intro d
 induction d with
 | zero => intro o n t k h; rw [okD_zero] at h; cases h
 | succ d ih =>
   intro o n t k h hsz w a cap fs hs hfs hc
   obtain ⟨hn, hk⟩ := okD_parts h
   rcases node_kinds hn with ⟨rfl, ht, hl⟩ | ⟨ho, rfl, hl⟩ | ⟨rfl, rfl, h0, h9, hl⟩ | ⟨rfl, rfl, hl⟩ | ⟨rfl, rfl, hl⟩
   ·rw [nil_of_len hl, ctD_leaf]
    exact cnt_leaf 2 n t w a _ cap (by decide) (by decide) (by decide) rfl rfl rfl
   ·obtain ⟨h6, h7, h8⟩ := leaf_ne ho
    have b8 : (o == 8) = false := beq_eq_false_iff_ne.2 h8
    rw [nil_of_len hl, ctD_leaf, b8]
    exact cnt_leaf o n _ w a _ cap h6 h7 h8 (beq_eq_false_iff_ne.2 h6) (beq_eq_false_iff_ne.2 h7) b8
   ·obtain ⟨o1, n1, t1, k1, rfl⟩ := one_kid hl
    rw [ok_cons, Bool.and_eq_true] at hk
    simp only [F.size] at hsz
    rcases hs with ⟨e, _⟩ | ⟨b, off, f', rfl, _, rfl, hr⟩
    ·cases e
    ·obtain ⟨a1, c1, f1, f2, q0, q1, q2, q3, q4, q5, _, rfl⟩ := RowAt.cons_iff.1 hr
     rw [ctD_other (by omega), ctF_one]
     exact cnt_nest n _ w b off cap o1 n1 t1 k1.len c1 a1 _ (hfs b (by simp)) hc q0 q1 q2 q3 (fun W hW => ih _ _ _ _ hk.1 (by omega) W a1 c1 f1 (q5.below (fun c hc => hfs c (by simp [hc])) hW) (fun c hc => Nat.lt_of_lt_of_le (hfs c (by simp [hc])) hW.size) q4)
   ·obtain ⟨o1, n1, t1, k1, o2, n2, t2, k2, rfl⟩ := two_kids hl
    rw [ok_cons, ok_cons, Bool.and_eq_true, Bool.and_eq_true] at hk
    simp only [F.size] at hsz
    rcases hs with ⟨e, _⟩ | ⟨b, off, f', rfl, _, rfl, hr⟩
    ·cases e
    ·obtain ⟨a1, c1, f1, f2, q0, q1, q2, q3, q4, q5, q6, rfl⟩ := RowAt.cons_iff.1 hr
     obtain ⟨a2, c2, g1, g2, p0, p1, p2, p3, p4, p5, _, rfl⟩ := RowAt.cons_iff.1 q6
     rw [ctD_other (by omega), ctF_cons, ctF_one]
     have hm := mn_mul (ctD_pos o1 k1) (ctD_pos o2 k2)
     exact cnt_cat n _ w b off cap o1 n1 t1 k1.len c1 a1 o2 n2 t2 k2.len c2 a2 (mn (ctD o1 k1)) (mn (ctD o2 k2)) _ (by unfold mn; omega) (by unfold mn; omega) (by unfold mn; omega) (by unfold mn; omega) (hfs b (by simp)) hc ⟨⟨q0, q1, q2, q3⟩, p0, p1, p2, p3⟩
      (fun W hW => ih _ _ _ _ hk.1 (by omega) W a1 c1 f1 (q5.below (fun c hc => hfs c (by simp [hc])) hW) (fun c hc => Nat.lt_of_lt_of_le (hfs c (by simp [hc])) hW.size) q4)
      (fun W hW => ih _ _ _ _ hk.2.1 (by omega) W a2 c2 g1 (p5.below (fun c hc => hfs c (by simp [hc])) hW) (fun c hc => Nat.lt_of_lt_of_le (hfs c (by simp [hc])) hW.size) p4) hm.1 hm.2
   ·obtain ⟨o1, n1, t1, k1, rfl⟩ := one_kid hl
    rw [ok_cons, Bool.and_eq_true] at hk
    have hsz' := hsz
    simp only [F.size] at hsz'
    have hsub := hs
    rcases hs with ⟨e, _⟩ | ⟨b, off, f', rfl, _, rfl, hr⟩
    ·cases e
    ·obtain ⟨a1, c1, f1, f2, q0, q1, q2, q3, q4, q5, _, rfl⟩ := RowAt.cons_iff.1 hr
     refine cnt_group n _ w b off cap o1 n1 t1 k1.len c1 a1 (mn (ctD o1 k1)) ((opsD 5 8 (.cons o1 n1 t1 k1 .nil) : Nat) : Int) _ (by unfold mn; omega) (by unfold mn; omega) (hfs b (by simp)) hc q0 q1 q2 q3 (fun W hW => ih _ _ _ _ hk.1 (by omega) W a1 c1 f1 (q5.below (fun c hc => hfs c (by simp [hc])) hW) (fun c hc => Nat.lt_of_lt_of_le (hfs c (by simp [hc])) hW.size) q4)
      (fun W hW => specCountOps 5 W 8 n _ (.cons o1 n1 t1 k1 .nil) _ cap _ (hsub.below hfs hW) (fun c hc => Nat.lt_of_lt_of_le (hfs c hc) hW.size) hc hsz) ?_
     have e := noD_ops 8 (.cons o1 n1 t1 k1 .nil)
     have e8 : noD 8 (.cons o1 n1 t1 k1 .nil) = noF (.cons o1 n1 t1 k1 .nil) := by simp [noD]
     rw [e8] at e
     rw [ctD_group, ctF_one]
     by_cases h5 : opsD 5 8 (.cons o1 n1 t1 k1 .nil) = 0
     ·rw [e, h5]; simp only [decide_true, if_true]; unfold mn; simp; omega
     ·rw [e]; simp only [h5, decide_false, Bool.false_eq_true, if_false]
      rw [if_neg (by omega)]
theorem valid_open' {o n : Int} {t : ByteArray} {k : F} (h : validD o n t k = true) : okD 40 o n t k = true ∧ 1 + k.cnt ≤ 80 := by simpa [validD] using h
theorem specCount (w : World) (o n : Int) (t : ByteArray) (k : F) (a : Option Addr) (cap : Nat) (fs : List Nat) (hv : validD o n t k = true) (hs : SubAt w a k fs) (hfs : ∀ c ∈ fs, c < w.heap.size) (hc : k.len ≤ cap) (hsz : k.size ≤ 4194304) :
  Calls Tryz.prog 126 #[.agg #[.int .i64 o, .int .i64 n, .string t, .slice a k.len cap]] w (NumR w (mn (ctD o k))) :=
 cntS_all 40 o n t k (valid_open' hv).1 hsz w a cap fs hs hfs hc
end Go.Proofs.YtjcaiecapapceaaGreat.ChS

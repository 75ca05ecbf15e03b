import Derived.Deep.CutRange
import Derived.Deep.Light
import Derived.Test.YtjcaiecapapceaaDcK
/-
 What holds in the rounds of impl.DocSame.
-/
set_option linter.unusedVariables false
set_option linter.unusedSimpArgs false
set_option maxRecDepth 100000
set_option maxHeartbeats 3200000
namespace Go.Proofs.Ytjcaiecapapceaa.Same1
open Go.RowKit
def Lies (w : World) (k : LK) (f : F) : Prop := k.2.2 = f.len ∧ (∃ fs, RowAt w f k.1 k.2.1 fs) ∧ Plain w k.1 ∧ k.1 < w.heap.size
def Two (wr wx : World) (b7 b8 : Nat) (c1 c2 : List Value) : Prop := wr.heap.size ≤ b7 ∧ wr.heap.size ≤ b8 ∧ b7 < wx.heap.size ∧ b8 < wx.heap.size ∧ (∀ j, j < 4 → wx.cell? ⟨b7, j, none⟩ = c1[j]?) ∧ (∀ j, j < 4 → wx.cell? ⟨b8, j, none⟩ = c2[j]?) ∧ Below wr.heap.size wr wx
theorem stack_start {w W : World} {T : TypeId} {x y : D} {c1 c2 : List Value} (h1 : DocV w x c1) (h2 : DocV w y c2) {lo b : Nat} (hb : W.heap.size = b) (hlo : lo ≤ b) {cs : Array Value} (hcs : cs = (c1 ++ c2).toArray) : Stack w (W.alloc (.cells cs T)) T lo (.slice (some ⟨b, 0, none⟩) 1 1) [(x, y)] := by
 subst hcs hb
 have hl : (c1 ++ c2).length = 8 := by rw [List.length_append, h1.len, h2.len]
 refine ⟨c1 ++ c2, ⟨hl, .inr ⟨W.heap.size, 1, _, rfl, hlo, heap_alloc_new W _, Nat.le_refl _, by unfold maxLen; omega, by simpa using hl, ?_⟩⟩, c1, c2, [], by simp, h1, h2, rfl⟩
 simp only [List.length_cons, List.length_nil]
 rw [List.take_of_length_le (by simpa using Nat.le_of_eq hl)]
theorem Two.mk1 (wr : World) (T : TypeId) {v1 v2 v3 v4 u1 u2 u3 u4 : Value} : Two wr ((wr.alloc (.cells #[v1, v2, v3, v4] T)).alloc (.cells #[u1, u2, u3, u4] T)).drew wr.heap.size (wr.heap.size + 1) [v1, v2, v3, v4] [u1, u2, u3, u4] := by
 refine ⟨Nat.le_refl _, by omega, by simp; omega, by simp, fun j hj => ?_, fun j hj => ?_, (((Below.refl _ _).alloc (Nat.le_refl _) _).alloc (by simp) _).drew⟩
 ·rw [World.cell?_drew, World.cell?_alloc_lt _ _ ⟨wr.heap.size, j, none⟩ (by simp), World.cell?_alloc_new]
  match j, hj with
  | 0, _ => rfl
  | 1, _ => rfl
  | 2, _ => rfl
  | 3, _ => rfl
 ·have e : wr.heap.size + 1 = (wr.alloc (.cells #[v1, v2, v3, v4] T)).heap.size := by simp
  rw [World.cell?_drew, e, World.cell?_alloc_new]
  match j, hj with
  | 0, _ => rfl
  | 1, _ => rfl
  | 2, _ => rfl
  | 3, _ => rfl
theorem Two.swap {wr wx : World} {b7 b8 : Nat} {c1 c2 : List Value} (h : Two wr wx b7 b8 c1 c2) : Two wr wx b8 b7 c2 c1 := by
 obtain ⟨h1, h2, h3, h4, h5, h6, h7⟩ := h
 exact ⟨h2, h1, h4, h3, h6, h5, h7⟩
def sumN (l : List (D × D)) : Nat := (l.map fun p => 1 + nodes p.1.2.2.2).sum
theorem sumN_cons (p : D × D) (l : List (D × D)) : sumN (p :: l) = 1 + nodes p.1.2.2.2 + sumN l := by unfold sumN; simp
theorem len_sumN : ∀ l : List (D × D), l.length ≤ sumN l
 | [] => Nat.zero_le _
 | p :: l => by rw [sumN_cons, List.length_cons]; have := len_sumN l; omega
theorem sumN_pop {p : D × D} {l : List (D × D)} {B : Nat} (h : sumN (p :: l) ≤ B) : sumN l ≤ B := by rw [sumN_cons] at h; omega
theorem sumN_app (a b : List (D × D)) : sumN (a ++ b) = sumN a + sumN b := by simp [sumN]
theorem zipF_sumN : ∀ {f g : F}, sumN (zipF f g) ≤ nodes f := by
 intro f
 induction f with
 | nil => intro g; simp [zipF, sumN]
 | cons o n t k r _ ihr =>
   intro g
   cases g with
   | nil => simp [zipF, sumN]
   | cons o' n' t' k' r' =>
     have := ihr (g := r')
     rw [zipF, sumN_cons, nodes_cons]
     simp only
     omega
theorem sumN_open {x y : D} {st : List (D × D)} : sumN ((zipF x.2.2.2 y.2.2.2).reverse ++ st) ≤ sumN ((x, y) :: st) := by
 have h := zipF_sumN (f := x.2.2.2) (g := y.2.2.2)
 have h2 : sumN (zipF x.2.2.2 y.2.2.2).reverse = sumN (zipF x.2.2.2 y.2.2.2) := by
  unfold sumN; rw [List.map_reverse, List.sum_reverse]
 rw [sumN_app, h2, sumN_cons]
 simp only
 omega
theorem zipF_take : ∀ {p p' : F} {o n : Int} {t : ByteArray} {k r : F} {o' n' : Int} {t' : ByteArray} {k' r' : F}, p.len = p'.len → (zipF (p.app (.cons o n t k r)) (p'.app (.cons o' n' t' k' r'))).take (p.len + 1) = (zipF (p.app (.cons o n t k r)) (p'.app (.cons o' n' t' k' r'))).take p.len ++ [((o, n, t, k), (o', n', t', k'))] := by
 intro p
 induction p with
 | nil =>
   intro p' o n t k r o' n' t' k' r' h
   have := F.len_eq_zero (f := p') h.symm
   subst this
   simp [F.app, zipF, F.len]
 | cons a b c d e _ ih =>
   intro p' o n t k r o' n' t' k' r' h
   cases p' with
   | nil => simp [F.len] at h
   | cons a' b' c' d' e' =>
     have := ih (p' := e') (o := o) (n := n) (t := t) (k := k) (r := r) (o' := o') (n' := n') (t' := t') (k' := k') (r' := r') (by simpa [F.len] using h)
     simp only [F.app, zipF, F.len, List.take_succ_cons, this, List.cons_append]
theorem zipF_len : ∀ {f g : F}, f.len = g.len → (zipF f g).length = f.len := by
 intro f
 induction f with
 | nil => intro g _; simp [zipF, F.len]
 | cons o n t k r _ ih =>
   intro g h
   cases g with
   | nil => simp [F.len] at h
   | cons o' n' t' k' r' => simp only [zipF, List.length_cons, F.len, ih (g := r') (by simpa [F.len] using h)]
theorem info : (Try.prog.info? 73).map (fun i => (i.zero, i.size, i.bytes)) = some (some (.agg #[.int .i64 0, .int .i64 0, .string ⟨#[]⟩, .slice none 0 0, .int .i64 0, .int .i64 0, .string ⟨#[]⟩, .slice none 0 0]), 8, 112) := by kernel_rfl
theorem info_parts {x : Option TypeInfo} {z : Value} {s b : Nat} (h : x.map (fun i => (i.zero, i.size, i.bytes)) = some (some z, s, b)) : ∃ i, x = some i ∧ i.zero = some z ∧ i.size = s ∧ i.bytes = b := by
 cases x with
 | none => simp at h
 | some i => simp at h; exact ⟨i, rfl, h.1, h.2.1, h.2.2⟩
theorem step_pair {ops : Array Oper} {op : Oper} {ac : Act} {w : World} {K : Act → World → Prop} {Q : Exit → Act → World → Prop} {E : Prop} (hgd : op.guard = none) (s x : Operand)
  (ho : op.op = .call { callee := .builtin .append, args := #[s, x], argTypes := #[74, 74] })
  {w0 : World} {lo n : Nat} {v : Value} {st : List (D × D)} (hsv : ac.eval s = v) (hst : Stack w0 w 73 lo v st) (hn : st.length = n) {d c : Nat} (hx : ac.eval x = .slice (some ⟨d, 0, none⟩) 1 c) (X Y : D) (c1 c2 : List Value) (h1 : DocV w0 X c1) (h2 : DocV w0 Y c2)
  (hcell : ∀ j u, (c1 ++ c2)[j]? = some u → w.cell? ⟨d, j, none⟩ = some u) (hl : n ≤ 16777216) (hlo : lo ≤ w.heap.size)
  (h : ∀ g cap' w', Stack w0 w' 73 lo (.slice (some ⟨g, 0, none⟩) (n + 1) cap') ((X, Y) :: st) → w.grownBy w' v.ownBlock → (v.ownBlock = some g ∨ g = w.heap.size) → K (ac.put op.dst (.slice (some ⟨g, 0, none⟩) (n + 1) cap')) w') :
  if Region.wanted op (yielded ops ac.tmps) = true then Oper.wp Try.prog op ac w K Q else E := by
 subst hn
 obtain ⟨i, hi, hz, h8, h112⟩ := info_parts info
 obtain ⟨xs, hown, hit⟩ := hst
 refine step_append_lies w hgd s x 74 ho lo 73 i _ 8 112 Try.underlying74 hi hz h8 h112 rfl (by omega) v st.length xs hsv hown ⟨d, 0, none⟩ 1 c (c1 ++ c2) hx (by rw [List.length_append, h1.len, h2.len]) ?_ ?_ (by omega) (by unfold maxLen; omega) (by omega) hlo _ rfl ?_
 ·intro j u hu
  rw [add_at, Nat.zero_add]
  exact hcell j u hu
 ·intro u hu
  rcases List.mem_append.1 hu with hu | hu
  ·exact h1.one u hu
  ·exact h2.one u hu
 ·intro g cap' w' hown' hgr hat _
  exact h g cap' w' (Stack.push hit h1 h2 hown') hgr hat
theorem cells8 (W : World) (T : TypeId) (v1 v2 v3 v4 u1 u2 u3 u4 : Value) : ∀ j u, ([v1, v2, v3, v4] ++ [u1, u2, u3, u4])[j]? = some u → (W.alloc (.cells #[v1, v2, v3, v4, u1, u2, u3, u4] T)).cell? ⟨W.heap.size, j, none⟩ = some u := fun j u hu => by
 rw [World.cell?_alloc_new]
 simpa using hu
structure Mid (w wl : World) (T : TypeId) (Z st : List (D × D)) (m : List ((LK × LK) × Value × Nat)) (b7 b8 : Nat) (u3 u4 : Value) (j : Nat) (v : Value) : Prop where
 st : Stack w wl T (w.heap.size + 3) v ((Z.take j).reverse ++ st)
 map : PMap wl lk2V (w.heap.size + 2) m
 bel : Below w.heap.size w wl
 lo : w.heap.size + 3 ≤ wl.heap.size
 x : wl.cell? ⟨b7, 3, none⟩ = some u3
 y : wl.cell? ⟨b8, 3, none⟩ = some u4
 l7 : b7 < wl.heap.size
 l8 : b8 < wl.heap.size
 own : ∀ q, v.ownBlock = some q → q ≠ b7 ∧ q ≠ b8
theorem Mid.next {w wl wa w' : World} {T : TypeId} {Z st : List (D × D)} {m : List ((LK × LK) × Value × Nat)} {b7 b8 : Nat} {u3 u4 : Value} {j : Nat} {v v' : Value} (h : Mid w wl T Z st m b7 b8 u3 u4 j v) (he : Ext wl wa) {z : D × D} (hz : Z.take (j + 1) = Z.take j ++ [z])
  (hst : Stack w w' T (w.heap.size + 3) v' (z :: ((Z.take j).reverse ++ st))) (hg : wa.grownBy w' v.ownBlock) {g : Nat} (hv : v'.ownBlock = some g) (hat : v.ownBlock = some g ∨ g = wa.heap.size) : Mid w w' T Z st m b7 b8 u3 u4 (j + 1) v' := by
 have hlo : ∀ q, v.ownBlock = some q → w.heap.size + 3 ≤ q := fun q hq => by
  obtain ⟨xs, h1, _⟩ := h.st
  exact (h1.lt q hq).1
 have hk : ∀ q, q < wl.heap.size → v.ownBlock ≠ some q → w'.heap[q]? = wl.heap[q]? := fun q hq hne => (hg.block q (Nat.lt_of_lt_of_le hq he.size) (fun e => hne e.symm)).trans (he.block q hq)
 have hs : wl.heap.size ≤ w'.heap.size := Nat.le_trans he.size hg.size
 refine ⟨?_, h.map.of_block (hk _ h.map.lt fun e => by have := hlo _ e; omega), ?_, Nat.le_trans h.lo hs, ?_, ?_, Nat.lt_of_lt_of_le h.l7 hs, Nat.lt_of_lt_of_le h.l8 hs, fun q hq => ?_⟩
 ·rw [hz, List.reverse_append]; exact hst
 ·exact ⟨hg.os.trans (he.os.trans h.bel.os), hg.tape.trans (he.tape.trans h.bel.tape), hg.output.trans (he.output.trans h.bel.output), Nat.le_trans h.bel.size hs, fun i hi => (hk i (Nat.lt_of_lt_of_le hi h.bel.size) (fun e => by have := hlo _ e; omega)).trans (h.bel.block i hi)⟩
 ·exact (World.cell?_of_block (w := wl) (hk b7 h.l7 fun e => (h.own _ e).1 rfl)).trans h.x
 ·exact (World.cell?_of_block (w := wl) (hk b8 h.l8 fun e => (h.own _ e).2 rfl)).trans h.y
 ·rw [hv] at hq
  injection hq with hq
  subst hq
  rcases hat with e | e
  ·exact h.own _ e
  ·have h1 := h.l7; have h2 := h.l8; have h3 := he.size
   exact ⟨by omega, by omega⟩
def Head (w : World) (A B : D) (T : TypeId) (n : Nat) (v : Value) (wr : World) : Prop := ∃ (st : List (D × D)) (seen : List (F × F)) (m : List ((LK × LK) × Value × Nat)), sumZ st ≤ n ∧ sumN st ≤ 4194304 ∧ Stack w wr T (w.heap.size + 3) v st ∧ SInv A B st seen ∧ PMap wr lk2V (w.heap.size + 2) m ∧
 (∀ e ∈ m, ∃ q ∈ seen, Lies w e.1.1 q.1 ∧ Lies w e.1.2 q.2) ∧ (∀ a v, look a m = some v → v = .bool true) ∧ Below w.heap.size w wr ∧ w.heap.size + 3 ≤ wr.heap.size
theorem Head.next {w wr w1 : World} {A B : D} {T : TypeId} {v : Value} {st : List (D × D)} {seen : List (F × F)} {m : List ((LK × LK) × Value × Nat)} (hl : sumN st ≤ 4194304) (hst : Stack w wr T (w.heap.size + 3) v st) (hinv : SInv A B st seen) (hpm : PMap wr lk2V (w.heap.size + 2) m)
  (hm1 : ∀ e ∈ m, ∃ q ∈ seen, Lies w e.1.1 q.1 ∧ Lies w e.1.2 q.2) (hm2 : ∀ a v, look a m = some v → v = .bool true) (hbw : Below w.heap.size w wr) (hsz : w.heap.size + 3 ≤ wr.heap.size) (k : Below wr.heap.size wr w1) : Head w A B T (sumZ st) v w1 :=
 ⟨st, seen, m, Nat.le_refl _, hl, hst.below (Nat.le_refl _) k, hinv, hpm.of_block (k.block _ (by omega)), hm1, hm2, hbw.trans (k.mono hbw.size), Nat.le_trans hsz k.size⟩
theorem same_no {A B : D} (h : A ≠ B) : sameD A.1 A.2.1 A.2.2.1 A.2.2.2 B.1 B.2.1 B.2.2.1 B.2.2.2 = false := by
 rw [Bool.eq_false_iff]
 intro e
 obtain ⟨h1, h2, h3, h4⟩ := sameD_iff.1 e
 obtain ⟨a, b, c, d⟩ := A
 obtain ⟨a', b', c', d'⟩ := B
 simp only at h1 h2 h3 h4
 exact h (by rw [h1, h2, h3, h4])
theorem same_yes {A B : D} (h : A = B) : sameD A.1 A.2.1 A.2.2.1 A.2.2.2 B.1 B.2.1 B.2.2.1 B.2.2.2 = true := by
 subst h; exact sameD_iff.2 ⟨rfl, rfl, rfl, rfl⟩
theorem sumZ_lt (p : D × D) (st : List (D × D)) : sumZ st < sumZ (p :: st) := by
 have e : sumZ (p :: st) = (1 + p.1.2.2.1.size + p.1.2.2.2.size) + sumZ st := by
  unfold sumZ; simp only [List.map_cons, List.sum_cons]; rfl
 omega
theorem ret_bool {a b : Bool} (h : a = b) : Ending.returned (.bool a) = .returned (.bool b) := by rw [h]
theorem pmap_start {W : World} {b : Nat} (hb : W.heap.size = b) (o : Obj) : PMap ((W.alloc (.map #[] 0)).alloc o) lk2V b [] := by
 subst hb
 refine (PMap.made W lk2V).of_block ?_
 exact heap_alloc_old _ _ (by simp)
theorem sub_pos {w : World} {a : Option Addr} {k : F} {fs : List Nat} (h : SubAt w a k fs) (h0 : k.len ≠ 0) : ∃ b off f', a = some ⟨b, off, none⟩ ∧ fs = b :: f' ∧ RowAt w k b off f' := by
 rcases h with ⟨rfl, _⟩ | ⟨b, off, f', h1, _, h2, h3⟩
 ·exact absurd rfl h0
 ·exact ⟨b, off, f', h1, h2, h3⟩
theorem kidListOf (w : World) (b off l cap : Nat) (h0 : 0 < l) (hl : l ≤ maxLen) :
  Calls Try.prog 45 #[.slice (some ⟨b, off, none⟩) l cap] w fun e w' => e = .returned (.agg #[.pointer (some ⟨b, off, none⟩), .int .i64 l]) ∧ Below w.heap.size w w' := NodeS.kidListOf w b off l cap h0 hl
def KeyBox (w1 wx : World) (b9 : Nat) (c : List Value) : Prop := w1.heap.size ≤ b9 ∧ b9 < wx.heap.size ∧ (∀ j, j < 4 → wx.cell? ⟨b9, j, none⟩ = c[j]?) ∧ Below w1.heap.size w1 wx
def ZKey (w : World) (b : Nat) : Prop := (w.cell? ⟨b, 0, none⟩ = some (.pointer none) ∧ w.cell? ⟨b, 1, none⟩ = some (.int .i64 0) ∧ w.cell? ⟨b, 2, none⟩ = some (.pointer none) ∧ w.cell? ⟨b, 3, none⟩ = some (.int .i64 0)) ∧
 (w.frozen? ⟨b, 0, none⟩ = false ∧ w.frozen? ⟨b, 1, none⟩ = false ∧ w.frozen? ⟨b, 2, none⟩ = false ∧ w.frozen? ⟨b, 3, none⟩ = false) ∧ b < w.heap.size
theorem ZKey.ext {w w' : World} {b : Nat} (h : ZKey w b) (k : Ext w w') : ZKey w' b := by
 obtain ⟨⟨h0, h1, h2, h3⟩, ⟨z0, z1, z2, z3⟩, hb⟩ := h
 exact ⟨⟨(k.cell hb).trans h0, (k.cell hb).trans h1, (k.cell hb).trans h2, (k.cell hb).trans h3⟩, ⟨(k.frozen hb).trans z0, (k.frozen hb).trans z1, (k.frozen hb).trans z2, (k.frozen hb).trans z3⟩, Nat.lt_of_lt_of_le hb k.size⟩
theorem ZKey.alloc (W : World) (T : TypeId) : ZKey (W.alloc (.cells #[.pointer none, .int .i64 0, .pointer none, .int .i64 0] T)) W.heap.size := by
 refine ⟨⟨?_, ?_, ?_, ?_⟩, ⟨World.frozen?_alloc_new _ _ _ _, World.frozen?_alloc_new _ _ _ _, World.frozen?_alloc_new _ _ _ _, World.frozen?_alloc_new _ _ _ _⟩, by simp⟩ <;> (rw [World.cell?_alloc_new]; rfl)
theorem ZKey.new {W w3 : World} {T : TypeId} (h : Below (W.alloc (.cells #[.pointer none, .int .i64 0, .pointer none, .int .i64 0] T)).heap.size (W.alloc (.cells #[.pointer none, .int .i64 0, .pointer none, .int .i64 0] T)) w3) : ZKey w3 W.heap.size := (ZKey.alloc W T).ext h
theorem KeyBox.last {w1 w3 : World} (h : Ext w1 w3) {T : TypeId} {v1 v2 v3 v4 : Value} : KeyBox w1 (w3.alloc (.cells #[v1, v2, v3, v4] T)) w3.heap.size [v1, v2, v3, v4] :=
 ⟨h.size, by simp, fun j hj => by
  rw [World.cell?_alloc_new]
  match j, hj with
  | 0, _ => rfl
  | 1, _ => rfl
  | 2, _ => rfl
  | 3, _ => rfl, h.alloc _⟩
theorem KeyBox.stored {w1 w3 : World} (h : Ext w1 w3) {b : Nat} (hb : w1.heap.size ≤ b) (Z : ZKey w3 b) {v1 v2 v3 v4 : Value} : KeyBox w1 ((((w3.setCell ⟨b, 0, none⟩ v1).setCell ⟨b, 1, none⟩ v2).setCell ⟨b, 2, none⟩ v3).setCell ⟨b, 3, none⟩ v4) b [v1, v2, v3, v4] := by
 obtain ⟨⟨h0, h1, h2, h3⟩, _, hlt⟩ := Z
 refine ⟨hb, by simpa using hlt, fun j hj => ?_, (((h.setNew hb _).setNew hb _).setNew hb _).setNew hb _⟩
 match j, hj with
 | 0, _ =>
   rw [World.cell?_setCell_other _ _ _ _ (by simp), World.cell?_setCell_other _ _ _ _ (by simp), World.cell?_setCell_other _ _ _ _ (by simp)]
   exact World.cell?_setCell_same _ _ _ h0
 | 1, _ =>
   rw [World.cell?_setCell_other _ _ _ _ (by simp), World.cell?_setCell_other _ _ _ _ (by simp)]
   exact World.cell?_setCell_same _ _ _ (by rw [World.cell?_setCell_other _ _ _ _ (by simp)]; exact h1)
 | 2, _ =>
   rw [World.cell?_setCell_other _ _ _ _ (by simp)]
   exact World.cell?_setCell_same _ _ _ (by rw [World.cell?_setCell_other _ _ _ _ (by simp), World.cell?_setCell_other _ _ _ _ (by simp)]; exact h2)
 | 3, _ => exact World.cell?_setCell_same _ _ _ (by rw [World.cell?_setCell_other _ _ _ _ (by simp), World.cell?_setCell_other _ _ _ _ (by simp), World.cell?_setCell_other _ _ _ _ (by simp)]; exact h3)
theorem xy_ext {w w' : World} {b7 b8 : Nat} {v1 v2 : Value} (h : w.cell? ⟨b7, 3, none⟩ = some v1 ∧ w.cell? ⟨b8, 3, none⟩ = some v2) (l7 : b7 < w.heap.size) (l8 : b8 < w.heap.size) (k : Ext w w') : w'.cell? ⟨b7, 3, none⟩ = some v1 ∧ w'.cell? ⟨b8, 3, none⟩ = some v2 := ⟨(k.cell l7).trans h.1, (k.cell l8).trans h.2⟩
theorem Plain.blk {w w' : World} {b : Nat} (h : Plain w b) (e : w'.heap[b]? = w.heap[b]?) : Plain w' b := by
 obtain ⟨⟨cs, T, fr, h1⟩, h2⟩ := h
 exact ⟨⟨cs, T, fr, e.trans h1⟩, fun o => (World.frozen?_of_block (w := w) e).trans (h2 o)⟩
theorem row_plain {w : World} {k : F} {b off : Nat} {fs : List Nat} (h : RowAt w k b off fs) (h0 : k.len ≠ 0) (hz : ∀ o, w.frozen? ⟨b, o, none⟩ = false) : Plain w b := by
 cases k with
 | nil => exact absurd rfl h0
 | cons o n t ks r =>
   obtain ⟨_, _, _, _, h1, _⟩ := RowAt.cons_iff.1 h
   exact Plain.of_cell h1 hz
theorem look_mem {κ : Type} [DecidableEq κ] {a : κ} {v : Value} : ∀ {l : List (κ × Value × Nat)}, look a l = some v → ∃ e ∈ l, e.1 = a ∧ e.2.1 = v
 | [], h => by simp [look, findI] at h
 | x :: l, h => by
   rw [look_cons] at h
   split at h
   ·rename_i e; exact ⟨x, by simp, e.symm, by simpa using h⟩
   ·obtain ⟨e, h1, h2⟩ := look_mem h
    exact ⟨e, by simp [h1], h2⟩
theorem seen_of {w : World} {seen : List (F × F)} {m : List ((LK × LK) × Value × Nat)} (hm : ∀ e ∈ m, ∃ q ∈ seen, Lies w e.1.1 q.1 ∧ Lies w e.1.2 q.2) {k3 k4 : F} {p3 q3 p4 q4 L : Nat} {g3 g4 : List Nat} (h3 : RowAt w k3 p3 q3 g3) (h4 : RowAt w k4 p4 q4 g4) (hl3 : k3.len = L) (hl4 : k4.len = L) {v : Value} (h : look ((p3, q3, L), (p4, q4, L)) m = some v) : (k3, k4) ∈ seen := by
 obtain ⟨e, he, h1, _⟩ := look_mem h
 obtain ⟨q, hq, ⟨l1, ⟨f1, r1⟩, _⟩, ⟨l2, ⟨f2, r2⟩, _⟩⟩ := hm e he
 rw [h1] at l1 r1 l2 r2
 obtain ⟨a, b⟩ := q
 have ea : a = k3 := r1.unique h3 (by have l1' : L = a.len := l1; rw [← l1', hl3])
 have eb : b = k4 := r2.unique h4 (by have l2' : L = b.len := l2; rw [← l2', hl4])
 rw [← ea, ← eb]
 exact hq
theorem zero_bool (w : World) : (zeroValue 4).run Try.prog w = .ok (.bool false) w := by
 obtain ⟨i, hi⟩ : ∃ i, Try.prog.info? 4 = some i := ⟨_, rfl⟩
 have hz : (Try.prog.info? 4).map (·.zero) = some (some (.bool false)) := by kernel_rfl
 rw [hi] at hz
 simp only [Option.map_some, Option.some.injEq] at hz
 simp [zeroValue, typeInfo, hi, hz]
end Go.Proofs.Ytjcaiecapapceaa.Same1
namespace Go.Proofs.Ytjcaiecapapceaa.SameL
open Go.RowKit Same1
theorem docSame (w : World) (A B : D) (c1 c2 : List Value) (h1 : DocV w A c1) (h2 : DocV w B c2) :
  Calls Try.prog 16 #[.agg c1.toArray, .agg c2.toArray] w fun e w' => e = .returned (.bool (sameD A.1 A.2.1 A.2.2.1 A.2.2.2 B.1 B.2.1 B.2.2.1 B.2.2.2)) ∧ Below w.heap.size w w' := by
 have HD := Lib.hid (And.intro h1 h2)
 obtain ⟨a1, cap1, f1, rfl, hc1, hs1, hf1, hz1⟩ := h1
 obtain ⟨a2, cap2, f2, rfl, hc2, hs2, hf2, hz2⟩ := h2
 obtain ⟨o1, n1, t1, k1⟩ := A
 obtain ⟨o2, n2, t2, k2⟩ := B
 simp only at hc1 hs1 hz1 hc2 hs2 hz2 ⊢
 have HS := Lib.hid (And.intro hs1 (And.intro hf1 (And.intro hs2 hf2)))
 clear hs1 hf1 hs2 hf2
 have hmk : ∀ w : World, (Instr.makeMap 72 none).run Try.prog w = .ok (.map (some w.heap.size)) (w.alloc (.map #[] 0)) := fun w => run_makeMap _ w
 go_enter Try.func16, Try.ntmps16
 go_wp2_with fail
 go_loopg [6] (sumZ [((o1, n1, t1, k1), (o2, n2, t2, k2))]) (fun n v wr => Head w (o1, n1, t1, k1) (o2, n2, t2, k2) 73 n v wr)
 case atStart =>
  obtain ⟨hA, hB⟩ := HD.out
  refine ⟨[((o1, n1, t1, k1), (o2, n2, t2, k2))], [], [], Nat.le_refl _, ?_, stack_start hA hB (by simp) (Nat.le_refl _) rfl, SInv.start _ _, ?_, by simp, fun a v h => by simp [look, findI] at h, ?_, by simp⟩
  ·have := nodes_size k1
   rw [sumN_cons]
   show 1 + nodes k1 + 0 ≤ _
   omega
  ·exact pmap_start (by simp) _
  ·exact (((((Below.refl w.heap.size w).alloc (Nat.le_refl _) _).alloc (by simp) _).alloc (by simp; omega) _).alloc (by simp; omega) _)
 case round =>
  obtain ⟨st, seen, m, hn, hsn, hst, hinv, hpm, hm1, hm2, hbw, hsz⟩ := hrel
  have hl : st.length ≤ 4194304 := Nat.le_trans (len_sumN st) hsn
  have HSM := Lib.hid hsn
  clear hsn
  cases st with
  | nil =>
    obtain ⟨xs, hown, _⟩ := hst
    have H := Lib.hid (And.intro (same_yes hinv.end) hbw)
    rcases hown.2 with ⟨rfl, _⟩ | ⟨g, c, cur, rfl, _⟩
    all_goals
     clear hn hl hown hinv hpm hm1 hm2 hbw hsz
     go_wp2_with fail
     go_ret
     exact ⟨ret_bool H.out.1.symm, H.out.2⟩
  | cons p st =>
    obtain ⟨x, y⟩ := p
    obtain ⟨g, cap, c1, c2, rfl, hlo, hlt, hnc, hcm, hx, hy, hcx, hcy, hpop⟩ := hst.top
    obtain ⟨o3, n3, t3, k3⟩ := x
    obtain ⟨o4, n4, t4, k4⟩ := y
    have HX := Lib.hid (And.intro hx hy)
    obtain ⟨a3, cap3, f3, rfl, hc3, hs3, hf3, hz3⟩ := hx
    obtain ⟨a4, cap4, f4, rfl, hc4, hs4, hf4, hz4⟩ := hy
    obtain ⟨L, hL⟩ : ∃ L, st.length = L := ⟨_, rfl⟩
    have x0 := hcx 0 (by omega)
    have x1 := hcx 1 (by omega)
    have x2 := hcx 2 (by omega)
    have x3 := hcx 3 (by omega)
    have y0 := hcy 0 (by omega)
    have y1 := hcy 1 (by omega)
    have y2 := hcy 2 (by omega)
    have y3 := hcy 3 (by omega)
    simp only [List.length_cons] at hl
    rw [hL] at x0 x1 x2 x3 y0 y1 y2 y3 hl hnc
    rw [hL]
    simp only [List.getElem?_cons_zero, List.getElem?_cons_succ, Nat.add_zero] at x0 x1 x2 x3 y0 y1 y2 y3
    have H := Lib.hid (And.intro hn (And.intro hinv (And.intro hpm (And.intro hm1 (And.intro hm2 (And.intro hbw (And.intro hsz (And.intro hpop (And.intro hL hst)))))))))
    have HZ := Lib.hid (And.intro hs3 (And.intro hf3 (And.intro hs4 (And.intro hf4 (And.intro hz3 hz4)))))
    clear hn hinv hpm hm1 hm2 hbw hsz hpop hst hcx hcy hL hs3 hf3 hs4 hf4
    have i0 : (0 : Int) ≤ (L : Int) := by omega
    have i1 : IntKind.i64.wrap ((L : Int) + 1 - 1) = (L : Int) := by rw [IntKind.wrap_i64]; omega
    have i2 : ((L + 1 : Nat) : Int) = (L : Int) + 1 := by omega
    have i3 : (0 : Int) < (L : Int) + 1 := by omega
    go_wp2_with fail
    go_upto_region 4 with (fail)
    go_cut [7, 8] from 16 to 78 (fun s7 s8 wx => ∃ b7 b8, s7 = .pointer (some ⟨b7, 0, none⟩) ∧ s8 = .pointer (some ⟨b8, 0, none⟩) ∧ Two wr wx b7 b8 [.int .i64 o3, .int .i64 n3, .string t3, .slice a3 k3.len cap3] [.int .i64 o4, .int .i64 n4, .string t4, .slice a4 k4.len cap4])
    case first =>
     go_region
     all_goals
      go_wp2_with fail
      go_meet
     all_goals
      case rel =>
       refine ⟨_, _, rfl, rfl, ?_⟩
       first
        | exact Two.mk1 wr _
        | exact (Two.mk1 wr _).swap
    case rest =>
     obtain ⟨b7, b8, rfl, rfl, htwo⟩ := hcut
     have HT := Lib.hid htwo
     obtain ⟨h7, h8, l7, l8, q7, q8, hbx⟩ := htwo
     have x0 := q7 0 (by omega)
     have x1 := q7 1 (by omega)
     have x2 := q7 2 (by omega)
     have x3 := q7 3 (by omega)
     have y0 := q8 0 (by omega)
     have y1 := q8 1 (by omega)
     have y2 := q8 2 (by omega)
     have y3 := q8 3 (by omega)
     simp only [List.getElem?_cons_zero, List.getElem?_cons_succ] at x0 x1 x2 x3 y0 y1 y2 y3
     clear q7 q8 hbx
     have hk3 := F.len_le_size k3
     have hk4 := F.len_le_size k4
     have j0 : (L : Int) ≤ (cap : Int) := by omega
     have hNS := fun w => NodeS.nodeSame w o3 n3 o4 n4 t3 t4 a3 a4 k3.len k4.len cap3 cap4 (by have := HZ.out.2.2.2.2.1; unfold maxLen; omega) (by have := HZ.out.2.2.2.2.2; unfold maxLen; omega)
     cases hns : NodeS.nodeT o3 n3 t3 k3.len o4 n4 t4 k4.len with
     | false =>
       rw [hns] at hNS
       have HNS := Lib.hid hNS
       have HN := Lib.hid hns
       clear hNS hns
       go_wp2_with fail
       refine (HNS.out _).mono ?_
       rintro e1 w1 ⟨rfl, hb1⟩
       have HB1 := Lib.hid hb1
       clear x0 x1 x2 x3 y0 y1 y2 y3 hb1
       go_wp2_with fail
       go_ret
       obtain ⟨hn, hinv, hpm, hm1, hm2, hbw, hsz, hpop, hL, hst⟩ := H.out
       refine ⟨ret_bool (same_no (hinv.fail fun e => ?_)).symm, hbw.trans ((HT.out.2.2.2.2.2.2.trans (HB1.out.mono HT.out.2.2.2.2.2.2.size)).mono hbw.size)⟩
       have := NodeS.nodeT_iff.2 e
       rw [HN.out] at this; cases this
     | true =>
       rw [hns] at hNS
       have HNS := Lib.hid hNS
       have HN := Lib.hid (NodeS.nodeT_iff.1 hns)
       have hlen : k4.len = k3.len := (NodeS.nodeT_iff.1 hns).2.2.2.symm
       rw [hlen] at y3 hNS HNS hk4
       clear hNS hns
       by_cases h0 : k3.len = 0
       ·have h0' : ((k3.len : Int) == 0) = true := by rw [beq_iff_eq]; omega
        have H0 := Lib.hid h0
        clear h0
        go_wp2_with fail
        refine (HNS.out _).mono ?_
        rintro e1 w1 ⟨rfl, hb1⟩
        have x3' : w1.cell? ⟨b7, 3, none⟩ = _ := (hb1.cell (p := ⟨b7, 3, none⟩) l7).trans x3
        have HB1 := Lib.hid hb1
        clear x0 x1 x2 x3 y0 y1 y2 y3 hb1
        go_wp2_with fail
        go_roundg (sumZ st)
        case measure =>
         have := H.out.1
         have := sumZ_lt ((o3, n3, t3, k3), (o4, n4, t4, k4)) st
         omega
        case rel =>
         obtain ⟨hn, hinv, hpm, hm1, hm2, hbw, hsz, hpop, hL, hst⟩ := H.out
         exact Head.next (sumN_pop HSM.out) (by rw [← hL]; exact hpop) (hinv.leaf HN.out H0.out) hpm hm1 hm2 hbw hsz (HT.out.2.2.2.2.2.2.trans (HB1.out.mono HT.out.2.2.2.2.2.2.size))
       ·have h0' : ((k3.len : Int) == 0) = false := by rw [beq_eq_false_iff_ne]; omega
        obtain ⟨p3, q3, g3, rfl, hg3, hr3⟩ := sub_pos HZ.out.1 h0
        obtain ⟨p4, q4, g4, rfl, hg4, hr4⟩ := sub_pos HZ.out.2.2.1 (by rw [hlen]; exact h0)
        have hp3 : 0 < k3.len := by omega
        have hm3 : k3.len ≤ maxLen := by have := HZ.out.2.2.2.2.1; unfold maxLen; omega
        have H0 := Lib.hid (And.intro h0 (And.intro hg3 (And.intro hr3 (And.intro hg4 hr4))))
        have HK1 := Lib.hid (fun w => kidListOf w p3 q3 k3.len cap3 hp3 hm3)
        have HK2 := Lib.hid (fun w => kidListOf w p4 q4 k3.len cap4 hp3 hm3)
        clear h0 hg3 hr3 hg4 hr4
        go_wp2_with fail
        refine (HNS.out _).mono ?_
        rintro e1 w1 ⟨rfl, hb1⟩
        have x3' : w1.cell? ⟨b7, 3, none⟩ = _ := (hb1.cell (p := ⟨b7, 3, none⟩) l7).trans x3
        have y3' : w1.cell? ⟨b8, 3, none⟩ = _ := (hb1.cell (p := ⟨b8, 3, none⟩) l8).trans y3
        have l7' : b7 < w1.heap.size := Nat.lt_of_lt_of_le l7 hb1.size
        have l8' : b8 < w1.heap.size := Nat.lt_of_lt_of_le l8 hb1.size
        have HB1 := Lib.hid hb1
        clear x0 x1 x2 x3 y0 y1 y2 y3 hb1
        go_wp2_with fail
        go_upto_region 9 with (fail)
        go_cut [9] from 16 to 78 (fun s9 wx => ∃ b9, s9 = .pointer (some ⟨b9, 0, none⟩) ∧ KeyBox w1 wx b9 [.pointer (some ⟨p3, q3, none⟩), .int .i64 k3.len, .pointer (some ⟨p4, q4, none⟩), .int .i64 k3.len])
        case first =>
         have XYH := Lib.hid (And.intro (And.intro x3' y3') (And.intro l7' l8'))
         go_region_held3 (fun w' => w'.cell? ⟨b7, 3, none⟩ = some (.slice (some ⟨p3, q3, none⟩) k3.len cap3) ∧ w'.cell? ⟨b8, 3, none⟩ = some (.slice (some ⟨p4, q4, none⟩) k3.len cap4))
          (first | go_keep | exact xy_ext XYH.out.1 XYH.out.2.1 XYH.out.2.2 r3 | exact xy_ext XYH.out.1 XYH.out.2.1 XYH.out.2.2 r2 | exact xy_ext XYH.out.1 XYH.out.2.1 XYH.out.2.2 (r2.alloc _) | exact xy_ext XYH.out.1 XYH.out.2.1 XYH.out.2.2 (r3.alloc _) | exact xy_ext XYH.out.1 XYH.out.2.1 XYH.out.2.2 ((Ext.refl w1).drew.alloc _) | exact xy_ext XYH.out.1 XYH.out.2.1 XYH.out.2.2 ((((r3.setNew (by first | (simp; done) | (simp; omega)) _).setNew (by first | (simp; done) | (simp; omega)) _).setNew (by first | (simp; done) | (simp; omega)) _).setNew (by first | (simp; done) | (simp; omega)) _))
          (first
           | (go_at_call_of 45 (Value.slice (some ⟨p3, q3, none⟩) k3.len cap3); refine (HK1.out _).mono ?_; rintro e2 w2 ⟨rfl, hb2⟩; have r2 : Ext w1 w2 := Ext.trans (by first | exact (Ext.refl w1).drew | exact (Ext.refl w1).drew.alloc _ | exact (Ext.refl w1).alloc _ | exact Ext.refl w1) hb2; have l2 := r2.size; first | (have Z2 : ZKey w2 w1.heap.size := (by first | exact ZKey.new hb2 | exact ZKey.new (W := w1.drew) hb2)) | skip)
           | (go_at_call_of 45 (Value.slice (some ⟨p4, q4, none⟩) k3.len cap4); refine (HK2.out _).mono ?_; rintro e3 w3 ⟨rfl, hb3⟩; have r23 : Ext w2 w3 := Ext.trans (by first | exact Ext.refl w2 | exact (Ext.refl w2).alloc _) hb3; have r3 : Ext w1 w3 := r2.trans r23; have l3 := r23.size; first | (have Z3 : ZKey w3 w1.heap.size := (by exact ZKey.ext Z2 r23); obtain ⟨⟨z0, z1, z2, z3⟩, ⟨z4, z5, z6, z7⟩, z8⟩ := Z3) | (have Z3 : ZKey w3 w2.heap.size := (by exact ZKey.new hb3); obtain ⟨⟨z0, z1, z2, z3⟩, ⟨z4, z5, z6, z7⟩, z8⟩ := Z3) | skip))
         all_goals
          go_wp2_with fail
          go_meet
         all_goals
          case rel =>
           have hB : w1.heap.size ≤ w2.heap.size := l2
           first
            | exact ⟨_, rfl, KeyBox.last r3⟩
            | exact ⟨_, rfl, KeyBox.stored r3 (Nat.le_refl _) ⟨⟨z0, z1, z2, z3⟩, ⟨z4, z5, z6, z7⟩, z8⟩⟩
            | exact ⟨_, rfl, KeyBox.stored r3 hB ⟨⟨z0, z1, z2, z3⟩, ⟨z4, z5, z6, z7⟩, z8⟩⟩
        case rest =>
         obtain ⟨b9, rfl, hkb⟩ := hcut
         have HKB := Lib.hid hkb
         obtain ⟨h9, l9, q9, hb9⟩ := hkb
         have z0 := q9 0 (by omega)
         have z1 := q9 1 (by omega)
         have z2 := q9 2 (by omega)
         have z3 := q9 3 (by omega)
         simp only [List.getElem?_cons_zero, List.getElem?_cons_succ] at z0 z1 z2 z3
         clear q9 hb9
         have hall : Below w.heap.size w wc ∧ Below wr.heap.size wr wc := by
          have e1 := HT.out.2.2.2.2.2.2.trans (HB1.out.mono HT.out.2.2.2.2.2.2.size)
          have e2 := e1.trans (HKB.out.2.2.2.mono e1.size)
          exact ⟨H.out.2.2.2.2.2.1.trans (e2.mono H.out.2.2.2.2.2.1.size), e2⟩
         have HALL := Lib.hid hall
         have hpm : PMap wc lk2V (w.heap.size + 1 + 1) m := H.out.2.2.1.of_block (HALL.out.2.block _ (by have := H.out.2.2.2.2.2.2.1; omega))
         have hpl3 : Plain w p3 := row_plain H0.out.2.2.1 H0.out.1 (HZ.out.2.1 p3 (by rw [H0.out.2.1]; simp)).2
         have hpl4 : Plain w p4 := row_plain H0.out.2.2.2.2 (by rw [hlen]; exact H0.out.1) (HZ.out.2.2.2.1 p4 (by rw [H0.out.2.2.2.1]; simp)).2
         have hlt3 : p3 < w.heap.size := (HZ.out.2.1 p3 (by rw [H0.out.2.1]; simp)).1
         have hlt4 : p4 < w.heap.size := (HZ.out.2.2.2.1 p4 (by rw [H0.out.2.2.2.1]; simp)).1
         have hPl : ∀ b, Plain w b → b < w.heap.size → Plain wc b := fun b h hb => Plain.blk h (HALL.out.1.block b hb)
         have hmG : ∀ e ∈ m, Plain wc e.1.1.1 ∧ Plain wc e.1.2.1 := fun e he => by
          obtain ⟨q, _, ⟨_, _, h1, h2⟩, ⟨_, _, h3, h4⟩⟩ := H.out.2.2.2.1 e he
          exact ⟨hPl _ h1 h2, hPl _ h3 h4⟩
         have hz := zero_bool wc
         have hlook := run_look (P := Try.prog) KeysAt.pair_ok Try.underlying72 hz hpm (a := ((p3, q3, k3.len), (p4, q4, k3.len))) ⟨hPl _ hpl3 hlt3, hPl _ hpl4 hlt4⟩ hmG false
         simp only [Bool.false_eq_true, if_false] at hlook
         cases hlk : look ((p3, q3, k3.len), (p4, q4, k3.len)) m with
         | some v =>
           have hv : v = .bool true := H.out.2.2.2.2.1 _ _ hlk
           subst hv
           have hsn := seen_of H.out.2.2.2.1 H0.out.2.2.1 H0.out.2.2.2.2 rfl hlen hlk
           rw [hlk] at hlook
           have HSN := Lib.hid hsn
           have hlook' : (Instr.lookup 72 (.map (some (w.heap.size + 1 + 1))) (.agg #[.pointer (some ⟨p3, q3, none⟩), .int .i64 k3.len, .pointer (some ⟨p4, q4, none⟩), .int .i64 k3.len]) false).run Try.prog wc = .ok (.bool true) wc := hlook
           clear hlook hlk hsn hmG hPl hz hpm hpl3 hpl4 hall
           go_wp2_with fail
           go_roundg (sumZ st)
           case measure =>
            have := H.out.1
            have := sumZ_lt ((o3, n3, t3, k3), (o4, n4, t4, k4)) st
            omega
           case rel =>
            obtain ⟨hn, hinv, hpm, hm1, hm2, hbw, hsz, hpop, hL, hst⟩ := H.out
            exact Head.next (sumN_pop HSM.out) (by rw [← hL]; exact hpop) (hinv.known HN.out HSN.out) hpm hm1 hm2 hbw hsz HALL.out.2
         | none =>
           rw [hlk] at hlook
           have hlook' : (Instr.lookup 72 (.map (some (w.heap.size + 1 + 1))) (.agg #[.pointer (some ⟨p3, q3, none⟩), .int .i64 k3.len, .pointer (some ⟨p4, q4, none⟩), .int .i64 k3.len]) false).run Try.prog wc = .ok (.bool false) wc := hlook
           obtain ⟨m', w5, hup, hpm5, hlk5, hkeys5, hgr5⟩ := run_store_map (P := Try.prog) KeysAt.pair_ok Try.underlying72 hpm (a := ((p3, q3, k3.len), (p4, q4, k3.len))) ⟨hPl _ hpl3 hlt3, hPl _ hpl4 hlt4⟩ hmG (.bool true)
           have hup' : (Instr.mapUpdate 72 (.map (some (w.heap.size + 1 + 1))) (.agg #[.pointer (some ⟨p3, q3, none⟩), .int .i64 k3.len, .pointer (some ⟨p4, q4, none⟩), .int .i64 k3.len]) (.bool true)).run Try.prog wc = .ok () w5 := hup
           have x5 : w5.cell? ⟨b7, 3, none⟩ = some (.slice (some ⟨p3, q3, none⟩) k3.len cap3) := hgr5.cell ((HKB.out.2.2.2.cell (p := ⟨b7, 3, none⟩) l7').trans x3') (by have := H.out.2.2.2.2.2.2.1; simp; omega)
           have y5 : w5.cell? ⟨b8, 3, none⟩ = some (.slice (some ⟨p4, q4, none⟩) k3.len cap4) := hgr5.cell ((HKB.out.2.2.2.cell (p := ⟨b8, 3, none⟩) l8').trans y3') (by have := H.out.2.2.2.2.2.2.1; simp; omega)
           have hst5 : Stack w w5 73 (w.heap.size + 3) (.slice (some ⟨g, 0, none⟩) L cap) st := by
            have h1 := H.out.2.2.2.2.2.2.2.1
            have h2 := H.out.2.2.2.2.2.2.2.2.1
            rw [h2] at h1
            exact (h1.below (Nat.le_refl _) HALL.out.2).kept hgr5 (.inr (by simp [Value.ownBlock]; omega))
           have hm5a : ∀ e ∈ m', ∃ q ∈ (k3, k4) :: seen, Lies w e.1.1 q.1 ∧ Lies w e.1.2 q.2 := fun e he => by
            rcases hkeys5 e he with h | ⟨y, hy, h⟩
            ·rw [h]
             exact ⟨(k3, k4), by simp, ⟨rfl, ⟨_, H0.out.2.2.1⟩, hpl3, hlt3⟩, ⟨hlen.symm, ⟨_, H0.out.2.2.2.2⟩, hpl4, hlt4⟩⟩
            ·obtain ⟨q, hq, h1, h2⟩ := H.out.2.2.2.1 y hy
             rw [← h]
             exact ⟨q, by simp [hq], h1, h2⟩
           have hm5b : ∀ a v, look a m' = some v → v = .bool true := fun a v h => by
            rw [hlk5 a] at h
            split at h
            ·injection h with h; exact h.symm
            ·exact H.out.2.2.2.2.1 a v h
           have hmid : Mid w w5 73 (zipF k3 k4) st m' b7 b8 (.slice (some ⟨p3, q3, none⟩) k3.len cap3) (.slice (some ⟨p4, q4, none⟩) k3.len cap4) 0 (.slice (some ⟨g, 0, none⟩) L cap) := by
            have hs := H.out.2.2.2.2.2.2.1
            refine ⟨hst5, hpm5, Ext.trans' (a := w) HALL.out.1 hgr5 (by omega), Nat.le_trans hs (Nat.le_trans HALL.out.2.size hgr5.size), x5, y5, ?_, ?_, fun q hq => ?_⟩
            ·exact Nat.lt_of_lt_of_le l7' (Nat.le_trans HKB.out.2.2.2.size hgr5.size)
            ·exact Nat.lt_of_lt_of_le l8' (Nat.le_trans HKB.out.2.2.2.size hgr5.size)
            ·simp only [Value.ownBlock, Option.some.injEq] at hq
             exact ⟨by omega, by omega⟩
           have H5 := Lib.hid (And.intro hm5a (And.intro hm5b (And.intro hmid hlen)))
           clear hlook hup hlk hmG hPl hz hpm hpl3 hpl4 hall hpm5 hlk5 hkeys5 hgr5 hst5 hm5a hm5b hmid
           go_wp2_with fail
           have hk9 : k3.len ≤ 2097152 := by have := F.len_le_size k3; have := HZ.out.2.2.2.2.1; omega
           go_loopw [6, 10, 61] (fun v _ i wl => ∃ j : Nat, j ≤ k3.len ∧ i = .int .i64 (j : Int) ∧ Mid w wl 73 (zipF k3 k4) st m' b7 b8 (.slice (some ⟨p3, q3, none⟩) k3.len cap3) (.slice (some ⟨p4, q4, none⟩) k3.len cap4) j v) (fun _ _ i _ => k3.len - (intOf i).toNat)
           case atStart =>
            exact ⟨0, Nat.zero_le _, rfl, H5.out.2.2.1⟩
           case round =>
            obtain ⟨j, hj, rfl, hmid⟩ := hrel
            have HMID := Lib.hid hmid
            by_cases hjk : j < k3.len
            ·obtain ⟨p, o, n, t, ks, r, hf, hpj⟩ := F.at_len k3 j hjk
             obtain ⟨p', o', n', t', ks', r', hf', hpj'⟩ := F.at_len k4 j (by have := H5.out.2.2.2; omega)
             have hr3 := H0.out.2.2.1
             rw [hf] at hr3
             obtain ⟨a5, cap5, f5, c0, c1, c2, c3, hc5, hs5, hin5⟩ := row_at hr3
             have hr4 := H0.out.2.2.2.2
             rw [hf'] at hr4
             obtain ⟨a6, cap6, f6, e0, e1, e2, e3, hc6, hs6, hin6⟩ := row_at hr4
             rw [hpj] at c0 c1 c2 c3
             rw [hpj'] at e0 e1 e2 e3
             have hq3 := HZ.out.2.1
             have hq4 := HZ.out.2.2.2.1
             rw [H0.out.2.1] at hq3
             rw [H0.out.2.2.2.1] at hq4
             have hlt3 : p3 < w.heap.size := (hq3 p3 (by simp)).1
             have hlt4 : p4 < w.heap.size := (hq4 p4 (by simp)).1
             have hb := hmid.bel
             rw [← hb.cell (p := ⟨_, _, _⟩) hlt3] at c0 c1 c2 c3
             rw [← hb.cell (p := ⟨_, _, _⟩) hlt4] at e0 e1 e2 e3
             have hX : DocV w (o, n, t, ks) [.int .i64 o, .int .i64 n, .string t, .slice a5 ks.len cap5] := ⟨a5, cap5, f5, rfl, hc5, hs5, fun q hq => hq3 q (by simp [hin5 q hq]), by
              have h1 := HZ.out.2.2.2.2.1
              rw [hf, F.size_app] at h1
              simp only [F.size] at h1 ⊢
              omega⟩
             have hY : DocV w (o', n', t', ks') [.int .i64 o', .int .i64 n', .string t', .slice a6 ks'.len cap6] := ⟨a6, cap6, f6, rfl, hc6, hs6, fun q hq => hq4 q (by simp [hin6 q hq]), by
              have h1 := HZ.out.2.2.2.2.2
              rw [hf', F.size_app] at h1
              simp only [F.size] at h1 ⊢
              omega⟩
             have hzt : (zipF k3 k4).take (j + 1) = (zipF k3 k4).take j ++ [((o, n, t, ks), (o', n', t', ks'))] := by
              have := zipF_take (p := p) (p' := p') (o := o) (n := n) (t := t) (k := ks) (r := r) (o' := o') (n' := n') (t' := t') (k' := ks') (r' := r') (hpj.trans hpj'.symm)
              rw [← hf, ← hf', hpj] at this
              exact this
             have x3 := hmid.x
             have y3 := hmid.y
             have hl7 := hmid.l7
             have hl8 := hmid.l8
             obtain ⟨N2, hN2⟩ : ∃ N2, (((zipF k3 k4).take j).reverse ++ st).length = N2 := ⟨_, rfl⟩
             have hN3 : N2 ≤ 16777216 := by
              have h1 := H.out.2.2.2.2.2.2.2.2.1
              have h2 := zipF_len H5.out.2.2.2.symm
              rw [← hN2, List.length_append, List.length_reverse, List.length_take, h1]
              omega
             obtain ⟨l5, hl5⟩ : ∃ l5, ks.len = l5 := ⟨_, rfl⟩
             obtain ⟨l6, hl6⟩ : ∃ l6, ks'.len = l6 := ⟨_, rfl⟩
             rw [hl5] at c3 hX
             rw [hl6] at e3 hY
             have HJ := Lib.hid (And.intro hX (And.intro hY (And.intro hzt (And.intro hN2 hN3))))
             have HM3 := Lib.hid (show w.heap.size + 3 ≤ wr.heap.size from hmid.lo)
             clear hmid hf hf' hr3 hr4 hc5 hs5 hin5 hc6 hs6 hin6 hq3 hq4 hb hX hY hzt hN2 hN3 hpj hpj' hl5 hl6
             go_wp2_with fail
             first | go_region_law (refine step_pair rfl (.tmp 64) (.tmp 76) rfl rfl (HMID.out.st.below (Nat.le_refl _) (((Ext.refl wr).drew).alloc _)) HJ.out.2.2.2.1 rfl _ _ _ _ HJ.out.1 HJ.out.2.1 (cells8 wr.drew _ _ _ _ _ _ _ _ _) HJ.out.2.2.2.2 (Nat.le_trans HM3.out (by simp)) ?_; intro g5 cap5' w6 hst6 hgr6 hat6; have H6 := Lib.hid (And.intro hst6 (And.intro hgr6 hat6)); clear hst6 hgr6 hat6) | fail
             all_goals
              go_wp2_with fail
              go_roundw
             all_goals first
              | (exact ⟨j + 1, by omega, by go_num, HMID.out.next (((Ext.refl wr).drew).alloc _) HJ.out.2.2.1 H6.out.1 H6.out.2.1 rfl H6.out.2.2⟩)
              | (simp [intOf]; omega)
            ·have hjl : j = k3.len := by omega
             subst hjl
             clear hmid
             go_wp2_with fail
             go_roundg (sumZ ((zipF k3 k4).reverse ++ st))
             case measure =>
              have h1 := H.out.1
              have h2 := sumZ_open (x := (o3, n3, t3, k3)) (y := (o4, n4, t4, k4)) (st := st)
              exact Nat.lt_of_lt_of_le h2 h1
             case rel =>
              obtain ⟨hn, hinv, hpm, hm1, hm2, hbw, hsz, hpop, hL, hst⟩ := H.out
              have hz : (zipF k3 k4).take k3.len = zipF k3 k4 := List.take_of_length_le (by rw [zipF_len H5.out.2.2.2.symm]; exact Nat.le_refl _)
              have hs := HMID.out.st
              rw [hz] at hs
              exact ⟨_, (k3, k4) :: seen, m', Nat.le_refl _, Nat.le_trans (sumN_open (x := (o3, n3, t3, k3)) (y := (o4, n4, t4, k4)) (st := st)) HSM.out, hs, hinv.open HN.out, HMID.out.map, H5.out.1, H5.out.2.1, HMID.out.bel, HMID.out.lo⟩
end Go.Proofs.Ytjcaiecapapceaa.SameL
namespace Go.Proofs.Ytjcaiecapapceaa.NfM
open Go.RowKit P1
theorem same {w : World} {n n' : Int} {t t' : ByteArray} {k k' : F} {a a' : Option Addr} {cap cap' : Nat} {fs fs' : List Nat} (h : DocK.Doc0 w n t k a cap fs) (h' : DocK.Doc0 w n' t' k' a' cap' fs') (o o' : Int) : Calls Try.prog 16 #[.agg #[.int .i64 o, .int .i64 n, .string t, .slice a k.len cap], .agg #[.int .i64 o', .int .i64 n', .string t', .slice a' k'.len cap']] w fun e w' => e = .returned (.bool (sameD o n t k o' n' t' k')) ∧ Ext w w' :=
 SameL.docSame w (o, n, t, k) (o', n', t', k') _ _ (h.docV o) (h'.docV o')
end Go.Proofs.Ytjcaiecapapceaa.NfM

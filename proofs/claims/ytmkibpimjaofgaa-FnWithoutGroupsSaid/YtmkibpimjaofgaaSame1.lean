import Derived.Test.YtmkibpimjaofgaaPl
import Derived.Test.YtmkibpimjaofgaaNodeS
import Derived.Test.YtmkibpimjaofgaaKeysAt
import Derived.Deep.LoopGhost
import Derived.Outline
import Derived.Carry
import Derived.Deep.CutRange
import Derived.Deep.Light
import Derived.Deep.AppendLies
/-
  What holds in the rounds of impl.DocSame.
-/
set_option linter.unusedVariables false
set_option linter.unusedSimpArgs false
namespace Go.Proofs.Ytmkibpimjaofgaa.Same1
open Go.RowKit

/-- a list lies where a key says -/
def Lies (w : World) (k : LK) (f : F) : Prop := k.2.2 = f.len ∧ (∃ fs, RowAt w f k.1 k.2.1 fs) ∧ Plain w k.1 ∧ k.1 < w.heap.size

/-- two documents in variables of their own -/
def Two (wr wx : World) (b7 b8 : Nat) (c1 c2 : List Value) : Prop := wr.heap.size ≤ b7 ∧ wr.heap.size ≤ b8 ∧ b7 < wx.heap.size ∧ b8 < wx.heap.size ∧ (∀ j, j < 4 → wx.cell? ⟨b7, j, none⟩ = c1[j]?) ∧ (∀ j, j < 4 → wx.cell? ⟨b8, j, none⟩ = c2[j]?) ∧ Below wr.heap.size wr wx

theorem stack_start {w W : World} {T : TypeId} {x y : D} {c1 c2 : List Value} (h1 : DocV w x c1) (h2 : DocV w y c2) {lo b : Nat} (hb : W.heap.size = b) (hlo : lo ≤ b) {cs : Array Value} (hcs : cs = (c1 ++ c2).toArray) : Stack w (W.alloc (.cells cs T)) T lo (.slice (some ⟨b, 0, none⟩) 1 1) [(x, y)] := by
  subst hcs hb
  have hl : (c1 ++ c2).length = 8 := by rw [List.length_append, h1.len, h2.len]
  refine ⟨c1 ++ c2, ⟨hl, .inr ⟨W.heap.size, 1, _, rfl, hlo, heap_alloc_new W _, Nat.le_refl _, by unfold maxLen; omega, by simpa using hl, ?_⟩⟩, c1, c2, [], by simp, h1, h2, rfl⟩
  simp only [List.length_cons, List.length_nil]
  rw [List.take_of_length_le (by simpa using Nat.le_of_eq hl)]

theorem Two.mk1 (wr : World) (T : TypeId) {v1 v2 v3 v4 u1 u2 u3 u4 : Value} : Two wr ((wr.alloc (.cells #[v1, v2, v3, v4] T)).alloc (.cells #[u1, u2, u3, u4] T)).drew wr.heap.size (wr.heap.size + 1) [v1, v2, v3, v4] [u1, u2, u3, u4] := by
  refine ⟨Nat.le_refl _, by omega, by simp; omega, by simp, fun j hj => ?_, fun j hj => ?_, (((Below.refl _ _).alloc (Nat.le_refl _) _).alloc (by simp) _).drew⟩
  · rw [World.cell?_drew, World.cell?_alloc_lt _ _ ⟨wr.heap.size, j, none⟩ (by simp), World.cell?_alloc_new]
    match j, hj with
    | 0, _ => rfl
    | 1, _ => rfl
    | 2, _ => rfl
    | 3, _ => rfl
  · have e : wr.heap.size + 1 = (wr.alloc (.cells #[v1, v2, v3, v4] T)).heap.size := by simp
    rw [World.cell?_drew, e, World.cell?_alloc_new]
    match j, hj with
    | 0, _ => rfl
    | 1, _ => rfl
    | 2, _ => rfl
    | 3, _ => rfl
theorem Two.swap {wr wx : World} {b7 b8 : Nat} {c1 c2 : List Value} (h : Two wr wx b7 b8 c1 c2) : Two wr wx b8 b7 c2 c1 := by
  obtain ⟨h1, h2, h3, h4, h5, h6, h7⟩ := h
  exact ⟨h2, h1, h4, h3, h6, h5, h7⟩

/-- the nodes that are left -/
def sumN (l : List (D × D)) : Nat := (l.map fun p => 1 + nodes p.1.2.2.2).sum
theorem sumN_cons (p : D × D) (l : List (D × D)) : sumN (p :: l) = 1 + nodes p.1.2.2.2 + sumN l := by unfold sumN; simp
theorem len_sumN : ∀ l : List (D × D), l.length ≤ sumN l
  | [] => Nat.zero_le _
  | p :: l => by rw [sumN_cons, List.length_cons]; have := len_sumN l; omega
theorem sumN_pop {p : D × D} {l : List (D × D)} {B : Nat} (h : sumN (p :: l) ≤ B) : sumN l ≤ B := by rw [sumN_cons] at h; omega
theorem sumN_app (a b : List (D × D)) : sumN (a ++ b) = sumN a + sumN b := by simp [sumN]
theorem zipF_sumN : ∀ {f g : F}, sumN (zipF f g) ≤ nodes f := by
  intro f
  induction f with
  | nil => intro g; simp [zipF, sumN]
  | cons o n t k r _ ihr =>
    intro g
    cases g with
    | nil => simp [zipF, sumN]
    | cons o' n' t' k' r' =>
      have := ihr (g := r')
      rw [zipF, sumN_cons, nodes_cons]
      simp only
      omega
theorem sumN_open {x y : D} {st : List (D × D)} : sumN ((zipF x.2.2.2 y.2.2.2).reverse ++ st) ≤ sumN ((x, y) :: st) := by
  have h := zipF_sumN (f := x.2.2.2) (g := y.2.2.2)
  have h2 : sumN (zipF x.2.2.2 y.2.2.2).reverse = sumN (zipF x.2.2.2 y.2.2.2) := by
    unfold sumN; rw [List.map_reverse, List.sum_reverse]
  rw [sumN_app, h2, sumN_cons]
  simp only
  omega

/-- the pairs of two lists, up to one more -/
theorem zipF_take : ∀ {p p' : F} {o n : Int} {t : ByteArray} {k r : F} {o' n' : Int} {t' : ByteArray} {k' r' : F}, p.len = p'.len → (zipF (p.app (.cons o n t k r)) (p'.app (.cons o' n' t' k' r'))).take (p.len + 1) = (zipF (p.app (.cons o n t k r)) (p'.app (.cons o' n' t' k' r'))).take p.len ++ [((o, n, t, k), (o', n', t', k'))] := by
  intro p
  induction p with
  | nil =>
    intro p' o n t k r o' n' t' k' r' h
    have := F.len_eq_zero (f := p') h.symm
    subst this
    simp [F.app, zipF, F.len]
  | cons a b c d e _ ih =>
    intro p' o n t k r o' n' t' k' r' h
    cases p' with
    | nil => simp [F.len] at h
    | cons a' b' c' d' e' =>
      have := ih (p' := e') (o := o) (n := n) (t := t) (k := k) (r := r) (o' := o') (n' := n') (t' := t') (k' := k') (r' := r') (by simpa [F.len] using h)
      simp only [F.app, zipF, F.len, List.take_succ_cons, this, List.cons_append]

theorem zipF_len : ∀ {f g : F}, f.len = g.len → (zipF f g).length = f.len := by
  intro f
  induction f with
  | nil => intro g _; simp [zipF, F.len]
  | cons o n t k r _ ih =>
    intro g h
    cases g with
    | nil => simp [F.len] at h
    | cons o' n' t' k' r' => simp only [zipF, List.length_cons, F.len, ih (g := r') (by simpa [F.len] using h)]

theorem info : (Try.prog.info? 87).map (fun i => (i.zero, i.size, i.bytes)) = some (some (.agg #[.int .i64 0, .int .i64 0, .string ⟨#[]⟩, .slice none 0 0, .int .i64 0, .int .i64 0, .string ⟨#[]⟩, .slice none 0 0]), 8, 112) := by kernel_rfl
theorem info_parts {x : Option TypeInfo} {z : Value} {s b : Nat} (h : x.map (fun i => (i.zero, i.size, i.bytes)) = some (some z, s, b)) : ∃ i, x = some i ∧ i.zero = some z ∧ i.size = s ∧ i.bytes = b := by
  cases x with
  | none => simp at h
  | some i => simp at h; exact ⟨i, rfl, h.1, h.2.1, h.2.2⟩

/-- a pair more on the stack, in a region that draws -/
theorem step_pair {ops : Array Oper} {op : Oper} {ac : Act} {w : World} {K : Act → World → Prop} {Q : Exit → Act → World → Prop} {E : Prop} (hgd : op.guard = none) (s x : Operand)
    (ho : op.op = .call { callee := .builtin .append, args := #[s, x], argTypes := #[88, 88] })
    {w0 : World} {lo n : Nat} {v : Value} {st : List (D × D)} (hsv : ac.eval s = v) (hst : Stack w0 w 87 lo v st) (hn : st.length = n) {d c : Nat} (hx : ac.eval x = .slice (some ⟨d, 0, none⟩) 1 c) (X Y : D) (c1 c2 : List Value) (h1 : DocV w0 X c1) (h2 : DocV w0 Y c2)
    (hcell : ∀ j u, (c1 ++ c2)[j]? = some u → w.cell? ⟨d, j, none⟩ = some u) (hl : n ≤ 16777216) (hlo : lo ≤ w.heap.size)
    (h : ∀ g cap' w', Stack w0 w' 87 lo (.slice (some ⟨g, 0, none⟩) (n + 1) cap') ((X, Y) :: st) → w.grownBy w' v.ownBlock → (v.ownBlock = some g ∨ g = w.heap.size) → K (ac.put op.dst (.slice (some ⟨g, 0, none⟩) (n + 1) cap')) w') :
    if Region.wanted op (yielded ops ac.tmps) = true then Oper.wp Try.prog op ac w K Q else E := by
  subst hn
  obtain ⟨i, hi, hz, h8, h112⟩ := info_parts info
  obtain ⟨xs, hown, hit⟩ := hst
  refine step_append_lies w hgd s x 88 ho lo 87 i _ 8 112 Try.underlying88 hi hz h8 h112 rfl (by omega) v st.length xs hsv hown ⟨d, 0, none⟩ 1 c (c1 ++ c2) hx (by rw [List.length_append, h1.len, h2.len]) ?_ ?_ (by omega) (by unfold maxLen; omega) (by omega) hlo _ rfl ?_
  · intro j u hu
    rw [add_at, Nat.zero_add]
    exact hcell j u hu
  · intro u hu
    rcases List.mem_append.1 hu with hu | hu
    · exact h1.one u hu
    · exact h2.one u hu
  · intro g cap' w' hown' hgr hat _
    exact h g cap' w' (Stack.push hit h1 h2 hown') hgr hat

theorem cells8 (W : World) (T : TypeId) (v1 v2 v3 v4 u1 u2 u3 u4 : Value) : ∀ j u, ([v1, v2, v3, v4] ++ [u1, u2, u3, u4])[j]? = some u → (W.alloc (.cells #[v1, v2, v3, v4, u1, u2, u3, u4] T)).cell? ⟨W.heap.size, j, none⟩ = some u := fun j u hu => by
  rw [World.cell?_alloc_new]
  simpa using hu

/-- what holds in the inner loop -/
structure Mid (w wl : World) (T : TypeId) (Z st : List (D × D)) (m : List ((LK × LK) × Value × Nat)) (b7 b8 : Nat) (u3 u4 : Value) (j : Nat) (v : Value) : Prop where
  st : Stack w wl T (w.heap.size + 3) v ((Z.take j).reverse ++ st)
  map : PMap wl lk2V (w.heap.size + 2) m
  bel : Below w.heap.size w wl
  lo : w.heap.size + 3 ≤ wl.heap.size
  x : wl.cell? ⟨b7, 3, none⟩ = some u3
  y : wl.cell? ⟨b8, 3, none⟩ = some u4
  l7 : b7 < wl.heap.size
  l8 : b8 < wl.heap.size
  own : ∀ q, v.ownBlock = some q → q ≠ b7 ∧ q ≠ b8

theorem Mid.next {w wl wa w' : World} {T : TypeId} {Z st : List (D × D)} {m : List ((LK × LK) × Value × Nat)} {b7 b8 : Nat} {u3 u4 : Value} {j : Nat} {v v' : Value} (h : Mid w wl T Z st m b7 b8 u3 u4 j v) (he : Ext wl wa) {z : D × D} (hz : Z.take (j + 1) = Z.take j ++ [z])
    (hst : Stack w w' T (w.heap.size + 3) v' (z :: ((Z.take j).reverse ++ st))) (hg : wa.grownBy w' v.ownBlock) {g : Nat} (hv : v'.ownBlock = some g) (hat : v.ownBlock = some g ∨ g = wa.heap.size) : Mid w w' T Z st m b7 b8 u3 u4 (j + 1) v' := by
  have hlo : ∀ q, v.ownBlock = some q → w.heap.size + 3 ≤ q := fun q hq => by
    obtain ⟨xs, h1, _⟩ := h.st
    exact (h1.lt q hq).1
  have hk : ∀ q, q < wl.heap.size → v.ownBlock ≠ some q → w'.heap[q]? = wl.heap[q]? := fun q hq hne => (hg.block q (Nat.lt_of_lt_of_le hq he.size) (fun e => hne e.symm)).trans (he.block q hq)
  have hs : wl.heap.size ≤ w'.heap.size := Nat.le_trans he.size hg.size
  refine ⟨?_, h.map.of_block (hk _ h.map.lt fun e => by have := hlo _ e; omega), ?_, Nat.le_trans h.lo hs, ?_, ?_, Nat.lt_of_lt_of_le h.l7 hs, Nat.lt_of_lt_of_le h.l8 hs, fun q hq => ?_⟩
  · rw [hz, List.reverse_append]; exact hst
  · exact ⟨hg.os.trans (he.os.trans h.bel.os), hg.tape.trans (he.tape.trans h.bel.tape), hg.output.trans (he.output.trans h.bel.output), Nat.le_trans h.bel.size hs, fun i hi => (hk i (Nat.lt_of_lt_of_le hi h.bel.size) (fun e => by have := hlo _ e; omega)).trans (h.bel.block i hi)⟩
  · exact (World.cell?_of_block (w := wl) (hk b7 h.l7 fun e => (h.own _ e).1 rfl)).trans h.x
  · exact (World.cell?_of_block (w := wl) (hk b8 h.l8 fun e => (h.own _ e).2 rfl)).trans h.y
  · rw [hv] at hq
    injection hq with hq
    subst hq
    rcases hat with e | e
    · exact h.own _ e
    · have h1 := h.l7; have h2 := h.l8; have h3 := he.size
      exact ⟨by omega, by omega⟩

/-- what holds at the head of a round -/
def Head (w : World) (A B : D) (T : TypeId) (n : Nat) (v : Value) (wr : World) : Prop := ∃ (st : List (D × D)) (seen : List (F × F)) (m : List ((LK × LK) × Value × Nat)), sumZ st ≤ n ∧ sumN st ≤ 4194304 ∧ Stack w wr T (w.heap.size + 3) v st ∧ SInv A B st seen ∧ PMap wr lk2V (w.heap.size + 2) m ∧
  (∀ e ∈ m, ∃ q ∈ seen, Lies w e.1.1 q.1 ∧ Lies w e.1.2 q.2) ∧ (∀ a v, look a m = some v → v = .bool true) ∧ Below w.heap.size w wr ∧ w.heap.size + 3 ≤ wr.heap.size

/-- the round goes on -/
theorem Head.next {w wr w1 : World} {A B : D} {T : TypeId} {v : Value} {st : List (D × D)} {seen : List (F × F)} {m : List ((LK × LK) × Value × Nat)} (hl : sumN st ≤ 4194304) (hst : Stack w wr T (w.heap.size + 3) v st) (hinv : SInv A B st seen) (hpm : PMap wr lk2V (w.heap.size + 2) m)
    (hm1 : ∀ e ∈ m, ∃ q ∈ seen, Lies w e.1.1 q.1 ∧ Lies w e.1.2 q.2) (hm2 : ∀ a v, look a m = some v → v = .bool true) (hbw : Below w.heap.size w wr) (hsz : w.heap.size + 3 ≤ wr.heap.size) (k : Below wr.heap.size wr w1) : Head w A B T (sumZ st) v w1 :=
  ⟨st, seen, m, Nat.le_refl _, hl, hst.below (Nat.le_refl _) k, hinv, hpm.of_block (k.block _ (by omega)), hm1, hm2, hbw.trans (k.mono hbw.size), Nat.le_trans hsz k.size⟩

theorem same_no {A B : D} (h : A ≠ B) : sameD A.1 A.2.1 A.2.2.1 A.2.2.2 B.1 B.2.1 B.2.2.1 B.2.2.2 = false := by
  rw [Bool.eq_false_iff]
  intro e
  obtain ⟨h1, h2, h3, h4⟩ := sameD_iff.1 e
  obtain ⟨a, b, c, d⟩ := A
  obtain ⟨a', b', c', d'⟩ := B
  simp only at h1 h2 h3 h4
  exact h (by rw [h1, h2, h3, h4])
theorem same_yes {A B : D} (h : A = B) : sameD A.1 A.2.1 A.2.2.1 A.2.2.2 B.1 B.2.1 B.2.2.1 B.2.2.2 = true := by
  subst h; exact sameD_iff.2 ⟨rfl, rfl, rfl, rfl⟩

theorem sumZ_lt (p : D × D) (st : List (D × D)) : sumZ st < sumZ (p :: st) := by
  have e : sumZ (p :: st) = (1 + p.1.2.2.1.size + p.1.2.2.2.size) + sumZ st := by
    unfold sumZ; simp only [List.map_cons, List.sum_cons]; rfl
  omega

theorem ret_bool {a b : Bool} (h : a = b) : Ending.returned (.bool a) = .returned (.bool b) := by rw [h]

theorem pmap_start {W : World} {b : Nat} (hb : W.heap.size = b) (o : Obj) : PMap ((W.alloc (.map #[] 0)).alloc o) lk2V b [] := by
  subst hb
  refine (PMap.made W lk2V).of_block ?_
  exact heap_alloc_old _ _ (by simp)

theorem sub_pos {w : World} {a : Option Addr} {k : F} {fs : List Nat} (h : SubAt w a k fs) (h0 : k.len ≠ 0) : ∃ b off f', a = some ⟨b, off, none⟩ ∧ fs = b :: f' ∧ RowAt w k b off f' := by
  rcases h with ⟨rfl, _⟩ | ⟨b, off, f', h1, _, h2, h3⟩
  · exact absurd rfl h0
  · exact ⟨b, off, f', h1, h2, h3⟩

theorem kidListOf (w : World) (b off l cap : Nat) (h0 : 0 < l) (hl : l ≤ maxLen) :
    Calls Try.prog 88 #[.slice (some ⟨b, off, none⟩) l cap] w fun e w' => e = .returned (.agg #[.pointer (some ⟨b, off, none⟩), .int .i64 l]) ∧ Below w.heap.size w w' := NodeS.kidListOf w b off l cap h0 hl

/-- a pair of keys in a variable of its own -/
def KeyBox (w1 wx : World) (b9 : Nat) (c : List Value) : Prop := w1.heap.size ≤ b9 ∧ b9 < wx.heap.size ∧ (∀ j, j < 4 → wx.cell? ⟨b9, j, none⟩ = c[j]?) ∧ Below w1.heap.size w1 wx

/-- a pair of keys in a variable, not yet written -/
def ZKey (w : World) (b : Nat) : Prop := (w.cell? ⟨b, 0, none⟩ = some (.pointer none) ∧ w.cell? ⟨b, 1, none⟩ = some (.int .i64 0) ∧ w.cell? ⟨b, 2, none⟩ = some (.pointer none) ∧ w.cell? ⟨b, 3, none⟩ = some (.int .i64 0)) ∧
  (w.frozen? ⟨b, 0, none⟩ = false ∧ w.frozen? ⟨b, 1, none⟩ = false ∧ w.frozen? ⟨b, 2, none⟩ = false ∧ w.frozen? ⟨b, 3, none⟩ = false) ∧ b < w.heap.size
theorem ZKey.ext {w w' : World} {b : Nat} (h : ZKey w b) (k : Ext w w') : ZKey w' b := by
  obtain ⟨⟨h0, h1, h2, h3⟩, ⟨z0, z1, z2, z3⟩, hb⟩ := h
  exact ⟨⟨(k.cell hb).trans h0, (k.cell hb).trans h1, (k.cell hb).trans h2, (k.cell hb).trans h3⟩, ⟨(k.frozen hb).trans z0, (k.frozen hb).trans z1, (k.frozen hb).trans z2, (k.frozen hb).trans z3⟩, Nat.lt_of_lt_of_le hb k.size⟩
theorem ZKey.alloc (W : World) (T : TypeId) : ZKey (W.alloc (.cells #[.pointer none, .int .i64 0, .pointer none, .int .i64 0] T)) W.heap.size := by
  refine ⟨⟨?_, ?_, ?_, ?_⟩, ⟨World.frozen?_alloc_new _ _ _ _, World.frozen?_alloc_new _ _ _ _, World.frozen?_alloc_new _ _ _ _, World.frozen?_alloc_new _ _ _ _⟩, by simp⟩ <;> (rw [World.cell?_alloc_new]; rfl)
theorem ZKey.new {W w3 : World} {T : TypeId} (h : Below (W.alloc (.cells #[.pointer none, .int .i64 0, .pointer none, .int .i64 0] T)).heap.size (W.alloc (.cells #[.pointer none, .int .i64 0, .pointer none, .int .i64 0] T)) w3) : ZKey w3 W.heap.size := (ZKey.alloc W T).ext h

theorem KeyBox.last {w1 w3 : World} (h : Ext w1 w3) {T : TypeId} {v1 v2 v3 v4 : Value} : KeyBox w1 (w3.alloc (.cells #[v1, v2, v3, v4] T)) w3.heap.size [v1, v2, v3, v4] :=
  ⟨h.size, by simp, fun j hj => by
    rw [World.cell?_alloc_new]
    match j, hj with
    | 0, _ => rfl
    | 1, _ => rfl
    | 2, _ => rfl
    | 3, _ => rfl, h.alloc _⟩
theorem KeyBox.stored {w1 w3 : World} (h : Ext w1 w3) {b : Nat} (hb : w1.heap.size ≤ b) (Z : ZKey w3 b) {v1 v2 v3 v4 : Value} : KeyBox w1 ((((w3.setCell ⟨b, 0, none⟩ v1).setCell ⟨b, 1, none⟩ v2).setCell ⟨b, 2, none⟩ v3).setCell ⟨b, 3, none⟩ v4) b [v1, v2, v3, v4] := by
  obtain ⟨⟨h0, h1, h2, h3⟩, _, hlt⟩ := Z
  refine ⟨hb, by simpa using hlt, fun j hj => ?_, (((h.setNew hb _).setNew hb _).setNew hb _).setNew hb _⟩
  match j, hj with
  | 0, _ =>
    rw [World.cell?_setCell_other _ _ _ _ (by simp), World.cell?_setCell_other _ _ _ _ (by simp), World.cell?_setCell_other _ _ _ _ (by simp)]
    exact World.cell?_setCell_same _ _ _ h0
  | 1, _ =>
    rw [World.cell?_setCell_other _ _ _ _ (by simp), World.cell?_setCell_other _ _ _ _ (by simp)]
    exact World.cell?_setCell_same _ _ _ (by rw [World.cell?_setCell_other _ _ _ _ (by simp)]; exact h1)
  | 2, _ =>
    rw [World.cell?_setCell_other _ _ _ _ (by simp)]
    exact World.cell?_setCell_same _ _ _ (by rw [World.cell?_setCell_other _ _ _ _ (by simp), World.cell?_setCell_other _ _ _ _ (by simp)]; exact h2)
  | 3, _ => exact World.cell?_setCell_same _ _ _ (by rw [World.cell?_setCell_other _ _ _ _ (by simp), World.cell?_setCell_other _ _ _ _ (by simp), World.cell?_setCell_other _ _ _ _ (by simp)]; exact h3)

/-- both documents' Kids, in their variables -/
def XY (w : World) (b7 b8 : Nat) (v1 v2 : Value) : Prop := w.cell? ⟨b7, 3, none⟩ = some v1 ∧ w.cell? ⟨b8, 3, none⟩ = some v2
theorem xy_ext {w w' : World} {b7 b8 : Nat} {v1 v2 : Value} (h : w.cell? ⟨b7, 3, none⟩ = some v1 ∧ w.cell? ⟨b8, 3, none⟩ = some v2) (l7 : b7 < w.heap.size) (l8 : b8 < w.heap.size) (k : Ext w w') : w'.cell? ⟨b7, 3, none⟩ = some v1 ∧ w'.cell? ⟨b8, 3, none⟩ = some v2 := ⟨(k.cell l7).trans h.1, (k.cell l8).trans h.2⟩

theorem Plain.blk {w w' : World} {b : Nat} (h : Plain w b) (e : w'.heap[b]? = w.heap[b]?) : Plain w' b := by
  obtain ⟨⟨cs, T, fr, h1⟩, h2⟩ := h
  exact ⟨⟨cs, T, fr, e.trans h1⟩, fun o => (World.frozen?_of_block (w := w) e).trans (h2 o)⟩

theorem row_plain {w : World} {k : F} {b off : Nat} {fs : List Nat} (h : RowAt w k b off fs) (h0 : k.len ≠ 0) (hz : ∀ o, w.frozen? ⟨b, o, none⟩ = false) : Plain w b := by
  cases k with
  | nil => exact absurd rfl h0
  | cons o n t ks r =>
    obtain ⟨_, _, _, _, h1, _⟩ := RowAt.cons_iff.1 h
    exact Plain.of_cell h1 hz

theorem look_mem {κ : Type} [DecidableEq κ] {a : κ} {v : Value} : ∀ {l : List (κ × Value × Nat)}, look a l = some v → ∃ e ∈ l, e.1 = a ∧ e.2.1 = v
  | [], h => by simp [look, findI] at h
  | x :: l, h => by
    rw [look_cons] at h
    split at h
    · rename_i e; exact ⟨x, by simp, e.symm, by simpa using h⟩
    · obtain ⟨e, h1, h2⟩ := look_mem h
      exact ⟨e, by simp [h1], h2⟩

/-- a pair of lists that the map knows was gone through -/
theorem seen_of {w : World} {seen : List (F × F)} {m : List ((LK × LK) × Value × Nat)} (hm : ∀ e ∈ m, ∃ q ∈ seen, Lies w e.1.1 q.1 ∧ Lies w e.1.2 q.2) {k3 k4 : F} {p3 q3 p4 q4 L : Nat} {g3 g4 : List Nat} (h3 : RowAt w k3 p3 q3 g3) (h4 : RowAt w k4 p4 q4 g4) (hl3 : k3.len = L) (hl4 : k4.len = L) {v : Value} (h : look ((p3, q3, L), (p4, q4, L)) m = some v) : (k3, k4) ∈ seen := by
  obtain ⟨e, he, h1, _⟩ := look_mem h
  obtain ⟨q, hq, ⟨l1, ⟨f1, r1⟩, _⟩, ⟨l2, ⟨f2, r2⟩, _⟩⟩ := hm e he
  rw [h1] at l1 r1 l2 r2
  obtain ⟨a, b⟩ := q
  have ea : a = k3 := r1.unique h3 (by have l1' : L = a.len := l1; rw [← l1', hl3])
  have eb : b = k4 := r2.unique h4 (by have l2' : L = b.len := l2; rw [← l2', hl4])
  rw [← ea, ← eb]
  exact hq

set_option maxRecDepth 100000 in
theorem zero_bool (w : World) : (zeroValue 4).run Try.prog w = .ok (.bool false) w := by
  obtain ⟨i, hi⟩ : ∃ i, Try.prog.info? 4 = some i := ⟨_, rfl⟩
  have hz : (Try.prog.info? 4).map (·.zero) = some (some (.bool false)) := by kernel_rfl
  rw [hi] at hz
  simp only [Option.map_some, Option.some.injEq] at hz
  simp [zeroValue, typeInfo, hi, hz]

end Go.Proofs.Ytmkibpimjaofgaa.Same1


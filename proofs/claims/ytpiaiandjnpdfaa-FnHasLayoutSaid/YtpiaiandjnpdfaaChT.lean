import Derived.Test.YtpiaiandjnpdfaaTr
import Derived.Test.YtpiaiandjnpdfaaCopyG
import Derived.Test.YtpiaiandjnpdfaaSpV
import Derived.Deep.RegionHeld3
import Derived.Deep.RegionLaw
import Derived.BigQuiet
/-
  What the program's tree of a document's choices comes to: flattens, partChoices.
-/
set_option linter.unusedVariables false
set_option linter.unusedSimpArgs false
namespace Go.Proofs.Ytpiaiandjnpdfaa.ChT
open Go.RowKit P1 Cnt CntC Wid ChP Tr

theorem info : (Try.prog.info? 70).map (fun i => (i.zero, i.size, i.bytes)) = some (some (.agg #[.int .i64 0, .int .i64 0, .string ⟨#[]⟩, .slice none 0 0, .int .i64 0, .bool false, .slice none 0 0]), 7, 96) := by kernel_rfl

set_option maxHeartbeats 800000 in
theorem flattens (w : World) (b off : Nat) (o : Int) (h : Bool) (h0 : w.cell? ⟨b, off, none⟩ = some (.int .i64 o)) (h5 : w.cell? ⟨b, off + 5, none⟩ = some (.bool h)) :
    Calls Try.prog 111 #[.pointer (some ⟨b, off, none⟩)] w fun e w' => e = .returned (.bool (o == 8 && !h)) ∧ w = w' := by
  cases hoo : (o == 8) with
  | true =>
    have ho : o = 8 := by simpa using hoo
    subst ho
    clear hoo
    go_enter Try.func111, Try.ntmps111
    go_wp2_with fail
    go_ret
    exact ⟨by simp, rfl⟩
  | false =>
    have ho : o ≠ 8 := by simpa using hoo
    go_enter Try.func111, Try.ntmps111
    go_wp2_with fail
    go_ret
    exact ⟨by simp, rfl⟩

/-- the tree comes back -/
def PartY (B : Nat) (w : World) (o n : Int) (t : ByteArray) (k : F) (a : Option Addr) (cap : Nat) (e : Ending) (w' : World) : Prop := ∃ (a' : Option Addr) (cap' : Nat), e = .returned (.tuple #[.agg #[.int .i64 o, .int .i64 n, .string t, .slice a k.len cap, .int .i64 (ctD o k : Int), .bool (!noD o k), .slice a' k.len cap'], .bool true]) ∧ TreeSub (fun c => c < B ∨ w.heap.size ≤ c) w' a' k ∧ Below w.heap.size w w'
/-- there are too many -/
def PartN (w : World) (e : Ending) (w' : World) : Prop := ∃ (o n : Int) (t : ByteArray) (a : Option Addr) (l cap : Nat) (x : Int) (y : Bool) (a' : Option Addr) (l' cap' : Nat), e = .returned (.tuple #[.agg #[.int .i64 o, .int .i64 n, .string t, .slice a l cap, .int .i64 x, .bool y, .slice a' l' cap'], .bool false]) ∧ Below w.heap.size w w'

/-- the tree, or that there are too many -/
def PartR (B : Nat) (w : World) (o n : Int) (t : ByteArray) (k : F) (a : Option Addr) (cap : Nat) (e : Ending) (w' : World) : Prop := (ctD o k ≤ 100000 → PartY B w o n t k a cap e w') ∧ (¬ ctD o k ≤ 100000 → PartN w e w')

/-- the contract, down to a depth -/
def PartS (d : Nat) : Prop := ∀ (B : Nat) (o n : Int) (t : ByteArray) (k : F), okD d o n t k = true → ∀ (w : World) (a : Option Addr) (cap : Nat) (fs : List Nat), SubAt w a k fs → (∀ c ∈ fs, c < B ∧ ∀ o, w.frozen? ⟨c, o, none⟩ = false) → B ≤ w.heap.size → k.len ≤ cap →
  Calls Try.prog 90 #[.agg #[.int .i64 o, .int .i64 n, .string t, .slice a k.len cap]] w (PartR B w o n t k a cap)

/-- the seven cells of a tree in a variable -/
def Root (w : World) (b : Nat) (o n : Int) (t : ByteArray) (a : Option Addr) (l cap : Nat) (x : Int) (y : Bool) (a' : Option Addr) (l' cap' : Nat) : Prop :=
  w.cell? ⟨b, 0, none⟩ = some (.int .i64 o) ∧ w.cell? ⟨b, 1, none⟩ = some (.int .i64 n) ∧ w.cell? ⟨b, 2, none⟩ = some (.string t) ∧ w.cell? ⟨b, 3, none⟩ = some (.slice a l cap) ∧ w.cell? ⟨b, 4, none⟩ = some (.int .i64 x) ∧ w.cell? ⟨b, 5, none⟩ = some (.bool y) ∧ w.cell? ⟨b, 6, none⟩ = some (.slice a' l' cap')
def Loose (w : World) (b : Nat) : Prop := w.frozen? ⟨b, 0, none⟩ = false ∧ w.frozen? ⟨b, 1, none⟩ = false ∧ w.frozen? ⟨b, 2, none⟩ = false ∧ w.frozen? ⟨b, 3, none⟩ = false ∧ w.frozen? ⟨b, 4, none⟩ = false ∧ w.frozen? ⟨b, 5, none⟩ = false ∧ w.frozen? ⟨b, 6, none⟩ = false
theorem Root.new (w : World) (T : TypeId) (o n : Int) (t : ByteArray) (a : Option Addr) (l cap : Nat) (x : Int) (y : Bool) (a' : Option Addr) (l' cap' : Nat) : Root (w.alloc (.cells #[.int .i64 o, .int .i64 n, .string t, .slice a l cap, .int .i64 x, .bool y, .slice a' l' cap'] T)) w.heap.size o n t a l cap x y a' l' cap' := by
  refine ⟨?_, ?_, ?_, ?_, ?_, ?_, ?_⟩ <;> (rw [World.cell?_alloc_new]; rfl)
theorem Loose.new (w : World) (C : Array Value) (T : TypeId) : Loose (w.alloc (.cells C T)) w.heap.size := by
  refine ⟨?_, ?_, ?_, ?_, ?_, ?_, ?_⟩ <;> exact World.frozen?_alloc_new _ _ _ _
theorem Root.cong {w w' : World} {b : Nat} {o n : Int} {t : ByteArray} {a : Option Addr} {l cap : Nat} {x : Int} {y : Bool} {a' : Option Addr} {l' cap' : Nat} (h : Root w b o n t a l cap x y a' l' cap') (e : ∀ i, w'.cell? ⟨b, i, none⟩ = w.cell? ⟨b, i, none⟩) : Root w' b o n t a l cap x y a' l' cap' :=
  ⟨(e _).trans h.1, (e _).trans h.2.1, (e _).trans h.2.2.1, (e _).trans h.2.2.2.1, (e _).trans h.2.2.2.2.1, (e _).trans h.2.2.2.2.2.1, (e _).trans h.2.2.2.2.2.2⟩
theorem Loose.cong {w w' : World} {b : Nat} (h : Loose w b) (e : ∀ i, w'.frozen? ⟨b, i, none⟩ = w.frozen? ⟨b, i, none⟩) : Loose w' b :=
  ⟨(e _).trans h.1, (e _).trans h.2.1, (e _).trans h.2.2.1, (e _).trans h.2.2.2.1, (e _).trans h.2.2.2.2.1, (e _).trans h.2.2.2.2.2.1, (e _).trans h.2.2.2.2.2.2⟩

/-- what holds at the head of a round: b: the tree's variable, b - 1: the result's -/
structure Inv (B : Nat) (w wr : World) (o n : Int) (t : ByteArray) (a : Option Addr) (L cap : Nat) (p : F) (h0 : Bool) (v : Value) : Prop where
  below : Below w.heap.size w wr
  size : w.heap.size + 3 ≤ wr.heap.size
  root : ∃ (a' : Option Addr) (c' : Nat), v = .slice a' p.len c' ∧ Root wr (w.heap.size + 2) o n t a L cap (ctF p : Int) (h0 || !noF p) a' p.len c'
  loose : Loose wr (w.heap.size + 2)
  res : Root wr (w.heap.size + 1) 0 0 ⟨#[]⟩ none 0 0 0 false none 0 0
  resl : Loose wr (w.heap.size + 1)
  grow : GrowT (fun c => c < B ∨ w.heap.size + 3 ≤ c) wr 70 (w.heap.size + 3) v p
  small : ctF p ≤ 100000

theorem Inv.ext {B : Nat} {w wr W : World} {o n : Int} {t : ByteArray} {a : Option Addr} {L cap : Nat} {p : F} {h0 : Bool} {v : Value} (h : Inv B w wr o n t a L cap p h0 v) (hB : B ≤ w.heap.size) (k : Below wr.heap.size wr W) : Inv B w W o n t a L cap p h0 v := by
  have hs := h.size
  have c2 : ∀ i, W.cell? ⟨w.heap.size + 2, i, none⟩ = wr.cell? ⟨w.heap.size + 2, i, none⟩ := fun i => k.cell (p := ⟨_, _, _⟩) (by simp; omega)
  have f2 : ∀ i, W.frozen? ⟨w.heap.size + 2, i, none⟩ = wr.frozen? ⟨w.heap.size + 2, i, none⟩ := fun i => k.frozen (p := ⟨_, _, _⟩) (by simp; omega)
  have c1 : ∀ i, W.cell? ⟨w.heap.size + 1, i, none⟩ = wr.cell? ⟨w.heap.size + 1, i, none⟩ := fun i => k.cell (p := ⟨_, _, _⟩) (by simp; omega)
  have f1 : ∀ i, W.frozen? ⟨w.heap.size + 1, i, none⟩ = wr.frozen? ⟨w.heap.size + 1, i, none⟩ := fun i => k.frozen (p := ⟨_, _, _⟩) (by simp; omega)
  obtain ⟨a', c', hv, hr⟩ := h.root
  refine ⟨h.below.trans (k.mono h.below.size), Nat.le_trans hs k.size, ⟨a', c', hv, hr.cong c2⟩, h.loose.cong f2, h.res.cong c1, h.resl.cong f1, ?_, h.small⟩
  refine h.grow.stay (x := w.heap.size + 1) (But.of_below k) (fun e => ?_) (fun c hc => by omega)
  have := h.grow.own_lt _ e
  omega

theorem ctD_ge (o : Int) (k : F) : ctF k ≤ ctD o k := by unfold ctD; split <;> omega
theorem div_test {C Y : Nat} (hY : 0 < Y) : ((C : Int) ≤ (100000 : Int) / (Y : Int)) ↔ C * Y ≤ 100000 := by
  rw [show (100000 : Int) / (Y : Int) = ((100000 / Y : Nat) : Int) from rfl, Int.ofNat_le, Nat.le_div_iff_mul_le hY]

/-- the tree comes back: what is left behind the loop -/
theorem part_end {B : Nat} {w wr W : World} {o n : Int} {t : ByteArray} {k : F} {a : Option Addr} {L cap cv J : Nat} {h0 hd : Bool} {av : Option Addr} {N : Nat} (hinv : Inv B w wr o n t a L cap k h0 (.slice av k.len cv)) (hB : B ≤ w.heap.size) (hL : k.len = L) (hJ : J = L) (hN : ctD o k = N) (hh : hd = !noD o k)
    (hW : Stay (fun c => c < B ∨ w.heap.size + 3 ≤ c) (fun c => c < B ∨ w.heap.size + 3 ≤ c) wr W) (hb : Below w.heap.size wr W) :
    PartY B w o n t k a cap (.returned (.tuple #[.agg #[.int .i64 o, .int .i64 n, .string t, .slice a L cap, .int .i64 (N : Int), .bool hd, .slice av J cv], .bool true])) W := by
  subst hN hh hJ hL
  obtain ⟨a2, c2, e, _, _, ht⟩ := hinv.grow.slice
  injection e with e1 e2 e3
  subst e1 e3
  have t1 := ht (fun c => c < B ∨ w.heap.size + 3 ≤ c) (fun c h => h) (fun c h => .inr h)
  exact ⟨av, cv, rfl, (t1.stay hW).stay (Stay.imp W (fun c h _ => by omega)), hinv.below.trans (hb.mono (Nat.le_refl _))⟩

/-- block b is as it was, if it was so before a store to it -/
theorem setCell_at {W W' : World} {b : Nat} (h : W.heap[b]? = W'.heap[b]?) (j : Nat) (u : Value) : (W.setCell ⟨b, j, none⟩ u).heap[b]? = (W'.setCell ⟨b, j, none⟩ u).heap[b]? := by
  simp [World.setCell, Array.getElem?_modify, h]
theorem setCells_at {W W' : World} {b : Nat} : ∀ (vs : List Value) (j : Nat) {W W' : World}, W.heap[b]? = W'.heap[b]? → (W.setCells b j vs).heap[b]? = (W'.setCells b j vs).heap[b]?
  | [], _, _, _, h => h
  | _ :: r, j, _, _, h => setCells_at (W := W) (W' := W') r (j + 1) (setCell_at h j _)
theorem setCells_out {b c : Nat} (hc : c ≠ b) : ∀ (vs : List Value) (j : Nat) (W : World), (W.setCells b j vs).heap[c]? = W.heap[c]?
  | [], _, _ => rfl
  | _ :: r, j, W => (setCells_out hc r (j + 1) _).trans (Below.heap_setCell _ _ _ _ hc)

/-- two stores, in whichever order: to the row g, and to the cell 6 of block b -/
structure Two (w' W : World) (g J b : Nat) (vs : List Value) (u : Value) : Prop where
  os : W.os = w'.os
  tape : W.tape = w'.tape
  output : W.output = w'.output
  size : W.heap.size = w'.heap.size
  row : W.heap[g]? = (w'.setCells g J vs).heap[g]?
  cell : W.heap[b]? = (w'.setCell ⟨b, 6, none⟩ u).heap[b]?
  out : ∀ c, c ≠ g → c ≠ b → W.heap[c]? = w'.heap[c]?
theorem os_setCells (b : Nat) : ∀ (vs : List Value) (j : Nat) (W : World), (W.setCells b j vs).os = W.os ∧ (W.setCells b j vs).tape = W.tape ∧ (W.setCells b j vs).output = W.output
  | [], _, _ => ⟨rfl, rfl, rfl⟩
  | _ :: r, j, W => os_setCells b r (j + 1) _
theorem Two.a (w' : World) {g J b : Nat} (vs : List Value) (u : Value) (h : b ≠ g) : Two w' ((w'.setCells g J vs).setCell ⟨b, 6, none⟩ u) g J b vs u := by
  obtain ⟨h1, h2, h3⟩ := os_setCells g vs J w'
  refine ⟨h1, h2, h3, by simp [size_setCells], Below.heap_setCell _ _ _ _ (Ne.symm h), setCell_at (setCells_out h vs J w') 6 u, fun c hc hb => (Below.heap_setCell _ _ _ _ hb).trans (setCells_out hc vs J w')⟩
theorem Two.b (w' : World) {g J b : Nat} (vs : List Value) (u : Value) (h : b ≠ g) : Two w' ((w'.setCell ⟨b, 6, none⟩ u).setCells g J vs) g J b vs u := by
  obtain ⟨h1, h2, h3⟩ := os_setCells g vs J (w'.setCell ⟨b, 6, none⟩ u)
  refine ⟨h1, h2, h3, by simp [size_setCells], setCells_at (W := w') (W' := w') vs J (Below.heap_setCell _ _ _ _ (Ne.symm h)), setCells_out h vs J _, fun c hc hb => (setCells_out hc vs J _).trans (Below.heap_setCell _ _ _ _ hb)⟩

theorem Two.a7 (w' : World) {g J b : Nat} (x0 x1 x2 x3 x4 x5 x6 u : Value) (h : b ≠ g) : Two w' ((((((((w'.setCell ⟨g, J, none⟩ x0).setCell ⟨g, J + 1, none⟩ x1).setCell ⟨g, J + 2, none⟩ x2).setCell ⟨g, J + 3, none⟩ x3).setCell ⟨g, J + 4, none⟩ x4).setCell ⟨g, J + 5, none⟩ x5).setCell ⟨g, J + 6, none⟩ x6).setCell ⟨b, 6, none⟩ u) g J b [x0, x1, x2, x3, x4, x5, x6] u := Two.a w' [x0, x1, x2, x3, x4, x5, x6] u h
theorem Two.b7 (w' : World) {g J b : Nat} (x0 x1 x2 x3 x4 x5 x6 u : Value) (h : b ≠ g) : Two w' ((((((((w'.setCell ⟨b, 6, none⟩ u).setCell ⟨g, J, none⟩ x0).setCell ⟨g, J + 1, none⟩ x1).setCell ⟨g, J + 2, none⟩ x2).setCell ⟨g, J + 3, none⟩ x3).setCell ⟨g, J + 4, none⟩ x4).setCell ⟨g, J + 5, none⟩ x5).setCell ⟨g, J + 6, none⟩ x6) g J b [x0, x1, x2, x3, x4, x5, x6] u := Two.b w' [x0, x1, x2, x3, x4, x5, x6] u h

/-- the next round's head -/
theorem Inv.next {B : Nat} {w V U w' W : World} {o n : Int} {t : ByteArray} {a : Option Addr} {L cap cv J C Y g cp wc : Nat} {p : F} {h0 hd hz hd1 : Bool} {av : Option Addr} {ob : Obj} {o1 n1 : Int} {t1 : ByteArray} {k1 : F} {a1 a2 : Option Addr} {c1 c2 : Nat}
    (hB : B ≤ w.heap.size) (hp : p.len = J) (hC : ctF p = C) (hhd : (h0 || !noF p) = hd) (hY : ctD o1 k1 = Y) (hd1' : (!noD o1 k1) = hd1) (hz' : (hd || hd1) = hz) (hCY : C * Y ≤ 100000)
    (hinv : Inv B w V o n t a L cap p h0 (.slice av J cv)) (hbU : But V.heap.size (w.heap.size + 2) V U) (hUV : V.heap.size = U.heap.size)
    (hU : U.heap[w.heap.size + 2]? = ((V.setCell ⟨w.heap.size + 2, 4, none⟩ (.int .i64 ((C : Int) * (Y : Int)))).setCell ⟨w.heap.size + 2, 5, none⟩ (.bool hz)).heap[w.heap.size + 2]?)
    (hM : Mid (fun c => c < B ∨ w.heap.size + 3 ≤ c) w' 70 (w.heap.size + 3) g cp p) (hgr : (U.drew.alloc ob).grownBy w' (Value.slice av J cv).ownBlock) (hg : (Value.slice av J cv).ownBlock = some g ∨ g = U.heap.size + 1)
    (hown : ∀ k, (Value.slice av J cv).ownBlock = some k → w.heap.size + 3 ≤ k ∧ k < wc) (hwc : wc ≤ V.heap.size) (hwc3 : w.heap.size + 3 ≤ wc)
    (hdoc : DocIn (fun c => c < B) V k1 a1 c1) (htree : TreeSub (fun c => c < B ∨ wc ≤ c) V a2 k1)
    (hW : Two w' W g (J * 7) (w.heap.size + 1 + 1) [.int .i64 o1, .int .i64 n1, .string t1, .slice a1 k1.len c1, .int .i64 (Y : Int), .bool hd1, .slice a2 k1.len c2] (.slice (some ⟨g, 0, none⟩) (J + 1) cp)) :
    Inv B w W o n t a L cap (p.app (.cons o1 n1 t1 k1 .nil)) h0 (.slice (some ⟨g, 0, none⟩) (J + 1) cp) := by
  subst hp hC hhd hY hd1' hz'
  replace hW : Two w' W g (p.len * 7) (w.heap.size + 2) (rootV o1 n1 t1 k1 a1 c1 a2 c2) (.slice (some ⟨g, 0, none⟩) (p.len + 1) cp) := hW
  have hvs := hinv.size
  have hl' : (p.app (.cons o1 n1 t1 k1 .nil)).len = p.len + 1 := by rw [F.len_app]; rfl
  have hgl : w.heap.size + 3 ≤ g := hM.1
  -- blocks of V that neither the stores nor the append reach
  have hkeep : ∀ c, c < V.heap.size → c ≠ w.heap.size + 2 → (Value.slice av p.len cv).ownBlock ≠ some c → w'.heap[c]? = V.heap[c]? ∧ c ≠ g := by
    intro c hc h2 h3
    have hcU : c < U.heap.size := by omega
    refine ⟨(far hgr hcU h3).2.2.2.trans (hbU.block c hc h2), fun e => ?_⟩
    rcases hg with hg | hg
    · exact h3 (by rw [e]; exact hg)
    · omega
  have hsz' : V.heap.size ≤ w'.heap.size := by have := hgr.size; simp at this; omega
  have htb : w'.heap[w.heap.size + 2]? = U.heap[w.heap.size + 2]? := (far hgr (by omega) (fun e => by have := hown _ e; omega)).2.2.2
  have hst1 : Stay (fun c => c < B) (fun c => (c < B ∨ w.heap.size + 3 ≤ c) ∧ c ≠ g) V w' := ⟨fun c hc hl => by
    obtain ⟨q1, q2⟩ := hkeep c hl (by omega) (fun e => by have := hown _ e; omega)
    exact ⟨q1, .inl hc, q2⟩, hsz'⟩
  have hst2 : Stay (fun c => c < B ∨ wc ≤ c) (fun c => (c < B ∨ w.heap.size + 3 ≤ c) ∧ c ≠ g) V w' := ⟨fun c hc hl => by
    obtain ⟨q1, q2⟩ := hkeep c hl (by omega) (fun e => by have := hown _ e; omega)
    exact ⟨q1, by omega, q2⟩, hsz'⟩
  have hput := hM.put (hdoc.stay hst1) (htree.stay hst2) (o := o1) (n := n1) (t := t1) (cap' := c2)
  have hWb : ∀ c, c < V.heap.size → c ≠ w.heap.size + 2 → (Value.slice av p.len cv).ownBlock ≠ some c → W.heap[c]? = V.heap[c]? := fun c hc h2 h3 => by
    obtain ⟨q1, q2⟩ := hkeep c hc h2 h3
    exact (hW.out c q2 h2).trans q1
  have hres : W.heap[w.heap.size + 1]? = V.heap[w.heap.size + 1]? := hWb _ (by omega) (by omega) (fun e => by have := hown _ e; omega)
  obtain ⟨a', c', hv, hr⟩ := hinv.root
  injection hv with hv1 hv2 hv3
  subst hv1 hv3
  obtain ⟨r0, r1, r2, r3, r4, r5, r6⟩ := hr
  obtain ⟨l0, l1, l2, l3, l4, l5, l6⟩ := hinv.loose
  -- the tree's variable
  have hcell : ∀ i, i ≠ 6 → W.cell? ⟨w.heap.size + 2, i, none⟩ = ((V.setCell ⟨w.heap.size + 2, 4, none⟩ (.int .i64 ((ctF p : Int) * (ctD o1 k1 : Int)))).setCell ⟨w.heap.size + 2, 5, none⟩ (.bool ((h0 || !noF p) || !noD o1 k1))).cell? ⟨w.heap.size + 2, i, none⟩ := by
    intro i hi
    rw [cell_of hW.cell i, World.cell?_setCell_other _ _ _ _ (by intro e; injection e with e1 e2; omega), cell_of htb i, cell_of hU i]
  have hfroz : ∀ i, W.frozen? ⟨w.heap.size + 2, i, none⟩ = V.frozen? ⟨w.heap.size + 2, i, none⟩ := by
    intro i
    rw [frozen_of hW.cell i, World.frozen?_setCell, frozen_of htb i, frozen_of hU i, World.frozen?_setCell, World.frozen?_setCell]
  have h6 : w'.cell? ⟨w.heap.size + 2, 6, none⟩ = some (.slice av p.len cv) := by
    rw [cell_of htb 6, cell_of hU 6, World.cell?_setCell_other _ _ _ _ (by simp), World.cell?_setCell_other _ _ _ _ (by simp)]
    exact r6
  refine ⟨hinv.below.trans ⟨hW.os.trans (hgr.os.trans hbU.os), hW.tape.trans (hgr.tape.trans hbU.tape), hW.output.trans (hgr.output.trans hbU.output), by rw [hW.size]; exact hsz', fun c hc => ?_⟩, by rw [hW.size]; omega, ⟨some ⟨g, 0, none⟩, cp, by rw [hl'], ⟨?_, ?_, ?_, ?_, ?_, ?_, ?_⟩⟩, ⟨(hfroz _).trans l0, (hfroz _).trans l1, (hfroz _).trans l2, (hfroz _).trans l3, (hfroz _).trans l4, (hfroz _).trans l5, (hfroz _).trans l6⟩, hinv.res.cong (fun i => cell_of hres i), hinv.resl.cong (fun i => frozen_of hres i), ?_, ?_⟩
  · exact hWb c (by omega) (by omega) (fun e => by have := hown _ e; omega)
  · rw [hcell 0 (by omega), World.cell?_setCell_other _ _ _ _ (by simp), World.cell?_setCell_other _ _ _ _ (by simp)]; exact r0
  · rw [hcell 1 (by omega), World.cell?_setCell_other _ _ _ _ (by simp), World.cell?_setCell_other _ _ _ _ (by simp)]; exact r1
  · rw [hcell 2 (by omega), World.cell?_setCell_other _ _ _ _ (by simp), World.cell?_setCell_other _ _ _ _ (by simp)]; exact r2
  · rw [hcell 3 (by omega), World.cell?_setCell_other _ _ _ _ (by simp), World.cell?_setCell_other _ _ _ _ (by simp)]; exact r3
  · rw [hcell 4 (by omega), World.cell?_setCell_other _ _ _ _ (by simp), World.cell?_setCell_same _ _ _ r4, ctF_app, ctF_one, Int.natCast_mul]
  · rw [hcell 5 (by omega), World.cell?_setCell_same _ _ _ (by rw [World.cell?_setCell_other _ _ _ _ (by simp)]; exact r5), noF_app]
    simp [noF, noD, Bool.or_assoc]
  · rw [cell_of hW.cell 6, World.cell?_setCell_same _ _ _ h6, hl']
  · refine hput.stay (x := w.heap.size + 2) ⟨?_, ?_, ?_, ?_, fun c hc h2 => ?_⟩ (fun e => ?_) (fun c hc => by omega)
    · exact hW.os.trans (os_setCells _ _ _ _).1.symm
    · exact hW.tape.trans (os_setCells _ _ _ _).2.1.symm
    · exact hW.output.trans (os_setCells _ _ _ _).2.2.symm
    · rw [hW.size, size_setCells]; exact Nat.le_refl _
    · by_cases hcg : c = g
      · subst hcg; exact hW.row
      · exact (hW.out c hcg h2).trans (setCells_out hcg _ _ _).symm
    · simp only [Value.ownBlock, Option.some.injEq] at e
      omega
  · rw [ctF_app, ctF_one]; exact hCY

end Go.Proofs.Ytpiaiandjnpdfaa.ChT


import Derived.Test.YtjcaiecapapceaaGreatCnt
import Derived.Deep.LoopGhost
import Derived.Deep.AppendLies
import Derived.Carry
import Derived.Laws.EntriesVeiled
/-
 What impl.countNodes comes to.
-/
set_option linter.unusedVariables false
set_option linter.unusedSimpArgs false
set_option maxRecDepth 100000
set_option maxHeartbeats 6400000
namespace Go.Proofs.YtjcaiecapapceaaGreat.CntN
open Go.RowKit Cnt
def StepV (x : LK × Bool) (c : List Value) : Prop := ∃ cap, c = [.slice (some ⟨x.1.1, x.1.2.1, none⟩) x.1.2.2 cap, .bool x.2] ∧ x.1.2.2 ≤ cap
theorem StepV.len : ∀ (x : LK × Bool) (c : List Value), StepV x c → c.length = 2 := by rintro x c ⟨_, rfl, _⟩; rfl
theorem info : (Tryz.prog.info? 143).map (fun i => (i.zero, i.size, i.bytes)) = some (some (.agg #[.slice none 0 0, .bool false]), 2, 32) := by kernel_rfl
theorem info_parts {x : Option TypeInfo} {z : Value} {s b : Nat} (h : x.map (fun i => (i.zero, i.size, i.bytes)) = some (some z, s, b)) : ∃ i, x = some i ∧ i.zero = some z ∧ i.size = s ∧ i.bytes = b := by
 cases x with
 | none => simp at h
 | some i => simp at h; exact ⟨i, rfl, h.1, h.2.1, h.2.2⟩
def Head (w W1 : World) (m : Int → Bool) (g : Nat) (lb : Array Value) (rk : LK) (T : TypeId) (n : Nat) (v : Value) (wr : World) : Prop := ∃ (st : List (LK × Bool)) (mm : LK → Option Int) (l : List (LK × Value × Nat)),
 weight (forest W1 m) st ≤ n ∧ n ≤ 8388608 ∧ StackG StepV 2 wr T (w.heap.size + 1 + 1 + 1 + 1 + 1) v st ∧ Go.Proofs.YtjcaiecapapceaaGreat.Inv (forest W1 m) rk st mm ∧ Knows l mm ∧ Cnt.In W1 wr (w.heap.size + 1 + 1 + 1 + 1) (w.heap.size + 1 + 1) (w.heap.size + 1 + 1 + 1) g lb l ∧ w.heap.size + 1 + 1 + 1 + 1 + 1 ≤ wr.heap.size
theorem weight_stack (W1 : World) (m : Int → Bool) (st : List (LK × Bool)) : st.length ≤ weight (forest W1 m) st :=
 weight_len _ (fun k => by show 1 ≤ 2 + wtL (listAt W1 k); omega) st
theorem Head.next {w W1 wr w1 : World} {m : Int → Bool} {g : Nat} {lb : Array Value} {rk : LK} {T : TypeId} {n : Nat} {v : Value} {st : List (LK × Bool)} {mm : LK → Option Int} {l : List (LK × Value × Nat)} (hn : n ≤ 8388608) (hw : weight (forest W1 m) st ≤ n)
  (hst : StackG StepV 2 wr T (w.heap.size + 1 + 1 + 1 + 1 + 1) v st) (hinv : Go.Proofs.YtjcaiecapapceaaGreat.Inv (forest W1 m) rk st mm) (hk : Knows l mm) (hin : Cnt.In W1 wr (w.heap.size + 1 + 1 + 1 + 1) (w.heap.size + 1 + 1) (w.heap.size + 1 + 1 + 1) g lb l) (hsz : w.heap.size + 1 + 1 + 1 + 1 + 1 ≤ wr.heap.size) (k : Ext wr w1) : Head w W1 m g lb rk T (weight (forest W1 m) st) v w1 :=
 ⟨st, mm, l, Nat.le_refl _, Nat.le_trans hw hn, hst.below (Nat.le_refl _) k, hinv, hk, hin.to k, Nat.le_trans hsz k.size⟩
theorem weight_pop {T : Forest LK} (x : LK × Bool) (h2 : ∀ k, 1 ≤ T.wt k) (st : List (LK × Bool)) : weight T st < weight T (x :: st) := by
 obtain ⟨k, b⟩ := x
 have := h2 k
 cases b <;> simp only [weight] <;> omega
theorem Head.start {w W1 : World} {m : Int → Bool} {g : Nat} {lb : Array Value} {f : F} {T T9 : TypeId} (hsz1 : W1.heap.size = w.heap.size + 1 + 1) (hroot : Lie W1 (w.heap.size + 1, 0, 1) f) (hsz : nodes f ≤ 2097153) :
  Head w W1 m g lb (w.heap.size + 1, 0, 1) T (2 + wtL f) (.slice (some ⟨w.heap.size + 1 + 1 + 1 + 1 + 1, 0, none⟩) 1 1) ((((W1.alloc (.map #[] 0)).alloc (.map #[] 0)).alloc (.cells #[.func (.func g) #[] lb, .map (some (w.heap.size + 1 + 1)), .map (some (w.heap.size + 1 + 1 + 1))] T9)).alloc (.cells #[.slice (some ⟨w.heap.size + 1, 0, none⟩) 1 1, .bool false] T)) := by
 have h1 := wtL_le f
 have hw : weight (forest W1 m) [((w.heap.size + 1, 0, 1), false)] = 2 + wtL f := by
  show 2 + wtL (listAt W1 (w.heap.size + 1, 0, 1)) + 0 = _
  rw [listAt_eq hroot]; rfl
 have e2 : (W1.alloc (.map #[] 0)).heap.size = w.heap.size + 1 + 1 + 1 := by simp [hsz1]
 have e3 : ((W1.alloc (.map #[] 0)).alloc (.map #[] 0)).heap.size = w.heap.size + 1 + 1 + 1 + 1 := by simp [hsz1]
 have e4 : (((W1.alloc (.map #[] 0)).alloc (.map #[] 0)).alloc (.cells #[.func (.func g) #[] lb, .map (some (w.heap.size + 1 + 1)), .map (some (w.heap.size + 1 + 1 + 1))] T9)).heap.size = w.heap.size + 1 + 1 + 1 + 1 + 1 := by simp [hsz1]
 refine ⟨[((w.heap.size + 1, 0, 1), false)], fun _ => none, [], Nat.le_of_eq hw, by omega, ?_, Inv.start _ _ ⟨f, hroot, hsz⟩, Knows.start, ?_, by rw [World.size_alloc, e4]; omega⟩
 ·exact StackG.start (CV := StepV) ⟨1, rfl, Nat.le_refl _⟩ rfl e4 (Nat.le_refl _) rfl
 ·have hb : Cnt.In W1 (((W1.alloc (.map #[] 0)).alloc (.map #[] 0)).alloc (.cells #[.func (.func g) #[] lb, .map (some (w.heap.size + 1 + 1)), .map (some (w.heap.size + 1 + 1 + 1))] T9)) (w.heap.size + 1 + 1 + 1 + 1) (w.heap.size + 1 + 1) (w.heap.size + 1 + 1 + 1) g lb [] := by
   refine ⟨?_, ?_, ?_, by rw [e4]; omega, ?_, ?_, (fun e he => by cases he), (((Ext.refl W1).alloc _).alloc _).alloc _⟩
   ·rw [← e3, World.cell?_alloc_new]; rfl
   ·rw [← e3, World.cell?_alloc_new]; rfl
   ·rw [← e3, World.cell?_alloc_new]; rfl
   ·have h := PMap.made W1 lkV
    rw [hsz1] at h
    exact (h.of_block (heap_alloc_old _ _ (by rw [e2]; omega))).of_block (heap_alloc_old _ _ (by rw [e3]; omega))
   ·have h := PMap.made (W1.alloc (.map #[] 0)) lkV
    rw [e2] at h
    exact h.of_block (heap_alloc_old _ _ (by rw [e3]; omega))
  exact hb.to ((Ext.refl _).alloc _)
theorem store_cnt {W1 wr : World} {b4 b2 b3 g : Nat} {lb : Array Value} {l : List (LK × Value × Nat)} {mm : LK → Option Int} (h : Cnt.In W1 wr b4 b2 b3 g lb l) (h4 : b4 ≠ b2) (h3 : b3 ≠ b2) (h1 : W1.heap.size ≤ b2) {k : LK} {f : F} (hk : Lie W1 k f) (hkn : Knows l mm) (c : Int) :
  ∃ l' w5, (Instr.mapUpdate 138 (.map (some b2)) (.agg #[.pointer (some ⟨k.1, k.2.1, none⟩), .int .i64 k.2.2]) (.int .i64 c)).run Tryz.prog wr = .ok () w5 ∧ Cnt.In W1 w5 b4 b2 b3 g lb l' ∧ Knows l' (upd mm k c) ∧ wr.grownBy w5 (some b2) := by
 obtain ⟨l', w5, hup, hpm, hlk, hkeys, hgr⟩ := run_store_map (P := Tryz.prog) KeysAt.kidList_ok Tryz.underlying138 h.hm (a := k) (plain_ext hk.plain hk.lt h.ext) h.plain (.int .i64 c)
 have hcell : ∀ o, w5.cell? ⟨b4, o, none⟩ = wr.cell? ⟨b4, o, none⟩ := fun o => World.cell?_of_block (w := wr) (hgr.block b4 h.bc_lt (by simpa using h4))
 refine ⟨l', w5, hup, ⟨(hcell 0).trans h.c0, (hcell 1).trans h.c1, (hcell 2).trans h.c2, Nat.lt_of_lt_of_le h.bc_lt hgr.size, hpm, h.he.of_block (hgr.block b3 h.he.lt (by simpa using h3)), fun e he => ?_, ?_⟩, hkn.upd hlk, hgr⟩
 ·rcases hkeys e he with e1 | ⟨y, hy, e1⟩
  ·rw [e1]; exact ⟨f, hk⟩
  ·rw [← e1]; exact h.keys y hy
 ·exact h.ext.trans' hgr (by omega)
theorem two_new1 (w : World) (ob : Obj) (T : TypeId) (v0 v1 : Value) : ((w.alloc ob).alloc (.cells #[v0, v1] T)).cell? ⟨w.heap.size + 1, 0, none⟩ = some v0 ∧ ((w.alloc ob).alloc (.cells #[v0, v1] T)).cell? ⟨w.heap.size + 1, 1, none⟩ = some v1 := by
 have e : w.heap.size + 1 = (w.alloc ob).heap.size := by simp
 rw [e]
 constructor <;> (rw [World.cell?_alloc_new]; rfl)
theorem two_new (wr : World) (T : TypeId) (v0 v1 : Value) : (wr.alloc (.cells #[v0, v1] T)).cell? ⟨wr.heap.size, 0, none⟩ = some v0 ∧ (wr.alloc (.cells #[v0, v1] T)).cell? ⟨wr.heap.size, 1, none⟩ = some v1 := by
 constructor <;> (rw [World.cell?_alloc_new]; rfl)
theorem two_cells {wr w3 : World} {T : TypeId} {v0 v1 : Value} (h : Ext (wr.alloc (.cells #[v0, v1] T)) w3) : w3.cell? ⟨wr.heap.size, 0, none⟩ = some v0 ∧ w3.cell? ⟨wr.heap.size, 1, none⟩ = some v1 ∧ wr.heap.size < w3.heap.size := by
 have hlt : wr.heap.size < (wr.alloc (.cells #[v0, v1] T)).heap.size := by simp
 exact ⟨(h.cell hlt).trans (two_new _ _ _ _).1, (h.cell hlt).trans (two_new _ _ _ _).2, Nat.lt_of_lt_of_le hlt h.size⟩
theorem own_kept {w w' : World} {T : TypeId} {lo g2 n cap b2 : Nat} {st : List (LK × Bool)} (h : StackG StepV 2 w T lo (.slice (some ⟨g2, 0, none⟩) n cap) st) (hg : w.grownBy w' (some b2)) (hlo : lo ≤ g2) (hb : b2 < lo) : StackG StepV 2 w' T lo (.slice (some ⟨g2, 0, none⟩) n cap) st :=
 h.kept hg (.inr (by simp [Value.ownBlock]; omega))
theorem In_grown {W1 w w' : World} {b4 b2 b3 g lo : Nat} {lb : Array Value} {l : List (LK × Value × Nat)} (h : Cnt.In W1 w b4 b2 b3 g lb l) {row : Option Nat} (hg : w.grownBy w' row) (hr : ∀ q, row = some q → lo ≤ q) (h4 : b4 < lo) (h2 : b2 < lo) (h3 : b3 < lo) (h1 : W1.heap.size ≤ lo) : Cnt.In W1 w' b4 b2 b3 g lb l := by
 have hk : ∀ q, q < w.heap.size → q < lo → w'.heap[q]? = w.heap[q]? := fun q hq hl => hg.block q hq (fun e => by have := hr q e.symm; omega)
 have hcell : ∀ o, w'.cell? ⟨b4, o, none⟩ = w.cell? ⟨b4, o, none⟩ := fun o => World.cell?_of_block (w := w) (hk b4 h.bc_lt h4)
 refine ⟨(hcell 0).trans h.c0, (hcell 1).trans h.c1, (hcell 2).trans h.c2, Nat.lt_of_lt_of_le h.bc_lt hg.size, h.hm.of_block (hk b2 h.hm.lt h2), h.he.of_block (hk b3 h.he.lt h3), h.keys, ?_⟩
 exact ⟨hg.os.trans h.ext.os, hg.tape.trans h.ext.tape, hg.output.trans h.ext.output, Nat.le_trans h.ext.size hg.size, fun i hi => (hk i (Nat.lt_of_lt_of_le hi h.ext.size) (by omega)).trans (h.ext.block i hi)⟩
theorem append_step {ops : Array Oper} {rest : List Oper} {op : Oper} {ac : Act} {Q : Exit → Act → World → Prop} {w : World} (hgd : op.guard = none) (s x : Operand)
  (ho : op.op = .call { callee := .builtin .append, args := #[s, x], argTypes := #[144, 144] })
  {lo n : Nat} {v : Value} {st : List (LK × Bool)} (hsv : ac.eval s = v) (hst : StackG StepV 2 w 143 lo v st) (hn : st.length = n) {d c : Nat} (hx : ac.eval x = .slice (some ⟨d, 0, none⟩) 1 c) (k : LK) (b : Bool) {cap : Nat} (hc : k.2.2 ≤ cap)
  (h0 : w.cell? ⟨d, 0, none⟩ = some (.slice (some ⟨k.1, k.2.1, none⟩) k.2.2 cap)) (h1 : w.cell? ⟨d, 1, none⟩ = some (.bool b)) (hl : n ≤ 16777216) (hlo : lo ≤ w.heap.size)
  (h : ∀ g cap' w', StackG StepV 2 w' 143 lo (.slice (some ⟨g, 0, none⟩) (n + 1) cap') ((k, b) :: st) → w.grownBy w' v.ownBlock → lo ≤ w'.heap.size → wpList Tryz.prog ops Q rest (ac.put op.dst (.slice (some ⟨g, 0, none⟩) (n + 1) cap')) w') : wpList Tryz.prog ops Q (op :: rest) ac w := by
 subst hn
 obtain ⟨i, hi, hz, h2, h32⟩ := info_parts info
 obtain ⟨xs, hown, hit⟩ := hst
 refine wpList_append_lies w hgd s x 144 ho lo 143 i _ 2 32 Tryz.underlying144 hi hz h2 h32 rfl (by omega) v st.length xs hsv hown ⟨d, 0, none⟩ 1 c [.slice (some ⟨k.1, k.2.1, none⟩) k.2.2 cap, .bool b] hx rfl ?_ ?_ (by omega) (by unfold maxLen; omega) (by omega) hlo _ rfl ?_
 ·intro j u hu
  rw [add_at, Nat.zero_add]
  match j, hu with
  | 0, hu => simp at hu; rw [← hu]; exact h0
  | 1, hu => simp at hu; rw [← hu]; exact h1
  | j + 2, hu => simp at hu
 ·simp [Value.oneCell']
 ·intro g cap' w' hown' hgr _ _
  exact h g cap' w' ⟨_, hown', by rw [List.reverse_cons]; exact hit.snoc ⟨cap, rfl, hc⟩⟩ hgr (Nat.le_trans hlo hgr.size)
theorem countNodes (w : World) (A : D) (c1 : List Value) (h1 : DocV w A c1) (g : Nat) (lb : Array Value) (m : Int → Bool) (hp : OpPred Tryz.prog g lb m w) :
  Calls Tryz.prog 64 #[.agg c1.toArray, .func (.func g) #[] lb] w fun e w' => e = .returned (.int .i64 ((cntF m (.cons A.1 A.2.1 A.2.2.1 A.2.2.2 .nil) : Nat) : Int)) ∧ Ext w w' := by
 obtain ⟨a1, cap1, f1, rfl, hc1, hs1, hf1, hz1⟩ := h1
 obtain ⟨o1, n1, t1, k1⟩ := A
 simp only at hc1 hs1 hz1 ⊢
 obtain ⟨W1, hW1⟩ : ∃ W1, (w.alloc (.cells #[.int .i64 o1, .int .i64 n1, .string t1, .slice a1 k1.len cap1] 25)).alloc (.cells #[.int .i64 o1, .int .i64 n1, .string t1, .slice a1 k1.len cap1] 25) = W1 := ⟨_, rfl⟩
 have hmk1 : ∀ w : World, (Instr.makeMap 138 none).run Tryz.prog w = .ok (.map (some w.heap.size)) (w.alloc (.map #[] 0)) := fun w => run_makeMap _ w
 have hmk2 : ∀ w : World, (Instr.makeMap 139 none).run Tryz.prog w = .ok (.map (some w.heap.size)) (w.alloc (.map #[] 0)) := fun w => run_makeMap _ w
 have hsz1 : W1.heap.size = w.heap.size + 1 + 1 := by rw [← hW1]; simp
 have hB : Below w.heap.size w W1 := by rw [← hW1]; exact ((Below.refl _ _).alloc (Nat.le_refl _) _).alloc (by simp) _
 have hroot : Lie W1 (w.heap.size + 1, 0, 1) (.cons o1 n1 t1 k1 .nil) := by
  have hc : ∀ j u, #[Value.int .i64 o1, .int .i64 n1, .string t1, .slice a1 k1.len cap1][j]? = some u → W1.cell? ⟨w.heap.size + 1, j, none⟩ = some u := fun j u hu => by
   have e : w.heap.size + 1 = (w.alloc (.cells #[.int .i64 o1, .int .i64 n1, .string t1, .slice a1 k1.len cap1] 25)).heap.size := by simp
   rw [← hW1, e, World.cell?_alloc_new]; exact hu
  refine ⟨rfl, by simp [F.len], f1 ++ [], RowAt.cons_iff.2 ⟨a1, cap1, f1, [], hc 0 _ rfl, hc 1 _ rfl, hc 2 _ rfl, hc 3 _ rfl, hc1, hs1.below (fun q hq => (hf1 q hq).1) hB, rfl, rfl⟩, fun q hq => ?_⟩
  rw [List.append_nil] at hq
  rcases List.mem_cons.1 hq with rfl | hq
  ·refine ⟨by rw [hsz1]; omega, fun o => ?_⟩
   have e : w.heap.size + 1 = (w.alloc (.cells #[.int .i64 o1, .int .i64 n1, .string t1, .slice a1 k1.len cap1] 25)).heap.size := by simp
   rw [← hW1, e]; exact World.frozen?_alloc_new _ _ _ _
  ·exact ⟨by have := (hf1 q hq).1; rw [hsz1]; omega, fun o => by rw [hB.frozen (p := ⟨_, _, _⟩) (hf1 q hq).1]; exact (hf1 q hq).2 o⟩
 have hsz : nodes (.cons o1 n1 t1 k1 .nil) ≤ 2097153 := by
  have := nodes_size k1
  rw [nodes_cons]
  show 1 + nodes k1 + 0 ≤ 2097153
  omega
 obtain ⟨C, hC⟩ : ∃ C : Nat, cntF m (.cons o1 n1 t1 k1 .nil) = C := ⟨_, rfl⟩
 rw [hC]
 have HC := Lib.hid hC
 have HR := Lib.hid (And.intro hroot (And.intro hsz (And.intro hW1 (And.intro hsz1 (And.intro hB hp)))))
 clear hc1 hs1 hf1 hz1 hroot hsz hW1 hp hB hC
 go_enter Tryz.func64, Tryz.ntmps64
 go_wp2_with fail
 go_loopg [7] (2 + wtL (.cons o1 n1 t1 k1 .nil)) (fun n v wr => Head w W1 m g lb (w.heap.size + 1, 0, 1) 143 n v wr)
 case atStart =>
  rw [HR.out.2.2.1]
  exact Head.start hsz1 HR.out.1 HR.out.2.1
 case round =>
  obtain ⟨st, mm, l, hwt, hn8, hst, hinv, hkn, hin, hs5⟩ := hrel
  have hextw : Ext w wr := by
   have := hin.ext
   exact HR.out.2.2.2.2.1.trans (this.mono (by omega))
  cases st with
  | nil =>
    have hend := hinv.end
    obtain ⟨xs, hown, _⟩ := hst
    have hlk : look (w.heap.size + 1, 0, 1) l = some (.int .i64 (C : Int)) := by
     rw [hkn, hend]
     show some (Value.int .i64 ((cntF m (listAt W1 _) : Nat) : Int)) = _
     rw [listAt_eq HR.out.1, HC.out]
    have HK := Lib.hid (fun W : World => kidListOf W (w.heap.size + 1) 0 1 1 (by omega) (by unfold maxLen; omega))
    have hle : ∀ W : World, Ext wr W → (Instr.lookup 138 (.map (some (w.heap.size + 1 + 1))) (.agg #[.pointer (some ⟨w.heap.size + 1, 0, none⟩), .int .i64 1]) false).run Tryz.prog W = .ok (.int .i64 (C : Int)) W := fun W k => by
     have := look_cnt (hin.to k) HR.out.1 false
     simp only [hlk, Option.getD_some, Bool.false_eq_true, if_false] at this
     exact this
    have HLE := Lib.hid hle
    have HX := Lib.hid hextw
    have d1 := hin.c1
    have dl := hin.bc_lt
    rcases hown.2 with ⟨rfl, _⟩ | ⟨g2, c, cur, rfl, _⟩
    all_goals
     clear hwt hn8 hown hinv hkn hin hs5 hend hlk hle hextw
     go_wp2_with fail
     first | go_region_with (go_at_call 62; refine (HK.out _).mono ?_; rintro e1 w3 ⟨rfl, hb3⟩; have r3 : Ext wr w3 := (by first | exact hb3 | exact (Ext.refl wr).drew.trans hb3); have y3 := HLE.out w3 r3; have d3 := (r3.cell (o := 1) dl).trans d1) | fail
     all_goals
      go_wp2_with fail
      go_ret
      exact ⟨rfl, HX.out.trans r3⟩
  | cons p st =>
    obtain ⟨⟨kb, ko, kl⟩, b⟩ := p
    obtain ⟨g2, cap, c, rfl, hlo, hlt, hnc, hcm, ⟨kcap, rfl, hkc⟩, hcx, hpop⟩ := hst.top StepV.len
    obtain ⟨f, hl, hnf⟩ : ∃ f, Lie W1 (kb, ko, kl) f ∧ nodes f ≤ 2097153 := hinv.good _ (List.mem_cons_self ..)
    have hlen : st.length ≤ 8388608 := by have := weight_stack W1 m (((kb, ko, kl), b) :: st); simp only [List.length_cons] at this; omega
    obtain ⟨L, hL⟩ : ∃ L, st.length = L := ⟨_, rfl⟩
    have x0 := hcx 0 (by omega)
    have x1 := hcx 1 (by omega)
    rw [hL] at x0 x1 hnc hlen
    rw [hL]
    simp only [List.getElem?_cons_zero, List.getElem?_cons_succ, Nat.add_zero] at x0 x1
    have h0 : 0 < kl := by have h1 : kl = f.len := hl.1; have := hl.2.1; omega
    have hkl : kl ≤ maxLen := by have h1 : kl = f.len := hl.1; have := len_nodes f; unfold maxLen; omega
    have hk9 : kl ≤ 2097153 := by have h1 : kl = f.len := hl.1; have := len_nodes f; omega
    have HK := Lib.hid (fun W : World => kidListOf W kb ko kl kcap h0 hkl)
    have i0 : (0 : Int) ≤ (L : Int) := by omega
    have i1 : IntKind.i64.wrap ((L : Int) + 1 - 1) = (L : Int) := by rw [IntKind.wrap_i64]; omega
    have i2 : ((L + 1 : Nat) : Int) = (L : Int) + 1 := by omega
    have i3 : (0 : Int) < (L : Int) + 1 := by omega
    have i4 : (L : Int) ≤ (cap : Int) := by omega
    have d1 := hin.c1
    have dl := hin.bc_lt
    have H := Lib.hid (And.intro hwt (And.intro hn8 (And.intro hpop (And.intro hinv (And.intro hkn (And.intro hin (And.intro hs5 (And.intro hL (And.intro hl (And.intro hkc (And.intro hextw hnf)))))))))))
    clear hwt hn8 hst hpop hinv hkn hin hs5 hL hl hkc hextw hcx hnf
    cases b with
    | true =>
      go_wp2_with (go_at_call 62; refine (HK.out _).mono ?_; rintro e1 w3 ⟨rfl, hb3⟩; have r3 : Ext wr w3 := ((Ext.refl wr).alloc _).trans hb3; have d1' := (r3.cell (o := 1) dl).trans d1; have dl' := Nat.lt_of_lt_of_le dl r3.size; obtain ⟨s0, s1, s2⟩ := two_cells hb3)
      have hcn : ∀ W : World, Ext wr W → Calls Tryz.prog 116 #[.pointer (some ⟨w.heap.size + 1 + 1 + 1 + 1, 0, none⟩), .slice (some ⟨kb, ko, none⟩) kl kcap] W fun e w' => e = .returned (.int .i64 ((cntF m f : Nat) : Int)) ∧ Ext W w' := fun W k => by
       obtain ⟨hwt, hn8, hpop, hinv, hkn, hin, hs5, hL, hl, hkc, hextw, hnf⟩ := H.out
       exact count W1 W _ _ _ g lb m l (hin.to k) (HR.out.2.2.2.2.2.later (hextw.trans k)) (kb, ko, kl) f hl (fun c hc => by rw [hkn c, hinv.done.1 c hc]; rfl) kcap hkc hnf
      have hst : ∀ W : World, Ext wr W → ∃ l' w5, (Instr.mapUpdate 138 (.map (some (w.heap.size + 1 + 1))) (.agg #[.pointer (some ⟨kb, ko, none⟩), .int .i64 kl]) (.int .i64 ((cntF m f : Nat) : Int))).run Tryz.prog W = .ok () w5 ∧ (Cnt.In W1 w5 (w.heap.size + 1 + 1 + 1 + 1) (w.heap.size + 1 + 1) (w.heap.size + 1 + 1 + 1) g lb l' ∧ Knows l' (upd mm (kb, ko, kl) ((cntF m f : Nat) : Int)) ∧ W.grownBy w5 (some (w.heap.size + 1 + 1))) := fun W k => by
       obtain ⟨hwt, hn8, hpop, hinv, hkn, hin, hs5, hL, hl, hkc, hextw, hnf⟩ := H.out
       exact store_cnt (hin.to k) (by omega) (by omega) (by omega) hl hkn _
      have HCN := Lib.hid hcn
      have HST := Lib.hid hst
      clear hcn hst
      have hms : weight (forest W1 m) st < gk := by
       have := weight_pop (T := forest W1 m) ((kb, ko, kl), true) (fun k => by show 1 ≤ 2 + wtL (listAt W1 k); omega) st
       have := H.out.1
       omega
      have hrl : ∀ (w4 w5 : World) (l' : List (LK × Value × Nat)), Ext wr w4 → (Cnt.In W1 w5 (w.heap.size + 1 + 1 + 1 + 1) (w.heap.size + 1 + 1) (w.heap.size + 1 + 1 + 1) g lb l' ∧ Knows l' (upd mm (kb, ko, kl) ((cntF m f : Nat) : Int)) ∧ w4.grownBy w5 (some (w.heap.size + 1 + 1))) → Head w W1 m g lb (w.heap.size + 1, 0, 1) 143 (weight (forest W1 m) st) (.slice (some ⟨g2, 0, none⟩) L cap) w5 := by
       intro w4 w5 l' R5 H5
       obtain ⟨hwt, hn8, hpop, hinv, hkn, hin, hs5, hL, hl, hkc, hextw, hnf⟩ := H.out
       have e : (((forest W1 m).cnt (kb, ko, kl) : Nat) : Int) = ((cntF m f : Nat) : Int) := by show ((cntF m (listAt W1 _) : Nat) : Int) = _; rw [listAt_eq hl]
       have hd := hinv.done.2
       rw [e] at hd
       rw [hL] at hpop
       exact ⟨st, _, l', Nat.le_refl _, by omega, own_kept (hpop.below (Nat.le_refl _) R5) H5.2.2 hlo (by omega), hd, H5.2.1, H5.1, Nat.le_trans hs5 (Nat.le_trans R5.size H5.2.2.size)⟩
      have HMS := Lib.hid hms
      have HRL := Lib.hid hrl
      clear hms hrl
      first | go_region_with (go_at_call 116; refine (HCN.out _ ((r3.alloc _).drew)).mono ?_; rintro e2 w4 ⟨rfl, hb4⟩; have r4 := ((Ext.refl _).drew).trans hb4; have r5 := (r3.alloc _).trans r4; obtain ⟨k0, k1, k2⟩ := two_cells r4; have d4 := (r5.cell (o := 1) dl).trans d1; obtain ⟨l', w5, hup, h5⟩ := HST.out w4 r5) | fail
      all_goals
       have H5 := Lib.hid h5
       have R5 := Lib.hid r5
       clear h5 hup k0 k1 d4
       go_wp2_with fail
       go_roundg (weight (forest W1 m) st)
      all_goals first
       | exact HMS.out
       | exact HRL.out _ _ _ R5.out H5.out
    | false =>
      cases hmk : mm (kb, ko, kl) with
      | some v =>
        have hle : ∀ W : World, Ext wr W → (Instr.lookup 138 (.map (some (w.heap.size + 1 + 1))) (.agg #[.pointer (some ⟨kb, ko, none⟩), .int .i64 kl]) true).run Tryz.prog W = .ok (.tuple #[.int .i64 v, .bool true]) W := fun W k => by
         obtain ⟨hwt, hn8, hpop, hinv, hkn, hin, hs5, hL, hl, hkc, hextw, hnf⟩ := H.out
         have := look_cnt (hin.to k) hl true
         have e := hkn (kb, ko, kl)
         rw [hmk] at e
         simp only [e, Option.map_some, Option.getD_some, Option.isSome_some, if_true] at this
         exact this
        have HLE := Lib.hid hle
        have HMK := Lib.hid hmk
        clear hle hmk
        go_wp2_with (go_at_call 62; refine (HK.out _).mono ?_; rintro e1 w3 ⟨rfl, hb3⟩; have r3 : Ext wr w3 := ((Ext.refl wr).alloc _).trans hb3; have d1' := (r3.cell (o := 1) dl).trans d1; have dl' := Nat.lt_of_lt_of_le dl r3.size; obtain ⟨s0, s1, s2⟩ := two_cells hb3; have y3 := fun ob => HLE.out (w3.alloc ob) (r3.alloc ob))
        go_roundg (weight (forest W1 m) st)
        case measure =>
         have := weight_pop (T := forest W1 m) ((kb, ko, kl), false) (fun k => by show 1 ≤ 2 + wtL (listAt W1 k); omega) st
         have := H.out.1
         omega
        case rel =>
         obtain ⟨hwt, hn8, hpop, hinv, hkn, hin, hs5, hL, hl, hkc, hextw, hnf⟩ := H.out
         have hw2 := weight_pop (T := forest W1 m) ((kb, ko, kl), false) (fun k => by show 1 ≤ 2 + wtL (listAt W1 k); omega) st
         rw [hL] at hpop
         exact Head.next hn8 (by omega) hpop (hinv.known HMK.out).2 hkn hin hs5 (r3.alloc _)
      | none =>
        have hle : ∀ W : World, Ext wr W → (Instr.lookup 138 (.map (some (w.heap.size + 1 + 1))) (.agg #[.pointer (some ⟨kb, ko, none⟩), .int .i64 kl]) true).run Tryz.prog W = .ok (.tuple #[.int .i64 0, .bool false]) W := fun W k => by
         obtain ⟨hwt, hn8, hpop, hinv, hkn, hin, hs5, hL, hl, hkc, hextw, hnf⟩ := H.out
         have := look_cnt (hin.to k) hl true
         have e := hkn (kb, ko, kl)
         rw [hmk] at e
         simp only [e, Option.map_none, Option.getD_none, Option.isSome_none, if_true] at this
         exact this
        have hst : ∀ W : World, Ext wr W → ∃ l' w5, (Instr.mapUpdate 138 (.map (some (w.heap.size + 1 + 1))) (.agg #[.pointer (some ⟨kb, ko, none⟩), .int .i64 kl]) (.int .i64 (-1))).run Tryz.prog W = .ok () w5 ∧ Cnt.In W1 w5 (w.heap.size + 1 + 1 + 1 + 1) (w.heap.size + 1 + 1) (w.heap.size + 1 + 1 + 1) g lb l' ∧ Knows l' (upd mm (kb, ko, kl) (-1)) ∧ W.grownBy w5 (some (w.heap.size + 1 + 1)) ∧
          StackG StepV 2 w5 143 (w.heap.size + 1 + 1 + 1 + 1 + 1) (.slice (some ⟨g2, 0, none⟩) L cap) st ∧ w.heap.size + 1 + 1 + 1 + 1 + 1 ≤ w5.heap.size ∧ W.heap.size ≤ w5.heap.size := fun W k => by
         obtain ⟨hwt, hn8, hpop, hinv, hkn, hin, hs5, hL, hl, hkc, hextw, hnf⟩ := H.out
         obtain ⟨l', w5, h1, h2, h3, h4⟩ := store_cnt (hin.to k) (by omega) (by omega) (by omega) hl hkn (-1)
         rw [hL] at hpop
         exact ⟨l', w5, h1, h2, h3, h4, own_kept (hpop.below (Nat.le_refl _) k) h4 hlo (by omega), Nat.le_trans hs5 (Nat.le_trans k.size h4.size), h4.size⟩
        have HLE := Lib.hid hle
        have HST := Lib.hid hst
        have HMK := Lib.hid hmk
        have hls := H.out.2.2.2.2.2.2.1
        clear hle hmk hst
        go_wp2_with (first
         | (go_at_call 62; refine (HK.out _).mono ?_; rintro e1 w3 ⟨rfl, hb3⟩; have r3 : Ext wr w3 := ((Ext.refl wr).alloc _).trans hb3; have d1' := (r3.cell (o := 1) dl).trans d1; have dl' := Nat.lt_of_lt_of_le dl r3.size; obtain ⟨s0, s1, s2⟩ := two_cells hb3; have y3 := fun ob => HLE.out (w3.alloc ob) (r3.alloc ob); obtain ⟨l', w5, hup, hin5, hkn5, hgr5, hst5, hlo5, hsz5⟩ := HST.out (w3.alloc (.cells #[.pointer (some ⟨kb, ko, none⟩), .int .i64 kl] 88)) (r3.alloc _); have s5 : w5.cell? ⟨wr.heap.size, 0, none⟩ = some (.slice (some ⟨kb, ko, none⟩) kl kcap) := (hgr5.cell_far _ (by simp; omega) (by simp; omega)).trans ((World.cell?_alloc_lt _ _ _ s2).trans s0); have hsz6 : wr.heap.size < w5.heap.size := Nat.lt_of_lt_of_le s2 (Nat.le_trans (by simp) hsz5); have H5 := Lib.hid (And.intro hin5 (And.intro hkn5 (And.intro hst5 (And.intro hlo5 hsz5)))); clear hin5 hkn5 hgr5 hst5 hlo5)
         | (at_builtin; refine Hid.out ?_))
        refine Lib.hid ?_
        refine append_step rfl (.tmp 59) (.tmp 63) rfl rfl (H5.out.2.2.1.below (Nat.le_refl _) ((Ext.refl w5).alloc _)) H.out.2.2.2.2.2.2.2.1 rfl (kb, ko, kl) true H.out.2.2.2.2.2.2.2.2.2.1 (two_new w5 _ _ _).1 (two_new w5 _ _ _).2 (by omega) (Nat.le_trans H5.out.2.2.2.1 (by simp)) ?_
        intro g6 cap6 w6 hst6 hgr6' hlo6
        have hgr6 : World.grownBy _ w6 (some g2) := hgr6'
        clear hgr6'
        have s6 : w6.cell? ⟨wr.heap.size, 0, none⟩ = some (.slice (some ⟨kb, ko, none⟩) kl kcap) := (hgr6.cell_far ⟨wr.heap.size, 0, none⟩ (Nat.lt_of_lt_of_le hsz6 (by simp)) (fun e => by simp only [Option.some.injEq] at e; omega)).trans ((World.cell?_alloc_lt _ _ ⟨wr.heap.size, 0, none⟩ hsz6).trans s5)
        have H6 := Lib.hid (And.intro hst6 (And.intro hgr6 hlo6))
        clear hst6 hgr6 hlo6
        go_wp2_with fail
        have hin6 : Cnt.In W1 w6 (w.heap.size + 1 + 1 + 1 + 1) (w.heap.size + 1 + 1) (w.heap.size + 1 + 1 + 1) g lb l' := In_grown (lo := w.heap.size + 1 + 1 + 1 + 1 + 1) (H5.out.1.to ((Ext.refl _).alloc _)) H6.out.2.1 (fun q hq => by simp only [Option.some.injEq] at hq; omega) (by omega) (by omega) (by omega) (by omega)
        have HI6 := Lib.hid hin6
        clear hin6
        go_loopw [7, 68] (fun v i w2 => ∃ j : Nat, j ≤ kl ∧ i = .int .i64 (j : Int) ∧ StackG StepV 2 w2 143 (w.heap.size + 1 + 1 + 1 + 1 + 1) v (((kidKeys W1 kb ko j).reverse.map fun c => (c, false)) ++ ((kb, ko, kl), true) :: st) ∧ Cnt.In W1 w2 (w.heap.size + 1 + 1 + 1 + 1) (w.heap.size + 1 + 1) (w.heap.size + 1 + 1 + 1) g lb l' ∧ w.heap.size + 1 + 1 + 1 + 1 + 1 ≤ w2.heap.size) (fun _ i _ => kl - (intOf i).toNat)
        case atStart => exact ⟨0, Nat.zero_le _, rfl, H6.out.1, HI6.out, H6.out.2.2⟩
        case round =>
         obtain ⟨j, hj, rfl, hst2, hin2, hlo2⟩ := hrel
         have HS2 := Lib.hid (And.intro hst2 (And.intro hin2 hlo2))
         by_cases hjk : j < kl
         ·obtain ⟨p, o, n, t, ks, r, hf, hpj⟩ := F.at_len f j (by have := H.out.2.2.2.2.2.2.2.2.1.1; simp only at this; omega)
          have hlf := H.out.2.2.2.2.2.2.2.2.1
          rw [hf] at hlf
          obtain ⟨a, kc2, c0, c1, c2, c3, hkc2, hkid⟩ := hlf.at
          rw [hpj] at c0 c1 c2 c3 hkid
          have hkl2 : kb < W1.heap.size := hlf.lt
          rw [← hin2.ext.cell hkl2] at c0 c1 c2 c3
          have HF := Lib.hid hf
          have hsl : (((kidKeys W1 kb ko j).reverse.map fun c => (c, false)) ++ ((kb, ko, kl), true) :: st).length ≤ 16777216 := by
           have h1 := kidKeys_len W1 kb j ko
           have h2 := H.out.2.2.2.2.2.2.2.1
           have h3 := H.out.2.2.2.2.2.2.2.2.1.1
           have h4 := len_nodes f
           have h5 := H.out.2.2.2.2.2.2.2.2.2.2.2
           simp only at h3
           simp only [List.length_append, List.length_map, List.length_reverse, List.length_cons]
           omega
          obtain ⟨N2, hN2⟩ : ∃ N2, (((kidKeys W1 kb ko j).reverse.map fun c => (c, false)) ++ ((kb, ko, kl), true) :: st).length = N2 := ⟨_, rfl⟩
          rw [hN2] at hsl
          have HN2 := Lib.hid hN2
          have HSL := Lib.hid hsl
          clear hf hlf hsl hst2 hin2 hN2
          by_cases hz : ks.len = 0
          ·rw [hz] at c3
           have HK0 := Lib.hid hkid
           clear hkid hkc2
           have HZ := Lib.hid hz
           clear hz
           go_wp2_with fail
           go_roundw
           case rel =>
            obtain ⟨hst2, hin2, hlo2⟩ := HS2.out
            refine ⟨j + 1, by omega, by go_num, ?_, hin2.to ((Ext.refl _).alloc _), Nat.le_trans hlo2 (by simp)⟩
            have hk0 : kidAt W1 kb (ko + j * 4) = [] := by
             rcases HK0.out with ⟨_, h⟩ | ⟨_, _, _, h, _⟩
             ·exact h
             ·have := HZ.out; omega
            rw [kidKeys_snoc, hk0, List.append_nil]
            exact hst2.below (Nat.le_refl _) ((Ext.refl _).alloc _)
           case measure => simp [intOf]; omega
          ·rcases hkid with ⟨h, _⟩ | ⟨b', o', rfl, hpos, hlk, hka⟩
           ·exact absurd h hz
           obtain ⟨M, hM⟩ : ∃ M, ks.len = M := ⟨_, rfl⟩
           rw [hM] at hz hlk hpos hkc2 c3 hka
           have HKA := Lib.hid (And.intro hlk (And.intro hka hkc2))
           have j0 : (0 : Int) < (M : Int) := by omega
           clear hM hka hlk hkc2
           go_wp2_with (at_builtin; refine append_step rfl (.tmp 76) (.tmp 80) rfl rfl ((HS2.out.1.below (Nat.le_refl _) ((Ext.refl _).alloc _)).below (Nat.le_refl _) ((Ext.refl _).alloc _)) HN2.out rfl (b', o', M) false HKA.out.2.2 (two_new1 _ _ _ _ _).1 (two_new1 _ _ _ _ _).2 HSL.out (Nat.le_trans HS2.out.2.2 (by simp; omega)) ?_; intro g7 cap7 w7 hst7 hgr7 hlo7)
           go_roundw
           case rel =>
            obtain ⟨hst2, hin2, hlo2⟩ := HS2.out
            refine ⟨j + 1, by omega, by go_num, ?_, In_grown (lo := w.heap.size + 1 + 1 + 1 + 1 + 1) ((hin2.to ((Ext.refl _).alloc _)).to ((Ext.refl _).alloc _)) hgr7 (fun q hq => (hst2.own_lt q hq).1) (by omega) (by omega) (by omega) (by omega), hlo7⟩
            rw [kidKeys_snoc, HKA.out.2.1, List.reverse_append, List.map_append, List.append_assoc]
            exact hst7
           case measure => simp [intOf]; omega
         ·have hjl : j = kl := by omega
          subst hjl
          clear hst2 hin2
          go_wp2_with fail
          go_roundg (weight (forest W1 m) (((kidKeys W1 kb ko j).reverse.map fun c => (c, false)) ++ ((kb, ko, j), true) :: st))
          case measure =>
           have h1 := weight_open (T := forest W1 m) (k := (kb, ko, j)) ⟨f, H.out.2.2.2.2.2.2.2.2.1, H.out.2.2.2.2.2.2.2.2.2.2.2⟩ st
           have h2 := H.out.1
           exact Nat.lt_of_lt_of_le h1 h2
          case rel =>
           have h1 := weight_open (T := forest W1 m) (k := (kb, ko, j)) ⟨f, H.out.2.2.2.2.2.2.2.2.1, H.out.2.2.2.2.2.2.2.2.2.2.2⟩ st
           have h2 := H.out.1
           have h3 := H.out.2.1
           exact ⟨_, _, l', Nat.le_refl _, Nat.le_trans (Nat.le_of_lt h1) (Nat.le_trans h2 h3), HS2.out.1, H.out.2.2.2.1.open HMK.out, H5.out.2.1, HS2.out.2.1, HS2.out.2.2⟩
end Go.Proofs.YtjcaiecapapceaaGreat.CntN

import Derived.Test.YtpiaiandjnpdfaaLb
import Derived.Test.YtpiaiandjnpdfaaRfR
import Derived.Laws.Cover3
/-
  Narrowest and Shortest of the program.
-/
set_option linter.unusedVariables false
set_option linter.unusedSimpArgs false
namespace Go.Proofs.Ytpiaiandjnpdfaa.It
open Go.RowKit Go.Shelf P1 LayL LayV LayM LayN LayC Cnt CntC Wid ChP Tr ChT ChC Rf
open Ls hiding Lay
attribute [local go_sem] Oper.semAt_some

theorem nil_eq (w : World) : (binOp BinOp.eql 33 (.slice none 0 0) (.slice none 0 0)).run Try.prog w = .ok (.bool true) w := by
  have h := run_equal_slice_nil (P := Try.prog) w _ _ none 0 0 Try.underlying33
  simp only [binOp, Sem.run_bind, Sem.run_pure, h, Result.andThen_ok]; rfl
theorem nil_ne (ad : Addr) (l c : Nat) (w : World) : (binOp BinOp.eql 33 (.slice (some ad) l c) (.slice none 0 0)).run Try.prog w = .ok (.bool false) w := by
  have h := run_equal_slice_nil (P := Try.prog) w _ _ (some ad) l c Try.underlying33
  simp only [binOp, Sem.run_bind, Sem.run_pure, h, Result.andThen_ok]; rfl

theorem least_upto (f : Lay → Int) (L : Nat → Lay) (j : Nat) : least f (upto L (j + 1)) = if j = 0 then L 0 else if f (L j) < f (least f (upto L j)) then L j else least f (upto L j) := by
  by_cases hj : j = 0
  · subst hj; rfl
  · rw [if_neg hj]
    obtain ⟨i, rfl⟩ : ∃ i, j = i + 1 := ⟨j - 1, by omega⟩
    have e : upto L (i + 1) = L 0 :: (upto L (i + 1)).tail := by
      have h : (upto L (i + 1)).head? = some (L 0) := by simp [upto, List.range_succ_eq_map]
      cases hu : upto L (i + 1) with
      | nil => rw [hu] at h; cases h
      | cons x xs => rw [hu] at h; simp at h; rw [h]; rfl
    rw [upto_succ, e, List.cons_append, least_snoc]
theorem least_zero (f : Lay → Int) (L : Nat → Lay) : least f (upto L 0) = [] := rfl
theorem least_good {f : Lay → Int} {L : Nat → Lay} (h : ∀ i, lv (L i) = true) {j : Nat} (hj : 1 ≤ j) : lv (least f (upto L j)) = true := by
  have hl := upto_len L j
  cases hu : upto L j with
  | nil => rw [hu] at hl; simp at hl; omega
  | cons x xs =>
    have hm := least_mem f xs x
    rw [← hu] at hm ⊢
    simp only [upto, List.mem_map] at hm
    obtain ⟨i, _, e⟩ := hm
    rw [← show L i = least f (upto L j) from e]
    exact h i
theorem sub_addr {w : World} {a : Option Addr} {l : Lay} {f : List Nat} (h : LaySub w a l f) (hl : lv l = true) : ∃ ad, a = some ad := by
  rcases h with ⟨e, _⟩ | ⟨b, off, ha, _⟩
  · have := (lv_len hl).1; rw [e] at this; simp at this
  · exact ⟨_, ha⟩

theorem keepN {W w' w'' : World} {b c : Nat} {u v : Value} {a a' : Option Addr} {l l' : Lay} {f f' : List Nat} (h : ((w'.cell? ⟨b, 0, none⟩ = some u ∧ w'.cell? ⟨c, 0, none⟩ = some v) ∧ b < w'.heap.size ∧ c < w'.heap.size) ∧ (LaySub w' a l f ∧ LaySub w' a' l' f') ∧ Ext W w') (k : Ext w' w'') :
    ((w''.cell? ⟨b, 0, none⟩ = some u ∧ w''.cell? ⟨c, 0, none⟩ = some v) ∧ b < w''.heap.size ∧ c < w''.heap.size) ∧ (LaySub w'' a l f ∧ LaySub w'' a' l' f') ∧ Ext W w'' :=
  ⟨⟨⟨(k.cell h.1.2.1).trans h.1.1.1, (k.cell h.1.2.2).trans h.1.1.2⟩, Nat.lt_of_lt_of_le h.1.2.1 k.size, Nat.lt_of_lt_of_le h.1.2.2 k.size⟩, ⟨h.2.1.1.below h.2.1.1.lt k, h.2.1.2.below h.2.1.2.lt k⟩, h.2.2.trans k⟩

set_option maxRecDepth 100000 in
theorem lenOf (l : Lay) (hl : l.length ≤ maxLen) (w : World) (a : Option Addr) (cap : Nat) : Calls Try.prog 64 #[.slice a l.length cap] w fun e w' => e = .returned (.int .i64 (szL true l)) ∧ Below w.heap.size w w' := by
  unfold szL
  go_enter Try.func64, Try.ntmps64
  go_wp2_with fail
  go_ret
  exact ⟨rfl, Below.refl _ _⟩
theorem widOf (l : Lay) (hv : lv l = true) (w : World) (a : Option Addr) (cap : Nat) (fs : List Nat) (hs : LaySub w a l fs) (hc : l.length ≤ cap) : Calls Try.prog 33 #[.slice a l.length cap] w fun e w' => e = .returned (.int .i64 (szL false l)) ∧ Below w.heap.size w w' :=
  LayW.implLayoutWidth l w a cap fs hs hc (by have := (lv_len hv).2; unfold maxLen; omega) (lv_fits hv)

/-- 'least = l' with least in a box: what the walk owes of it -/
theorem store_box {W : World} {B : Nat} {T : TypeId} {v u : Value} {a : Option Addr} {l : Lay} {f : List Nat} (hB : Boxed W B T v) (hs : LaySub W a l f) (hf : ∀ q ∈ f, B < q) :
    Boxed (W.setCell ⟨B, 0, none⟩ u) B T u ∧ LaySub (W.setCell ⟨B, 0, none⟩ u) a l f ∧ KeepsOthers W (W.setCell ⟨B, 0, none⟩ u) ∧ Below B W (W.setCell ⟨B, 0, none⟩ u) :=
  ⟨hB.set u, hs.congr (fun q hq o => World.cell?_setCell_far _ _ _ _ (by have := hf q hq; simp; omega)), KeepsOthers.setCell _ _ _, (Below.refl B W).setCell (p := ⟨B, 0, none⟩) (Nat.le_refl _) u⟩

section
variable (w : World) (o n : Int) (t : ByteArray) (k : F) (a : Option Addr) (cap : Nat) (fs : List Nat)

set_option maxRecDepth 100000 in
set_option maxHeartbeats 12800000 in
theorem firstLeastNarrowest (hs : SubAt w a k fs) (hfs : ∀ c ∈ fs, c < w.heap.size ∧ ∀ o, w.frozen? ⟨c, o, none⟩ = false) (hc : k.len ≤ cap) (hsz : t.size + k.size ≤ 2000000) (hft : k.Fits) (ht : t.size ≤ maxLen) :
    Calls Try.prog 62 #[.agg #[.int .i64 o, .int .i64 n, .string t, .slice a k.len cap], .func (.func 33) #[] #[]] w (LayRes w (bestR false o n t k)) := by
  have B2 := Lib.hid (show ∀ ob ob', Ext w ((w.alloc ob).alloc ob') from fun ob ob' => ((Ext.refl w).alloc _).alloc _)
  have HS := Lib.hid (fun (w1 : World) (hw1 : Ext w w1) => layoutsInOrder w1 o n t k a cap fs (hs.below (fun c hc => (hfs c hc).1) hw1) (fun c hc => ⟨Nat.lt_of_lt_of_le (hfs c hc).1 hw1.size, fun x => (hw1.frozen (hfs c hc).1).trans ((hfs c hc).2 x)⟩) hc hsz hft ht)
  have HQ := Lib.hid (fun (l : Lay) (hv : lv l = true) (W : World) (a : Option Addr) (cap : Nat) (fs : List Nat) (hs : LaySub W a l fs) (hc : l.length ≤ cap) => widOf l hv W a cap fs hs hc)
  clear hs hfs
  obtain ⟨sz, hszz⟩ : ∃ sz, szL false = sz := ⟨_, rfl⟩
  unfold bestR
  rw [hszz] at HQ ⊢
  clear hszz
  refine calls_marks Try.func62 rfl ?_
  simp only [Try.ntmps62, List.size_toArray, List.length_cons, List.length_nil, Nat.reduceAdd, Nat.reduceSub, Array.replicate_succ, Array.replicate_zero, List.push_toArray, List.append_toArray, List.nil_append, List.cons_append]
  go_wp2_with fail
  refine (HS.out _ (B2.out _ _)).mono ?_
  rintro e1 w1 (⟨hto, rfl, hb⟩ | ⟨hto, b, rfl, hat, hb⟩)
  · have H1 := Lib.hid (And.intro hto ((B2.out _ _).trans hb))
    clear hto hb
    go_wp2_with fail
    exact leave_none (results_tmp2 rfl _ _ _) (by rw [H1.out.1, lays_no H1.out.1]; exact LayRes.none' H1.out.2)
  · obtain ⟨p1, p2, p3, p4⟩ := told_parts hto
    have hG := fun (W : World) (hW : Ext w1 W) => gives p1 p2 hsz (by omega) (hat.keep (Keep.of_ext hW))
    have HLS := Lib.hid (lays_yes hto)
    have HGD := Lib.hid (fun (i : Nat) => pick_lv (DocC.many_yes p4).1 i)
    have HPOS := Lib.hid (ctD_pos o k)
    obtain ⟨L, hL⟩ : ∃ L : Nat → Lay, (fun i => pkD o n t k i) = L := ⟨_, rfl⟩
    have hgd2 : ∀ i, lv (L i) = true := by rw [← hL]; exact HGD.out
    rw [hL] at hG HLS
    obtain ⟨N, hN⟩ : ∃ N, ctD o k = N := ⟨_, rfl⟩
    rw [hN] at hG HLS p3 HPOS
    have HG2 := Lib.hid hgd2
    have H1 := Lib.hid (And.intro hto ((B2.out _ _).trans hb))
    have hx1 : w1.cell? ⟨w.heap.size + 1, 0, none⟩ = some (.func (.func 33) #[] #[]) := by
      refine (Below.cell (p := ⟨w.heap.size + 1, 0, none⟩) hb (by simp)).trans ?_
      rw [show w.heap.size + 1 = (w.alloc (.cells #[.int .i64 o, .int .i64 n, .string t, .slice a k.len cap] 25)).heap.size by simp, World.cell?_alloc_new]; rfl
    have hx1l : w.heap.size + 1 < w1.heap.size := World.block_lt_of_cell? w1 _ hx1
    clear hto hb hat p1 p2 p4 HGD hL hN hgd2 HS
    go_wp2_with fail
    obtain ⟨W0, hW0⟩ : ∃ W0, w1.alloc (.cells #[.slice none 0 0] 33) = W0 := ⟨_, rfl⟩
    have hz : W0.heap.size = w1.heap.size + 1 := by rw [← hW0]; simp
    have hE0 : Ext w1 W0 := by rw [← hW0]; exact (Ext.refl w1).alloc _
    have hX0 : Boxed W0 w1.heap.size 33 (.slice none 0 0) := by rw [← hW0]; exact Boxed.new _ _ _
    try rw [hW0]
    clear hW0
    refine wpIn_wide.1 (rangeFunc_gives (n := 7) (gf := 80) (lb := #[.pointer (some ⟨b, 0, none⟩)]) rfl (enters_of Try.func80 (by kernel_rfl) rfl) (by omega) (hG W0 hE0) (fun c hc => by omega) (fun k args A W hX => by obtain ⟨a, cap, f, rfl, _⟩ := hX; rfl)
      (fun j A => (∃ a c f, Boxed A w1.heap.size 33 (.slice a (least sz (upto L j)).length c) ∧ (least sz (upto L j)).length ≤ c ∧ LaySub A a (least sz (upto L j)) f ∧ Fresh (w1.heap.size + 1) A f ∧ (j = 0 → a = none ∧ c = 0)) ∧ Below w1.heap.size w1 A)
      (fun _ _ => False)
      (fun j A B ⟨⟨a, c, f, h1, h2, h3, h4, h5⟩, h6⟩ hA hT => ⟨⟨a, c, f, hT.boxed h1, h2, hT.lay h3, hT.layFresh h3 h4, h5⟩, h6.trans (hT.below (by omega))⟩)
      (fun A B ⟨⟨a, c, f, h1, h2, h3, h4, h5⟩, h6⟩ hE => ⟨⟨a, c, f, (hE.block _ h1.lt).trans h1, h2, h3.below h3.lt hE, h4.below h4.lt hE, h5⟩, h6.trans (hE.mono h6.size)⟩)
      (fun _ _ _ h => h.elim)
      ⟨⟨none, 0, [], hX0, by simp [least_zero], .inl ⟨rfl, rfl⟩, Fresh.nil _ _, fun _ => ⟨rfl, rfl⟩⟩, hE0⟩
      (fun args => { tmps := #[.agg #[.int .i64 o, .int .i64 n, .string t, .slice a k.len cap], .func (.func 33) #[] #[], .pointer (some ⟨w.heap.size, 0, none⟩), .pointer (some ⟨w.heap.size + 1, 0, none⟩), .slice none 0 0, .bool false, .func (.func 80) #[] #[.pointer (some ⟨b, 0, none⟩)], .bool true, .pointer (some ⟨w1.heap.size, 0, none⟩), args.getD 0 undef, .tuple #[.func (.func 80) #[] #[.pointer (some ⟨b, 0, none⟩)], .bool true], .agg #[.int .i64 o, .int .i64 n, .string t, .slice a k.len cap], .tuple #[.func (.func 80) #[] #[.pointer (some ⟨b, 0, none⟩)], .bool true], .func (.func 80) #[] #[.pointer (some ⟨b, 0, none⟩)], .bool true, .bool true, .bool false, .func (.func 80) #[] #[.pointer (some ⟨b, 0, none⟩)], args.getD 0 undef, undef, undef, undef, undef, undef, undef, undef, undef, undef, undef, undef, undef, undef], defers := [] }) ?assign ?body ?done ?stop)
    case assign =>
      rintro l j args A W K ⟨a, cap, f, rfl, _⟩ hK
      gi_wp2_with fail
      exact hK
    case body =>
      rintro l j args A Wp W hj hz1 ⟨⟨av, cv, fv, h1, h2, h3, h4, h5⟩, h6⟩ hE ⟨ax, cx, fx, rfl, hcx, hsx, hfx⟩ hT
      have hB : Boxed W w1.heap.size 33 (.slice av (least sz (upto L j)).length cv) := hT.boxed ((hE.block _ h1.lt).trans h1)
      have hsv := hT.lay (h3.below h3.lt hE)
      have hfv := hT.layFresh (h3.below h3.lt hE) (h4.below h4.lt hE)
      have hsx' := hT.lay hsx
      have hfx' := hT.layFresh hsx hfx
      have hbW : Below w1.heap.size w1 W := (h6.trans (hE.mono h6.size)).trans (hT.below (by omega))
      have hx2 : W.cell? ⟨w.heap.size + 1, 0, none⟩ = some (.func (.func 33) #[] #[]) := (hbW.cell (p := ⟨w.heap.size + 1, 0, none⟩) hx1l).trans hx1
      have hAz := h1.lt
      have hlu := least_upto sz L j
      have hc1 := hB.cell
      have hcz := hB.lt
      by_cases hj0 : j = 0
      · subst hj0
        rw [if_pos rfl] at hlu
        obtain ⟨rfl, rfl⟩ := h5 rfl
        have hlz : (least sz (upto L 0)).length = 0 := by rw [least_zero]; rfl
        rw [hlz] at hB hc1
        have HLU := Lib.hid hlu
        have hnil := nil_eq
        clear hlu hsv hfv h1 h2 h3 h4 h5 hsx hfx
        have hfz := hB.frozen
        refine wpIn_block ?_
        refine wpIn_seq ?_
        refine region_in (S := (fun w' => w'.cell? ⟨w1.heap.size, 0, none⟩ = some (.slice none 0 0))) (by kernel_rfl) (by simp) (fun h => by obtain ⟨_, _, h⟩ := h; exact h) ?_ (fun hHeld => ?_)
        · exact hc1
        refine wpAnyH_take (i := 0) (oi := { dst := some 19, op := Op.load 33 (Operand.tmp 8), type := 33, pos := "l3_choices.go:165", after := #[], guard := none }) (v := ?_) rfl (by kernel_rfl) (by kernel_rfl) (by kernel_rfl) (fun _ _ _ h => h) (Or.inl ⟨by rfl, ?_⟩) (by assumption) ?_
        rotate_left
        · (intro w hSw; (try dsimp only at hSw); (go_simp <;> with_reducible rfl))
        try simp only [Act.put, List.setIfInBounds_toArray, List.set_cons_zero, List.set_cons_succ]
        refine wpAnyH_take (i := 1) (oi := { dst := some 20, op := Op.binOp BinOp.eql 33 (Operand.tmp 19) (Operand.const (Value.slice none 0 0)) 33, type := 4, pos := "l3_choices.go:165", after := #[{ on := 0, ground := Ground.data }], guard := none }) (v := ?_) rfl (by kernel_rfl) (by kernel_rfl) (by kernel_rfl) (fun _ _ _ h => h) (Or.inl ⟨by rfl, ?_⟩) (by assumption) ?_
        rotate_left
        · (intro w hSw; (try dsimp only at hSw); (go_simp <;> with_reducible rfl))
        try simp only [Act.put, List.setIfInBounds_toArray, List.set_cons_zero, List.set_cons_succ]
        refine wpAnyH_take (i := 2) (oi := { dst := some 21, op := Op.move (Operand.tmp 20), type := 4, pos := "l3_choices.go:165", after := #[{ on := 1, ground := Ground.data }], guard := none }) (v := ?_) rfl (by kernel_rfl) (by kernel_rfl) (by kernel_rfl) (fun _ _ _ h => h) (Or.inl ⟨by rfl, ?_⟩) (by assumption) ?_
        rotate_left
        · (intro w hSw; (try dsimp only at hSw); (go_simp <;> with_reducible rfl))
        try simp only [Act.put, List.setIfInBounds_toArray, List.set_cons_zero, List.set_cons_succ]
        refine wpAnyH_take (i := 3) (oi := { dst := some 22, op := Op.load 43 (Operand.tmp 3), type := 43, pos := "l3_choices.go:165", after := #[{ on := 2, ground := Ground.guard }], guard := some (2, false) }) (v := undef) rfl (by kernel_rfl) (by kernel_rfl) (by kernel_rfl) (fun _ _ _ h => h) (Or.inr ⟨by rfl, rfl⟩) (by assumption) ?_
        try simp only [Act.put, List.setIfInBounds_toArray, List.set_cons_zero, List.set_cons_succ]
        refine wpAnyH_take (i := 4) (oi := { dst := some 23, op := Op.move (Operand.tmp 9), type := 33, pos := "l3_choices.go:165", after := #[{ on := 2, ground := Ground.guard }], guard := some (2, false) }) (v := undef) rfl (by kernel_rfl) (by kernel_rfl) (by kernel_rfl) (fun _ _ _ h => h) (Or.inr ⟨by rfl, rfl⟩) (by assumption) ?_
        try simp only [Act.put, List.setIfInBounds_toArray, List.set_cons_zero, List.set_cons_succ]
        refine wpAnyH_take (i := 5) (oi := { dst := some 24, op := Op.call { callee := Callee.value (Operand.tmp 22), args := #[Operand.tmp 23], argTypes := #[33] }, type := 3, pos := "l3_choices.go:165", after := #[{ on := 3, ground := Ground.data }, { on := 4, ground := Ground.data }, { on := 2, ground := Ground.chain }, { on := 2, ground := Ground.guard }], guard := some (2, false) }) (v := undef) rfl (by kernel_rfl) (by kernel_rfl) (by kernel_rfl) (fun _ _ _ h => h) (Or.inr ⟨by rfl, rfl⟩) (by assumption) ?_
        try simp only [Act.put, List.setIfInBounds_toArray, List.set_cons_zero, List.set_cons_succ]
        refine wpAnyH_take (i := 6) (oi := { dst := some 25, op := Op.load 43 (Operand.tmp 3), type := 43, pos := "l3_choices.go:165", after := #[{ on := 2, ground := Ground.guard }], guard := some (2, false) }) (v := undef) rfl (by kernel_rfl) (by kernel_rfl) (by kernel_rfl) (fun _ _ _ h => h) (Or.inr ⟨by rfl, rfl⟩) (by assumption) ?_
        try simp only [Act.put, List.setIfInBounds_toArray, List.set_cons_zero, List.set_cons_succ]
        refine wpAnyH_take (i := 7) (oi := { dst := some 26, op := Op.load 33 (Operand.tmp 8), type := 33, pos := "l3_choices.go:165", after := #[{ on := 2, ground := Ground.guard }], guard := some (2, false) }) (v := undef) rfl (by kernel_rfl) (by kernel_rfl) (by kernel_rfl) (fun _ _ _ h => h) (Or.inr ⟨by rfl, rfl⟩) (by assumption) ?_
        try simp only [Act.put, List.setIfInBounds_toArray, List.set_cons_zero, List.set_cons_succ]
        refine wpAnyH_take (i := 8) (oi := { dst := some 27, op := Op.call { callee := Callee.value (Operand.tmp 25), args := #[Operand.tmp 26], argTypes := #[33] }, type := 3, pos := "l3_choices.go:165", after := #[{ on := 6, ground := Ground.data }, { on := 7, ground := Ground.data }, { on := 5, ground := Ground.chain }, { on := 2, ground := Ground.guard }], guard := some (2, false) }) (v := undef) rfl (by kernel_rfl) (by kernel_rfl) (by kernel_rfl) (fun _ _ _ h => h) (Or.inr ⟨by rfl, rfl⟩) (by assumption) ?_
        try simp only [Act.put, List.setIfInBounds_toArray, List.set_cons_zero, List.set_cons_succ]
        refine wpAnyH_take (i := 9) (oi := { dst := some 28, op := Op.binOp BinOp.lss 3 (Operand.tmp 24) (Operand.tmp 27) 3, type := 4, pos := "l3_choices.go:165", after := #[{ on := 5, ground := Ground.data }, { on := 8, ground := Ground.data }, { on := 2, ground := Ground.guard }], guard := some (2, false) }) (v := undef) rfl (by kernel_rfl) (by kernel_rfl) (by kernel_rfl) (fun _ _ _ h => h) (Or.inr ⟨by rfl, rfl⟩) (by assumption) ?_
        try simp only [Act.put, List.setIfInBounds_toArray, List.set_cons_zero, List.set_cons_succ]
        refine wpAnyH_take (i := 10) (oi := { dst := some 29, op := Op.pick (Operand.tmp 21) (Operand.const (Value.bool true)) (Operand.tmp 28), type := 4, pos := "l3_choices.go:165", after := #[{ on := 2, ground := Ground.data }, { on := 9, ground := Ground.data }], guard := none }) (v := ?_) rfl (by kernel_rfl) (by kernel_rfl) (by kernel_rfl) (fun _ _ _ h => h) (Or.inl ⟨by rfl, ?_⟩) (by assumption) ?_
        rotate_left
        · (intro w hSw; (try dsimp only at hSw); (go_simp <;> with_reducible rfl))
        try simp only [Act.put, List.setIfInBounds_toArray, List.set_cons_zero, List.set_cons_succ]
        refine wpAnyH_done (by kernel_rfl) ?_ _
        gi_wp2_with fail
        have hE3 : Ext W W.drew := Ext.drew (Ext.refl _)
        have hB3 : Boxed W.drew w1.heap.size 33 (.slice none 0 0) := hB
        have hst := store_box (u := .slice ax (L 0).length cx) hB3 (hsx'.below hsx'.lt hE3) (fun q hq => by have := (hfx'.2 q hq).1; omega)
        exact ⟨(keeps_of_ext hE3).trans hst.2.2.1, (Keep.of_ext hE3).trans (Keep.of_below hst.2.2.2 (fun c hc => by omega)), ⟨ax, cx, fx, by rw [HLU.out]; exact hst.1, by rw [HLU.out]; exact hcx, by rw [HLU.out]; exact hst.2.1, ((hfx'.mono (by omega)).below (fun q hq => hsx'.lt q hq) hE3).alike (by simp) (fun c _ o => World.frozen?_setCell _ _ _ _), fun h => absurd h (by omega)⟩, (hbW.trans (hE3.mono hbW.size)).trans hst.2.2.2⟩
      · rw [if_neg hj0] at hlu
        have hlg := least_good (f := sz) HG2.out (j := j) (by omega)
        obtain ⟨ad, rfl⟩ := sub_addr hsv hlg
        have hll := (lv_len hlg).2
        have hq1 := fun (W' : World) (h : LaySub W' ax (L j) fx) => HQ.out (L j) (HG2.out j) W' ax cx fx h hcx
        have hq2 := fun (W' : World) (h : LaySub W' (some ad) (least sz (upto L j)) fv) => HQ.out (least sz (upto L j)) hlg W' (some ad) cv fv h h2
        have HQ1 := Lib.hid hq1
        have HQ2 := Lib.hid hq2
        have HLU := Lib.hid hlu
        have HS0 := Lib.hid (show ((W.cell? ⟨w1.heap.size, 0, none⟩ = some (.slice (some ad) (least sz (upto L j)).length cv) ∧ W.cell? ⟨w.heap.size + 1, 0, none⟩ = some (.func (.func 33) #[] #[])) ∧ w1.heap.size < W.heap.size ∧ w.heap.size + 1 < W.heap.size) ∧ (LaySub W ax (L j) fx ∧ LaySub W (some ad) (least sz (upto L j)) fv) ∧ Ext W W from ⟨⟨⟨hc1, hx2⟩, hcz, by have := hbW.size; omega⟩, ⟨hsx', hsv⟩, Ext.refl _⟩)
        have hnil := nil_ne ad (least sz (upto L j)).length cv
        obtain ⟨vj, hvj⟩ : ∃ x, sz (L j) = x := ⟨_, rfl⟩
        obtain ⟨vc, hvc⟩ : ∃ x, sz (least sz (upto L j)) = x := ⟨_, rfl⟩
        rw [hvj] at HLU HQ1
        rw [hvc] at HLU HQ2
        clear hlu hq1 hq2 hvj hvc hc1 hx2 h1 h3 h4 h5 hsx hfx
        by_cases hlt : vj < vc
        · have hd : decide (vj < vc) = true := decide_eq_true hlt
          have HR := Lib.hid (HLU.out.trans (if_pos hlt))
          refine wpIn_block ?_
          refine wpIn_seq ?_
          refine region_in (S := (fun w' => ((w'.cell? ⟨w1.heap.size, 0, none⟩ = some (.slice (some ad) (least sz (upto L j)).length cv) ∧ w'.cell? ⟨w.heap.size + 1, 0, none⟩ = some (.func (.func 33) #[] #[])) ∧ w1.heap.size < w'.heap.size ∧ w.heap.size + 1 < w'.heap.size) ∧ (LaySub w' ax (L j) fx ∧ LaySub w' (some ad) (least sz (upto L j)) fv) ∧ Ext W w')) (by kernel_rfl) (by simp) (fun h => by obtain ⟨_, _, h⟩ := h; exact h) ?_ (fun hHeld => ?_)
          · exact keepN HS0.out (Ext.drew (Ext.refl _))
          refine wpAnyH_take (i := 0) (oi := { dst := some 19, op := Op.load 33 (Operand.tmp 8), type := 33, pos := "l3_choices.go:165", after := #[], guard := none }) (v := ?_) rfl (by kernel_rfl) (by kernel_rfl) (by kernel_rfl) (fun _ _ _ h => h) (Or.inl ⟨by rfl, ?_⟩) (by assumption) ?_
          rotate_left
          · (intro w hSw; (try dsimp only at hSw); (go_simp <;> with_reducible rfl))
          try simp only [Act.put, List.setIfInBounds_toArray, List.set_cons_zero, List.set_cons_succ]
          refine wpAnyH_take (i := 1) (oi := { dst := some 20, op := Op.binOp BinOp.eql 33 (Operand.tmp 19) (Operand.const (Value.slice none 0 0)) 33, type := 4, pos := "l3_choices.go:165", after := #[{ on := 0, ground := Ground.data }], guard := none }) (v := ?_) rfl (by kernel_rfl) (by kernel_rfl) (by kernel_rfl) (fun _ _ _ h => h) (Or.inl ⟨by rfl, ?_⟩) (by assumption) ?_
          rotate_left
          · (intro w hSw; (try dsimp only at hSw); (go_simp <;> with_reducible rfl))
          try simp only [Act.put, List.setIfInBounds_toArray, List.set_cons_zero, List.set_cons_succ]
          refine wpAnyH_take (i := 2) (oi := { dst := some 21, op := Op.move (Operand.tmp 20), type := 4, pos := "l3_choices.go:165", after := #[{ on := 1, ground := Ground.data }], guard := none }) (v := ?_) rfl (by kernel_rfl) (by kernel_rfl) (by kernel_rfl) (fun _ _ _ h => h) (Or.inl ⟨by rfl, ?_⟩) (by assumption) ?_
          rotate_left
          · (intro w hSw; (try dsimp only at hSw); (go_simp <;> with_reducible rfl))
          try simp only [Act.put, List.setIfInBounds_toArray, List.set_cons_zero, List.set_cons_succ]
          refine wpAnyH_take (i := 3) (oi := { dst := some 22, op := Op.load 43 (Operand.tmp 3), type := 43, pos := "l3_choices.go:165", after := #[{ on := 2, ground := Ground.guard }], guard := some (2, false) }) (v := ?_) rfl (by kernel_rfl) (by kernel_rfl) (by kernel_rfl) (fun _ _ _ h => h) (Or.inl ⟨by rfl, ?_⟩) (by assumption) ?_
          rotate_left
          · (intro w hSw; (try dsimp only at hSw); (go_simp <;> with_reducible rfl))
          try simp only [Act.put, List.setIfInBounds_toArray, List.set_cons_zero, List.set_cons_succ]
          refine wpAnyH_take (i := 4) (oi := { dst := some 23, op := Op.move (Operand.tmp 9), type := 33, pos := "l3_choices.go:165", after := #[{ on := 2, ground := Ground.guard }], guard := some (2, false) }) (v := ?_) rfl (by kernel_rfl) (by kernel_rfl) (by kernel_rfl) (fun _ _ _ h => h) (Or.inl ⟨by rfl, ?_⟩) (by assumption) ?_
          rotate_left
          · (intro w hSw; (try dsimp only at hSw); (go_simp <;> with_reducible rfl))
          try simp only [Act.put, List.setIfInBounds_toArray, List.set_cons_zero, List.set_cons_succ]
          refine wpAnyH_take (i := 6) (oi := { dst := some 25, op := Op.load 43 (Operand.tmp 3), type := 43, pos := "l3_choices.go:165", after := #[{ on := 2, ground := Ground.guard }], guard := some (2, false) }) (v := ?_) rfl (by kernel_rfl) (by kernel_rfl) (by kernel_rfl) (fun _ _ _ h => h) (Or.inl ⟨by rfl, ?_⟩) (by assumption) ?_
          rotate_left
          · (intro w hSw; (try dsimp only at hSw); (go_simp <;> with_reducible rfl))
          try simp only [Act.put, List.setIfInBounds_toArray, List.set_cons_zero, List.set_cons_succ]
          refine wpAnyH_take (i := 7) (oi := { dst := some 26, op := Op.load 33 (Operand.tmp 8), type := 33, pos := "l3_choices.go:165", after := #[{ on := 2, ground := Ground.guard }], guard := some (2, false) }) (v := ?_) rfl (by kernel_rfl) (by kernel_rfl) (by kernel_rfl) (fun _ _ _ h => h) (Or.inl ⟨by rfl, ?_⟩) (by assumption) ?_
          rotate_left
          · (intro w hSw; (try dsimp only at hSw); (go_simp <;> with_reducible rfl))
          try simp only [Act.put, List.setIfInBounds_toArray, List.set_cons_zero, List.set_cons_succ]
          refine wpAnyH_ready (rs := [5]) (by kernel_rfl) (by simp) ?_
          refine AllReadyH.cons (o := { dst := some 24, op := Op.call { callee := Callee.value (Operand.tmp 22), args := #[Operand.tmp 23], argTypes := #[33] }, type := 3, pos := "l3_choices.go:165", after := #[{ on := 3, ground := Ground.data }, { on := 4, ground := Ground.data }, { on := 2, ground := Ground.chain }, { on := 2, ground := Ground.guard }], guard := some (2, false) }) rfl (fun K hK => ?_) AllReadyH.nil
          go_simp
          go_at_call 33
          refine (HQ1.out _ hHeld.2.1.1).mono ?_
          rintro e3 w3 ⟨rfl, hb3⟩
          have K3 := Lib.hid (keepN hHeld hb3)
          clear hb3
          try go_wp2_with fail
          refine hK.out _ _ ?_ (fun hHeld5 => ?_)
          · exact K3.out
          clear hK K hHeld
          try simp only [Act.put, List.setIfInBounds_toArray, List.set_cons_zero, List.set_cons_succ]
          refine wpAnyH_ready (rs := [8]) (by kernel_rfl) (by simp) ?_
          refine AllReadyH.cons (o := { dst := some 27, op := Op.call { callee := Callee.value (Operand.tmp 25), args := #[Operand.tmp 26], argTypes := #[33] }, type := 3, pos := "l3_choices.go:165", after := #[{ on := 6, ground := Ground.data }, { on := 7, ground := Ground.data }, { on := 5, ground := Ground.chain }, { on := 2, ground := Ground.guard }], guard := some (2, false) }) rfl (fun K hK => ?_) AllReadyH.nil
          go_simp
          go_at_call 33
          refine (HQ2.out _ hHeld5.2.1.2).mono ?_
          rintro e4 w4 ⟨rfl, hb4⟩
          have K4 := Lib.hid (keepN hHeld5 hb4)
          clear hb4
          try go_wp2_with fail
          refine hK.out _ _ ?_ (fun hHeld8 => ?_)
          · exact K4.out
          clear hK K hHeld5
          try simp only [Act.put, List.setIfInBounds_toArray, List.set_cons_zero, List.set_cons_succ]
          refine wpAnyH_take (i := 9) (oi := { dst := some 28, op := Op.binOp BinOp.lss 3 (Operand.tmp 24) (Operand.tmp 27) 3, type := 4, pos := "l3_choices.go:165", after := #[{ on := 5, ground := Ground.data }, { on := 8, ground := Ground.data }, { on := 2, ground := Ground.guard }], guard := some (2, false) }) (v := ?_) rfl (by kernel_rfl) (by kernel_rfl) (by kernel_rfl) (fun _ _ _ h => h) (Or.inl ⟨by rfl, ?_⟩) (by assumption) ?_
          rotate_left
          · (intro w hSw; (try dsimp only at hSw); (go_simp <;> with_reducible rfl))
          try simp only [Act.put, List.setIfInBounds_toArray, List.set_cons_zero, List.set_cons_succ]
          refine wpAnyH_take (i := 10) (oi := { dst := some 29, op := Op.pick (Operand.tmp 21) (Operand.const (Value.bool true)) (Operand.tmp 28), type := 4, pos := "l3_choices.go:165", after := #[{ on := 2, ground := Ground.data }, { on := 9, ground := Ground.data }], guard := none }) (v := ?_) rfl (by kernel_rfl) (by kernel_rfl) (by kernel_rfl) (fun _ _ _ h => h) (Or.inl ⟨by rfl, ?_⟩) (by assumption) ?_
          rotate_left
          · (intro w hSw; (try dsimp only at hSw); (go_simp <;> with_reducible rfl))
          try simp only [Act.put, List.setIfInBounds_toArray, List.set_cons_zero, List.set_cons_succ]
          refine wpAnyH_done (by kernel_rfl) ?_ _
          have hE3 : Ext W w4 := K4.out.2.2
          have hB3 : Boxed w4 w1.heap.size 33 (.slice (some ad) (least sz (upto L j)).length cv) := (hE3.block _ hB.lt).trans hB
          have hfz := hB3.frozen
          have hcc := hB3.cell
          gi_wp2_with fail
          have hst := store_box (u := .slice ax (L j).length cx) hB3 K4.out.2.1.1 (fun q hq => by have := (hfx'.2 q hq).1; omega)
          exact ⟨(keeps_of_ext hE3).trans hst.2.2.1, (Keep.of_ext hE3).trans (Keep.of_below hst.2.2.2 (fun c hc => by omega)), ⟨ax, cx, fx, by rw [HR.out]; exact hst.1, by rw [HR.out]; exact hcx, by rw [HR.out]; exact hst.2.1, ((hfx'.mono (by omega)).below (fun q hq => hsx'.lt q hq) hE3).alike (by simp) (fun c _ o => World.frozen?_setCell _ _ _ _), fun h => absurd h (by omega)⟩, (hbW.trans (hE3.mono hbW.size)).trans hst.2.2.2⟩
        · have hd : decide (vj < vc) = false := decide_eq_false hlt
          have HR := Lib.hid (HLU.out.trans (if_neg hlt))
          refine wpIn_block ?_
          refine wpIn_seq ?_
          refine region_in (S := (fun w' => ((w'.cell? ⟨w1.heap.size, 0, none⟩ = some (.slice (some ad) (least sz (upto L j)).length cv) ∧ w'.cell? ⟨w.heap.size + 1, 0, none⟩ = some (.func (.func 33) #[] #[])) ∧ w1.heap.size < w'.heap.size ∧ w.heap.size + 1 < w'.heap.size) ∧ (LaySub w' ax (L j) fx ∧ LaySub w' (some ad) (least sz (upto L j)) fv) ∧ Ext W w')) (by kernel_rfl) (by simp) (fun h => by obtain ⟨_, _, h⟩ := h; exact h) ?_ (fun hHeld => ?_)
          · exact keepN HS0.out (Ext.drew (Ext.refl _))
          refine wpAnyH_take (i := 0) (oi := { dst := some 19, op := Op.load 33 (Operand.tmp 8), type := 33, pos := "l3_choices.go:165", after := #[], guard := none }) (v := ?_) rfl (by kernel_rfl) (by kernel_rfl) (by kernel_rfl) (fun _ _ _ h => h) (Or.inl ⟨by rfl, ?_⟩) (by assumption) ?_
          rotate_left
          · (intro w hSw; (try dsimp only at hSw); (go_simp <;> with_reducible rfl))
          try simp only [Act.put, List.setIfInBounds_toArray, List.set_cons_zero, List.set_cons_succ]
          refine wpAnyH_take (i := 1) (oi := { dst := some 20, op := Op.binOp BinOp.eql 33 (Operand.tmp 19) (Operand.const (Value.slice none 0 0)) 33, type := 4, pos := "l3_choices.go:165", after := #[{ on := 0, ground := Ground.data }], guard := none }) (v := ?_) rfl (by kernel_rfl) (by kernel_rfl) (by kernel_rfl) (fun _ _ _ h => h) (Or.inl ⟨by rfl, ?_⟩) (by assumption) ?_
          rotate_left
          · (intro w hSw; (try dsimp only at hSw); (go_simp <;> with_reducible rfl))
          try simp only [Act.put, List.setIfInBounds_toArray, List.set_cons_zero, List.set_cons_succ]
          refine wpAnyH_take (i := 2) (oi := { dst := some 21, op := Op.move (Operand.tmp 20), type := 4, pos := "l3_choices.go:165", after := #[{ on := 1, ground := Ground.data }], guard := none }) (v := ?_) rfl (by kernel_rfl) (by kernel_rfl) (by kernel_rfl) (fun _ _ _ h => h) (Or.inl ⟨by rfl, ?_⟩) (by assumption) ?_
          rotate_left
          · (intro w hSw; (try dsimp only at hSw); (go_simp <;> with_reducible rfl))
          try simp only [Act.put, List.setIfInBounds_toArray, List.set_cons_zero, List.set_cons_succ]
          refine wpAnyH_take (i := 3) (oi := { dst := some 22, op := Op.load 43 (Operand.tmp 3), type := 43, pos := "l3_choices.go:165", after := #[{ on := 2, ground := Ground.guard }], guard := some (2, false) }) (v := ?_) rfl (by kernel_rfl) (by kernel_rfl) (by kernel_rfl) (fun _ _ _ h => h) (Or.inl ⟨by rfl, ?_⟩) (by assumption) ?_
          rotate_left
          · (intro w hSw; (try dsimp only at hSw); (go_simp <;> with_reducible rfl))
          try simp only [Act.put, List.setIfInBounds_toArray, List.set_cons_zero, List.set_cons_succ]
          refine wpAnyH_take (i := 4) (oi := { dst := some 23, op := Op.move (Operand.tmp 9), type := 33, pos := "l3_choices.go:165", after := #[{ on := 2, ground := Ground.guard }], guard := some (2, false) }) (v := ?_) rfl (by kernel_rfl) (by kernel_rfl) (by kernel_rfl) (fun _ _ _ h => h) (Or.inl ⟨by rfl, ?_⟩) (by assumption) ?_
          rotate_left
          · (intro w hSw; (try dsimp only at hSw); (go_simp <;> with_reducible rfl))
          try simp only [Act.put, List.setIfInBounds_toArray, List.set_cons_zero, List.set_cons_succ]
          refine wpAnyH_take (i := 6) (oi := { dst := some 25, op := Op.load 43 (Operand.tmp 3), type := 43, pos := "l3_choices.go:165", after := #[{ on := 2, ground := Ground.guard }], guard := some (2, false) }) (v := ?_) rfl (by kernel_rfl) (by kernel_rfl) (by kernel_rfl) (fun _ _ _ h => h) (Or.inl ⟨by rfl, ?_⟩) (by assumption) ?_
          rotate_left
          · (intro w hSw; (try dsimp only at hSw); (go_simp <;> with_reducible rfl))
          try simp only [Act.put, List.setIfInBounds_toArray, List.set_cons_zero, List.set_cons_succ]
          refine wpAnyH_take (i := 7) (oi := { dst := some 26, op := Op.load 33 (Operand.tmp 8), type := 33, pos := "l3_choices.go:165", after := #[{ on := 2, ground := Ground.guard }], guard := some (2, false) }) (v := ?_) rfl (by kernel_rfl) (by kernel_rfl) (by kernel_rfl) (fun _ _ _ h => h) (Or.inl ⟨by rfl, ?_⟩) (by assumption) ?_
          rotate_left
          · (intro w hSw; (try dsimp only at hSw); (go_simp <;> with_reducible rfl))
          try simp only [Act.put, List.setIfInBounds_toArray, List.set_cons_zero, List.set_cons_succ]
          refine wpAnyH_ready (rs := [5]) (by kernel_rfl) (by simp) ?_
          refine AllReadyH.cons (o := { dst := some 24, op := Op.call { callee := Callee.value (Operand.tmp 22), args := #[Operand.tmp 23], argTypes := #[33] }, type := 3, pos := "l3_choices.go:165", after := #[{ on := 3, ground := Ground.data }, { on := 4, ground := Ground.data }, { on := 2, ground := Ground.chain }, { on := 2, ground := Ground.guard }], guard := some (2, false) }) rfl (fun K hK => ?_) AllReadyH.nil
          go_simp
          go_at_call 33
          refine (HQ1.out _ hHeld.2.1.1).mono ?_
          rintro e3 w3 ⟨rfl, hb3⟩
          have K3 := Lib.hid (keepN hHeld hb3)
          clear hb3
          try go_wp2_with fail
          refine hK.out _ _ ?_ (fun hHeld5 => ?_)
          · exact K3.out
          clear hK K hHeld
          try simp only [Act.put, List.setIfInBounds_toArray, List.set_cons_zero, List.set_cons_succ]
          refine wpAnyH_ready (rs := [8]) (by kernel_rfl) (by simp) ?_
          refine AllReadyH.cons (o := { dst := some 27, op := Op.call { callee := Callee.value (Operand.tmp 25), args := #[Operand.tmp 26], argTypes := #[33] }, type := 3, pos := "l3_choices.go:165", after := #[{ on := 6, ground := Ground.data }, { on := 7, ground := Ground.data }, { on := 5, ground := Ground.chain }, { on := 2, ground := Ground.guard }], guard := some (2, false) }) rfl (fun K hK => ?_) AllReadyH.nil
          go_simp
          go_at_call 33
          refine (HQ2.out _ hHeld5.2.1.2).mono ?_
          rintro e4 w4 ⟨rfl, hb4⟩
          have K4 := Lib.hid (keepN hHeld5 hb4)
          clear hb4
          try go_wp2_with fail
          refine hK.out _ _ ?_ (fun hHeld8 => ?_)
          · exact K4.out
          clear hK K hHeld5
          try simp only [Act.put, List.setIfInBounds_toArray, List.set_cons_zero, List.set_cons_succ]
          refine wpAnyH_take (i := 9) (oi := { dst := some 28, op := Op.binOp BinOp.lss 3 (Operand.tmp 24) (Operand.tmp 27) 3, type := 4, pos := "l3_choices.go:165", after := #[{ on := 5, ground := Ground.data }, { on := 8, ground := Ground.data }, { on := 2, ground := Ground.guard }], guard := some (2, false) }) (v := ?_) rfl (by kernel_rfl) (by kernel_rfl) (by kernel_rfl) (fun _ _ _ h => h) (Or.inl ⟨by rfl, ?_⟩) (by assumption) ?_
          rotate_left
          · (intro w hSw; (try dsimp only at hSw); (go_simp <;> with_reducible rfl))
          try simp only [Act.put, List.setIfInBounds_toArray, List.set_cons_zero, List.set_cons_succ]
          refine wpAnyH_take (i := 10) (oi := { dst := some 29, op := Op.pick (Operand.tmp 21) (Operand.const (Value.bool true)) (Operand.tmp 28), type := 4, pos := "l3_choices.go:165", after := #[{ on := 2, ground := Ground.data }, { on := 9, ground := Ground.data }], guard := none }) (v := ?_) rfl (by kernel_rfl) (by kernel_rfl) (by kernel_rfl) (fun _ _ _ h => h) (Or.inl ⟨by rfl, ?_⟩) (by assumption) ?_
          rotate_left
          · (intro w hSw; (try dsimp only at hSw); (go_simp <;> with_reducible rfl))
          try simp only [Act.put, List.setIfInBounds_toArray, List.set_cons_zero, List.set_cons_succ]
          refine wpAnyH_done (by kernel_rfl) ?_ _
          gi_wp2_with fail
          have hE3 : Ext W w4 := K4.out.2.2
          exact ⟨keeps_of_ext hE3, Keep.of_ext hE3, ⟨some ad, cv, fv, by rw [HR.out]; exact (hE3.block _ hB.lt).trans hB, by rw [HR.out]; exact h2, by rw [HR.out]; exact K4.out.2.1.2, hfv.below (fun q hq => hsv.lt q hq) hE3, fun h => absurd h (by omega)⟩, hbW.trans (hE3.mono hbW.size)⟩
    case done =>
      rintro D A W hD ⟨⟨av, cv, fv, h1, h2, h3, h4, h5⟩, h6⟩ ⟨B, hE, hT⟩ hK
      have hB : Boxed W w1.heap.size 33 (.slice av (least sz (upto L N)).length cv) := hT.boxed ((hE.block _ h1.lt).trans h1)
      have hsv := hT.lay (h3.below h3.lt hE)
      have hfv := hT.layFresh (h3.below h3.lt hE) (h4.below h4.lt hE)
      have hbW : Below w1.heap.size w1 W := (h6.trans (hE.mono h6.size)).trans (hT.below (by omega))
      have hc1 := hB.cell
      go_wp2_with fail
      have hT2 : Turn w1.heap.size W (W.putObj D (.deferred none)) := turn_put _ hK rfl (by omega)
      have hs1 := H1.out.2.size
      exact leave_mark hK (results_tmp2 rfl _ _ _) (by rw [HLS.out, H1.out.1]; exact ⟨av, cv, fv, rfl, h2, hT2.lay hsv, (hT2.layFresh hsv hfv).mono (by omega), H1.out.2.trans (hbW.trans (hT2.below (Nat.le_refl _)))⟩)
    case stop =>
      rintro D c A W _ h _ _
      exact h.elim

set_option maxRecDepth 100000 in
theorem implNarrowest (hs : SubAt w a k fs) (hfs : ∀ c ∈ fs, c < w.heap.size ∧ ∀ o, w.frozen? ⟨c, o, none⟩ = false) (hc : k.len ≤ cap) (hsz : t.size + k.size ≤ 2000000) (hft : k.Fits) (ht : t.size ≤ maxLen) :
    Calls Try.prog 29 #[.agg #[.int .i64 o, .int .i64 n, .string t, .slice a k.len cap]] w (LayRes w (bestR false o n t k)) := by
  have B1 := Lib.hid (show ∀ ob, Ext w (w.alloc ob) from fun ob => (Ext.refl w).alloc _)
  have HS := Lib.hid (fun (w1 : World) (hw1 : Ext w w1) => firstLeastNarrowest w1 o n t k a cap fs (hs.below (fun c hc => (hfs c hc).1) hw1) (fun c hc => ⟨Nat.lt_of_lt_of_le (hfs c hc).1 hw1.size, fun x => (hw1.frozen (hfs c hc).1).trans ((hfs c hc).2 x)⟩) hc hsz hft ht)
  obtain ⟨R, hR⟩ : ∃ R, bestR false o n t k = R := ⟨_, rfl⟩
  rw [hR] at HS ⊢
  clear hs hfs hR
  go_enter Try.func29, Try.ntmps29
  go_wp2_with fail
  refine (HS.out _ (B1.out _)).mono ?_
  rintro e2 w2 ⟨a2, c2, f2, rfl, hc2, hs2, hf2, hb2⟩
  have H2 := Lib.hid (show LayRes w R (.returned (.tuple #[.slice a2 R.1.length c2, .bool R.2])) w2 from ⟨a2, c2, f2, rfl, hc2, hs2, hf2.mono (by simp), (B1.out _).trans hb2⟩)
  clear hc2 hs2 hf2 hb2
  go_wp2_with fail
  go_ret2
  exact H2.out

set_option maxRecDepth 100000 in
set_option maxHeartbeats 12800000 in
theorem firstLeastShortest (hs : SubAt w a k fs) (hfs : ∀ c ∈ fs, c < w.heap.size ∧ ∀ o, w.frozen? ⟨c, o, none⟩ = false) (hc : k.len ≤ cap) (hsz : t.size + k.size ≤ 2000000) (hft : k.Fits) (ht : t.size ≤ maxLen) :
    Calls Try.prog 62 #[.agg #[.int .i64 o, .int .i64 n, .string t, .slice a k.len cap], .func (.func 64) #[] #[]] w (LayRes w (bestR true o n t k)) := by
  have B2 := Lib.hid (show ∀ ob ob', Ext w ((w.alloc ob).alloc ob') from fun ob ob' => ((Ext.refl w).alloc _).alloc _)
  have HS := Lib.hid (fun (w1 : World) (hw1 : Ext w w1) => layoutsInOrder w1 o n t k a cap fs (hs.below (fun c hc => (hfs c hc).1) hw1) (fun c hc => ⟨Nat.lt_of_lt_of_le (hfs c hc).1 hw1.size, fun x => (hw1.frozen (hfs c hc).1).trans ((hfs c hc).2 x)⟩) hc hsz hft ht)
  have HQ := Lib.hid (fun (l : Lay) (hv : lv l = true) (W : World) (a : Option Addr) (cap : Nat) (fs : List Nat) (hs : LaySub W a l fs) (hc : l.length ≤ cap) => lenOf l (by have := (lv_len hv).2; unfold maxLen; omega) W a cap)
  clear hs hfs
  obtain ⟨sz, hszz⟩ : ∃ sz, szL true = sz := ⟨_, rfl⟩
  unfold bestR
  rw [hszz] at HQ ⊢
  clear hszz
  refine calls_marks Try.func62 rfl ?_
  simp only [Try.ntmps62, List.size_toArray, List.length_cons, List.length_nil, Nat.reduceAdd, Nat.reduceSub, Array.replicate_succ, Array.replicate_zero, List.push_toArray, List.append_toArray, List.nil_append, List.cons_append]
  go_wp2_with fail
  refine (HS.out _ (B2.out _ _)).mono ?_
  rintro e1 w1 (⟨hto, rfl, hb⟩ | ⟨hto, b, rfl, hat, hb⟩)
  · have H1 := Lib.hid (And.intro hto ((B2.out _ _).trans hb))
    clear hto hb
    go_wp2_with fail
    exact leave_none (results_tmp2 rfl _ _ _) (by rw [H1.out.1, lays_no H1.out.1]; exact LayRes.none' H1.out.2)
  · obtain ⟨p1, p2, p3, p4⟩ := told_parts hto
    have hG := fun (W : World) (hW : Ext w1 W) => gives p1 p2 hsz (by omega) (hat.keep (Keep.of_ext hW))
    have HLS := Lib.hid (lays_yes hto)
    have HGD := Lib.hid (fun (i : Nat) => pick_lv (DocC.many_yes p4).1 i)
    have HPOS := Lib.hid (ctD_pos o k)
    obtain ⟨L, hL⟩ : ∃ L : Nat → Lay, (fun i => pkD o n t k i) = L := ⟨_, rfl⟩
    have hgd2 : ∀ i, lv (L i) = true := by rw [← hL]; exact HGD.out
    rw [hL] at hG HLS
    obtain ⟨N, hN⟩ : ∃ N, ctD o k = N := ⟨_, rfl⟩
    rw [hN] at hG HLS p3 HPOS
    have HG2 := Lib.hid hgd2
    have H1 := Lib.hid (And.intro hto ((B2.out _ _).trans hb))
    have hx1 : w1.cell? ⟨w.heap.size + 1, 0, none⟩ = some (.func (.func 64) #[] #[]) := by
      refine (Below.cell (p := ⟨w.heap.size + 1, 0, none⟩) hb (by simp)).trans ?_
      rw [show w.heap.size + 1 = (w.alloc (.cells #[.int .i64 o, .int .i64 n, .string t, .slice a k.len cap] 25)).heap.size by simp, World.cell?_alloc_new]; rfl
    have hx1l : w.heap.size + 1 < w1.heap.size := World.block_lt_of_cell? w1 _ hx1
    clear hto hb hat p1 p2 p4 HGD hL hN hgd2 HS
    go_wp2_with fail
    obtain ⟨W0, hW0⟩ : ∃ W0, w1.alloc (.cells #[.slice none 0 0] 33) = W0 := ⟨_, rfl⟩
    have hz : W0.heap.size = w1.heap.size + 1 := by rw [← hW0]; simp
    have hE0 : Ext w1 W0 := by rw [← hW0]; exact (Ext.refl w1).alloc _
    have hX0 : Boxed W0 w1.heap.size 33 (.slice none 0 0) := by rw [← hW0]; exact Boxed.new _ _ _
    try rw [hW0]
    clear hW0
    refine wpIn_wide.1 (rangeFunc_gives (n := 7) (gf := 80) (lb := #[.pointer (some ⟨b, 0, none⟩)]) rfl (enters_of Try.func80 (by kernel_rfl) rfl) (by omega) (hG W0 hE0) (fun c hc => by omega) (fun k args A W hX => by obtain ⟨a, cap, f, rfl, _⟩ := hX; rfl)
      (fun j A => (∃ a c f, Boxed A w1.heap.size 33 (.slice a (least sz (upto L j)).length c) ∧ (least sz (upto L j)).length ≤ c ∧ LaySub A a (least sz (upto L j)) f ∧ Fresh (w1.heap.size + 1) A f ∧ (j = 0 → a = none ∧ c = 0)) ∧ Below w1.heap.size w1 A)
      (fun _ _ => False)
      (fun j A B ⟨⟨a, c, f, h1, h2, h3, h4, h5⟩, h6⟩ hA hT => ⟨⟨a, c, f, hT.boxed h1, h2, hT.lay h3, hT.layFresh h3 h4, h5⟩, h6.trans (hT.below (by omega))⟩)
      (fun A B ⟨⟨a, c, f, h1, h2, h3, h4, h5⟩, h6⟩ hE => ⟨⟨a, c, f, (hE.block _ h1.lt).trans h1, h2, h3.below h3.lt hE, h4.below h4.lt hE, h5⟩, h6.trans (hE.mono h6.size)⟩)
      (fun _ _ _ h => h.elim)
      ⟨⟨none, 0, [], hX0, by simp [least_zero], .inl ⟨rfl, rfl⟩, Fresh.nil _ _, fun _ => ⟨rfl, rfl⟩⟩, hE0⟩
      (fun args => { tmps := #[.agg #[.int .i64 o, .int .i64 n, .string t, .slice a k.len cap], .func (.func 64) #[] #[], .pointer (some ⟨w.heap.size, 0, none⟩), .pointer (some ⟨w.heap.size + 1, 0, none⟩), .slice none 0 0, .bool false, .func (.func 80) #[] #[.pointer (some ⟨b, 0, none⟩)], .bool true, .pointer (some ⟨w1.heap.size, 0, none⟩), args.getD 0 undef, .tuple #[.func (.func 80) #[] #[.pointer (some ⟨b, 0, none⟩)], .bool true], .agg #[.int .i64 o, .int .i64 n, .string t, .slice a k.len cap], .tuple #[.func (.func 80) #[] #[.pointer (some ⟨b, 0, none⟩)], .bool true], .func (.func 80) #[] #[.pointer (some ⟨b, 0, none⟩)], .bool true, .bool true, .bool false, .func (.func 80) #[] #[.pointer (some ⟨b, 0, none⟩)], args.getD 0 undef, undef, undef, undef, undef, undef, undef, undef, undef, undef, undef, undef, undef, undef], defers := [] }) ?assign ?body ?done ?stop)
    case assign =>
      rintro l j args A W K ⟨a, cap, f, rfl, _⟩ hK
      gi_wp2_with fail
      exact hK
    case body =>
      rintro l j args A Wp W hj hz1 ⟨⟨av, cv, fv, h1, h2, h3, h4, h5⟩, h6⟩ hE ⟨ax, cx, fx, rfl, hcx, hsx, hfx⟩ hT
      have hB : Boxed W w1.heap.size 33 (.slice av (least sz (upto L j)).length cv) := hT.boxed ((hE.block _ h1.lt).trans h1)
      have hsv := hT.lay (h3.below h3.lt hE)
      have hfv := hT.layFresh (h3.below h3.lt hE) (h4.below h4.lt hE)
      have hsx' := hT.lay hsx
      have hfx' := hT.layFresh hsx hfx
      have hbW : Below w1.heap.size w1 W := (h6.trans (hE.mono h6.size)).trans (hT.below (by omega))
      have hx2 : W.cell? ⟨w.heap.size + 1, 0, none⟩ = some (.func (.func 64) #[] #[]) := (hbW.cell (p := ⟨w.heap.size + 1, 0, none⟩) hx1l).trans hx1
      have hAz := h1.lt
      have hlu := least_upto sz L j
      have hc1 := hB.cell
      have hcz := hB.lt
      by_cases hj0 : j = 0
      · subst hj0
        rw [if_pos rfl] at hlu
        obtain ⟨rfl, rfl⟩ := h5 rfl
        have hlz : (least sz (upto L 0)).length = 0 := by rw [least_zero]; rfl
        rw [hlz] at hB hc1
        have HLU := Lib.hid hlu
        have hnil := nil_eq
        clear hlu hsv hfv h1 h2 h3 h4 h5 hsx hfx
        have hfz := hB.frozen
        refine wpIn_block ?_
        refine wpIn_seq ?_
        refine region_in (S := (fun w' => w'.cell? ⟨w1.heap.size, 0, none⟩ = some (.slice none 0 0))) (by kernel_rfl) (by simp) (fun h => by obtain ⟨_, _, h⟩ := h; exact h) ?_ (fun hHeld => ?_)
        · exact hc1
        refine wpAnyH_take (i := 0) (oi := { dst := some 19, op := Op.load 33 (Operand.tmp 8), type := 33, pos := "l3_choices.go:165", after := #[], guard := none }) (v := ?_) rfl (by kernel_rfl) (by kernel_rfl) (by kernel_rfl) (fun _ _ _ h => h) (Or.inl ⟨by rfl, ?_⟩) (by assumption) ?_
        rotate_left
        · (intro w hSw; (try dsimp only at hSw); (go_simp <;> with_reducible rfl))
        try simp only [Act.put, List.setIfInBounds_toArray, List.set_cons_zero, List.set_cons_succ]
        refine wpAnyH_take (i := 1) (oi := { dst := some 20, op := Op.binOp BinOp.eql 33 (Operand.tmp 19) (Operand.const (Value.slice none 0 0)) 33, type := 4, pos := "l3_choices.go:165", after := #[{ on := 0, ground := Ground.data }], guard := none }) (v := ?_) rfl (by kernel_rfl) (by kernel_rfl) (by kernel_rfl) (fun _ _ _ h => h) (Or.inl ⟨by rfl, ?_⟩) (by assumption) ?_
        rotate_left
        · (intro w hSw; (try dsimp only at hSw); (go_simp <;> with_reducible rfl))
        try simp only [Act.put, List.setIfInBounds_toArray, List.set_cons_zero, List.set_cons_succ]
        refine wpAnyH_take (i := 2) (oi := { dst := some 21, op := Op.move (Operand.tmp 20), type := 4, pos := "l3_choices.go:165", after := #[{ on := 1, ground := Ground.data }], guard := none }) (v := ?_) rfl (by kernel_rfl) (by kernel_rfl) (by kernel_rfl) (fun _ _ _ h => h) (Or.inl ⟨by rfl, ?_⟩) (by assumption) ?_
        rotate_left
        · (intro w hSw; (try dsimp only at hSw); (go_simp <;> with_reducible rfl))
        try simp only [Act.put, List.setIfInBounds_toArray, List.set_cons_zero, List.set_cons_succ]
        refine wpAnyH_take (i := 3) (oi := { dst := some 22, op := Op.load 43 (Operand.tmp 3), type := 43, pos := "l3_choices.go:165", after := #[{ on := 2, ground := Ground.guard }], guard := some (2, false) }) (v := undef) rfl (by kernel_rfl) (by kernel_rfl) (by kernel_rfl) (fun _ _ _ h => h) (Or.inr ⟨by rfl, rfl⟩) (by assumption) ?_
        try simp only [Act.put, List.setIfInBounds_toArray, List.set_cons_zero, List.set_cons_succ]
        refine wpAnyH_take (i := 4) (oi := { dst := some 23, op := Op.move (Operand.tmp 9), type := 33, pos := "l3_choices.go:165", after := #[{ on := 2, ground := Ground.guard }], guard := some (2, false) }) (v := undef) rfl (by kernel_rfl) (by kernel_rfl) (by kernel_rfl) (fun _ _ _ h => h) (Or.inr ⟨by rfl, rfl⟩) (by assumption) ?_
        try simp only [Act.put, List.setIfInBounds_toArray, List.set_cons_zero, List.set_cons_succ]
        refine wpAnyH_take (i := 5) (oi := { dst := some 24, op := Op.call { callee := Callee.value (Operand.tmp 22), args := #[Operand.tmp 23], argTypes := #[33] }, type := 3, pos := "l3_choices.go:165", after := #[{ on := 3, ground := Ground.data }, { on := 4, ground := Ground.data }, { on := 2, ground := Ground.chain }, { on := 2, ground := Ground.guard }], guard := some (2, false) }) (v := undef) rfl (by kernel_rfl) (by kernel_rfl) (by kernel_rfl) (fun _ _ _ h => h) (Or.inr ⟨by rfl, rfl⟩) (by assumption) ?_
        try simp only [Act.put, List.setIfInBounds_toArray, List.set_cons_zero, List.set_cons_succ]
        refine wpAnyH_take (i := 6) (oi := { dst := some 25, op := Op.load 43 (Operand.tmp 3), type := 43, pos := "l3_choices.go:165", after := #[{ on := 2, ground := Ground.guard }], guard := some (2, false) }) (v := undef) rfl (by kernel_rfl) (by kernel_rfl) (by kernel_rfl) (fun _ _ _ h => h) (Or.inr ⟨by rfl, rfl⟩) (by assumption) ?_
        try simp only [Act.put, List.setIfInBounds_toArray, List.set_cons_zero, List.set_cons_succ]
        refine wpAnyH_take (i := 7) (oi := { dst := some 26, op := Op.load 33 (Operand.tmp 8), type := 33, pos := "l3_choices.go:165", after := #[{ on := 2, ground := Ground.guard }], guard := some (2, false) }) (v := undef) rfl (by kernel_rfl) (by kernel_rfl) (by kernel_rfl) (fun _ _ _ h => h) (Or.inr ⟨by rfl, rfl⟩) (by assumption) ?_
        try simp only [Act.put, List.setIfInBounds_toArray, List.set_cons_zero, List.set_cons_succ]
        refine wpAnyH_take (i := 8) (oi := { dst := some 27, op := Op.call { callee := Callee.value (Operand.tmp 25), args := #[Operand.tmp 26], argTypes := #[33] }, type := 3, pos := "l3_choices.go:165", after := #[{ on := 6, ground := Ground.data }, { on := 7, ground := Ground.data }, { on := 5, ground := Ground.chain }, { on := 2, ground := Ground.guard }], guard := some (2, false) }) (v := undef) rfl (by kernel_rfl) (by kernel_rfl) (by kernel_rfl) (fun _ _ _ h => h) (Or.inr ⟨by rfl, rfl⟩) (by assumption) ?_
        try simp only [Act.put, List.setIfInBounds_toArray, List.set_cons_zero, List.set_cons_succ]
        refine wpAnyH_take (i := 9) (oi := { dst := some 28, op := Op.binOp BinOp.lss 3 (Operand.tmp 24) (Operand.tmp 27) 3, type := 4, pos := "l3_choices.go:165", after := #[{ on := 5, ground := Ground.data }, { on := 8, ground := Ground.data }, { on := 2, ground := Ground.guard }], guard := some (2, false) }) (v := undef) rfl (by kernel_rfl) (by kernel_rfl) (by kernel_rfl) (fun _ _ _ h => h) (Or.inr ⟨by rfl, rfl⟩) (by assumption) ?_
        try simp only [Act.put, List.setIfInBounds_toArray, List.set_cons_zero, List.set_cons_succ]
        refine wpAnyH_take (i := 10) (oi := { dst := some 29, op := Op.pick (Operand.tmp 21) (Operand.const (Value.bool true)) (Operand.tmp 28), type := 4, pos := "l3_choices.go:165", after := #[{ on := 2, ground := Ground.data }, { on := 9, ground := Ground.data }], guard := none }) (v := ?_) rfl (by kernel_rfl) (by kernel_rfl) (by kernel_rfl) (fun _ _ _ h => h) (Or.inl ⟨by rfl, ?_⟩) (by assumption) ?_
        rotate_left
        · (intro w hSw; (try dsimp only at hSw); (go_simp <;> with_reducible rfl))
        try simp only [Act.put, List.setIfInBounds_toArray, List.set_cons_zero, List.set_cons_succ]
        refine wpAnyH_done (by kernel_rfl) ?_ _
        gi_wp2_with fail
        have hE3 : Ext W W.drew := Ext.drew (Ext.refl _)
        have hB3 : Boxed W.drew w1.heap.size 33 (.slice none 0 0) := hB
        have hst := store_box (u := .slice ax (L 0).length cx) hB3 (hsx'.below hsx'.lt hE3) (fun q hq => by have := (hfx'.2 q hq).1; omega)
        exact ⟨(keeps_of_ext hE3).trans hst.2.2.1, (Keep.of_ext hE3).trans (Keep.of_below hst.2.2.2 (fun c hc => by omega)), ⟨ax, cx, fx, by rw [HLU.out]; exact hst.1, by rw [HLU.out]; exact hcx, by rw [HLU.out]; exact hst.2.1, ((hfx'.mono (by omega)).below (fun q hq => hsx'.lt q hq) hE3).alike (by simp) (fun c _ o => World.frozen?_setCell _ _ _ _), fun h => absurd h (by omega)⟩, (hbW.trans (hE3.mono hbW.size)).trans hst.2.2.2⟩
      · rw [if_neg hj0] at hlu
        have hlg := least_good (f := sz) HG2.out (j := j) (by omega)
        obtain ⟨ad, rfl⟩ := sub_addr hsv hlg
        have hll := (lv_len hlg).2
        have hq1 := fun (W' : World) (h : LaySub W' ax (L j) fx) => HQ.out (L j) (HG2.out j) W' ax cx fx h hcx
        have hq2 := fun (W' : World) (h : LaySub W' (some ad) (least sz (upto L j)) fv) => HQ.out (least sz (upto L j)) hlg W' (some ad) cv fv h h2
        have HQ1 := Lib.hid hq1
        have HQ2 := Lib.hid hq2
        have HLU := Lib.hid hlu
        have HS0 := Lib.hid (show ((W.cell? ⟨w1.heap.size, 0, none⟩ = some (.slice (some ad) (least sz (upto L j)).length cv) ∧ W.cell? ⟨w.heap.size + 1, 0, none⟩ = some (.func (.func 64) #[] #[])) ∧ w1.heap.size < W.heap.size ∧ w.heap.size + 1 < W.heap.size) ∧ (LaySub W ax (L j) fx ∧ LaySub W (some ad) (least sz (upto L j)) fv) ∧ Ext W W from ⟨⟨⟨hc1, hx2⟩, hcz, by have := hbW.size; omega⟩, ⟨hsx', hsv⟩, Ext.refl _⟩)
        have hnil := nil_ne ad (least sz (upto L j)).length cv
        obtain ⟨vj, hvj⟩ : ∃ x, sz (L j) = x := ⟨_, rfl⟩
        obtain ⟨vc, hvc⟩ : ∃ x, sz (least sz (upto L j)) = x := ⟨_, rfl⟩
        rw [hvj] at HLU HQ1
        rw [hvc] at HLU HQ2
        clear hlu hq1 hq2 hvj hvc hc1 hx2 h1 h3 h4 h5 hsx hfx
        by_cases hlt : vj < vc
        · have hd : decide (vj < vc) = true := decide_eq_true hlt
          have HR := Lib.hid (HLU.out.trans (if_pos hlt))
          refine wpIn_block ?_
          refine wpIn_seq ?_
          refine region_in (S := (fun w' => ((w'.cell? ⟨w1.heap.size, 0, none⟩ = some (.slice (some ad) (least sz (upto L j)).length cv) ∧ w'.cell? ⟨w.heap.size + 1, 0, none⟩ = some (.func (.func 64) #[] #[])) ∧ w1.heap.size < w'.heap.size ∧ w.heap.size + 1 < w'.heap.size) ∧ (LaySub w' ax (L j) fx ∧ LaySub w' (some ad) (least sz (upto L j)) fv) ∧ Ext W w')) (by kernel_rfl) (by simp) (fun h => by obtain ⟨_, _, h⟩ := h; exact h) ?_ (fun hHeld => ?_)
          · exact keepN HS0.out (Ext.drew (Ext.refl _))
          refine wpAnyH_take (i := 0) (oi := { dst := some 19, op := Op.load 33 (Operand.tmp 8), type := 33, pos := "l3_choices.go:165", after := #[], guard := none }) (v := ?_) rfl (by kernel_rfl) (by kernel_rfl) (by kernel_rfl) (fun _ _ _ h => h) (Or.inl ⟨by rfl, ?_⟩) (by assumption) ?_
          rotate_left
          · (intro w hSw; (try dsimp only at hSw); (go_simp <;> with_reducible rfl))
          try simp only [Act.put, List.setIfInBounds_toArray, List.set_cons_zero, List.set_cons_succ]
          refine wpAnyH_take (i := 1) (oi := { dst := some 20, op := Op.binOp BinOp.eql 33 (Operand.tmp 19) (Operand.const (Value.slice none 0 0)) 33, type := 4, pos := "l3_choices.go:165", after := #[{ on := 0, ground := Ground.data }], guard := none }) (v := ?_) rfl (by kernel_rfl) (by kernel_rfl) (by kernel_rfl) (fun _ _ _ h => h) (Or.inl ⟨by rfl, ?_⟩) (by assumption) ?_
          rotate_left
          · (intro w hSw; (try dsimp only at hSw); (go_simp <;> with_reducible rfl))
          try simp only [Act.put, List.setIfInBounds_toArray, List.set_cons_zero, List.set_cons_succ]
          refine wpAnyH_take (i := 2) (oi := { dst := some 21, op := Op.move (Operand.tmp 20), type := 4, pos := "l3_choices.go:165", after := #[{ on := 1, ground := Ground.data }], guard := none }) (v := ?_) rfl (by kernel_rfl) (by kernel_rfl) (by kernel_rfl) (fun _ _ _ h => h) (Or.inl ⟨by rfl, ?_⟩) (by assumption) ?_
          rotate_left
          · (intro w hSw; (try dsimp only at hSw); (go_simp <;> with_reducible rfl))
          try simp only [Act.put, List.setIfInBounds_toArray, List.set_cons_zero, List.set_cons_succ]
          refine wpAnyH_take (i := 3) (oi := { dst := some 22, op := Op.load 43 (Operand.tmp 3), type := 43, pos := "l3_choices.go:165", after := #[{ on := 2, ground := Ground.guard }], guard := some (2, false) }) (v := ?_) rfl (by kernel_rfl) (by kernel_rfl) (by kernel_rfl) (fun _ _ _ h => h) (Or.inl ⟨by rfl, ?_⟩) (by assumption) ?_
          rotate_left
          · (intro w hSw; (try dsimp only at hSw); (go_simp <;> with_reducible rfl))
          try simp only [Act.put, List.setIfInBounds_toArray, List.set_cons_zero, List.set_cons_succ]
          refine wpAnyH_take (i := 4) (oi := { dst := some 23, op := Op.move (Operand.tmp 9), type := 33, pos := "l3_choices.go:165", after := #[{ on := 2, ground := Ground.guard }], guard := some (2, false) }) (v := ?_) rfl (by kernel_rfl) (by kernel_rfl) (by kernel_rfl) (fun _ _ _ h => h) (Or.inl ⟨by rfl, ?_⟩) (by assumption) ?_
          rotate_left
          · (intro w hSw; (try dsimp only at hSw); (go_simp <;> with_reducible rfl))
          try simp only [Act.put, List.setIfInBounds_toArray, List.set_cons_zero, List.set_cons_succ]
          refine wpAnyH_take (i := 6) (oi := { dst := some 25, op := Op.load 43 (Operand.tmp 3), type := 43, pos := "l3_choices.go:165", after := #[{ on := 2, ground := Ground.guard }], guard := some (2, false) }) (v := ?_) rfl (by kernel_rfl) (by kernel_rfl) (by kernel_rfl) (fun _ _ _ h => h) (Or.inl ⟨by rfl, ?_⟩) (by assumption) ?_
          rotate_left
          · (intro w hSw; (try dsimp only at hSw); (go_simp <;> with_reducible rfl))
          try simp only [Act.put, List.setIfInBounds_toArray, List.set_cons_zero, List.set_cons_succ]
          refine wpAnyH_take (i := 7) (oi := { dst := some 26, op := Op.load 33 (Operand.tmp 8), type := 33, pos := "l3_choices.go:165", after := #[{ on := 2, ground := Ground.guard }], guard := some (2, false) }) (v := ?_) rfl (by kernel_rfl) (by kernel_rfl) (by kernel_rfl) (fun _ _ _ h => h) (Or.inl ⟨by rfl, ?_⟩) (by assumption) ?_
          rotate_left
          · (intro w hSw; (try dsimp only at hSw); (go_simp <;> with_reducible rfl))
          try simp only [Act.put, List.setIfInBounds_toArray, List.set_cons_zero, List.set_cons_succ]
          refine wpAnyH_ready (rs := [5]) (by kernel_rfl) (by simp) ?_
          refine AllReadyH.cons (o := { dst := some 24, op := Op.call { callee := Callee.value (Operand.tmp 22), args := #[Operand.tmp 23], argTypes := #[33] }, type := 3, pos := "l3_choices.go:165", after := #[{ on := 3, ground := Ground.data }, { on := 4, ground := Ground.data }, { on := 2, ground := Ground.chain }, { on := 2, ground := Ground.guard }], guard := some (2, false) }) rfl (fun K hK => ?_) AllReadyH.nil
          go_simp
          go_at_call 64
          refine (HQ1.out _ hHeld.2.1.1).mono ?_
          rintro e3 w3 ⟨rfl, hb3⟩
          have K3 := Lib.hid (keepN hHeld hb3)
          clear hb3
          try go_wp2_with fail
          refine hK.out _ _ ?_ (fun hHeld5 => ?_)
          · exact K3.out
          clear hK K hHeld
          try simp only [Act.put, List.setIfInBounds_toArray, List.set_cons_zero, List.set_cons_succ]
          refine wpAnyH_ready (rs := [8]) (by kernel_rfl) (by simp) ?_
          refine AllReadyH.cons (o := { dst := some 27, op := Op.call { callee := Callee.value (Operand.tmp 25), args := #[Operand.tmp 26], argTypes := #[33] }, type := 3, pos := "l3_choices.go:165", after := #[{ on := 6, ground := Ground.data }, { on := 7, ground := Ground.data }, { on := 5, ground := Ground.chain }, { on := 2, ground := Ground.guard }], guard := some (2, false) }) rfl (fun K hK => ?_) AllReadyH.nil
          go_simp
          go_at_call 64
          refine (HQ2.out _ hHeld5.2.1.2).mono ?_
          rintro e4 w4 ⟨rfl, hb4⟩
          have K4 := Lib.hid (keepN hHeld5 hb4)
          clear hb4
          try go_wp2_with fail
          refine hK.out _ _ ?_ (fun hHeld8 => ?_)
          · exact K4.out
          clear hK K hHeld5
          try simp only [Act.put, List.setIfInBounds_toArray, List.set_cons_zero, List.set_cons_succ]
          refine wpAnyH_take (i := 9) (oi := { dst := some 28, op := Op.binOp BinOp.lss 3 (Operand.tmp 24) (Operand.tmp 27) 3, type := 4, pos := "l3_choices.go:165", after := #[{ on := 5, ground := Ground.data }, { on := 8, ground := Ground.data }, { on := 2, ground := Ground.guard }], guard := some (2, false) }) (v := ?_) rfl (by kernel_rfl) (by kernel_rfl) (by kernel_rfl) (fun _ _ _ h => h) (Or.inl ⟨by rfl, ?_⟩) (by assumption) ?_
          rotate_left
          · (intro w hSw; (try dsimp only at hSw); (go_simp <;> with_reducible rfl))
          try simp only [Act.put, List.setIfInBounds_toArray, List.set_cons_zero, List.set_cons_succ]
          refine wpAnyH_take (i := 10) (oi := { dst := some 29, op := Op.pick (Operand.tmp 21) (Operand.const (Value.bool true)) (Operand.tmp 28), type := 4, pos := "l3_choices.go:165", after := #[{ on := 2, ground := Ground.data }, { on := 9, ground := Ground.data }], guard := none }) (v := ?_) rfl (by kernel_rfl) (by kernel_rfl) (by kernel_rfl) (fun _ _ _ h => h) (Or.inl ⟨by rfl, ?_⟩) (by assumption) ?_
          rotate_left
          · (intro w hSw; (try dsimp only at hSw); (go_simp <;> with_reducible rfl))
          try simp only [Act.put, List.setIfInBounds_toArray, List.set_cons_zero, List.set_cons_succ]
          refine wpAnyH_done (by kernel_rfl) ?_ _
          have hE3 : Ext W w4 := K4.out.2.2
          have hB3 : Boxed w4 w1.heap.size 33 (.slice (some ad) (least sz (upto L j)).length cv) := (hE3.block _ hB.lt).trans hB
          have hfz := hB3.frozen
          have hcc := hB3.cell
          gi_wp2_with fail
          have hst := store_box (u := .slice ax (L j).length cx) hB3 K4.out.2.1.1 (fun q hq => by have := (hfx'.2 q hq).1; omega)
          exact ⟨(keeps_of_ext hE3).trans hst.2.2.1, (Keep.of_ext hE3).trans (Keep.of_below hst.2.2.2 (fun c hc => by omega)), ⟨ax, cx, fx, by rw [HR.out]; exact hst.1, by rw [HR.out]; exact hcx, by rw [HR.out]; exact hst.2.1, ((hfx'.mono (by omega)).below (fun q hq => hsx'.lt q hq) hE3).alike (by simp) (fun c _ o => World.frozen?_setCell _ _ _ _), fun h => absurd h (by omega)⟩, (hbW.trans (hE3.mono hbW.size)).trans hst.2.2.2⟩
        · have hd : decide (vj < vc) = false := decide_eq_false hlt
          have HR := Lib.hid (HLU.out.trans (if_neg hlt))
          refine wpIn_block ?_
          refine wpIn_seq ?_
          refine region_in (S := (fun w' => ((w'.cell? ⟨w1.heap.size, 0, none⟩ = some (.slice (some ad) (least sz (upto L j)).length cv) ∧ w'.cell? ⟨w.heap.size + 1, 0, none⟩ = some (.func (.func 64) #[] #[])) ∧ w1.heap.size < w'.heap.size ∧ w.heap.size + 1 < w'.heap.size) ∧ (LaySub w' ax (L j) fx ∧ LaySub w' (some ad) (least sz (upto L j)) fv) ∧ Ext W w')) (by kernel_rfl) (by simp) (fun h => by obtain ⟨_, _, h⟩ := h; exact h) ?_ (fun hHeld => ?_)
          · exact keepN HS0.out (Ext.drew (Ext.refl _))
          refine wpAnyH_take (i := 0) (oi := { dst := some 19, op := Op.load 33 (Operand.tmp 8), type := 33, pos := "l3_choices.go:165", after := #[], guard := none }) (v := ?_) rfl (by kernel_rfl) (by kernel_rfl) (by kernel_rfl) (fun _ _ _ h => h) (Or.inl ⟨by rfl, ?_⟩) (by assumption) ?_
          rotate_left
          · (intro w hSw; (try dsimp only at hSw); (go_simp <;> with_reducible rfl))
          try simp only [Act.put, List.setIfInBounds_toArray, List.set_cons_zero, List.set_cons_succ]
          refine wpAnyH_take (i := 1) (oi := { dst := some 20, op := Op.binOp BinOp.eql 33 (Operand.tmp 19) (Operand.const (Value.slice none 0 0)) 33, type := 4, pos := "l3_choices.go:165", after := #[{ on := 0, ground := Ground.data }], guard := none }) (v := ?_) rfl (by kernel_rfl) (by kernel_rfl) (by kernel_rfl) (fun _ _ _ h => h) (Or.inl ⟨by rfl, ?_⟩) (by assumption) ?_
          rotate_left
          · (intro w hSw; (try dsimp only at hSw); (go_simp <;> with_reducible rfl))
          try simp only [Act.put, List.setIfInBounds_toArray, List.set_cons_zero, List.set_cons_succ]
          refine wpAnyH_take (i := 2) (oi := { dst := some 21, op := Op.move (Operand.tmp 20), type := 4, pos := "l3_choices.go:165", after := #[{ on := 1, ground := Ground.data }], guard := none }) (v := ?_) rfl (by kernel_rfl) (by kernel_rfl) (by kernel_rfl) (fun _ _ _ h => h) (Or.inl ⟨by rfl, ?_⟩) (by assumption) ?_
          rotate_left
          · (intro w hSw; (try dsimp only at hSw); (go_simp <;> with_reducible rfl))
          try simp only [Act.put, List.setIfInBounds_toArray, List.set_cons_zero, List.set_cons_succ]
          refine wpAnyH_take (i := 3) (oi := { dst := some 22, op := Op.load 43 (Operand.tmp 3), type := 43, pos := "l3_choices.go:165", after := #[{ on := 2, ground := Ground.guard }], guard := some (2, false) }) (v := ?_) rfl (by kernel_rfl) (by kernel_rfl) (by kernel_rfl) (fun _ _ _ h => h) (Or.inl ⟨by rfl, ?_⟩) (by assumption) ?_
          rotate_left
          · (intro w hSw; (try dsimp only at hSw); (go_simp <;> with_reducible rfl))
          try simp only [Act.put, List.setIfInBounds_toArray, List.set_cons_zero, List.set_cons_succ]
          refine wpAnyH_take (i := 4) (oi := { dst := some 23, op := Op.move (Operand.tmp 9), type := 33, pos := "l3_choices.go:165", after := #[{ on := 2, ground := Ground.guard }], guard := some (2, false) }) (v := ?_) rfl (by kernel_rfl) (by kernel_rfl) (by kernel_rfl) (fun _ _ _ h => h) (Or.inl ⟨by rfl, ?_⟩) (by assumption) ?_
          rotate_left
          · (intro w hSw; (try dsimp only at hSw); (go_simp <;> with_reducible rfl))
          try simp only [Act.put, List.setIfInBounds_toArray, List.set_cons_zero, List.set_cons_succ]
          refine wpAnyH_take (i := 6) (oi := { dst := some 25, op := Op.load 43 (Operand.tmp 3), type := 43, pos := "l3_choices.go:165", after := #[{ on := 2, ground := Ground.guard }], guard := some (2, false) }) (v := ?_) rfl (by kernel_rfl) (by kernel_rfl) (by kernel_rfl) (fun _ _ _ h => h) (Or.inl ⟨by rfl, ?_⟩) (by assumption) ?_
          rotate_left
          · (intro w hSw; (try dsimp only at hSw); (go_simp <;> with_reducible rfl))
          try simp only [Act.put, List.setIfInBounds_toArray, List.set_cons_zero, List.set_cons_succ]
          refine wpAnyH_take (i := 7) (oi := { dst := some 26, op := Op.load 33 (Operand.tmp 8), type := 33, pos := "l3_choices.go:165", after := #[{ on := 2, ground := Ground.guard }], guard := some (2, false) }) (v := ?_) rfl (by kernel_rfl) (by kernel_rfl) (by kernel_rfl) (fun _ _ _ h => h) (Or.inl ⟨by rfl, ?_⟩) (by assumption) ?_
          rotate_left
          · (intro w hSw; (try dsimp only at hSw); (go_simp <;> with_reducible rfl))
          try simp only [Act.put, List.setIfInBounds_toArray, List.set_cons_zero, List.set_cons_succ]
          refine wpAnyH_ready (rs := [5]) (by kernel_rfl) (by simp) ?_
          refine AllReadyH.cons (o := { dst := some 24, op := Op.call { callee := Callee.value (Operand.tmp 22), args := #[Operand.tmp 23], argTypes := #[33] }, type := 3, pos := "l3_choices.go:165", after := #[{ on := 3, ground := Ground.data }, { on := 4, ground := Ground.data }, { on := 2, ground := Ground.chain }, { on := 2, ground := Ground.guard }], guard := some (2, false) }) rfl (fun K hK => ?_) AllReadyH.nil
          go_simp
          go_at_call 64
          refine (HQ1.out _ hHeld.2.1.1).mono ?_
          rintro e3 w3 ⟨rfl, hb3⟩
          have K3 := Lib.hid (keepN hHeld hb3)
          clear hb3
          try go_wp2_with fail
          refine hK.out _ _ ?_ (fun hHeld5 => ?_)
          · exact K3.out
          clear hK K hHeld
          try simp only [Act.put, List.setIfInBounds_toArray, List.set_cons_zero, List.set_cons_succ]
          refine wpAnyH_ready (rs := [8]) (by kernel_rfl) (by simp) ?_
          refine AllReadyH.cons (o := { dst := some 27, op := Op.call { callee := Callee.value (Operand.tmp 25), args := #[Operand.tmp 26], argTypes := #[33] }, type := 3, pos := "l3_choices.go:165", after := #[{ on := 6, ground := Ground.data }, { on := 7, ground := Ground.data }, { on := 5, ground := Ground.chain }, { on := 2, ground := Ground.guard }], guard := some (2, false) }) rfl (fun K hK => ?_) AllReadyH.nil
          go_simp
          go_at_call 64
          refine (HQ2.out _ hHeld5.2.1.2).mono ?_
          rintro e4 w4 ⟨rfl, hb4⟩
          have K4 := Lib.hid (keepN hHeld5 hb4)
          clear hb4
          try go_wp2_with fail
          refine hK.out _ _ ?_ (fun hHeld8 => ?_)
          · exact K4.out
          clear hK K hHeld5
          try simp only [Act.put, List.setIfInBounds_toArray, List.set_cons_zero, List.set_cons_succ]
          refine wpAnyH_take (i := 9) (oi := { dst := some 28, op := Op.binOp BinOp.lss 3 (Operand.tmp 24) (Operand.tmp 27) 3, type := 4, pos := "l3_choices.go:165", after := #[{ on := 5, ground := Ground.data }, { on := 8, ground := Ground.data }, { on := 2, ground := Ground.guard }], guard := some (2, false) }) (v := ?_) rfl (by kernel_rfl) (by kernel_rfl) (by kernel_rfl) (fun _ _ _ h => h) (Or.inl ⟨by rfl, ?_⟩) (by assumption) ?_
          rotate_left
          · (intro w hSw; (try dsimp only at hSw); (go_simp <;> with_reducible rfl))
          try simp only [Act.put, List.setIfInBounds_toArray, List.set_cons_zero, List.set_cons_succ]
          refine wpAnyH_take (i := 10) (oi := { dst := some 29, op := Op.pick (Operand.tmp 21) (Operand.const (Value.bool true)) (Operand.tmp 28), type := 4, pos := "l3_choices.go:165", after := #[{ on := 2, ground := Ground.data }, { on := 9, ground := Ground.data }], guard := none }) (v := ?_) rfl (by kernel_rfl) (by kernel_rfl) (by kernel_rfl) (fun _ _ _ h => h) (Or.inl ⟨by rfl, ?_⟩) (by assumption) ?_
          rotate_left
          · (intro w hSw; (try dsimp only at hSw); (go_simp <;> with_reducible rfl))
          try simp only [Act.put, List.setIfInBounds_toArray, List.set_cons_zero, List.set_cons_succ]
          refine wpAnyH_done (by kernel_rfl) ?_ _
          gi_wp2_with fail
          have hE3 : Ext W w4 := K4.out.2.2
          exact ⟨keeps_of_ext hE3, Keep.of_ext hE3, ⟨some ad, cv, fv, by rw [HR.out]; exact (hE3.block _ hB.lt).trans hB, by rw [HR.out]; exact h2, by rw [HR.out]; exact K4.out.2.1.2, hfv.below (fun q hq => hsv.lt q hq) hE3, fun h => absurd h (by omega)⟩, hbW.trans (hE3.mono hbW.size)⟩
    case done =>
      rintro D A W hD ⟨⟨av, cv, fv, h1, h2, h3, h4, h5⟩, h6⟩ ⟨B, hE, hT⟩ hK
      have hB : Boxed W w1.heap.size 33 (.slice av (least sz (upto L N)).length cv) := hT.boxed ((hE.block _ h1.lt).trans h1)
      have hsv := hT.lay (h3.below h3.lt hE)
      have hfv := hT.layFresh (h3.below h3.lt hE) (h4.below h4.lt hE)
      have hbW : Below w1.heap.size w1 W := (h6.trans (hE.mono h6.size)).trans (hT.below (by omega))
      have hc1 := hB.cell
      go_wp2_with fail
      have hT2 : Turn w1.heap.size W (W.putObj D (.deferred none)) := turn_put _ hK rfl (by omega)
      have hs1 := H1.out.2.size
      exact leave_mark hK (results_tmp2 rfl _ _ _) (by rw [HLS.out, H1.out.1]; exact ⟨av, cv, fv, rfl, h2, hT2.lay hsv, (hT2.layFresh hsv hfv).mono (by omega), H1.out.2.trans (hbW.trans (hT2.below (Nat.le_refl _)))⟩)
    case stop =>
      rintro D c A W _ h _ _
      exact h.elim

set_option maxRecDepth 100000 in
theorem implShortest (hs : SubAt w a k fs) (hfs : ∀ c ∈ fs, c < w.heap.size ∧ ∀ o, w.frozen? ⟨c, o, none⟩ = false) (hc : k.len ≤ cap) (hsz : t.size + k.size ≤ 2000000) (hft : k.Fits) (ht : t.size ≤ maxLen) :
    Calls Try.prog 31 #[.agg #[.int .i64 o, .int .i64 n, .string t, .slice a k.len cap]] w (LayRes w (bestR true o n t k)) := by
  have B1 := Lib.hid (show ∀ ob, Ext w (w.alloc ob) from fun ob => (Ext.refl w).alloc _)
  have HS := Lib.hid (fun (w1 : World) (hw1 : Ext w w1) => firstLeastShortest w1 o n t k a cap fs (hs.below (fun c hc => (hfs c hc).1) hw1) (fun c hc => ⟨Nat.lt_of_lt_of_le (hfs c hc).1 hw1.size, fun x => (hw1.frozen (hfs c hc).1).trans ((hfs c hc).2 x)⟩) hc hsz hft ht)
  obtain ⟨R, hR⟩ : ∃ R, bestR true o n t k = R := ⟨_, rfl⟩
  rw [hR] at HS ⊢
  clear hs hfs hR
  go_enter Try.func31, Try.ntmps31
  go_wp2_with fail
  refine (HS.out _ (B1.out _)).mono ?_
  rintro e2 w2 ⟨a2, c2, f2, rfl, hc2, hs2, hf2, hb2⟩
  have H2 := Lib.hid (show LayRes w R (.returned (.tuple #[.slice a2 R.1.length c2, .bool R.2])) w2 from ⟨a2, c2, f2, rfl, hc2, hs2, hf2.mono (by simp), (B1.out _).trans hb2⟩)
  clear hc2 hs2 hf2 hb2
  go_wp2_with fail
  go_ret2
  exact H2.out
end

end Go.Proofs.Ytpiaiandjnpdfaa.It


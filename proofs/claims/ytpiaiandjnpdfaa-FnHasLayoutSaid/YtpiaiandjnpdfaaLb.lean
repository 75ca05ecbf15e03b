import Derived.Test.YtpiaiandjnpdfaaDi
import Derived.Test.YtpiaiandjnpdfaaLayW2
import Derived.Deep.RegionHeld3
import Derived.BigQuiet
/-
  Narrowest and Shortest of the model.
-/
set_option linter.unusedVariables false
set_option linter.unusedSimpArgs false
namespace Go.Proofs.Ytpiaiandjnpdfaa.It
open Go.RowKit Go.Shelf P1 LayL LayV LayM LayN LayC Cnt CntC Wid ChP Tr ChT ChC Rf
open Ls hiding Lay

/-- the size that is asked: the number of lines, or the width -/
def szL (lines : Bool) (l : Lay) : Int := if lines then (l.length : Int) else lw l
theorem least_take {f : Lay → Int} {ls : List Lay} {j : Nat} (h1 : 1 ≤ j) (hj : j < ls.length) : least f (ls.take (j + 1)) = if f ls[j] < f (least f (ls.take j)) then ls[j] else least f (ls.take j) := by
  cases ls with
  | nil => simp at hj
  | cons x ls =>
    obtain ⟨i, rfl⟩ : ∃ i, j = i + 1 := ⟨j - 1, by omega⟩
    have hi : i < ls.length := by simpa using hj
    rw [List.take_succ_cons, List.take_succ_cons, List.getElem_cons_succ, List.take_succ_eq_append_getElem hi, least_snoc]
theorem least_one {f : Lay → Int} {ls : List Lay} (h : 0 < ls.length) : least f (ls.take 1) = ls[0] := by
  cases ls with
  | nil => simp at h
  | cons x ls => rfl

theorem lv_fits {l : Lay} (h : lv l = true) : L.Fits l := fun r hr => by
  obtain ⟨k, hk, rfl⟩ := List.getElem_of_mem hr
  have := rv_len (lv_get h hk); unfold maxLen; omega
theorem lens_bd {ls : List Lay} (h : ∀ x ∈ ls, lv x = true) {j : Nat} (hj : j < ls.length) : ls[j].length ≤ 200 := (lv_len (h _ (List.getElem_mem hj))).2
theorem lw_bd {ls : List Lay} (h : ∀ x ∈ ls, lv x = true) {j : Nat} (hj : j < ls.length) : 0 ≤ lw ls[j] ∧ lw ls[j] ≤ 2399 := by
  have h1 := h _ (List.getElem_mem hj)
  rw [lw_yes h1]
  have := wid_bd h1 _ (Nat.le_refl _)
  rwa [List.take_length] at this

theorem keepB {w2 w' w'' : World} {b i j : Nat} {u v : Value} {a a' : Option Addr} {l l' : Lay} {f f' : List Nat} (h : ((w'.cell? ⟨b, i, none⟩ = some u ∧ w'.cell? ⟨b, j, none⟩ = some v) ∧ b < w'.heap.size) ∧ (LaySub w' a l f ∧ LaySub w' a' l' f') ∧ Ext w2 w') (k : Ext w' w'') :
    ((w''.cell? ⟨b, i, none⟩ = some u ∧ w''.cell? ⟨b, j, none⟩ = some v) ∧ b < w''.heap.size) ∧ (LaySub w'' a l f ∧ LaySub w'' a' l' f') ∧ Ext w2 w'' :=
  ⟨⟨⟨(k.cell h.1.2).trans h.1.1.1, (k.cell h.1.2).trans h.1.1.2⟩, Nat.lt_of_lt_of_le h.1.2 k.size⟩, ⟨h.2.1.1.below h.2.1.1.lt k, h.2.1.2.below h.2.1.2.lt k⟩, h.2.2.trans k⟩

section
variable (w : World) (o n : Int) (t : ByteArray) (k : F) (a : Option Addr) (cap : Nat) (fs : List Nat)

/-- the layout that a search hands back, and whether there is one -/
def bestR (lines : Bool) (o n : Int) (t : ByteArray) (k : F) : Lay × Bool := (least (szL lines) (laysD o n t k), toldD o n t k)

set_option maxRecDepth 100000 in
set_option maxHeartbeats 6400000 in
theorem l3Best (lines : Bool) (hs : SubAt w a k fs) (hfs : ∀ c ∈ fs, c < w.heap.size) (hc : k.len ≤ cap) (hsz : t.size + k.size ≤ 2000000) (hft : k.Fits) (ht : t.size ≤ maxLen) :
    Calls Try.prog 63 #[.agg #[.int .i64 o, .int .i64 n, .string t, .slice a k.len cap], .bool lines] w (LayRes w (bestR lines o n t k)) := by
  have B1 := Lib.hid (show ∀ ob, Ext w (w.alloc ob) from fun ob => (Ext.refl w).alloc _)
  have HA := Lib.hid (show ∀ (W : World) ob, Below w.heap.size w W → Below w.heap.size w (W.alloc ob) from fun W ob h => h.alloc h.size ob)
  have HS := Lib.hid (fun (w1 : World) (hw1 : Ext w w1) => specLayoutsOf w1 o n t k a cap fs (hs.below hfs hw1) (fun c hc => Nat.lt_of_lt_of_le (hfs c hc) hw1.size) hc hsz hft ht)
  have HG := Lib.hid (lays_good (o := o) (n := n) (t := t) (k := k))
  have HLN := Lib.hid (lays_len o n t k)
  have HNO := Lib.hid (fun h : toldD o n t k = false => lays_no h)
  have HPO := Lib.hid (fun h : toldD o n t k = true => lays_pos h)
  unfold bestR
  obtain ⟨ls, hls⟩ : ∃ ls, laysD o n t k = ls := ⟨_, rfl⟩
  obtain ⟨ok, hok⟩ : ∃ ok, toldD o n t k = ok := ⟨_, rfl⟩
  rw [hls, hok] at HS HNO HPO
  rw [hls] at HG HLN ⊢
  rw [hok]
  clear hs hfs hls hok
  go_enter Try.func63, Try.ntmps63
  go_wp2_with fail
  refine (HS.out _ (B1.out _)).mono ?_
  rintro e2 w2 ⟨a2, c2, f2, rfl, hc2, hs2, hf2, hb2⟩
  cases ok with
  | false =>
    obtain rfl := HNO.out rfl
    have HB := Lib.hid ((B1.out _).trans hb2)
    clear hb2 hs2 hf2 hc2
    go_wp2_with fail
    go_ret2
    exact LayRes.none' (HA.out _ _ HB.out)
  | true =>
    have hpos := HPO.out rfl
    obtain ⟨b, off, AA, CC, gg, hfam, hdis⟩ := hs2.fam hf2.1
    have HFAM := Lib.hid (And.intro hfam hdis)
    obtain ⟨M, hM⟩ : ∃ M, ls.length = M := ⟨_, rfl⟩
    have HM := Lib.hid hM
    have hM3 : M ≤ 300 := by have := HLN.out; omega
    rw [hM] at hc2 hpos
    have HB := Lib.hid ((B1.out _).trans hb2)
    have HF2 := Lib.hid (And.intro (hf2.mono (by simp : w.heap.size ≤ _)) hs2)
    have hb0 := (hfam 0 (by omega)).1
    subst hb0
    clear hb2 hfam hdis hf2 hs2 hM
    have HL := Lib.hid (show ∀ W, Ext w2 W → ∀ j, (hj : j < ls.length) → (W.cell? ⟨b, off + j, none⟩ = some (.slice (AA j) ls[j].length (CC j)) ∧ ls[j].length ≤ CC j) ∧ LaySub W (AA j) ls[j] (gg j) from fun W hW j hj => by
      obtain ⟨_, hbm, h1, h2, h3, h4, h5⟩ := HFAM.out.1 j hj
      exact ⟨⟨(hW.cell (HF2.out.1.lt b hbm)).trans h1, h2⟩, h3.below h3.lt hW⟩)
    have HFR := Lib.hid (show ∀ W, Ext w2 W → ∀ j, (hj : j < ls.length) → Fresh w.heap.size W (gg j) from fun W hW j hj => by
      obtain ⟨_, hbm, h1, h2, h3, h4, h5⟩ := HFAM.out.1 j hj
      exact ⟨h5, fun q hq => ⟨(HF2.out.1.2 q (h4 q hq)).1, Nat.lt_of_lt_of_le (HF2.out.1.lt q (h4 q hq)) hW.size, fun o => (hW.frozen (HF2.out.1.lt q (h4 q hq))).trans ((HF2.out.1.2 q (h4 q hq)).2.2 o)⟩⟩)
    go_wp2_with fail
    go_loopw [9, 8] (fun i bv wr => ∃ (j c : Nat), 1 ≤ j ∧ j ≤ M ∧ c < M ∧ i = .int .i64 j ∧ bv = .int .i64 c ∧ Hid (∃ hc : c < ls.length, ls[c] = least (szL lines) (ls.take j)) ∧ Ext w2 wr) (fun i _ _ => M - (intOf i).toNat)
    case atStart => exact ⟨1, 0, by omega, by omega, by omega, rfl, rfl, Lib.hid ⟨by have := HM.out; omega, (least_one (by have := HM.out; omega)).symm⟩, Ext.refl _⟩
    case round =>
      obtain ⟨j, c, hj1, hj, hcM, rfl, rfl, HBEST, hW⟩ := hrel
      obtain ⟨hcl, hce⟩ := HBEST.out
      by_cases hjM : j < M
      · have hjl : j < ls.length := by rw [HM.out]; exact hjM
        have hlt := least_take (f := szL lines) hj1 hjl
        obtain ⟨⟨x1, x2⟩, x3⟩ := HL.out wr hW j hjl
        obtain ⟨⟨y1, y2⟩, y3⟩ := HL.out wr hW c hcl
        have hn1 := lens_bd HG.out hjl
        have hn2 := lens_bd HG.out hcl
        rw [← hce] at hlt
        cases lines with
        | true =>
          have hs1 : szL true ls[j] = (ls[j].length : Int) := rfl
          have hs2 : szL true ls[c] = (ls[c].length : Int) := rfl
          rw [hs1, hs2] at hlt
          have HLT := Lib.hid hlt
          have HW := Lib.hid hW
          obtain ⟨lj, hlj⟩ : ∃ x, ls[j].length = x := ⟨_, rfl⟩
          obtain ⟨lc, hlc⟩ : ∃ x, ls[c].length = x := ⟨_, rfl⟩
          rw [hlj] at HLT x1 x2 hn1
          rw [hlc] at HLT y1 y2 hn2
          clear hlt hs1 hs2 x3 y3 hce hlj hlc hW
          by_cases hll : (lj : Int) < (lc : Int)
          · have hd : decide ((lj : Int) < (lc : Int)) = true := decide_eq_true hll
            have hdn : decide (lj < lc) = true := decide_eq_true (by omega)
            have hdn2 : lj < lc := by omega
            have HR := Lib.hid (HLT.out.trans (if_pos hll))
            go_wp2_with fail
            go_quiet (fail)
            go_wp2_with fail
            go_roundw
            case rel => exact ⟨j + 1, j, by omega, by omega, by omega, by go_num, rfl, Lib.hid ⟨hjl, HR.out.symm⟩, HW.out.trans (ext_drewN _ _)⟩
            case measure => simp [intOf]; omega
          · have hd : decide ((lj : Int) < (lc : Int)) = false := decide_eq_false hll
            have hdn : decide (lj < lc) = false := decide_eq_false (by omega)
            have hdn2 : ¬ (lj < lc) := by omega
            have hdn3 : lc ≤ lj := by omega
            have HR := Lib.hid (HLT.out.trans (if_neg hll))
            go_wp2_with fail
            go_quiet (fail)
            go_wp2_with fail
            go_roundw
            case rel => exact ⟨j + 1, c, by omega, by omega, by omega, by go_num, rfl, Lib.hid ⟨hcl, HR.out.symm⟩, HW.out.trans (ext_drewN _ _)⟩
            case measure => simp [intOf]; omega
        | false =>
          have hs1 : szL false ls[j] = lw ls[j] := rfl
          have hs2 : szL false ls[c] = lw ls[c] := rfl
          rw [hs1, hs2] at hlt
          have HLT := Lib.hid hlt
          have hw1 := lw_bd HG.out hjl
          have hw2 := lw_bd HG.out hcl
          have hq1 := fun (W : World) (h : LaySub W (AA j) ls[j] (gg j)) => LayW.specLayoutWidth ls[j] W (AA j) (CC j) (gg j) h x2 (by unfold maxLen; omega) (lv_fits (HG.out _ (List.getElem_mem hjl)))
          have hq2 := fun (W : World) (h : LaySub W (AA c) ls[c] (gg c)) => LayW.specLayoutWidth ls[c] W (AA c) (CC c) (gg c) h y2 (by unfold maxLen; omega) (lv_fits (HG.out _ (List.getElem_mem hcl)))
          obtain ⟨lj, hlj⟩ : ∃ x, ls[j].length = x := ⟨_, rfl⟩
          obtain ⟨lc, hlc⟩ : ∃ x, ls[c].length = x := ⟨_, rfl⟩
          obtain ⟨vj, hvj⟩ : ∃ x, lw ls[j] = x := ⟨_, rfl⟩
          obtain ⟨vc, hvc⟩ : ∃ x, lw ls[c] = x := ⟨_, rfl⟩
          rw [hvj] at HLT hq1 hw1
          rw [hvc] at HLT hq2 hw2
          rw [hlj] at x1 x2 hn1 hq1
          rw [hlc] at y1 y2 hn2 hq2
          have HQ1 := Lib.hid hq1
          have HQ2 := Lib.hid hq2
          have HS0 := Lib.hid (show ((wr.cell? ⟨b, off + j, none⟩ = some (.slice (AA j) lj (CC j)) ∧ wr.cell? ⟨b, off + c, none⟩ = some (.slice (AA c) lc (CC c))) ∧ b < wr.heap.size) ∧ (LaySub wr (AA j) ls[j] (gg j) ∧ LaySub wr (AA c) ls[c] (gg c)) ∧ Ext w2 wr from ⟨⟨⟨x1, y1⟩, World.block_lt_of_cell? wr _ x1⟩, ⟨x3, y3⟩, hW⟩)
          clear hlt hs1 hs2 x3 y3 hce hlj hlc hvj hvc hq1 hq2 hW
          go_wp2_with fail
          by_cases hll : vj < vc
          · have hd : decide (vj < vc) = true := decide_eq_true hll
            have HR := Lib.hid (HLT.out.trans (if_pos hll))
            refine wp_region_held_drew (S := (fun w' => ((w'.cell? ⟨b, off + j, none⟩ = some (.slice (AA j) lj (CC j)) ∧ w'.cell? ⟨b, off + c, none⟩ = some (.slice (AA c) lc (CC c))) ∧ b < w'.heap.size) ∧ (LaySub w' (AA j) ls[j] (gg j) ∧ LaySub w' (AA c) ls[c] (gg c)) ∧ Ext w2 w')) (by kernel_rfl) ?_ (fun hHeld => ?_)
            · exact keepB HS0.out (Ext.drew (Ext.refl _))
            refine wpAnyH_take (i := 0) (oi := { dst := some 24, op := Op.move (Operand.tmp 1), type := 4, pos := "l3_choices.go:123", after := #[], guard := none }) (v := ?_) rfl (by kernel_rfl) (by kernel_rfl) (by kernel_rfl) (fun _ _ _ h => h) (Or.inl ⟨by rfl, ?_⟩) (by assumption) ?_
            rotate_left
            · (intro w hSw; (try dsimp only at hSw); (go_simp <;> with_reducible rfl))
            try simp only [Act.put, List.setIfInBounds_toArray, List.set_cons_zero, List.set_cons_succ]
            refine wpAnyH_take (i := 1) (oi := { dst := some 25, op := Op.move (Operand.tmp 24), type := 4, pos := "l3_choices.go:123", after := #[{ on := 0, ground := Ground.data }], guard := none }) (v := ?_) rfl (by kernel_rfl) (by kernel_rfl) (by kernel_rfl) (fun _ _ _ h => h) (Or.inl ⟨by rfl, ?_⟩) (by assumption) ?_
            rotate_left
            · (intro w hSw; (try dsimp only at hSw); (go_simp <;> with_reducible rfl))
            try simp only [Act.put, List.setIfInBounds_toArray, List.set_cons_zero, List.set_cons_succ]
            refine wpAnyH_take (i := 2) (oi := { dst := some 26, op := Op.move (Operand.tmp 6), type := 27, pos := "l3_choices.go:123", after := #[{ on := 1, ground := Ground.guard }], guard := some (1, true) }) (v := undef) rfl (by kernel_rfl) (by kernel_rfl) (by kernel_rfl) (fun _ _ _ h => h) (Or.inr ⟨by rfl, rfl⟩) (by assumption) ?_
            try simp only [Act.put, List.setIfInBounds_toArray, List.set_cons_zero, List.set_cons_succ]
            refine wpAnyH_take (i := 3) (oi := { dst := some 27, op := Op.move (Operand.tmp 9), type := 3, pos := "l3_choices.go:123", after := #[{ on := 1, ground := Ground.guard }], guard := some (1, true) }) (v := undef) rfl (by kernel_rfl) (by kernel_rfl) (by kernel_rfl) (fun _ _ _ h => h) (Or.inr ⟨by rfl, rfl⟩) (by assumption) ?_
            try simp only [Act.put, List.setIfInBounds_toArray, List.set_cons_zero, List.set_cons_succ]
            refine wpAnyH_take (i := 4) (oi := { dst := some 28, op := Op.indexAddr 27 (Operand.tmp 26) (Operand.tmp 27), type := 0, pos := "l3_choices.go:123", after := #[{ on := 2, ground := Ground.data }, { on := 3, ground := Ground.data }, { on := 1, ground := Ground.guard }], guard := some (1, true) }) (v := undef) rfl (by kernel_rfl) (by kernel_rfl) (by kernel_rfl) (fun _ _ _ h => h) (Or.inr ⟨by rfl, rfl⟩) (by assumption) ?_
            try simp only [Act.put, List.setIfInBounds_toArray, List.set_cons_zero, List.set_cons_succ]
            refine wpAnyH_take (i := 5) (oi := { dst := some 29, op := Op.load 33 (Operand.tmp 28), type := 33, pos := "l3_choices.go:123", after := #[{ on := 4, ground := Ground.data }, { on := 1, ground := Ground.guard }], guard := some (1, true) }) (v := undef) rfl (by kernel_rfl) (by kernel_rfl) (by kernel_rfl) (fun _ _ _ h => h) (Or.inr ⟨by rfl, rfl⟩) (by assumption) ?_
            try simp only [Act.put, List.setIfInBounds_toArray, List.set_cons_zero, List.set_cons_succ]
            refine wpAnyH_take (i := 6) (oi := { dst := some 30, op := Op.call { callee := Callee.builtin Builtin.len, args := #[Operand.tmp 29], argTypes := #[33] }, type := 3, pos := "l3_choices.go:123", after := #[{ on := 5, ground := Ground.data }, { on := 1, ground := Ground.guard }], guard := some (1, true) }) (v := undef) rfl (by kernel_rfl) (by kernel_rfl) (by kernel_rfl) (fun _ _ _ h => h) (Or.inr ⟨by rfl, rfl⟩) (by assumption) ?_
            try simp only [Act.put, List.setIfInBounds_toArray, List.set_cons_zero, List.set_cons_succ]
            refine wpAnyH_take (i := 7) (oi := { dst := some 31, op := Op.move (Operand.tmp 6), type := 27, pos := "l3_choices.go:123", after := #[{ on := 1, ground := Ground.guard }], guard := some (1, true) }) (v := undef) rfl (by kernel_rfl) (by kernel_rfl) (by kernel_rfl) (fun _ _ _ h => h) (Or.inr ⟨by rfl, rfl⟩) (by assumption) ?_
            try simp only [Act.put, List.setIfInBounds_toArray, List.set_cons_zero, List.set_cons_succ]
            refine wpAnyH_take (i := 8) (oi := { dst := some 32, op := Op.move (Operand.tmp 8), type := 3, pos := "l3_choices.go:123", after := #[{ on := 1, ground := Ground.guard }], guard := some (1, true) }) (v := undef) rfl (by kernel_rfl) (by kernel_rfl) (by kernel_rfl) (fun _ _ _ h => h) (Or.inr ⟨by rfl, rfl⟩) (by assumption) ?_
            try simp only [Act.put, List.setIfInBounds_toArray, List.set_cons_zero, List.set_cons_succ]
            refine wpAnyH_take (i := 9) (oi := { dst := some 33, op := Op.indexAddr 27 (Operand.tmp 31) (Operand.tmp 32), type := 0, pos := "l3_choices.go:123", after := #[{ on := 7, ground := Ground.data }, { on := 8, ground := Ground.data }, { on := 1, ground := Ground.guard }], guard := some (1, true) }) (v := undef) rfl (by kernel_rfl) (by kernel_rfl) (by kernel_rfl) (fun _ _ _ h => h) (Or.inr ⟨by rfl, rfl⟩) (by assumption) ?_
            try simp only [Act.put, List.setIfInBounds_toArray, List.set_cons_zero, List.set_cons_succ]
            refine wpAnyH_take (i := 10) (oi := { dst := some 34, op := Op.load 33 (Operand.tmp 33), type := 33, pos := "l3_choices.go:123", after := #[{ on := 9, ground := Ground.data }, { on := 1, ground := Ground.guard }], guard := some (1, true) }) (v := undef) rfl (by kernel_rfl) (by kernel_rfl) (by kernel_rfl) (fun _ _ _ h => h) (Or.inr ⟨by rfl, rfl⟩) (by assumption) ?_
            try simp only [Act.put, List.setIfInBounds_toArray, List.set_cons_zero, List.set_cons_succ]
            refine wpAnyH_take (i := 11) (oi := { dst := some 35, op := Op.call { callee := Callee.builtin Builtin.len, args := #[Operand.tmp 34], argTypes := #[33] }, type := 3, pos := "l3_choices.go:123", after := #[{ on := 10, ground := Ground.data }, { on := 1, ground := Ground.guard }], guard := some (1, true) }) (v := undef) rfl (by kernel_rfl) (by kernel_rfl) (by kernel_rfl) (fun _ _ _ h => h) (Or.inr ⟨by rfl, rfl⟩) (by assumption) ?_
            try simp only [Act.put, List.setIfInBounds_toArray, List.set_cons_zero, List.set_cons_succ]
            refine wpAnyH_take (i := 12) (oi := { dst := some 36, op := Op.binOp BinOp.lss 3 (Operand.tmp 30) (Operand.tmp 35) 3, type := 4, pos := "l3_choices.go:123", after := #[{ on := 6, ground := Ground.data }, { on := 11, ground := Ground.data }, { on := 1, ground := Ground.guard }], guard := some (1, true) }) (v := undef) rfl (by kernel_rfl) (by kernel_rfl) (by kernel_rfl) (fun _ _ _ h => h) (Or.inr ⟨by rfl, rfl⟩) (by assumption) ?_
            try simp only [Act.put, List.setIfInBounds_toArray, List.set_cons_zero, List.set_cons_succ]
            refine wpAnyH_take (i := 13) (oi := { dst := some 37, op := Op.pick (Operand.tmp 25) (Operand.tmp 36) (Operand.const (Value.bool false)), type := 4, pos := "l3_choices.go:123", after := #[{ on := 1, ground := Ground.data }, { on := 12, ground := Ground.data }], guard := none }) (v := ?_) rfl (by kernel_rfl) (by kernel_rfl) (by kernel_rfl) (fun _ _ _ h => h) (Or.inl ⟨by rfl, ?_⟩) (by assumption) ?_
            rotate_left
            · (intro w hSw; (try dsimp only at hSw); (go_simp <;> with_reducible rfl))
            try simp only [Act.put, List.setIfInBounds_toArray, List.set_cons_zero, List.set_cons_succ]
            refine wpAnyH_take (i := 14) (oi := { dst := some 38, op := Op.move (Operand.tmp 37), type := 4, pos := "l3_choices.go:123", after := #[{ on := 13, ground := Ground.data }, { on := 1, ground := Ground.chain }], guard := none }) (v := ?_) rfl (by kernel_rfl) (by kernel_rfl) (by kernel_rfl) (fun _ _ _ h => h) (Or.inl ⟨by rfl, ?_⟩) (by assumption) ?_
            rotate_left
            · (intro w hSw; (try dsimp only at hSw); (go_simp <;> with_reducible rfl))
            try simp only [Act.put, List.setIfInBounds_toArray, List.set_cons_zero, List.set_cons_succ]
            refine wpAnyH_take (i := 15) (oi := { dst := some 39, op := Op.move (Operand.tmp 1), type := 4, pos := "l3_choices.go:123", after := #[{ on := 14, ground := Ground.guard }], guard := some (14, false) }) (v := ?_) rfl (by kernel_rfl) (by kernel_rfl) (by kernel_rfl) (fun _ _ _ h => h) (Or.inl ⟨by rfl, ?_⟩) (by assumption) ?_
            rotate_left
            · (intro w hSw; (try dsimp only at hSw); (go_simp <;> with_reducible rfl))
            try simp only [Act.put, List.setIfInBounds_toArray, List.set_cons_zero, List.set_cons_succ]
            refine wpAnyH_take (i := 16) (oi := { dst := some 40, op := Op.unOp UnOp.not 4 (Operand.tmp 39), type := 4, pos := "l3_choices.go:123", after := #[{ on := 15, ground := Ground.data }, { on := 14, ground := Ground.guard }], guard := some (14, false) }) (v := ?_) rfl (by kernel_rfl) (by kernel_rfl) (by kernel_rfl) (fun _ _ _ h => h) (Or.inl ⟨by rfl, ?_⟩) (by assumption) ?_
            rotate_left
            · (intro w hSw; (try dsimp only at hSw); (go_simp <;> with_reducible rfl))
            try simp only [Act.put, List.setIfInBounds_toArray, List.set_cons_zero, List.set_cons_succ]
            refine wpAnyH_take (i := 17) (oi := { dst := some 41, op := Op.move (Operand.tmp 40), type := 4, pos := "l3_choices.go:123", after := #[{ on := 16, ground := Ground.data }, { on := 14, ground := Ground.chain }, { on := 14, ground := Ground.guard }], guard := some (14, false) }) (v := ?_) rfl (by kernel_rfl) (by kernel_rfl) (by kernel_rfl) (fun _ _ _ h => h) (Or.inl ⟨by rfl, ?_⟩) (by assumption) ?_
            rotate_left
            · (intro w hSw; (try dsimp only at hSw); (go_simp <;> with_reducible rfl))
            try simp only [Act.put, List.setIfInBounds_toArray, List.set_cons_zero, List.set_cons_succ]
            refine wpAnyH_take (i := 18) (oi := { dst := some 42, op := Op.move (Operand.tmp 6), type := 27, pos := "l3_choices.go:123", after := #[{ on := 17, ground := Ground.guard }], guard := some (17, true) }) (v := ?_) rfl (by kernel_rfl) (by kernel_rfl) (by kernel_rfl) (fun _ _ _ h => h) (Or.inl ⟨by rfl, ?_⟩) (by assumption) ?_
            rotate_left
            · (intro w hSw; (try dsimp only at hSw); (go_simp <;> with_reducible rfl))
            try simp only [Act.put, List.setIfInBounds_toArray, List.set_cons_zero, List.set_cons_succ]
            refine wpAnyH_take (i := 19) (oi := { dst := some 43, op := Op.move (Operand.tmp 9), type := 3, pos := "l3_choices.go:123", after := #[{ on := 17, ground := Ground.guard }], guard := some (17, true) }) (v := ?_) rfl (by kernel_rfl) (by kernel_rfl) (by kernel_rfl) (fun _ _ _ h => h) (Or.inl ⟨by rfl, ?_⟩) (by assumption) ?_
            rotate_left
            · (intro w hSw; (try dsimp only at hSw); (go_simp <;> with_reducible rfl))
            try simp only [Act.put, List.setIfInBounds_toArray, List.set_cons_zero, List.set_cons_succ]
            refine wpAnyH_take (i := 20) (oi := { dst := some 44, op := Op.indexAddr 27 (Operand.tmp 42) (Operand.tmp 43), type := 0, pos := "l3_choices.go:123", after := #[{ on := 18, ground := Ground.data }, { on := 19, ground := Ground.data }, { on := 17, ground := Ground.guard }], guard := some (17, true) }) (v := ?_) rfl (by kernel_rfl) (by kernel_rfl) (by kernel_rfl) (fun _ _ _ h => h) (Or.inl ⟨by rfl, ?_⟩) (by assumption) ?_
            rotate_left
            · (intro w hSw; (try dsimp only at hSw); (go_simp <;> with_reducible rfl))
            try simp only [Act.put, List.setIfInBounds_toArray, List.set_cons_zero, List.set_cons_succ]
            refine wpAnyH_take (i := 21) (oi := { dst := some 45, op := Op.load 33 (Operand.tmp 44), type := 33, pos := "l3_choices.go:123", after := #[{ on := 20, ground := Ground.data }, { on := 17, ground := Ground.guard }], guard := some (17, true) }) (v := ?_) rfl (by kernel_rfl) (by kernel_rfl) (by kernel_rfl) (fun _ _ _ h => h) (Or.inl ⟨by rfl, ?_⟩) (by assumption) ?_
            rotate_left
            · (intro w hSw; (try dsimp only at hSw); (go_simp <;> with_reducible rfl))
            try simp only [Act.put, List.setIfInBounds_toArray, List.set_cons_zero, List.set_cons_succ]
            refine wpAnyH_take (i := 23) (oi := { dst := some 47, op := Op.move (Operand.tmp 6), type := 27, pos := "l3_choices.go:123", after := #[{ on := 17, ground := Ground.guard }], guard := some (17, true) }) (v := ?_) rfl (by kernel_rfl) (by kernel_rfl) (by kernel_rfl) (fun _ _ _ h => h) (Or.inl ⟨by rfl, ?_⟩) (by assumption) ?_
            rotate_left
            · (intro w hSw; (try dsimp only at hSw); (go_simp <;> with_reducible rfl))
            try simp only [Act.put, List.setIfInBounds_toArray, List.set_cons_zero, List.set_cons_succ]
            refine wpAnyH_take (i := 24) (oi := { dst := some 48, op := Op.move (Operand.tmp 8), type := 3, pos := "l3_choices.go:123", after := #[{ on := 17, ground := Ground.guard }], guard := some (17, true) }) (v := ?_) rfl (by kernel_rfl) (by kernel_rfl) (by kernel_rfl) (fun _ _ _ h => h) (Or.inl ⟨by rfl, ?_⟩) (by assumption) ?_
            rotate_left
            · (intro w hSw; (try dsimp only at hSw); (go_simp <;> with_reducible rfl))
            try simp only [Act.put, List.setIfInBounds_toArray, List.set_cons_zero, List.set_cons_succ]
            refine wpAnyH_take (i := 25) (oi := { dst := some 49, op := Op.indexAddr 27 (Operand.tmp 47) (Operand.tmp 48), type := 0, pos := "l3_choices.go:123", after := #[{ on := 23, ground := Ground.data }, { on := 24, ground := Ground.data }, { on := 17, ground := Ground.guard }], guard := some (17, true) }) (v := ?_) rfl (by kernel_rfl) (by kernel_rfl) (by kernel_rfl) (fun _ _ _ h => h) (Or.inl ⟨by rfl, ?_⟩) (by assumption) ?_
            rotate_left
            · (intro w hSw; (try dsimp only at hSw); (go_simp <;> with_reducible rfl))
            try simp only [Act.put, List.setIfInBounds_toArray, List.set_cons_zero, List.set_cons_succ]
            refine wpAnyH_take (i := 26) (oi := { dst := some 50, op := Op.load 33 (Operand.tmp 49), type := 33, pos := "l3_choices.go:123", after := #[{ on := 25, ground := Ground.data }, { on := 17, ground := Ground.guard }], guard := some (17, true) }) (v := ?_) rfl (by kernel_rfl) (by kernel_rfl) (by kernel_rfl) (fun _ _ _ h => h) (Or.inl ⟨by rfl, ?_⟩) (by assumption) ?_
            rotate_left
            · (intro w hSw; (try dsimp only at hSw); (go_simp <;> with_reducible rfl))
            try simp only [Act.put, List.setIfInBounds_toArray, List.set_cons_zero, List.set_cons_succ]
            refine wpAnyH_ready (rs := [22]) (by kernel_rfl) (by simp) ?_
            refine AllReadyH.cons (o := { dst := some 46, op := Op.call { callee := Callee.value (Operand.func 101), args := #[Operand.tmp 45], argTypes := #[33] }, type := 3, pos := "l3_choices.go:123", after := #[{ on := 21, ground := Ground.data }, { on := 17, ground := Ground.chain }, { on := 17, ground := Ground.guard }], guard := some (17, true) }) rfl (fun K hK => ?_) AllReadyH.nil
            go_simp
            go_at_call 101
            refine (HQ1.out _ hHeld.2.1.1).mono ?_
            rintro e3 w3 ⟨rfl, hb3⟩
            have K3 := Lib.hid (keepB hHeld hb3)
            clear hb3
            try go_wp2_with fail
            refine hK.out _ _ ?_ (fun hHeld22 => ?_)
            · exact K3.out
            clear hK K hHeld
            try simp only [Act.put, List.setIfInBounds_toArray, List.set_cons_zero, List.set_cons_succ]
            refine wpAnyH_ready (rs := [27]) (by kernel_rfl) (by simp) ?_
            refine AllReadyH.cons (o := { dst := some 51, op := Op.call { callee := Callee.value (Operand.func 101), args := #[Operand.tmp 50], argTypes := #[33] }, type := 3, pos := "l3_choices.go:123", after := #[{ on := 26, ground := Ground.data }, { on := 22, ground := Ground.chain }, { on := 17, ground := Ground.guard }], guard := some (17, true) }) rfl (fun K hK => ?_) AllReadyH.nil
            go_simp
            go_at_call 101
            refine (HQ2.out _ hHeld22.2.1.2).mono ?_
            rintro e4 w4 ⟨rfl, hb4⟩
            have K4 := Lib.hid (keepB hHeld22 hb4)
            clear hb4
            try go_wp2_with fail
            refine hK.out _ _ ?_ (fun hHeld27 => ?_)
            · exact K4.out
            clear hK K hHeld22
            try simp only [Act.put, List.setIfInBounds_toArray, List.set_cons_zero, List.set_cons_succ]
            refine wpAnyH_take (i := 28) (oi := { dst := some 52, op := Op.binOp BinOp.lss 3 (Operand.tmp 46) (Operand.tmp 51) 3, type := 4, pos := "l3_choices.go:123", after := #[{ on := 22, ground := Ground.data }, { on := 27, ground := Ground.data }, { on := 17, ground := Ground.guard }], guard := some (17, true) }) (v := ?_) rfl (by kernel_rfl) (by kernel_rfl) (by kernel_rfl) (fun _ _ _ h => h) (Or.inl ⟨by rfl, ?_⟩) (by assumption) ?_
            rotate_left
            · (intro w hSw; (try dsimp only at hSw); (go_simp <;> with_reducible rfl))
            try simp only [Act.put, List.setIfInBounds_toArray, List.set_cons_zero, List.set_cons_succ]
            refine wpAnyH_take (i := 29) (oi := { dst := some 53, op := Op.pick (Operand.tmp 41) (Operand.tmp 52) (Operand.const (Value.bool false)), type := 4, pos := "l3_choices.go:123", after := #[{ on := 17, ground := Ground.data }, { on := 28, ground := Ground.data }, { on := 14, ground := Ground.guard }], guard := some (14, false) }) (v := ?_) rfl (by kernel_rfl) (by kernel_rfl) (by kernel_rfl) (fun _ _ _ h => h) (Or.inl ⟨by rfl, ?_⟩) (by assumption) ?_
            rotate_left
            · (intro w hSw; (try dsimp only at hSw); (go_simp <;> with_reducible rfl))
            try simp only [Act.put, List.setIfInBounds_toArray, List.set_cons_zero, List.set_cons_succ]
            refine wpAnyH_take (i := 30) (oi := { dst := some 54, op := Op.pick (Operand.tmp 38) (Operand.const (Value.bool true)) (Operand.tmp 53), type := 4, pos := "l3_choices.go:123", after := #[{ on := 14, ground := Ground.data }, { on := 29, ground := Ground.data }], guard := none }) (v := ?_) rfl (by kernel_rfl) (by kernel_rfl) (by kernel_rfl) (fun _ _ _ h => h) (Or.inl ⟨by rfl, ?_⟩) (by assumption) ?_
            rotate_left
            · (intro w hSw; (try dsimp only at hSw); (go_simp <;> with_reducible rfl))
            try simp only [Act.put, List.setIfInBounds_toArray, List.set_cons_zero, List.set_cons_succ]
            refine wpAnyH_done (by kernel_rfl) ?_ _
            go_wp2_with fail
            go_roundw
            case rel => exact ⟨j + 1, j, by omega, by omega, by omega, by go_num, rfl, Lib.hid ⟨hjl, HR.out.symm⟩, K4.out.2.2⟩
            case measure => simp [intOf]; omega
          · have hd : decide (vj < vc) = false := decide_eq_false hll
            have HR := Lib.hid (HLT.out.trans (if_neg hll))
            refine wp_region_held_drew (S := (fun w' => ((w'.cell? ⟨b, off + j, none⟩ = some (.slice (AA j) lj (CC j)) ∧ w'.cell? ⟨b, off + c, none⟩ = some (.slice (AA c) lc (CC c))) ∧ b < w'.heap.size) ∧ (LaySub w' (AA j) ls[j] (gg j) ∧ LaySub w' (AA c) ls[c] (gg c)) ∧ Ext w2 w')) (by kernel_rfl) ?_ (fun hHeld => ?_)
            · exact keepB HS0.out (Ext.drew (Ext.refl _))
            refine wpAnyH_take (i := 0) (oi := { dst := some 24, op := Op.move (Operand.tmp 1), type := 4, pos := "l3_choices.go:123", after := #[], guard := none }) (v := ?_) rfl (by kernel_rfl) (by kernel_rfl) (by kernel_rfl) (fun _ _ _ h => h) (Or.inl ⟨by rfl, ?_⟩) (by assumption) ?_
            rotate_left
            · (intro w hSw; (try dsimp only at hSw); (go_simp <;> with_reducible rfl))
            try simp only [Act.put, List.setIfInBounds_toArray, List.set_cons_zero, List.set_cons_succ]
            refine wpAnyH_take (i := 1) (oi := { dst := some 25, op := Op.move (Operand.tmp 24), type := 4, pos := "l3_choices.go:123", after := #[{ on := 0, ground := Ground.data }], guard := none }) (v := ?_) rfl (by kernel_rfl) (by kernel_rfl) (by kernel_rfl) (fun _ _ _ h => h) (Or.inl ⟨by rfl, ?_⟩) (by assumption) ?_
            rotate_left
            · (intro w hSw; (try dsimp only at hSw); (go_simp <;> with_reducible rfl))
            try simp only [Act.put, List.setIfInBounds_toArray, List.set_cons_zero, List.set_cons_succ]
            refine wpAnyH_take (i := 2) (oi := { dst := some 26, op := Op.move (Operand.tmp 6), type := 27, pos := "l3_choices.go:123", after := #[{ on := 1, ground := Ground.guard }], guard := some (1, true) }) (v := undef) rfl (by kernel_rfl) (by kernel_rfl) (by kernel_rfl) (fun _ _ _ h => h) (Or.inr ⟨by rfl, rfl⟩) (by assumption) ?_
            try simp only [Act.put, List.setIfInBounds_toArray, List.set_cons_zero, List.set_cons_succ]
            refine wpAnyH_take (i := 3) (oi := { dst := some 27, op := Op.move (Operand.tmp 9), type := 3, pos := "l3_choices.go:123", after := #[{ on := 1, ground := Ground.guard }], guard := some (1, true) }) (v := undef) rfl (by kernel_rfl) (by kernel_rfl) (by kernel_rfl) (fun _ _ _ h => h) (Or.inr ⟨by rfl, rfl⟩) (by assumption) ?_
            try simp only [Act.put, List.setIfInBounds_toArray, List.set_cons_zero, List.set_cons_succ]
            refine wpAnyH_take (i := 4) (oi := { dst := some 28, op := Op.indexAddr 27 (Operand.tmp 26) (Operand.tmp 27), type := 0, pos := "l3_choices.go:123", after := #[{ on := 2, ground := Ground.data }, { on := 3, ground := Ground.data }, { on := 1, ground := Ground.guard }], guard := some (1, true) }) (v := undef) rfl (by kernel_rfl) (by kernel_rfl) (by kernel_rfl) (fun _ _ _ h => h) (Or.inr ⟨by rfl, rfl⟩) (by assumption) ?_
            try simp only [Act.put, List.setIfInBounds_toArray, List.set_cons_zero, List.set_cons_succ]
            refine wpAnyH_take (i := 5) (oi := { dst := some 29, op := Op.load 33 (Operand.tmp 28), type := 33, pos := "l3_choices.go:123", after := #[{ on := 4, ground := Ground.data }, { on := 1, ground := Ground.guard }], guard := some (1, true) }) (v := undef) rfl (by kernel_rfl) (by kernel_rfl) (by kernel_rfl) (fun _ _ _ h => h) (Or.inr ⟨by rfl, rfl⟩) (by assumption) ?_
            try simp only [Act.put, List.setIfInBounds_toArray, List.set_cons_zero, List.set_cons_succ]
            refine wpAnyH_take (i := 6) (oi := { dst := some 30, op := Op.call { callee := Callee.builtin Builtin.len, args := #[Operand.tmp 29], argTypes := #[33] }, type := 3, pos := "l3_choices.go:123", after := #[{ on := 5, ground := Ground.data }, { on := 1, ground := Ground.guard }], guard := some (1, true) }) (v := undef) rfl (by kernel_rfl) (by kernel_rfl) (by kernel_rfl) (fun _ _ _ h => h) (Or.inr ⟨by rfl, rfl⟩) (by assumption) ?_
            try simp only [Act.put, List.setIfInBounds_toArray, List.set_cons_zero, List.set_cons_succ]
            refine wpAnyH_take (i := 7) (oi := { dst := some 31, op := Op.move (Operand.tmp 6), type := 27, pos := "l3_choices.go:123", after := #[{ on := 1, ground := Ground.guard }], guard := some (1, true) }) (v := undef) rfl (by kernel_rfl) (by kernel_rfl) (by kernel_rfl) (fun _ _ _ h => h) (Or.inr ⟨by rfl, rfl⟩) (by assumption) ?_
            try simp only [Act.put, List.setIfInBounds_toArray, List.set_cons_zero, List.set_cons_succ]
            refine wpAnyH_take (i := 8) (oi := { dst := some 32, op := Op.move (Operand.tmp 8), type := 3, pos := "l3_choices.go:123", after := #[{ on := 1, ground := Ground.guard }], guard := some (1, true) }) (v := undef) rfl (by kernel_rfl) (by kernel_rfl) (by kernel_rfl) (fun _ _ _ h => h) (Or.inr ⟨by rfl, rfl⟩) (by assumption) ?_
            try simp only [Act.put, List.setIfInBounds_toArray, List.set_cons_zero, List.set_cons_succ]
            refine wpAnyH_take (i := 9) (oi := { dst := some 33, op := Op.indexAddr 27 (Operand.tmp 31) (Operand.tmp 32), type := 0, pos := "l3_choices.go:123", after := #[{ on := 7, ground := Ground.data }, { on := 8, ground := Ground.data }, { on := 1, ground := Ground.guard }], guard := some (1, true) }) (v := undef) rfl (by kernel_rfl) (by kernel_rfl) (by kernel_rfl) (fun _ _ _ h => h) (Or.inr ⟨by rfl, rfl⟩) (by assumption) ?_
            try simp only [Act.put, List.setIfInBounds_toArray, List.set_cons_zero, List.set_cons_succ]
            refine wpAnyH_take (i := 10) (oi := { dst := some 34, op := Op.load 33 (Operand.tmp 33), type := 33, pos := "l3_choices.go:123", after := #[{ on := 9, ground := Ground.data }, { on := 1, ground := Ground.guard }], guard := some (1, true) }) (v := undef) rfl (by kernel_rfl) (by kernel_rfl) (by kernel_rfl) (fun _ _ _ h => h) (Or.inr ⟨by rfl, rfl⟩) (by assumption) ?_
            try simp only [Act.put, List.setIfInBounds_toArray, List.set_cons_zero, List.set_cons_succ]
            refine wpAnyH_take (i := 11) (oi := { dst := some 35, op := Op.call { callee := Callee.builtin Builtin.len, args := #[Operand.tmp 34], argTypes := #[33] }, type := 3, pos := "l3_choices.go:123", after := #[{ on := 10, ground := Ground.data }, { on := 1, ground := Ground.guard }], guard := some (1, true) }) (v := undef) rfl (by kernel_rfl) (by kernel_rfl) (by kernel_rfl) (fun _ _ _ h => h) (Or.inr ⟨by rfl, rfl⟩) (by assumption) ?_
            try simp only [Act.put, List.setIfInBounds_toArray, List.set_cons_zero, List.set_cons_succ]
            refine wpAnyH_take (i := 12) (oi := { dst := some 36, op := Op.binOp BinOp.lss 3 (Operand.tmp 30) (Operand.tmp 35) 3, type := 4, pos := "l3_choices.go:123", after := #[{ on := 6, ground := Ground.data }, { on := 11, ground := Ground.data }, { on := 1, ground := Ground.guard }], guard := some (1, true) }) (v := undef) rfl (by kernel_rfl) (by kernel_rfl) (by kernel_rfl) (fun _ _ _ h => h) (Or.inr ⟨by rfl, rfl⟩) (by assumption) ?_
            try simp only [Act.put, List.setIfInBounds_toArray, List.set_cons_zero, List.set_cons_succ]
            refine wpAnyH_take (i := 13) (oi := { dst := some 37, op := Op.pick (Operand.tmp 25) (Operand.tmp 36) (Operand.const (Value.bool false)), type := 4, pos := "l3_choices.go:123", after := #[{ on := 1, ground := Ground.data }, { on := 12, ground := Ground.data }], guard := none }) (v := ?_) rfl (by kernel_rfl) (by kernel_rfl) (by kernel_rfl) (fun _ _ _ h => h) (Or.inl ⟨by rfl, ?_⟩) (by assumption) ?_
            rotate_left
            · (intro w hSw; (try dsimp only at hSw); (go_simp <;> with_reducible rfl))
            try simp only [Act.put, List.setIfInBounds_toArray, List.set_cons_zero, List.set_cons_succ]
            refine wpAnyH_take (i := 14) (oi := { dst := some 38, op := Op.move (Operand.tmp 37), type := 4, pos := "l3_choices.go:123", after := #[{ on := 13, ground := Ground.data }, { on := 1, ground := Ground.chain }], guard := none }) (v := ?_) rfl (by kernel_rfl) (by kernel_rfl) (by kernel_rfl) (fun _ _ _ h => h) (Or.inl ⟨by rfl, ?_⟩) (by assumption) ?_
            rotate_left
            · (intro w hSw; (try dsimp only at hSw); (go_simp <;> with_reducible rfl))
            try simp only [Act.put, List.setIfInBounds_toArray, List.set_cons_zero, List.set_cons_succ]
            refine wpAnyH_take (i := 15) (oi := { dst := some 39, op := Op.move (Operand.tmp 1), type := 4, pos := "l3_choices.go:123", after := #[{ on := 14, ground := Ground.guard }], guard := some (14, false) }) (v := ?_) rfl (by kernel_rfl) (by kernel_rfl) (by kernel_rfl) (fun _ _ _ h => h) (Or.inl ⟨by rfl, ?_⟩) (by assumption) ?_
            rotate_left
            · (intro w hSw; (try dsimp only at hSw); (go_simp <;> with_reducible rfl))
            try simp only [Act.put, List.setIfInBounds_toArray, List.set_cons_zero, List.set_cons_succ]
            refine wpAnyH_take (i := 16) (oi := { dst := some 40, op := Op.unOp UnOp.not 4 (Operand.tmp 39), type := 4, pos := "l3_choices.go:123", after := #[{ on := 15, ground := Ground.data }, { on := 14, ground := Ground.guard }], guard := some (14, false) }) (v := ?_) rfl (by kernel_rfl) (by kernel_rfl) (by kernel_rfl) (fun _ _ _ h => h) (Or.inl ⟨by rfl, ?_⟩) (by assumption) ?_
            rotate_left
            · (intro w hSw; (try dsimp only at hSw); (go_simp <;> with_reducible rfl))
            try simp only [Act.put, List.setIfInBounds_toArray, List.set_cons_zero, List.set_cons_succ]
            refine wpAnyH_take (i := 17) (oi := { dst := some 41, op := Op.move (Operand.tmp 40), type := 4, pos := "l3_choices.go:123", after := #[{ on := 16, ground := Ground.data }, { on := 14, ground := Ground.chain }, { on := 14, ground := Ground.guard }], guard := some (14, false) }) (v := ?_) rfl (by kernel_rfl) (by kernel_rfl) (by kernel_rfl) (fun _ _ _ h => h) (Or.inl ⟨by rfl, ?_⟩) (by assumption) ?_
            rotate_left
            · (intro w hSw; (try dsimp only at hSw); (go_simp <;> with_reducible rfl))
            try simp only [Act.put, List.setIfInBounds_toArray, List.set_cons_zero, List.set_cons_succ]
            refine wpAnyH_take (i := 18) (oi := { dst := some 42, op := Op.move (Operand.tmp 6), type := 27, pos := "l3_choices.go:123", after := #[{ on := 17, ground := Ground.guard }], guard := some (17, true) }) (v := ?_) rfl (by kernel_rfl) (by kernel_rfl) (by kernel_rfl) (fun _ _ _ h => h) (Or.inl ⟨by rfl, ?_⟩) (by assumption) ?_
            rotate_left
            · (intro w hSw; (try dsimp only at hSw); (go_simp <;> with_reducible rfl))
            try simp only [Act.put, List.setIfInBounds_toArray, List.set_cons_zero, List.set_cons_succ]
            refine wpAnyH_take (i := 19) (oi := { dst := some 43, op := Op.move (Operand.tmp 9), type := 3, pos := "l3_choices.go:123", after := #[{ on := 17, ground := Ground.guard }], guard := some (17, true) }) (v := ?_) rfl (by kernel_rfl) (by kernel_rfl) (by kernel_rfl) (fun _ _ _ h => h) (Or.inl ⟨by rfl, ?_⟩) (by assumption) ?_
            rotate_left
            · (intro w hSw; (try dsimp only at hSw); (go_simp <;> with_reducible rfl))
            try simp only [Act.put, List.setIfInBounds_toArray, List.set_cons_zero, List.set_cons_succ]
            refine wpAnyH_take (i := 20) (oi := { dst := some 44, op := Op.indexAddr 27 (Operand.tmp 42) (Operand.tmp 43), type := 0, pos := "l3_choices.go:123", after := #[{ on := 18, ground := Ground.data }, { on := 19, ground := Ground.data }, { on := 17, ground := Ground.guard }], guard := some (17, true) }) (v := ?_) rfl (by kernel_rfl) (by kernel_rfl) (by kernel_rfl) (fun _ _ _ h => h) (Or.inl ⟨by rfl, ?_⟩) (by assumption) ?_
            rotate_left
            · (intro w hSw; (try dsimp only at hSw); (go_simp <;> with_reducible rfl))
            try simp only [Act.put, List.setIfInBounds_toArray, List.set_cons_zero, List.set_cons_succ]
            refine wpAnyH_take (i := 21) (oi := { dst := some 45, op := Op.load 33 (Operand.tmp 44), type := 33, pos := "l3_choices.go:123", after := #[{ on := 20, ground := Ground.data }, { on := 17, ground := Ground.guard }], guard := some (17, true) }) (v := ?_) rfl (by kernel_rfl) (by kernel_rfl) (by kernel_rfl) (fun _ _ _ h => h) (Or.inl ⟨by rfl, ?_⟩) (by assumption) ?_
            rotate_left
            · (intro w hSw; (try dsimp only at hSw); (go_simp <;> with_reducible rfl))
            try simp only [Act.put, List.setIfInBounds_toArray, List.set_cons_zero, List.set_cons_succ]
            refine wpAnyH_take (i := 23) (oi := { dst := some 47, op := Op.move (Operand.tmp 6), type := 27, pos := "l3_choices.go:123", after := #[{ on := 17, ground := Ground.guard }], guard := some (17, true) }) (v := ?_) rfl (by kernel_rfl) (by kernel_rfl) (by kernel_rfl) (fun _ _ _ h => h) (Or.inl ⟨by rfl, ?_⟩) (by assumption) ?_
            rotate_left
            · (intro w hSw; (try dsimp only at hSw); (go_simp <;> with_reducible rfl))
            try simp only [Act.put, List.setIfInBounds_toArray, List.set_cons_zero, List.set_cons_succ]
            refine wpAnyH_take (i := 24) (oi := { dst := some 48, op := Op.move (Operand.tmp 8), type := 3, pos := "l3_choices.go:123", after := #[{ on := 17, ground := Ground.guard }], guard := some (17, true) }) (v := ?_) rfl (by kernel_rfl) (by kernel_rfl) (by kernel_rfl) (fun _ _ _ h => h) (Or.inl ⟨by rfl, ?_⟩) (by assumption) ?_
            rotate_left
            · (intro w hSw; (try dsimp only at hSw); (go_simp <;> with_reducible rfl))
            try simp only [Act.put, List.setIfInBounds_toArray, List.set_cons_zero, List.set_cons_succ]
            refine wpAnyH_take (i := 25) (oi := { dst := some 49, op := Op.indexAddr 27 (Operand.tmp 47) (Operand.tmp 48), type := 0, pos := "l3_choices.go:123", after := #[{ on := 23, ground := Ground.data }, { on := 24, ground := Ground.data }, { on := 17, ground := Ground.guard }], guard := some (17, true) }) (v := ?_) rfl (by kernel_rfl) (by kernel_rfl) (by kernel_rfl) (fun _ _ _ h => h) (Or.inl ⟨by rfl, ?_⟩) (by assumption) ?_
            rotate_left
            · (intro w hSw; (try dsimp only at hSw); (go_simp <;> with_reducible rfl))
            try simp only [Act.put, List.setIfInBounds_toArray, List.set_cons_zero, List.set_cons_succ]
            refine wpAnyH_take (i := 26) (oi := { dst := some 50, op := Op.load 33 (Operand.tmp 49), type := 33, pos := "l3_choices.go:123", after := #[{ on := 25, ground := Ground.data }, { on := 17, ground := Ground.guard }], guard := some (17, true) }) (v := ?_) rfl (by kernel_rfl) (by kernel_rfl) (by kernel_rfl) (fun _ _ _ h => h) (Or.inl ⟨by rfl, ?_⟩) (by assumption) ?_
            rotate_left
            · (intro w hSw; (try dsimp only at hSw); (go_simp <;> with_reducible rfl))
            try simp only [Act.put, List.setIfInBounds_toArray, List.set_cons_zero, List.set_cons_succ]
            refine wpAnyH_ready (rs := [22]) (by kernel_rfl) (by simp) ?_
            refine AllReadyH.cons (o := { dst := some 46, op := Op.call { callee := Callee.value (Operand.func 101), args := #[Operand.tmp 45], argTypes := #[33] }, type := 3, pos := "l3_choices.go:123", after := #[{ on := 21, ground := Ground.data }, { on := 17, ground := Ground.chain }, { on := 17, ground := Ground.guard }], guard := some (17, true) }) rfl (fun K hK => ?_) AllReadyH.nil
            go_simp
            go_at_call 101
            refine (HQ1.out _ hHeld.2.1.1).mono ?_
            rintro e3 w3 ⟨rfl, hb3⟩
            have K3 := Lib.hid (keepB hHeld hb3)
            clear hb3
            try go_wp2_with fail
            refine hK.out _ _ ?_ (fun hHeld22 => ?_)
            · exact K3.out
            clear hK K hHeld
            try simp only [Act.put, List.setIfInBounds_toArray, List.set_cons_zero, List.set_cons_succ]
            refine wpAnyH_ready (rs := [27]) (by kernel_rfl) (by simp) ?_
            refine AllReadyH.cons (o := { dst := some 51, op := Op.call { callee := Callee.value (Operand.func 101), args := #[Operand.tmp 50], argTypes := #[33] }, type := 3, pos := "l3_choices.go:123", after := #[{ on := 26, ground := Ground.data }, { on := 22, ground := Ground.chain }, { on := 17, ground := Ground.guard }], guard := some (17, true) }) rfl (fun K hK => ?_) AllReadyH.nil
            go_simp
            go_at_call 101
            refine (HQ2.out _ hHeld22.2.1.2).mono ?_
            rintro e4 w4 ⟨rfl, hb4⟩
            have K4 := Lib.hid (keepB hHeld22 hb4)
            clear hb4
            try go_wp2_with fail
            refine hK.out _ _ ?_ (fun hHeld27 => ?_)
            · exact K4.out
            clear hK K hHeld22
            try simp only [Act.put, List.setIfInBounds_toArray, List.set_cons_zero, List.set_cons_succ]
            refine wpAnyH_take (i := 28) (oi := { dst := some 52, op := Op.binOp BinOp.lss 3 (Operand.tmp 46) (Operand.tmp 51) 3, type := 4, pos := "l3_choices.go:123", after := #[{ on := 22, ground := Ground.data }, { on := 27, ground := Ground.data }, { on := 17, ground := Ground.guard }], guard := some (17, true) }) (v := ?_) rfl (by kernel_rfl) (by kernel_rfl) (by kernel_rfl) (fun _ _ _ h => h) (Or.inl ⟨by rfl, ?_⟩) (by assumption) ?_
            rotate_left
            · (intro w hSw; (try dsimp only at hSw); (go_simp <;> with_reducible rfl))
            try simp only [Act.put, List.setIfInBounds_toArray, List.set_cons_zero, List.set_cons_succ]
            refine wpAnyH_take (i := 29) (oi := { dst := some 53, op := Op.pick (Operand.tmp 41) (Operand.tmp 52) (Operand.const (Value.bool false)), type := 4, pos := "l3_choices.go:123", after := #[{ on := 17, ground := Ground.data }, { on := 28, ground := Ground.data }, { on := 14, ground := Ground.guard }], guard := some (14, false) }) (v := ?_) rfl (by kernel_rfl) (by kernel_rfl) (by kernel_rfl) (fun _ _ _ h => h) (Or.inl ⟨by rfl, ?_⟩) (by assumption) ?_
            rotate_left
            · (intro w hSw; (try dsimp only at hSw); (go_simp <;> with_reducible rfl))
            try simp only [Act.put, List.setIfInBounds_toArray, List.set_cons_zero, List.set_cons_succ]
            refine wpAnyH_take (i := 30) (oi := { dst := some 54, op := Op.pick (Operand.tmp 38) (Operand.const (Value.bool true)) (Operand.tmp 53), type := 4, pos := "l3_choices.go:123", after := #[{ on := 14, ground := Ground.data }, { on := 29, ground := Ground.data }], guard := none }) (v := ?_) rfl (by kernel_rfl) (by kernel_rfl) (by kernel_rfl) (fun _ _ _ h => h) (Or.inl ⟨by rfl, ?_⟩) (by assumption) ?_
            rotate_left
            · (intro w hSw; (try dsimp only at hSw); (go_simp <;> with_reducible rfl))
            try simp only [Act.put, List.setIfInBounds_toArray, List.set_cons_zero, List.set_cons_succ]
            refine wpAnyH_done (by kernel_rfl) ?_ _
            go_wp2_with fail
            go_roundw
            case rel => exact ⟨j + 1, c, by omega, by omega, by omega, by go_num, rfl, Lib.hid ⟨hcl, HR.out.symm⟩, K4.out.2.2⟩
            case measure => simp [intOf]; omega
      · obtain rfl : j = M := by omega
        have htk : ls.take j = ls := List.take_of_length_le (by have := HM.out; omega)
        rw [htk] at hce
        obtain ⟨⟨x1, x2⟩, x3⟩ := HL.out wr hW c hcl
        have hfr := HFR.out wr hW c hcl
        have HR := Lib.hid (And.intro x2 (And.intro x3 (And.intro hfr (HB.out.trans hW))))
        rw [hce] at HR x1
        have hnl : ¬ (j < ls.length) := by have := HM.out; omega
        clear x2 x3 hfr hW HBEST hce
        go_wp2_with fail
        go_ret2
        exact ⟨AA c, CC c, gg c, rfl, HR.out.1, HR.out.2.1, HR.out.2.2.1, HR.out.2.2.2⟩

set_option maxRecDepth 100000 in
theorem specNarrowest (hs : SubAt w a k fs) (hfs : ∀ c ∈ fs, c < w.heap.size) (hc : k.len ≤ cap) (hsz : t.size + k.size ≤ 2000000) (hft : k.Fits) (ht : t.size ≤ maxLen) :
    Calls Try.prog 30 #[.agg #[.int .i64 o, .int .i64 n, .string t, .slice a k.len cap]] w (LayRes w (bestR false o n t k)) := by
  have B1 := Lib.hid (show ∀ ob, Ext w (w.alloc ob) from fun ob => (Ext.refl w).alloc _)
  have HS := Lib.hid (fun (w1 : World) (hw1 : Ext w w1) => l3Best w1 o n t k a cap fs false (hs.below hfs hw1) (fun c hc => Nat.lt_of_lt_of_le (hfs c hc) hw1.size) hc hsz hft ht)
  obtain ⟨R, hR⟩ : ∃ R, bestR false o n t k = R := ⟨_, rfl⟩
  rw [hR] at HS ⊢
  clear hs hfs hR
  go_enter Try.func30, Try.ntmps30
  go_wp2_with fail
  refine (HS.out _ (B1.out _)).mono ?_
  rintro e2 w2 ⟨a2, c2, f2, rfl, hc2, hs2, hf2, hb2⟩
  have H2 := Lib.hid (show LayRes w R (.returned (.tuple #[.slice a2 R.1.length c2, .bool R.2])) w2 from ⟨a2, c2, f2, rfl, hc2, hs2, hf2.mono (by simp), (B1.out _).trans hb2⟩)
  clear hc2 hs2 hf2 hb2
  go_wp2_with fail
  go_ret2
  exact H2.out

set_option maxRecDepth 100000 in
theorem specShortest (hs : SubAt w a k fs) (hfs : ∀ c ∈ fs, c < w.heap.size) (hc : k.len ≤ cap) (hsz : t.size + k.size ≤ 2000000) (hft : k.Fits) (ht : t.size ≤ maxLen) :
    Calls Try.prog 32 #[.agg #[.int .i64 o, .int .i64 n, .string t, .slice a k.len cap]] w (LayRes w (bestR true o n t k)) := by
  have B1 := Lib.hid (show ∀ ob, Ext w (w.alloc ob) from fun ob => (Ext.refl w).alloc _)
  have HS := Lib.hid (fun (w1 : World) (hw1 : Ext w w1) => l3Best w1 o n t k a cap fs true (hs.below hfs hw1) (fun c hc => Nat.lt_of_lt_of_le (hfs c hc) hw1.size) hc hsz hft ht)
  obtain ⟨R, hR⟩ : ∃ R, bestR true o n t k = R := ⟨_, rfl⟩
  rw [hR] at HS ⊢
  clear hs hfs hR
  go_enter Try.func32, Try.ntmps32
  go_wp2_with fail
  refine (HS.out _ (B1.out _)).mono ?_
  rintro e2 w2 ⟨a2, c2, f2, rfl, hc2, hs2, hf2, hb2⟩
  have H2 := Lib.hid (show LayRes w R (.returned (.tuple #[.slice a2 R.1.length c2, .bool R.2])) w2 from ⟨a2, c2, f2, rfl, hc2, hs2, hf2.mono (by simp), (B1.out _).trans hb2⟩)
  clear hc2 hs2 hf2 hb2
  go_wp2_with fail
  go_ret2
  exact H2.out
end

end Go.Proofs.Ytpiaiandjnpdfaa.It


import Derived.Test.YtgkbagcgbfgllaaDrM
import Derived.Test.YtgkbagcgbfgllaaDocV
import Derived.Test.YtgkbagcgbfgllaaDocF2
import Derived.Test.YtgkbagcgbfgllaaDrZ
import Derived.Test.YtgkbagcgbfgllaaFacts
import Derived.Test.YtgkbagcgbfgllaaRows
import Derived.Deep.RegionHeld3
import Derived.Deep.DeepCutAuto
import Derived.Deep.RegionWith
/-
  Widths of change are all: the law FnWidthsOf returns true for whatever draws, and its argument reads as it did. No condition of ours.
-/
set_option linter.unusedVariables false
set_option linter.unusedSimpArgs false
namespace Go.Proofs.Ytgkbagcgbfgllaa.lawWidthsOf
open Go.ChangeShapes Go.WideShapes Go.ChangeAt Go.RowKit P1 Draw6 LawC CntC DocK OpenR LayN ChP 

set_option maxRecDepth 100000 in
set_option maxHeartbeats 6400000 in
theorem walk_good (w : World) (a0 : Option Addr) (len0 cap0 : Nat) (hb0 : Bytes w a0 len0) (hlc0 : len0 ≤ cap0) (hcm0 : cap0 ≤ maxLen) (hl0 : len0 ≤ 1048576) :
    Calls Try.prog 5 #[.slice a0 len0 cap0] w fun e w' => e = .returned (.bool true) ∧ Ext w w' := by
  have HD0 := Lib.hid (DrR.drawWidthsOf w a0 len0 cap0 hb0 hlc0 hcm0)
  clear hb0
  unfold maxLen at hcm0
  go_enter Try.func5, Try.ntmps5
  go_wp2_with fail
  refine HD0.out.mono ?_
  rintro e1 w1 ⟨o, n, t, k, a, cap, fs, rfl, hc, hsz, hsub, hfr, hb1⟩
  have D1 := Lib.hid (show DocK.Doc0 w1 n t k a cap fs from ⟨hsub, fun c hc => (hfr.2 c hc).2, hc, by omega⟩)
  have E1 := Lib.hid (show Ext w w1 from hb1)
  have hkl : k.len ≤ 100000 := D1.out.len
  clear hsub hfr hb1
  obtain ⟨⟨X, V⟩, hr⟩ : ∃ r, RnV.wdR o n t k = r := ⟨_, rfl⟩
  have hX : X.length ≤ 1048576 := by have h := RnV.wd_len o n t k; rw [hr] at h; exact h
  have HWD := Lib.hid (show V = true → validD o n t k = true ∧ X = (Rn.wdL (RnV.lyW o n t k) 200).map (fun x : Nat => (x : Int)) from fun h1 => by
    subst h1
    cases hv : validD o n t k with
    | false => rw [RnV.wdR_no hv] at hr; injection hr with _ h; cases h
    | true => rw [RnV.wdR_yes hv] at hr; injection hr with h _; exact ⟨rfl, h.symm⟩)
  have HRW := Lib.hid (show ∀ (v : Nat), V = true → v ≤ 200 → ∀ W : World, Ext w1 W → Calls Try.prog 15 #[.agg #[.int .i64 o, .int .i64 n, .string t, .slice a k.len cap], .int .i64 (v : Int)] W (DocO.Out W (RnV.lyW o n t k v) true) from fun v h1 h2 W e => by
    have h := DocR.implRender (D1.out.ext e) o (v : Int)
    have hv := (HWD.out h1).1
    rw [RnR.rnR_yes (by simp [Rn.rightD, hv]; omega)] at h
    exact h)
  have HXI := Lib.hid (show ∀ W : World, Ext w1 W → Calls Try.prog 24 #[.agg #[.int .i64 o, .int .i64 n, .string t, .slice a k.len cap]] W (DocR.IOut W X V) from fun W e => by have h := DocR.implWidths (D1.out.ext e) o; rw [hr] at h; exact h)
  have HXS := Lib.hid (show ∀ W : World, Ext w1 W → Calls Try.prog 25 #[.agg #[.int .i64 o, .int .i64 n, .string t, .slice a k.len cap]] W (DocR.IOut W X V) from fun W e => by have h := DocR.specWidths (D1.out.ext e) o; rw [hr] at h; exact h)
  clear hc hsz hr
  go_wp2_with fail
  refine (HXI.out _ ((Ext.refl w1).alloc _)).mono ?_
  rintro e2 w2 ⟨pa, ca, rfl, hlay, hb⟩
  have X2 := Lib.hid (box4 (box_new w1 _ _ _ _ _) (by simp) hb)
  have E2 := Lib.hid (((Ext.refl w1).alloc _).trans hb)
  have L2 := Lib.hid (show w1.heap.size < w2.heap.size from by have := hb.size; simp at this; omega)
  try clear x0 x1 x2 x3 l
  have Ka := Lib.hid hlay
  clear hlay
  clear hb
  obtain ⟨x0, x1, x2, x3⟩ := X2.out
  have l := L2.out
  go_wp2_with fail
  refine (HXS.out _ E2.out).mono ?_
  rintro e3 w3 ⟨pb, cb, rfl, hlay, hb⟩
  have X3 := Lib.hid (box4 X2.out L2.out hb)
  have E3 := Lib.hid (E2.out.trans hb)
  have L3 := Lib.hid (Nat.lt_of_lt_of_le L2.out hb.size)
  try clear x0 x1 x2 x3 l
  replace Ka := Lib.hid (Ka.out.ext hb)
  have Kb := Lib.hid hlay
  clear hlay
  clear hb
  obtain ⟨x0, x1, x2, x3⟩ := X3.out
  have l := L3.out
  cases V with
  | false =>
    go_wp2_with fail
    refine (DocR.daInts Ka.out Kb.out).mono ?_
    rintro e4 w4 ⟨rfl, hb⟩
    have X4 := Lib.hid (box4 X3.out L3.out hb)
    have E4 := Lib.hid (E3.out.trans hb)
    have L4 := Lib.hid (Nat.lt_of_lt_of_le L3.out hb.size)
    try clear x0 x1 x2 x3 l
    replace Ka := Lib.hid (Ka.out.ext hb)
    replace Kb := Lib.hid (Kb.out.ext hb)
    clear hb
    obtain ⟨x0, x1, x2, x3⟩ := X4.out
    have l := L4.out
    go_wp2_with fail
    refine (DocR.daInts Ka.out Kb.out).mono ?_
    rintro e5 w5 ⟨rfl, hb⟩
    have X5 := Lib.hid (box4 X4.out L4.out hb)
    have E5 := Lib.hid (E4.out.trans hb)
    have L5 := Lib.hid (Nat.lt_of_lt_of_le L4.out hb.size)
    try clear x0 x1 x2 x3 l
    replace Ka := Lib.hid (Ka.out.ext hb)
    replace Kb := Lib.hid (Kb.out.ext hb)
    clear hb
    obtain ⟨x0, x1, x2, x3⟩ := X5.out
    have l := L5.out
    go_wp2_with fail
    go_ret
    exact ⟨by first | rfl | simp, E1.out.trans E5.out⟩
  | true =>
    go_wp2_with fail
    refine (DocR.daInts Ka.out Kb.out).mono ?_
    rintro e4 w4 ⟨rfl, hb⟩
    have X4 := Lib.hid (box4 X3.out L3.out hb)
    have E4 := Lib.hid (E3.out.trans hb)
    have L4 := Lib.hid (Nat.lt_of_lt_of_le L3.out hb.size)
    try clear x0 x1 x2 x3 l
    replace Ka := Lib.hid (Ka.out.ext hb)
    replace Kb := Lib.hid (Kb.out.ext hb)
    clear hb
    obtain ⟨x0, x1, x2, x3⟩ := X4.out
    have l := L4.out
    obtain ⟨M, hM⟩ : ∃ M : Nat, X.length = M := ⟨_, rfl⟩
    have HM := Lib.hid hM
    rw [hM] at hX
    try rw [hM]
    clear hM
    go_wp2_with fail
    go_loopw [8] (fun i' wr => ∃ j : Nat, j ≤ M ∧ i' = .int .i64 (j : Int) ∧ Ext w4 wr) (fun i' _ => M - (intOf i').toNat)
    case atStart => exact ⟨0, by omega, rfl, Ext.refl _⟩
    case round =>
      obtain ⟨j, hj, rfl, hext⟩ := hrel
      obtain ⟨w20, hwm⟩ : ∃ W, W = wr := ⟨_, rfl⟩
      subst hwm
      have X20 := Lib.hid (box4 X4.out L4.out hext)
      have E20 := Lib.hid (E4.out.trans hext)
      have L20 := Lib.hid (Nat.lt_of_lt_of_le L4.out hext.size)
      have R := Lib.hid hext
      have RH := Lib.hid (Ext.refl w20)
      try clear x0 x1 x2 x3 l
      replace Ka := Lib.hid (Ka.out.ext hext)
      replace Kb := Lib.hid (Kb.out.ext hext)
      clear hext
      obtain ⟨x0, x1, x2, x3⟩ := X20.out
      have l := L20.out
      by_cases hjM : j < M
      · have hjl : j < X.length := by rw [HM.out]; exact hjM
        obtain ⟨bz, of, hae, hbz, hcell⟩ := Ka.out.get (k := j) (by simpa using hjl)
        subst hae
        rw [List.getElem_map] at hcell
        obtain ⟨u, hu, hu2, hne⟩ := DocR.wd_at (HWD.out (by first | rfl | trivial)).2 hjl
        rw [hu] at hcell
        have HU := Lib.hid (And.intro hu hne)
        have HCE := Lib.hid (fun (W : World) (e : Ext w20 W) => (e.cell hbz).trans hcell)
        have HBZ := Lib.hid hbz
        have HRA := Lib.hid (HRW.out u (by first | rfl | trivial) (by omega))
        have HRB := Lib.hid (HRW.out (u + 1) (by first | rfl | trivial) (by omega))
        simp only [Int.natCast_add, Int.cast_ofNat_Int] at HRB
        have i0 : (0 : Int) ≤ (j : Int) := Int.natCast_nonneg _
        have i1 : (j : Int) < (M : Int) := by omega
        clear hu hne hbz
        have hbz := HBZ.out
        have u5 : IntKind.i64.wrap (u : Int) = (u : Int) := by rw [IntKind.wrap_i64]; omega
        go_wp2_with fail
        refine wp_region_held_drew (S := (fun w' => w'.cell? ⟨bz, of + j, none⟩ = some (.int .i64 ((u : Int) + 1)) ∧ (w'.cell? ⟨w1.heap.size, 0, none⟩ = some (.int .i64 o) ∧ w'.cell? ⟨w1.heap.size, 1, none⟩ = some (.int .i64 n) ∧ w'.cell? ⟨w1.heap.size, 2, none⟩ = some (.string t) ∧ w'.cell? ⟨w1.heap.size, 3, none⟩ = some (.slice a k.len cap)))) (by kernel_rfl) ?_ (fun hHeld => ?_)
        · exact ⟨hcell, x0, x1, x2, x3⟩
        refine wpAnyH_take (i := 0) (oi := { dst := some 61, op := Op.load 25 (Operand.tmp 3), type := 25, pos := "laws.go:734", after := #[], guard := none }) (v := ?_) rfl (by kernel_rfl) (by kernel_rfl) (by kernel_rfl) (fun _ _ _ h => h) (Or.inl ⟨by rfl, ?_⟩) (by assumption) ?_
        rotate_left
        · (intro w hSw; (try dsimp only at hSw); (go_simp <;> with_reducible rfl))
        try simp only [Act.put, List.setIfInBounds_toArray, List.set_cons_zero, List.set_cons_succ]
        refine wpAnyH_take (i := 1) (oi := { dst := some 62, op := Op.move (Operand.tmp 4), type := 45, pos := "laws.go:734", after := #[], guard := none }) (v := ?_) rfl (by kernel_rfl) (by kernel_rfl) (by kernel_rfl) (fun _ _ _ h => h) (Or.inl ⟨by rfl, ?_⟩) (by assumption) ?_
        rotate_left
        · (intro w hSw; (try dsimp only at hSw); (go_simp <;> with_reducible rfl))
        try simp only [Act.put, List.setIfInBounds_toArray, List.set_cons_zero, List.set_cons_succ]
        refine wpAnyH_take (i := 2) (oi := { dst := some 63, op := Op.move (Operand.tmp 8), type := 3, pos := "laws.go:734", after := #[], guard := none }) (v := ?_) rfl (by kernel_rfl) (by kernel_rfl) (by kernel_rfl) (fun _ _ _ h => h) (Or.inl ⟨by rfl, ?_⟩) (by assumption) ?_
        rotate_left
        · (intro w hSw; (try dsimp only at hSw); (go_simp <;> with_reducible rfl))
        try simp only [Act.put, List.setIfInBounds_toArray, List.set_cons_zero, List.set_cons_succ]
        refine wpAnyH_take (i := 3) (oi := { dst := some 64, op := Op.indexAddr 45 (Operand.tmp 62) (Operand.tmp 63), type := 0, pos := "laws.go:734", after := #[{ on := 1, ground := Ground.data }, { on := 2, ground := Ground.data }], guard := none }) (v := ?_) rfl (by kernel_rfl) (by kernel_rfl) (by kernel_rfl) (fun _ _ _ h => h) (Or.inl ⟨by rfl, ?_⟩) (by assumption) ?_
        rotate_left
        · (intro w hSw; (try dsimp only at hSw); (go_simp <;> with_reducible rfl))
        try simp only [Act.put, List.setIfInBounds_toArray, List.set_cons_zero, List.set_cons_succ]
        refine wpAnyH_take (i := 4) (oi := { dst := some 65, op := Op.load 3 (Operand.tmp 64), type := 3, pos := "laws.go:734", after := #[{ on := 3, ground := Ground.data }], guard := none }) (v := ?_) rfl (by kernel_rfl) (by kernel_rfl) (by kernel_rfl) (fun _ _ _ h => h) (Or.inl ⟨by rfl, ?_⟩) (by assumption) ?_
        rotate_left
        · (intro w hSw; (try dsimp only at hSw); (go_simp <;> with_reducible rfl))
        try simp only [Act.put, List.setIfInBounds_toArray, List.set_cons_zero, List.set_cons_succ]
        refine wpAnyH_take (i := 5) (oi := { dst := some 66, op := Op.binOp BinOp.sub 3 (Operand.tmp 65) (Operand.const (Value.int IntKind.i64 1)) 3, type := 3, pos := "laws.go:734", after := #[{ on := 4, ground := Ground.data }], guard := none }) (v := ?_) rfl (by kernel_rfl) (by kernel_rfl) (by kernel_rfl) (fun _ _ _ h => h) (Or.inl ⟨by rfl, ?_⟩) (by assumption) ?_
        rotate_left
        · (intro w hSw; (try dsimp only at hSw); (go_simp <;> with_reducible rfl))
        try simp only [Act.put, List.setIfInBounds_toArray, List.set_cons_zero, List.set_cons_succ]
        refine wpAnyH_ready (rs := [6]) (by kernel_rfl) (by simp) ?_
        refine AllReadyH.cons (o := { dst := some 67, op := Op.call { callee := Callee.value (Operand.func 15), args := #[Operand.tmp 61, Operand.tmp 66], argTypes := #[25, 3] }, type := 29, pos := "laws.go:734", after := #[{ on := 0, ground := Ground.data }, { on := 5, ground := Ground.data }], guard := none }) rfl (fun K hK => ?_) AllReadyH.nil
        go_simp
        go_at_call 15
        refine (HRA.out _ (by first | exact E20.out | exact E20.out.drew)).mono ?_
        rintro e21 w21 ⟨pc, cc, rfl, hlay, hb0⟩
        have hb : Ext w20 w21 := (Ext.refl w20).drew.trans hb0
        have X21 := Lib.hid (box4 X20.out L20.out hb)
        have E21 := Lib.hid (E20.out.trans hb)
        have L21 := Lib.hid (Nat.lt_of_lt_of_le L20.out hb.size)
        have HC21 := Lib.hid (And.intro (HCE.out _ (RH.out.trans hb)) X21.out)
        have HB21 := Lib.hid hb
        clear hb0 hb x0 x1 x2 x3 l hcell hbz
        try go_wp2_with fail
        refine hK.out _ _ ?_ (fun hHeld6 => ?_)
        · exact HC21.out
        clear hK K hHeld
        try simp only [Act.put, List.setIfInBounds_toArray, List.set_cons_zero, List.set_cons_succ]
        refine wpAnyH_take (i := 7) (oi := { dst := some 60, op := Op.move (Operand.tmp 67), type := 29, pos := "laws.go:734", after := #[{ on := 6, ground := Ground.data }], guard := none }) (v := ?_) rfl (by kernel_rfl) (by kernel_rfl) (by kernel_rfl) (fun _ _ _ h => h) (Or.inl ⟨by rfl, ?_⟩) (by assumption) ?_
        rotate_left
        · (intro w hSw; (try dsimp only at hSw); (go_simp <;> with_reducible rfl))
        try simp only [Act.put, List.setIfInBounds_toArray, List.set_cons_zero, List.set_cons_succ]
        refine wpAnyH_take (i := 8) (oi := { dst := some 68, op := Op.extract (Operand.tmp 60) 0, type := 28, pos := "laws.go:734", after := #[{ on := 7, ground := Ground.data }], guard := none }) (v := ?_) rfl (by kernel_rfl) (by kernel_rfl) (by kernel_rfl) (fun _ _ _ h => h) (Or.inl ⟨by rfl, ?_⟩) (by assumption) ?_
        rotate_left
        · (intro w hSw; (try dsimp only at hSw); (go_simp <;> with_reducible rfl))
        try simp only [Act.put, List.setIfInBounds_toArray, List.set_cons_zero, List.set_cons_succ]
        refine wpAnyH_take (i := 9) (oi := { dst := some 69, op := Op.extract (Operand.tmp 60) 1, type := 4, pos := "laws.go:734", after := #[{ on := 7, ground := Ground.data }, { on := 10, ground := Ground.gcOnly Departure.lateStores }], guard := none }) (v := ?_) rfl (by kernel_rfl) (by kernel_rfl) (by kernel_rfl) (fun _ _ _ h => h) (Or.inl ⟨by rfl, ?_⟩) (by assumption) ?_
        rotate_left
        · (intro w hSw; (try dsimp only at hSw); (go_simp <;> with_reducible rfl))
        try simp only [Act.put, List.setIfInBounds_toArray, List.set_cons_zero, List.set_cons_succ]
        refine wpAnyH_take (i := 10) (oi := { dst := some 9, op := Op.assign (Operand.tmp 68), type := 28, pos := "laws.go:734", after := #[{ on := 8, ground := Ground.data }, { on := 6, ground := Ground.chain }, { on := 0, ground := Ground.phase }, { on := 1, ground := Ground.phase }, { on := 2, ground := Ground.phase }, { on := 3, ground := Ground.phase }, { on := 4, ground := Ground.phase }, { on := 5, ground := Ground.phase }, { on := 6, ground := Ground.phase }, { on := 7, ground := Ground.phase }, { on := 8, ground := Ground.phase }, { on := 9, ground := Ground.textOnly Departure.lateStores }], guard := none }) (v := ?_) rfl (by kernel_rfl) (by kernel_rfl) (by kernel_rfl) (fun _ _ _ h => h) (Or.inl ⟨by rfl, ?_⟩) (by assumption) ?_
        rotate_left
        · (intro w hSw; (try dsimp only at hSw); (go_simp <;> with_reducible rfl))
        try simp only [Act.put, List.setIfInBounds_toArray, List.set_cons_zero, List.set_cons_succ]
        refine wpAnyH_take (i := 11) (oi := { dst := some 10, op := Op.assign (Operand.tmp 69), type := 4, pos := "laws.go:734", after := #[{ on := 9, ground := Ground.data }, { on := 10, ground := Ground.chain }, { on := 0, ground := Ground.phase }, { on := 1, ground := Ground.phase }, { on := 2, ground := Ground.phase }, { on := 3, ground := Ground.phase }, { on := 4, ground := Ground.phase }, { on := 5, ground := Ground.phase }, { on := 6, ground := Ground.phase }, { on := 7, ground := Ground.phase }, { on := 8, ground := Ground.phase }, { on := 9, ground := Ground.phase }, { on := 10, ground := Ground.phase }], guard := none }) (v := ?_) rfl (by kernel_rfl) (by kernel_rfl) (by kernel_rfl) (fun _ _ _ h => h) (Or.inl ⟨by rfl, ?_⟩) (by assumption) ?_
        rotate_left
        · (intro w hSw; (try dsimp only at hSw); (go_simp <;> with_reducible rfl))
        try simp only [Act.put, List.setIfInBounds_toArray, List.set_cons_zero, List.set_cons_succ]
        refine wpAnyH_done (by kernel_rfl) ?_ _
        replace Ka := Lib.hid (Ka.out.ext HB21.out)
        replace Kb := Lib.hid (Kb.out.ext HB21.out)
        replace R := Lib.hid (R.out.trans HB21.out)
        replace RH := Lib.hid (RH.out.trans HB21.out)
        have Kc := Lib.hid hlay
        clear hlay
        obtain ⟨x0, x1, x2, x3⟩ := X21.out
        have l := L21.out
        have hcell := HCE.out _ RH.out
        have hbz := Nat.lt_of_lt_of_le HBZ.out RH.out.size
        go_wp2_with fail
        refine wp_region_held_drew (S := (fun w' => w'.cell? ⟨bz, of + j, none⟩ = some (.int .i64 ((u : Int) + 1)) ∧ (w'.cell? ⟨w1.heap.size, 0, none⟩ = some (.int .i64 o) ∧ w'.cell? ⟨w1.heap.size, 1, none⟩ = some (.int .i64 n) ∧ w'.cell? ⟨w1.heap.size, 2, none⟩ = some (.string t) ∧ w'.cell? ⟨w1.heap.size, 3, none⟩ = some (.slice a k.len cap)))) (by kernel_rfl) ?_ (fun hHeld => ?_)
        · exact ⟨hcell, x0, x1, x2, x3⟩
        refine wpAnyH_take (i := 0) (oi := { dst := some 71, op := Op.load 25 (Operand.tmp 3), type := 25, pos := "laws.go:735", after := #[], guard := none }) (v := ?_) rfl (by kernel_rfl) (by kernel_rfl) (by kernel_rfl) (fun _ _ _ h => h) (Or.inl ⟨by rfl, ?_⟩) (by assumption) ?_
        rotate_left
        · (intro w hSw; (try dsimp only at hSw); (go_simp <;> with_reducible rfl))
        try simp only [Act.put, List.setIfInBounds_toArray, List.set_cons_zero, List.set_cons_succ]
        refine wpAnyH_take (i := 1) (oi := { dst := some 72, op := Op.move (Operand.tmp 4), type := 45, pos := "laws.go:735", after := #[], guard := none }) (v := ?_) rfl (by kernel_rfl) (by kernel_rfl) (by kernel_rfl) (fun _ _ _ h => h) (Or.inl ⟨by rfl, ?_⟩) (by assumption) ?_
        rotate_left
        · (intro w hSw; (try dsimp only at hSw); (go_simp <;> with_reducible rfl))
        try simp only [Act.put, List.setIfInBounds_toArray, List.set_cons_zero, List.set_cons_succ]
        refine wpAnyH_take (i := 2) (oi := { dst := some 73, op := Op.move (Operand.tmp 8), type := 3, pos := "laws.go:735", after := #[], guard := none }) (v := ?_) rfl (by kernel_rfl) (by kernel_rfl) (by kernel_rfl) (fun _ _ _ h => h) (Or.inl ⟨by rfl, ?_⟩) (by assumption) ?_
        rotate_left
        · (intro w hSw; (try dsimp only at hSw); (go_simp <;> with_reducible rfl))
        try simp only [Act.put, List.setIfInBounds_toArray, List.set_cons_zero, List.set_cons_succ]
        refine wpAnyH_take (i := 3) (oi := { dst := some 74, op := Op.indexAddr 45 (Operand.tmp 72) (Operand.tmp 73), type := 0, pos := "laws.go:735", after := #[{ on := 1, ground := Ground.data }, { on := 2, ground := Ground.data }], guard := none }) (v := ?_) rfl (by kernel_rfl) (by kernel_rfl) (by kernel_rfl) (fun _ _ _ h => h) (Or.inl ⟨by rfl, ?_⟩) (by assumption) ?_
        rotate_left
        · (intro w hSw; (try dsimp only at hSw); (go_simp <;> with_reducible rfl))
        try simp only [Act.put, List.setIfInBounds_toArray, List.set_cons_zero, List.set_cons_succ]
        refine wpAnyH_take (i := 4) (oi := { dst := some 75, op := Op.load 3 (Operand.tmp 74), type := 3, pos := "laws.go:735", after := #[{ on := 3, ground := Ground.data }], guard := none }) (v := ?_) rfl (by kernel_rfl) (by kernel_rfl) (by kernel_rfl) (fun _ _ _ h => h) (Or.inl ⟨by rfl, ?_⟩) (by assumption) ?_
        rotate_left
        · (intro w hSw; (try dsimp only at hSw); (go_simp <;> with_reducible rfl))
        try simp only [Act.put, List.setIfInBounds_toArray, List.set_cons_zero, List.set_cons_succ]
        refine wpAnyH_ready (rs := [5]) (by kernel_rfl) (by simp) ?_
        refine AllReadyH.cons (o := { dst := some 76, op := Op.call { callee := Callee.value (Operand.func 15), args := #[Operand.tmp 71, Operand.tmp 75], argTypes := #[25, 3] }, type := 29, pos := "laws.go:735", after := #[{ on := 0, ground := Ground.data }, { on := 4, ground := Ground.data }], guard := none }) rfl (fun K hK => ?_) AllReadyH.nil
        go_simp
        go_at_call 15
        refine (HRB.out _ (by first | exact E21.out | exact E21.out.drew)).mono ?_
        rintro e22 w22 ⟨pd, cd, rfl, hlay, hb0⟩
        have hb : Ext w21 w22 := (Ext.refl w21).drew.trans hb0
        have X22 := Lib.hid (box4 X21.out L21.out hb)
        have E22 := Lib.hid (E21.out.trans hb)
        have L22 := Lib.hid (Nat.lt_of_lt_of_le L21.out hb.size)
        have HC22 := Lib.hid (And.intro (HCE.out _ (RH.out.trans hb)) X22.out)
        have HB22 := Lib.hid hb
        clear hb0 hb x0 x1 x2 x3 l hcell hbz
        try go_wp2_with fail
        refine hK.out _ _ ?_ (fun hHeld5 => ?_)
        · exact HC22.out
        clear hK K hHeld
        try simp only [Act.put, List.setIfInBounds_toArray, List.set_cons_zero, List.set_cons_succ]
        refine wpAnyH_take (i := 6) (oi := { dst := some 70, op := Op.move (Operand.tmp 76), type := 29, pos := "laws.go:735", after := #[{ on := 5, ground := Ground.data }], guard := none }) (v := ?_) rfl (by kernel_rfl) (by kernel_rfl) (by kernel_rfl) (fun _ _ _ h => h) (Or.inl ⟨by rfl, ?_⟩) (by assumption) ?_
        rotate_left
        · (intro w hSw; (try dsimp only at hSw); (go_simp <;> with_reducible rfl))
        try simp only [Act.put, List.setIfInBounds_toArray, List.set_cons_zero, List.set_cons_succ]
        refine wpAnyH_take (i := 7) (oi := { dst := some 77, op := Op.extract (Operand.tmp 70) 0, type := 28, pos := "laws.go:735", after := #[{ on := 6, ground := Ground.data }], guard := none }) (v := ?_) rfl (by kernel_rfl) (by kernel_rfl) (by kernel_rfl) (fun _ _ _ h => h) (Or.inl ⟨by rfl, ?_⟩) (by assumption) ?_
        rotate_left
        · (intro w hSw; (try dsimp only at hSw); (go_simp <;> with_reducible rfl))
        try simp only [Act.put, List.setIfInBounds_toArray, List.set_cons_zero, List.set_cons_succ]
        refine wpAnyH_take (i := 8) (oi := { dst := some 78, op := Op.extract (Operand.tmp 70) 1, type := 4, pos := "laws.go:735", after := #[{ on := 6, ground := Ground.data }, { on := 9, ground := Ground.gcOnly Departure.lateStores }], guard := none }) (v := ?_) rfl (by kernel_rfl) (by kernel_rfl) (by kernel_rfl) (fun _ _ _ h => h) (Or.inl ⟨by rfl, ?_⟩) (by assumption) ?_
        rotate_left
        · (intro w hSw; (try dsimp only at hSw); (go_simp <;> with_reducible rfl))
        try simp only [Act.put, List.setIfInBounds_toArray, List.set_cons_zero, List.set_cons_succ]
        refine wpAnyH_take (i := 9) (oi := { dst := some 11, op := Op.assign (Operand.tmp 77), type := 28, pos := "laws.go:735", after := #[{ on := 7, ground := Ground.data }, { on := 5, ground := Ground.chain }, { on := 0, ground := Ground.phase }, { on := 1, ground := Ground.phase }, { on := 2, ground := Ground.phase }, { on := 3, ground := Ground.phase }, { on := 4, ground := Ground.phase }, { on := 5, ground := Ground.phase }, { on := 6, ground := Ground.phase }, { on := 7, ground := Ground.phase }, { on := 8, ground := Ground.textOnly Departure.lateStores }], guard := none }) (v := ?_) rfl (by kernel_rfl) (by kernel_rfl) (by kernel_rfl) (fun _ _ _ h => h) (Or.inl ⟨by rfl, ?_⟩) (by assumption) ?_
        rotate_left
        · (intro w hSw; (try dsimp only at hSw); (go_simp <;> with_reducible rfl))
        try simp only [Act.put, List.setIfInBounds_toArray, List.set_cons_zero, List.set_cons_succ]
        refine wpAnyH_take (i := 10) (oi := { dst := some 12, op := Op.assign (Operand.tmp 78), type := 4, pos := "laws.go:735", after := #[{ on := 8, ground := Ground.data }, { on := 9, ground := Ground.chain }, { on := 0, ground := Ground.phase }, { on := 1, ground := Ground.phase }, { on := 2, ground := Ground.phase }, { on := 3, ground := Ground.phase }, { on := 4, ground := Ground.phase }, { on := 5, ground := Ground.phase }, { on := 6, ground := Ground.phase }, { on := 7, ground := Ground.phase }, { on := 8, ground := Ground.phase }, { on := 9, ground := Ground.phase }], guard := none }) (v := ?_) rfl (by kernel_rfl) (by kernel_rfl) (by kernel_rfl) (fun _ _ _ h => h) (Or.inl ⟨by rfl, ?_⟩) (by assumption) ?_
        rotate_left
        · (intro w hSw; (try dsimp only at hSw); (go_simp <;> with_reducible rfl))
        try simp only [Act.put, List.setIfInBounds_toArray, List.set_cons_zero, List.set_cons_succ]
        refine wpAnyH_done (by kernel_rfl) ?_ _
        replace Ka := Lib.hid (Ka.out.ext HB22.out)
        replace Kb := Lib.hid (Kb.out.ext HB22.out)
        replace Kc := Lib.hid (Kc.out.ext HB22.out)
        replace R := Lib.hid (R.out.trans HB22.out)
        replace RH := Lib.hid (RH.out.trans HB22.out)
        have Kd := Lib.hid hlay
        clear hlay
        obtain ⟨x0, x1, x2, x3⟩ := X22.out
        have l := L22.out
        have hcell := HCE.out _ RH.out
        have hbz := Nat.lt_of_lt_of_le HBZ.out RH.out.size
        have HSB := Lib.hid (DocF2.sameB Kc.out Kd.out)
        rw [show decide (RnV.lyW o n t k u = RnV.lyW o n t k (u + 1)) = false from by rw [decide_eq_false_iff_not]; exact fun e => HU.out.2 e.symm] at HSB
        have HSD := Lib.hid (DocF2.sameB (Kc.out.ext (Ext.refl _).drew) (Kd.out.ext (Ext.refl _).drew))
        rw [show decide (RnV.lyW o n t k u = RnV.lyW o n t k (u + 1)) = false from by rw [decide_eq_false_iff_not]; exact fun e => HU.out.2 e.symm] at HSD
        have hcell := HCE.out _ RH.out
        have hbz := Nat.lt_of_lt_of_le HBZ.out RH.out.size
        by_cases hj0 : 0 < j
        · have hjp : j - 1 < X.length := by omega
          obtain ⟨bz', of', hae, hbz', hcell2⟩ := Ka.out.get (k := j - 1) (by simpa using hjp)
          have hlt := DocR.wd_lt (HWD.out (by first | rfl | trivial)).2 hjl hj0
          rw [HU.out.1] at hlt
          rw [List.getElem_map] at hcell2
          injection hae with hae
          injection hae with ha1 ha2
          subst ha1 ha2
          obtain ⟨v, hv⟩ : ∃ v, X[j - 1] = v := ⟨_, rfl⟩
          rw [hv] at hcell2 hlt
          obtain ⟨q, hq⟩ : ∃ q, j - 1 = q := ⟨_, rfl⟩
          obtain rfl : j = q + 1 := by omega
          rw [hq] at hcell2
          have q0 : (0 : Int) ≤ (q : Int) := Int.natCast_nonneg _
          have q1 : (q : Int) < (M : Int) := by omega
          have q2 : (0 : Int) < (q : Int) + 1 := by omega
          have q3 : (0 : Int) ≤ (q : Int) + 1 := by omega
          have q4 : (q : Int) + 1 < (M : Int) := by omega
          have q5 : IntKind.i64.wrap (q : Int) = (q : Int) := by rw [IntKind.wrap_i64]; omega
          have hvu : ¬ ((u : Int) + 1 ≤ v) := by omega
          clear hv hq hbz'
          have HC2 := Lib.hid (fun (W : World) (e : Ext w22 W) => (e.cell hbz).trans hcell2)
          go_wp2_with fail
          refine wp_region_held_drew (S := (fun w' => w'.cell? ⟨bz, of + (q + 1), none⟩ = some (.int .i64 ((u : Int) + 1)) ∧ w'.cell? ⟨bz, of + q, none⟩ = some (.int .i64 v))) (by kernel_rfl) ?_ (fun hHeld => ?_)
          · exact ⟨hcell, hcell2⟩
          refine wpAnyH_take (i := 0) (oi := { dst := some 79, op := Op.move (Operand.tmp 9), type := 28, pos := "laws.go:736", after := #[], guard := none }) (v := ?_) rfl (by kernel_rfl) (by kernel_rfl) (by kernel_rfl) (fun _ _ _ h => h) (Or.inl ⟨by rfl, ?_⟩) (by assumption) ?_
          rotate_left
          · (intro w hSw; (try dsimp only at hSw); (go_simp <;> with_reducible rfl))
          try simp only [Act.put, List.setIfInBounds_toArray, List.set_cons_zero, List.set_cons_succ]
          refine wpAnyH_take (i := 1) (oi := { dst := some 80, op := Op.move (Operand.tmp 11), type := 28, pos := "laws.go:736", after := #[], guard := none }) (v := ?_) rfl (by kernel_rfl) (by kernel_rfl) (by kernel_rfl) (fun _ _ _ h => h) (Or.inl ⟨by rfl, ?_⟩) (by assumption) ?_
          rotate_left
          · (intro w hSw; (try dsimp only at hSw); (go_simp <;> with_reducible rfl))
          try simp only [Act.put, List.setIfInBounds_toArray, List.set_cons_zero, List.set_cons_succ]
          refine wpAnyH_ready (rs := [2]) (by kernel_rfl) (by simp) ?_
          refine AllReadyH.cons (o := { dst := some 81, op := Op.call { callee := Callee.value (Operand.func 17), args := #[Operand.tmp 79, Operand.tmp 80], argTypes := #[28, 28] }, type := 4, pos := "laws.go:736", after := #[{ on := 0, ground := Ground.data }, { on := 1, ground := Ground.data }], guard := none }) rfl (fun K hK => ?_) AllReadyH.nil
          go_simp
          go_at_call 17
          refine HSD.out.mono ?_
          rintro e23 w23 ⟨rfl, hb⟩
          have B23 := Lib.hid (show Ext w22 w23 from (Ext.refl w22).drew.trans hb)
          clear hb hcell
          clear hcell2
          have hcell := HCE.out _ (RH.out.trans B23.out)
          have hcell2 := HC2.out _ B23.out
          have hbz3 := Nat.lt_of_lt_of_le HBZ.out (RH.out.trans B23.out).size
          try go_wp2_with fail
          refine hK.out _ _ ?_ (fun hHeld2 => ?_)
          · exact ⟨hcell, hcell2⟩
          clear hK K hHeld
          try simp only [Act.put, List.setIfInBounds_toArray, List.set_cons_zero, List.set_cons_succ]
          refine wpAnyH_take (i := 3) (oi := { dst := some 82, op := Op.move (Operand.tmp 81), type := 4, pos := "laws.go:736", after := #[{ on := 2, ground := Ground.data }, { on := 2, ground := Ground.chain }], guard := none }) (v := ?_) rfl (by kernel_rfl) (by kernel_rfl) (by kernel_rfl) (fun _ _ _ h => h) (Or.inl ⟨by rfl, ?_⟩) (by assumption) ?_
          rotate_left
          · (intro w hSw; (try dsimp only at hSw); (go_simp <;> with_reducible rfl))
          try simp only [Act.put, List.setIfInBounds_toArray, List.set_cons_zero, List.set_cons_succ]
          refine wpAnyH_take (i := 4) (oi := { dst := some 83, op := Op.move (Operand.tmp 8), type := 3, pos := "laws.go:736", after := #[{ on := 3, ground := Ground.guard }], guard := some (3, false) }) (v := ?_) rfl (by kernel_rfl) (by kernel_rfl) (by kernel_rfl) (fun _ _ _ h => h) (Or.inl ⟨by rfl, ?_⟩) (by assumption) ?_
          rotate_left
          · (intro w hSw; (try dsimp only at hSw); (go_simp <;> with_reducible rfl))
          try simp only [Act.put, List.setIfInBounds_toArray, List.set_cons_zero, List.set_cons_succ]
          refine wpAnyH_take (i := 5) (oi := { dst := some 84, op := Op.binOp BinOp.gtr 3 (Operand.tmp 83) (Operand.const (Value.int IntKind.i64 0)) 3, type := 4, pos := "laws.go:736", after := #[{ on := 4, ground := Ground.data }, { on := 3, ground := Ground.guard }], guard := some (3, false) }) (v := ?_) rfl (by kernel_rfl) (by kernel_rfl) (by kernel_rfl) (fun _ _ _ h => h) (Or.inl ⟨by rfl, ?_⟩) (by assumption) ?_
          rotate_left
          · (intro w hSw; (try dsimp only at hSw); (go_simp <;> with_reducible rfl))
          try simp only [Act.put, List.setIfInBounds_toArray, List.set_cons_zero, List.set_cons_succ]
          refine wpAnyH_take (i := 6) (oi := { dst := some 85, op := Op.move (Operand.tmp 84), type := 4, pos := "laws.go:736", after := #[{ on := 5, ground := Ground.data }, { on := 3, ground := Ground.chain }, { on := 3, ground := Ground.guard }], guard := some (3, false) }) (v := ?_) rfl (by kernel_rfl) (by kernel_rfl) (by kernel_rfl) (fun _ _ _ h => h) (Or.inl ⟨by rfl, ?_⟩) (by assumption) ?_
          rotate_left
          · (intro w hSw; (try dsimp only at hSw); (go_simp <;> with_reducible rfl))
          try simp only [Act.put, List.setIfInBounds_toArray, List.set_cons_zero, List.set_cons_succ]
          refine wpAnyH_take (i := 7) (oi := { dst := some 86, op := Op.move (Operand.tmp 4), type := 45, pos := "laws.go:736", after := #[{ on := 6, ground := Ground.guard }], guard := some (6, true) }) (v := ?_) rfl (by kernel_rfl) (by kernel_rfl) (by kernel_rfl) (fun _ _ _ h => h) (Or.inl ⟨by rfl, ?_⟩) (by assumption) ?_
          rotate_left
          · (intro w hSw; (try dsimp only at hSw); (go_simp <;> with_reducible rfl))
          try simp only [Act.put, List.setIfInBounds_toArray, List.set_cons_zero, List.set_cons_succ]
          refine wpAnyH_take (i := 8) (oi := { dst := some 87, op := Op.move (Operand.tmp 8), type := 3, pos := "laws.go:736", after := #[{ on := 6, ground := Ground.guard }], guard := some (6, true) }) (v := ?_) rfl (by kernel_rfl) (by kernel_rfl) (by kernel_rfl) (fun _ _ _ h => h) (Or.inl ⟨by rfl, ?_⟩) (by assumption) ?_
          rotate_left
          · (intro w hSw; (try dsimp only at hSw); (go_simp <;> with_reducible rfl))
          try simp only [Act.put, List.setIfInBounds_toArray, List.set_cons_zero, List.set_cons_succ]
          refine wpAnyH_take (i := 9) (oi := { dst := some 88, op := Op.indexAddr 45 (Operand.tmp 86) (Operand.tmp 87), type := 0, pos := "laws.go:736", after := #[{ on := 7, ground := Ground.data }, { on := 8, ground := Ground.data }, { on := 6, ground := Ground.guard }], guard := some (6, true) }) (v := ?_) rfl (by kernel_rfl) (by kernel_rfl) (by kernel_rfl) (fun _ _ _ h => h) (Or.inl ⟨by rfl, ?_⟩) (by assumption) ?_
          rotate_left
          · (intro w hSw; (try dsimp only at hSw); (go_simp <;> with_reducible rfl))
          try simp only [Act.put, List.setIfInBounds_toArray, List.set_cons_zero, List.set_cons_succ]
          refine wpAnyH_take (i := 10) (oi := { dst := some 89, op := Op.load 3 (Operand.tmp 88), type := 3, pos := "laws.go:736", after := #[{ on := 9, ground := Ground.data }, { on := 6, ground := Ground.guard }], guard := some (6, true) }) (v := ?_) rfl (by kernel_rfl) (by kernel_rfl) (by kernel_rfl) (fun _ _ _ h => h) (Or.inl ⟨by rfl, ?_⟩) (by assumption) ?_
          rotate_left
          · (intro w hSw; (try dsimp only at hSw); (go_simp <;> with_reducible rfl))
          try simp only [Act.put, List.setIfInBounds_toArray, List.set_cons_zero, List.set_cons_succ]
          refine wpAnyH_take (i := 11) (oi := { dst := some 90, op := Op.move (Operand.tmp 4), type := 45, pos := "laws.go:736", after := #[{ on := 6, ground := Ground.guard }], guard := some (6, true) }) (v := ?_) rfl (by kernel_rfl) (by kernel_rfl) (by kernel_rfl) (fun _ _ _ h => h) (Or.inl ⟨by rfl, ?_⟩) (by assumption) ?_
          rotate_left
          · (intro w hSw; (try dsimp only at hSw); (go_simp <;> with_reducible rfl))
          try simp only [Act.put, List.setIfInBounds_toArray, List.set_cons_zero, List.set_cons_succ]
          refine wpAnyH_take (i := 12) (oi := { dst := some 91, op := Op.move (Operand.tmp 8), type := 3, pos := "laws.go:736", after := #[{ on := 6, ground := Ground.guard }], guard := some (6, true) }) (v := ?_) rfl (by kernel_rfl) (by kernel_rfl) (by kernel_rfl) (fun _ _ _ h => h) (Or.inl ⟨by rfl, ?_⟩) (by assumption) ?_
          rotate_left
          · (intro w hSw; (try dsimp only at hSw); (go_simp <;> with_reducible rfl))
          try simp only [Act.put, List.setIfInBounds_toArray, List.set_cons_zero, List.set_cons_succ]
          refine wpAnyH_take (i := 13) (oi := { dst := some 92, op := Op.binOp BinOp.sub 3 (Operand.tmp 91) (Operand.const (Value.int IntKind.i64 1)) 3, type := 3, pos := "laws.go:736", after := #[{ on := 12, ground := Ground.data }, { on := 6, ground := Ground.guard }], guard := some (6, true) }) (v := ?_) rfl (by kernel_rfl) (by kernel_rfl) (by kernel_rfl) (fun _ _ _ h => h) (Or.inl ⟨by rfl, ?_⟩) (by assumption) ?_
          rotate_left
          · (intro w hSw; (try dsimp only at hSw); (go_simp <;> with_reducible rfl))
          try simp only [Act.put, List.setIfInBounds_toArray, List.set_cons_zero, List.set_cons_succ]
          refine wpAnyH_take (i := 14) (oi := { dst := some 93, op := Op.indexAddr 45 (Operand.tmp 90) (Operand.tmp 92), type := 0, pos := "laws.go:736", after := #[{ on := 11, ground := Ground.data }, { on := 13, ground := Ground.data }, { on := 6, ground := Ground.guard }], guard := some (6, true) }) (v := ?_) rfl (by kernel_rfl) (by kernel_rfl) (by kernel_rfl) (fun _ _ _ h => h) (Or.inl ⟨by rfl, ?_⟩) (by assumption) ?_
          rotate_left
          · (intro w hSw; (try dsimp only at hSw); (go_simp <;> with_reducible rfl))
          try simp only [Act.put, List.setIfInBounds_toArray, List.set_cons_zero, List.set_cons_succ]
          refine wpAnyH_take (i := 15) (oi := { dst := some 94, op := Op.load 3 (Operand.tmp 93), type := 3, pos := "laws.go:736", after := #[{ on := 14, ground := Ground.data }, { on := 6, ground := Ground.guard }], guard := some (6, true) }) (v := ?_) rfl (by kernel_rfl) (by kernel_rfl) (by kernel_rfl) (fun _ _ _ h => h) (Or.inl ⟨by rfl, ?_⟩) (by assumption) ?_
          rotate_left
          · (intro w hSw; (try dsimp only at hSw); (go_simp <;> with_reducible rfl))
          try simp only [Act.put, List.setIfInBounds_toArray, List.set_cons_zero, List.set_cons_succ]
          refine wpAnyH_take (i := 16) (oi := { dst := some 95, op := Op.binOp BinOp.leq 3 (Operand.tmp 89) (Operand.tmp 94) 3, type := 4, pos := "laws.go:736", after := #[{ on := 10, ground := Ground.data }, { on := 15, ground := Ground.data }, { on := 6, ground := Ground.guard }], guard := some (6, true) }) (v := ?_) rfl (by kernel_rfl) (by kernel_rfl) (by kernel_rfl) (fun _ _ _ h => h) (Or.inl ⟨by rfl, ?_⟩) (by assumption) ?_
          rotate_left
          · (intro w hSw; (try dsimp only at hSw); (go_simp <;> with_reducible rfl))
          try simp only [Act.put, List.setIfInBounds_toArray, List.set_cons_zero, List.set_cons_succ]
          refine wpAnyH_take (i := 17) (oi := { dst := some 96, op := Op.pick (Operand.tmp 85) (Operand.tmp 95) (Operand.const (Value.bool false)), type := 4, pos := "laws.go:736", after := #[{ on := 6, ground := Ground.data }, { on := 16, ground := Ground.data }, { on := 3, ground := Ground.guard }], guard := some (3, false) }) (v := ?_) rfl (by kernel_rfl) (by kernel_rfl) (by kernel_rfl) (fun _ _ _ h => h) (Or.inl ⟨by rfl, ?_⟩) (by assumption) ?_
          rotate_left
          · (intro w hSw; (try dsimp only at hSw); (go_simp <;> with_reducible rfl))
          try simp only [Act.put, List.setIfInBounds_toArray, List.set_cons_zero, List.set_cons_succ]
          refine wpAnyH_take (i := 18) (oi := { dst := some 97, op := Op.pick (Operand.tmp 82) (Operand.const (Value.bool true)) (Operand.tmp 96), type := 4, pos := "laws.go:736", after := #[{ on := 3, ground := Ground.data }, { on := 17, ground := Ground.data }], guard := none }) (v := ?_) rfl (by kernel_rfl) (by kernel_rfl) (by kernel_rfl) (fun _ _ _ h => h) (Or.inl ⟨by rfl, ?_⟩) (by assumption) ?_
          rotate_left
          · (intro w hSw; (try dsimp only at hSw); (go_simp <;> with_reducible rfl))
          try simp only [Act.put, List.setIfInBounds_toArray, List.set_cons_zero, List.set_cons_succ]
          refine wpAnyH_done (by kernel_rfl) ?_ _
          go_wp2_with fail
          go_roundw
          case rel => exact ⟨q + 1 + 1, by omega, by go_num, R.out.trans B23.out⟩
          case measure => simp [intOf]; omega
        · obtain rfl : j = 0 := by omega
          go_wp2_with fail
          refine wp_region_held_drew (S := (fun _ => True)) (by kernel_rfl) ?_ (fun hHeld => ?_)
          · trivial
          refine wpAnyH_take (i := 0) (oi := { dst := some 79, op := Op.move (Operand.tmp 9), type := 28, pos := "laws.go:736", after := #[], guard := none }) (v := ?_) rfl (by kernel_rfl) (by kernel_rfl) (by kernel_rfl) (fun _ _ _ h => h) (Or.inl ⟨by rfl, ?_⟩) (by assumption) ?_
          rotate_left
          · (intro w hSw; (try dsimp only at hSw); (go_simp <;> with_reducible rfl))
          try simp only [Act.put, List.setIfInBounds_toArray, List.set_cons_zero, List.set_cons_succ]
          refine wpAnyH_take (i := 1) (oi := { dst := some 80, op := Op.move (Operand.tmp 11), type := 28, pos := "laws.go:736", after := #[], guard := none }) (v := ?_) rfl (by kernel_rfl) (by kernel_rfl) (by kernel_rfl) (fun _ _ _ h => h) (Or.inl ⟨by rfl, ?_⟩) (by assumption) ?_
          rotate_left
          · (intro w hSw; (try dsimp only at hSw); (go_simp <;> with_reducible rfl))
          try simp only [Act.put, List.setIfInBounds_toArray, List.set_cons_zero, List.set_cons_succ]
          refine wpAnyH_ready (rs := [2]) (by kernel_rfl) (by simp) ?_
          refine AllReadyH.cons (o := { dst := some 81, op := Op.call { callee := Callee.value (Operand.func 17), args := #[Operand.tmp 79, Operand.tmp 80], argTypes := #[28, 28] }, type := 4, pos := "laws.go:736", after := #[{ on := 0, ground := Ground.data }, { on := 1, ground := Ground.data }], guard := none }) rfl (fun K hK => ?_) AllReadyH.nil
          go_simp
          go_at_call 17
          refine HSD.out.mono ?_
          rintro e23 w23 ⟨rfl, hb⟩
          have B23 := Lib.hid (show Ext w22 w23 from (Ext.refl w22).drew.trans hb)
          clear hb hcell
          try go_wp2_with fail
          refine hK.out _ _ ?_ (fun hHeld2 => ?_)
          · trivial
          clear hK K hHeld
          try simp only [Act.put, List.setIfInBounds_toArray, List.set_cons_zero, List.set_cons_succ]
          refine wpAnyH_take (i := 3) (oi := { dst := some 82, op := Op.move (Operand.tmp 81), type := 4, pos := "laws.go:736", after := #[{ on := 2, ground := Ground.data }, { on := 2, ground := Ground.chain }], guard := none }) (v := ?_) rfl (by kernel_rfl) (by kernel_rfl) (by kernel_rfl) (fun _ _ _ h => h) (Or.inl ⟨by rfl, ?_⟩) (by assumption) ?_
          rotate_left
          · (intro w hSw; (try dsimp only at hSw); (go_simp <;> with_reducible rfl))
          try simp only [Act.put, List.setIfInBounds_toArray, List.set_cons_zero, List.set_cons_succ]
          refine wpAnyH_take (i := 4) (oi := { dst := some 83, op := Op.move (Operand.tmp 8), type := 3, pos := "laws.go:736", after := #[{ on := 3, ground := Ground.guard }], guard := some (3, false) }) (v := ?_) rfl (by kernel_rfl) (by kernel_rfl) (by kernel_rfl) (fun _ _ _ h => h) (Or.inl ⟨by rfl, ?_⟩) (by assumption) ?_
          rotate_left
          · (intro w hSw; (try dsimp only at hSw); (go_simp <;> with_reducible rfl))
          try simp only [Act.put, List.setIfInBounds_toArray, List.set_cons_zero, List.set_cons_succ]
          refine wpAnyH_take (i := 5) (oi := { dst := some 84, op := Op.binOp BinOp.gtr 3 (Operand.tmp 83) (Operand.const (Value.int IntKind.i64 0)) 3, type := 4, pos := "laws.go:736", after := #[{ on := 4, ground := Ground.data }, { on := 3, ground := Ground.guard }], guard := some (3, false) }) (v := ?_) rfl (by kernel_rfl) (by kernel_rfl) (by kernel_rfl) (fun _ _ _ h => h) (Or.inl ⟨by rfl, ?_⟩) (by assumption) ?_
          rotate_left
          · (intro w hSw; (try dsimp only at hSw); (go_simp <;> with_reducible rfl))
          try simp only [Act.put, List.setIfInBounds_toArray, List.set_cons_zero, List.set_cons_succ]
          refine wpAnyH_take (i := 6) (oi := { dst := some 85, op := Op.move (Operand.tmp 84), type := 4, pos := "laws.go:736", after := #[{ on := 5, ground := Ground.data }, { on := 3, ground := Ground.chain }, { on := 3, ground := Ground.guard }], guard := some (3, false) }) (v := ?_) rfl (by kernel_rfl) (by kernel_rfl) (by kernel_rfl) (fun _ _ _ h => h) (Or.inl ⟨by rfl, ?_⟩) (by assumption) ?_
          rotate_left
          · (intro w hSw; (try dsimp only at hSw); (go_simp <;> with_reducible rfl))
          try simp only [Act.put, List.setIfInBounds_toArray, List.set_cons_zero, List.set_cons_succ]
          refine wpAnyH_take (i := 7) (oi := { dst := some 86, op := Op.move (Operand.tmp 4), type := 45, pos := "laws.go:736", after := #[{ on := 6, ground := Ground.guard }], guard := some (6, true) }) (v := undef) rfl (by kernel_rfl) (by kernel_rfl) (by kernel_rfl) (fun _ _ _ h => h) (Or.inr ⟨by rfl, rfl⟩) (by assumption) ?_
          try simp only [Act.put, List.setIfInBounds_toArray, List.set_cons_zero, List.set_cons_succ]
          refine wpAnyH_take (i := 8) (oi := { dst := some 87, op := Op.move (Operand.tmp 8), type := 3, pos := "laws.go:736", after := #[{ on := 6, ground := Ground.guard }], guard := some (6, true) }) (v := undef) rfl (by kernel_rfl) (by kernel_rfl) (by kernel_rfl) (fun _ _ _ h => h) (Or.inr ⟨by rfl, rfl⟩) (by assumption) ?_
          try simp only [Act.put, List.setIfInBounds_toArray, List.set_cons_zero, List.set_cons_succ]
          refine wpAnyH_take (i := 9) (oi := { dst := some 88, op := Op.indexAddr 45 (Operand.tmp 86) (Operand.tmp 87), type := 0, pos := "laws.go:736", after := #[{ on := 7, ground := Ground.data }, { on := 8, ground := Ground.data }, { on := 6, ground := Ground.guard }], guard := some (6, true) }) (v := undef) rfl (by kernel_rfl) (by kernel_rfl) (by kernel_rfl) (fun _ _ _ h => h) (Or.inr ⟨by rfl, rfl⟩) (by assumption) ?_
          try simp only [Act.put, List.setIfInBounds_toArray, List.set_cons_zero, List.set_cons_succ]
          refine wpAnyH_take (i := 10) (oi := { dst := some 89, op := Op.load 3 (Operand.tmp 88), type := 3, pos := "laws.go:736", after := #[{ on := 9, ground := Ground.data }, { on := 6, ground := Ground.guard }], guard := some (6, true) }) (v := undef) rfl (by kernel_rfl) (by kernel_rfl) (by kernel_rfl) (fun _ _ _ h => h) (Or.inr ⟨by rfl, rfl⟩) (by assumption) ?_
          try simp only [Act.put, List.setIfInBounds_toArray, List.set_cons_zero, List.set_cons_succ]
          refine wpAnyH_take (i := 11) (oi := { dst := some 90, op := Op.move (Operand.tmp 4), type := 45, pos := "laws.go:736", after := #[{ on := 6, ground := Ground.guard }], guard := some (6, true) }) (v := undef) rfl (by kernel_rfl) (by kernel_rfl) (by kernel_rfl) (fun _ _ _ h => h) (Or.inr ⟨by rfl, rfl⟩) (by assumption) ?_
          try simp only [Act.put, List.setIfInBounds_toArray, List.set_cons_zero, List.set_cons_succ]
          refine wpAnyH_take (i := 12) (oi := { dst := some 91, op := Op.move (Operand.tmp 8), type := 3, pos := "laws.go:736", after := #[{ on := 6, ground := Ground.guard }], guard := some (6, true) }) (v := undef) rfl (by kernel_rfl) (by kernel_rfl) (by kernel_rfl) (fun _ _ _ h => h) (Or.inr ⟨by rfl, rfl⟩) (by assumption) ?_
          try simp only [Act.put, List.setIfInBounds_toArray, List.set_cons_zero, List.set_cons_succ]
          refine wpAnyH_take (i := 13) (oi := { dst := some 92, op := Op.binOp BinOp.sub 3 (Operand.tmp 91) (Operand.const (Value.int IntKind.i64 1)) 3, type := 3, pos := "laws.go:736", after := #[{ on := 12, ground := Ground.data }, { on := 6, ground := Ground.guard }], guard := some (6, true) }) (v := undef) rfl (by kernel_rfl) (by kernel_rfl) (by kernel_rfl) (fun _ _ _ h => h) (Or.inr ⟨by rfl, rfl⟩) (by assumption) ?_
          try simp only [Act.put, List.setIfInBounds_toArray, List.set_cons_zero, List.set_cons_succ]
          refine wpAnyH_take (i := 14) (oi := { dst := some 93, op := Op.indexAddr 45 (Operand.tmp 90) (Operand.tmp 92), type := 0, pos := "laws.go:736", after := #[{ on := 11, ground := Ground.data }, { on := 13, ground := Ground.data }, { on := 6, ground := Ground.guard }], guard := some (6, true) }) (v := undef) rfl (by kernel_rfl) (by kernel_rfl) (by kernel_rfl) (fun _ _ _ h => h) (Or.inr ⟨by rfl, rfl⟩) (by assumption) ?_
          try simp only [Act.put, List.setIfInBounds_toArray, List.set_cons_zero, List.set_cons_succ]
          refine wpAnyH_take (i := 15) (oi := { dst := some 94, op := Op.load 3 (Operand.tmp 93), type := 3, pos := "laws.go:736", after := #[{ on := 14, ground := Ground.data }, { on := 6, ground := Ground.guard }], guard := some (6, true) }) (v := undef) rfl (by kernel_rfl) (by kernel_rfl) (by kernel_rfl) (fun _ _ _ h => h) (Or.inr ⟨by rfl, rfl⟩) (by assumption) ?_
          try simp only [Act.put, List.setIfInBounds_toArray, List.set_cons_zero, List.set_cons_succ]
          refine wpAnyH_take (i := 16) (oi := { dst := some 95, op := Op.binOp BinOp.leq 3 (Operand.tmp 89) (Operand.tmp 94) 3, type := 4, pos := "laws.go:736", after := #[{ on := 10, ground := Ground.data }, { on := 15, ground := Ground.data }, { on := 6, ground := Ground.guard }], guard := some (6, true) }) (v := undef) rfl (by kernel_rfl) (by kernel_rfl) (by kernel_rfl) (fun _ _ _ h => h) (Or.inr ⟨by rfl, rfl⟩) (by assumption) ?_
          try simp only [Act.put, List.setIfInBounds_toArray, List.set_cons_zero, List.set_cons_succ]
          refine wpAnyH_take (i := 17) (oi := { dst := some 96, op := Op.pick (Operand.tmp 85) (Operand.tmp 95) (Operand.const (Value.bool false)), type := 4, pos := "laws.go:736", after := #[{ on := 6, ground := Ground.data }, { on := 16, ground := Ground.data }, { on := 3, ground := Ground.guard }], guard := some (3, false) }) (v := ?_) rfl (by kernel_rfl) (by kernel_rfl) (by kernel_rfl) (fun _ _ _ h => h) (Or.inl ⟨by rfl, ?_⟩) (by assumption) ?_
          rotate_left
          · (intro w hSw; (try dsimp only at hSw); (go_simp <;> with_reducible rfl))
          try simp only [Act.put, List.setIfInBounds_toArray, List.set_cons_zero, List.set_cons_succ]
          refine wpAnyH_take (i := 18) (oi := { dst := some 97, op := Op.pick (Operand.tmp 82) (Operand.const (Value.bool true)) (Operand.tmp 96), type := 4, pos := "laws.go:736", after := #[{ on := 3, ground := Ground.data }, { on := 17, ground := Ground.data }], guard := none }) (v := ?_) rfl (by kernel_rfl) (by kernel_rfl) (by kernel_rfl) (fun _ _ _ h => h) (Or.inl ⟨by rfl, ?_⟩) (by assumption) ?_
          rotate_left
          · (intro w hSw; (try dsimp only at hSw); (go_simp <;> with_reducible rfl))
          try simp only [Act.put, List.setIfInBounds_toArray, List.set_cons_zero, List.set_cons_succ]
          refine wpAnyH_done (by kernel_rfl) ?_ _
          go_wp2_with fail
          go_roundw
          case rel => exact ⟨0 + 1, by omega, by go_num, R.out.trans B23.out⟩
          case measure => simp [intOf]; omega
      · obtain rfl : j = M := by omega
        have HR0 := Lib.hid (HRW.out 0 (by first | rfl | trivial) (by omega))
        simp only [Int.cast_ofNat_Int, Int.natCast_zero] at HR0
        cases j with
        | zero =>
          obtain rfl : X = [] := List.length_eq_zero_iff.1 HM.out
          have hL : RnV.lyW o n t k 200 = RnV.lyW o n t k 0 := DocR.wd_none (HWD.out (by first | rfl | trivial)).2
          have HRF := Lib.hid (HRW.out 200 (by first | rfl | trivial) (by omega))
          rw [hL] at HRF
          simp only [Int.cast_ofNat_Int] at HRF
          clear hL
          go_wp2_with fail
          refine (HR0.out _ E20.out).mono ?_
          rintro e21 w21 ⟨pc, cc, rfl, hlay, hb⟩
          have X21 := Lib.hid (box4 X20.out L20.out hb)
          have E21 := Lib.hid (E20.out.trans hb)
          have L21 := Lib.hid (Nat.lt_of_lt_of_le L20.out hb.size)
          try clear x0 x1 x2 x3 l
          replace Ka := Lib.hid (Ka.out.ext hb)
          replace Kb := Lib.hid (Kb.out.ext hb)
          replace R := Lib.hid (R.out.trans hb)
          replace RH := Lib.hid (RH.out.trans hb)
          have Kc := Lib.hid hlay
          clear hlay
          clear hb
          obtain ⟨x0, x1, x2, x3⟩ := X21.out
          have l := L21.out
          go_wp2_with fail
          refine (HRF.out _ E21.out).mono ?_
          rintro e22 w22 ⟨pd, cd, rfl, hlay, hb⟩
          have X22 := Lib.hid (box4 X21.out L21.out hb)
          have E22 := Lib.hid (E21.out.trans hb)
          have L22 := Lib.hid (Nat.lt_of_lt_of_le L21.out hb.size)
          try clear x0 x1 x2 x3 l
          replace Ka := Lib.hid (Ka.out.ext hb)
          replace Kb := Lib.hid (Kb.out.ext hb)
          replace Kc := Lib.hid (Kc.out.ext hb)
          replace R := Lib.hid (R.out.trans hb)
          replace RH := Lib.hid (RH.out.trans hb)
          have Kd := Lib.hid hlay
          clear hlay
          clear hb
          obtain ⟨x0, x1, x2, x3⟩ := X22.out
          have l := L22.out
          go_wp2_with fail
          refine (DocO.LayIs.same Kc.out Kd.out).mono ?_
          rintro e23 w23 ⟨rfl, hb⟩
          have X23 := Lib.hid (box4 X22.out L22.out hb)
          have E23 := Lib.hid (E22.out.trans hb)
          have L23 := Lib.hid (Nat.lt_of_lt_of_le L22.out hb.size)
          try clear x0 x1 x2 x3 l
          replace Ka := Lib.hid (Ka.out.ext hb)
          replace Kb := Lib.hid (Kb.out.ext hb)
          replace Kc := Lib.hid (Kc.out.ext hb)
          replace Kd := Lib.hid (Kd.out.ext hb)
          replace R := Lib.hid (R.out.trans hb)
          replace RH := Lib.hid (RH.out.trans hb)
          clear hb
          obtain ⟨x0, x1, x2, x3⟩ := X23.out
          have l := L23.out
          go_wp2_with fail
          go_ret
          exact ⟨by first | rfl | simp, E1.out.trans E23.out⟩
        | succ q =>
          have hjl : 0 < X.length := by rw [HM.out]; omega
          obtain ⟨bz, of, hae, hbz, hcell⟩ := Ka.out.get (k := 0) (by simpa using hjl)
          subst hae
          rw [List.getElem_map] at hcell
          obtain ⟨u, hu, hu2, hne⟩ := DocR.wd_at (HWD.out (by first | rfl | trivial)).2 hjl
          have hL : RnV.lyW o n t k u = RnV.lyW o n t k 0 := DocR.wd_first (HWD.out (by first | rfl | trivial)).2 hjl hu (by omega)
          rw [hu, Nat.add_zero] at hcell
          have HRF := Lib.hid (HRW.out u (by first | rfl | trivial) (by omega))
          rw [hL] at HRF
          have HCE := Lib.hid (fun (W : World) (e : Ext w20 W) => (e.cell hbz).trans hcell)
          have HBZ := Lib.hid hbz
          have q0 : (0 : Int) < (q : Int) + 1 := by omega
          clear hL hu hne
          go_wp2_with fail
          refine (HR0.out _ E20.out).mono ?_
          rintro e21 w21 ⟨pc, cc, rfl, hlay, hb⟩
          have X21 := Lib.hid (box4 X20.out L20.out hb)
          have E21 := Lib.hid (E20.out.trans hb)
          have L21 := Lib.hid (Nat.lt_of_lt_of_le L20.out hb.size)
          try clear x0 x1 x2 x3 l
          replace Ka := Lib.hid (Ka.out.ext hb)
          replace Kb := Lib.hid (Kb.out.ext hb)
          replace R := Lib.hid (R.out.trans hb)
          replace RH := Lib.hid (RH.out.trans hb)
          have Kc := Lib.hid hlay
          clear hlay
          clear hb
          obtain ⟨x0, x1, x2, x3⟩ := X21.out
          have l := L21.out
          have hcell := HCE.out _ RH.out
          have hbz := Nat.lt_of_lt_of_le HBZ.out RH.out.size
          go_wp2_with fail
          refine (HRF.out _ E21.out).mono ?_
          rintro e22 w22 ⟨pd, cd, rfl, hlay, hb⟩
          have X22 := Lib.hid (box4 X21.out L21.out hb)
          have E22 := Lib.hid (E21.out.trans hb)
          have L22 := Lib.hid (Nat.lt_of_lt_of_le L21.out hb.size)
          try clear x0 x1 x2 x3 l
          replace Ka := Lib.hid (Ka.out.ext hb)
          replace Kb := Lib.hid (Kb.out.ext hb)
          replace Kc := Lib.hid (Kc.out.ext hb)
          replace R := Lib.hid (R.out.trans hb)
          replace RH := Lib.hid (RH.out.trans hb)
          have Kd := Lib.hid hlay
          clear hlay
          clear hb
          obtain ⟨x0, x1, x2, x3⟩ := X22.out
          have l := L22.out
          go_wp2_with fail
          refine (DocO.LayIs.same Kc.out Kd.out).mono ?_
          rintro e23 w23 ⟨rfl, hb⟩
          have X23 := Lib.hid (box4 X22.out L22.out hb)
          have E23 := Lib.hid (E22.out.trans hb)
          have L23 := Lib.hid (Nat.lt_of_lt_of_le L22.out hb.size)
          try clear x0 x1 x2 x3 l
          replace Ka := Lib.hid (Ka.out.ext hb)
          replace Kb := Lib.hid (Kb.out.ext hb)
          replace Kc := Lib.hid (Kc.out.ext hb)
          replace Kd := Lib.hid (Kd.out.ext hb)
          replace R := Lib.hid (R.out.trans hb)
          replace RH := Lib.hid (RH.out.trans hb)
          clear hb
          obtain ⟨x0, x1, x2, x3⟩ := X23.out
          have l := L23.out
          go_wp2_with fail
          go_ret
          exact ⟨by first | rfl | simp, E1.out.trans E23.out⟩

set_option maxHeartbeats 400000 in
theorem walk_big (w : World) (a0 : Option Addr) (len0 cap0 : Nat) (hl0 : 1048576 < len0) :
    Calls Try.prog 5 #[.slice a0 len0 cap0] w fun e w' => e = .returned (.bool true) ∧ Ext w w' := by
  have h1 : (1048576 : Int) < (len0 : Int) := by omega
  go_enter Try.func5, Try.ntmps5
  go_wp2_with fail
  go_ret
  exact ⟨rfl, Ext.refl w⟩

theorem walk (w : World) (a0 : Option Addr) (len0 cap0 : Nat) (hb0 : Bytes w a0 len0) (hlc0 : len0 ≤ cap0) (hcm0 : cap0 ≤ maxLen) :
    Calls Try.prog 5 #[.slice a0 len0 cap0] w fun e w' => e = .returned (.bool true) ∧ Below w.heap.size w w' := by
  by_cases h : 1048576 < len0
  · exact walk_big w a0 len0 cap0 h
  · exact walk_good w a0 len0 cap0 hb0 hlc0 hcm0 (by omega)

set_option maxRecDepth 100000 in
theorem lifted (os : Os) (started : os.Started) (H : Type) (enc : TypeId × Value → H) :
    ReturnsInHanded {} Try.checked os 5 .any (Rows.fnWidthsOfSpec.pre6 enc Try.prog Try.f5 Rows.fnWidthsOfRow.domain false) (Rows.fnWidthsOfSpec.post enc Try.prog Try.f5 false true false false) := by
  refine returnsInHanded_of_change (C := Try.checked) Facts.own started (by kernel_rfl) Try.func5
    (ChangeSpec.witness6 (enc := enc) (C := Try.checked) false ⟨#[], #[.slice none 0 0], []⟩ 8 (by kernel_rfl) (by kernel_rfl) (by kernel_rfl) (by kernel_rfl)) ?_
  intro W base args ds gs before hval0 hW hcnd0 _
  clear hcnd0
  have hval : ∀ (j : Nat) t v, Try.f5.params[j]? = some t → args[j]? = some v → Value.okWide Try.prog W .any base t v := hval0
  have hW' := hW
  obtain ⟨p, q, hA0, hV, rfl, hfz, hnd⟩ := hW
  have hA : DataW.TrodAll enc Try.prog W 0 (fun _ => true) true Try.f5.params.toList args.toList ds p := hA0
  rw [Try.params5] at hA hval
  obtain ⟨v0, d0, rfl, rfl, h0⟩ := trodAll_one hA
  obtain ⟨rfl, rfl⟩ := trodVars_none hV
  obtain ⟨a0, len0, cap0, rfl⟩ := okWide_slice Try.underlying22 (hval 0 22 v0 rfl rfl)
  clear hA0 hval0
  simp only [List.append_nil] at hW'
  have hlt : ∀ x ∈ p, x.block < W.heap.size := fun x hx => by simpa using hW'.lt x hx
  obtain ⟨hb0, hlc0, hcm0⟩ := opened h0
  refine (walk W a0 len0 cap0 hb0 hlc0 hcm0).mono fun e W' ⟨he, hb⟩ => ?_
  subst he
  refine ⟨_, rfl, [_], [], p, [], p, [], hW', trodAll_mk1 (shut_bool Try.underlying4 _), ?_, rfl, hb.frame _, fun h => by cases h⟩
  exact trodAll_mk1 (Below.trod Facts.laidOut (by kernel_rfl) (of_decide_eq_true (by kernel_rfl)) h0 hb hlt)

theorem named : Try.prog.funcNamed Rows.fnWidthsOfRow.func = some 5 := by kernel_rfl
theorem closed : joinedFacts Try.prog 5 Try.f5 Rows.fnWidthsOfSpec Rows.fnWidthsOfRow = true :=
  Facts.closed_of rfl rfl rfl rfl (h28b := rfl) (by kernel_rfl) (by kernel_rfl) (by kernel_rfl) (by kernel_rfl) (by kernel_rfl) (by kernel_rfl) (by kernel_rfl) (by kernel_rfl) (by kernel_rfl) (by kernel_rfl) (by kernel_rfl) (by kernel_rfl) (by kernel_rfl) (by kernel_rfl) (by kernel_rfl) (by kernel_rfl) (by kernel_rfl) (by kernel_rfl) (by kernel_rfl) (by kernel_rfl) (by kernel_rfl) (by kernel_rfl) (by kernel_rfl) (by kernel_rfl)
theorem instanced : Try.f5.isInstance Try.prog Rows.fnWidthsOfRow.origin Rows.fnWidthsOfRow.targs := of_decide_eq_true (by kernel_rfl)
theorem wrapped : Try.f5.isWrapper Try.prog Rows.fnWidthsOfRow.wrapper Rows.fnWidthsOfRow.mainSum := by
  unfold Func.isWrapper
  rw [if_neg (of_decide_eq_false (by kernel_rfl))]
  exact ⟨rfl, rfl⟩

theorem holds : Rows.FnWidthsOfSaid :=
  OpenClaim.holds_of_wide 5 Try.f5 rfl rfl rfl rfl rfl rfl rfl ⟨rfl, rfl, rfl, rfl, rfl⟩ rfl rfl rfl rfl rfl named Try.func5 closed instanced wrapped
    (fun os started H enc _ => lifted os started H enc)

end Go.Proofs.Ytgkbagcgbfgllaa.lawWidthsOf


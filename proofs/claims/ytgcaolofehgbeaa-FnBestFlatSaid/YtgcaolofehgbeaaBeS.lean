import Derived.Test.YtgcaolofehgbeaaBeP
import Derived.Deep.RegionHeld3
import Derived.BigQuiet
/-
  The best layout of a document and its cost, of the model.
-/
set_option linter.unusedVariables false
set_option linter.unusedSimpArgs false
namespace Go.Proofs.Ytgcaolofehgbeaa.Be
open Go.RowKit Go.Shelf P1 LayL LayV LayM LayN LayC Cnt CntC Wid ChP Tr ChT ChC Rf It Cst
open Ls hiding Lay

section
variable (x : Int) (w : World) (o n : Int) (t : ByteArray) (k : F) (a : Option Addr) (cap : Nat) (fs : List Nat)

set_option maxRecDepth 100000 in
set_option maxHeartbeats 6400000 in
theorem l5Best (hs : SubAt w a k fs) (hfs : ∀ c ∈ fs, c < w.heap.size) (hc : k.len ≤ cap) (hsz : t.size + k.size ≤ 2000000) (hft : k.Fits) (ht : t.size ≤ maxLen) :
    Calls Try.prog 51 #[.agg #[.int .i64 o, .int .i64 n, .string t, .slice a k.len cap], .int .i64 x] w (LayRes w (beR x o n t k)) := by
  have B1 := Lib.hid (show ∀ ob, Ext w (w.alloc ob) from fun ob => (Ext.refl w).alloc _)
  have HA := Lib.hid (show ∀ (W : World) ob, Below w.heap.size w W → Below w.heap.size w (W.alloc ob) from fun W ob h => h.alloc h.size ob)
  have HS := Lib.hid (fun (w1 : World) (hw1 : Ext w w1) => specLayoutsOf w1 o n t k a cap fs (hs.below hfs hw1) (fun c hc => Nat.lt_of_lt_of_le (hfs c hc) hw1.size) hc hsz hft ht)
  have HG := Lib.hid (lays_good (o := o) (n := n) (t := t) (k := k))
  have HLN := Lib.hid (lays_len o n t k)
  have HNO := Lib.hid (fun h : toldD o n t k = false => And.intro (lays_no h) (be_none (x := x) h))
  have HPO := Lib.hid (fun h : toldD o n t k = true => And.intro (lays_pos h) (fun hw => be_told (x := x) h hw))
  have HBN := Lib.hid (fun h : wv x = false => be_no (x := x) (o := o) (n := n) (t := t) (k := k) h)
  obtain ⟨R, hR⟩ : ∃ R, beR x o n t k = R := ⟨_, rfl⟩
  rw [hR] at HNO HPO HBN ⊢
  obtain ⟨ls, hls⟩ : ∃ ls, laysD o n t k = ls := ⟨_, rfl⟩
  obtain ⟨ok, hok⟩ : ∃ ok, toldD o n t k = ok := ⟨_, rfl⟩
  rw [hls, hok] at HS HNO HPO
  rw [hls] at HG HLN
  clear hs hfs hls hok hR
  cases ok with
  | false =>
    obtain ⟨rfl, rfl⟩ := HNO.out rfl
    go_enter Try.func51, Try.ntmps51
    go_wp2_with fail
    refine (HS.out _ (B1.out _)).mono ?_
    rintro e2 w2 ⟨a2, c2, f2, rfl, hc2, hs2, hf2, hb2⟩
    have HB := Lib.hid ((B1.out _).trans hb2)
    clear hb2 hs2 hf2 hc2
    go_wp2_with fail
    go_ret2
    exact LayRes.none' (HA.out _ _ HB.out)
  | true =>
    by_cases hx0 : x < 0
    · obtain rfl := HBN.out (by simp [wv]; omega)
      go_enter Try.func51, Try.ntmps51
      go_wp2_with fail
      refine (HS.out _ (B1.out _)).mono ?_
      rintro e2 w2 ⟨a2, c2, f2, rfl, hc2, hs2, hf2, hb2⟩
      have HB := Lib.hid ((B1.out _).trans hb2)
      clear hb2 hs2 hf2 hc2
      go_wp2_with fail
      go_ret2
      exact LayRes.none' (HA.out _ _ HB.out)
    by_cases hx1 : 200 < x
    · obtain rfl := HBN.out (by simp [wv]; omega)
      go_enter Try.func51, Try.ntmps51
      go_wp2_with fail
      refine (HS.out _ (B1.out _)).mono ?_
      rintro e2 w2 ⟨a2, c2, f2, rfl, hc2, hs2, hf2, hb2⟩
      have HB := Lib.hid ((B1.out _).trans hb2)
      clear hb2 hs2 hf2 hc2
      go_wp2_with fail
      go_ret2
      exact LayRes.none' (HA.out _ _ HB.out)
    have hwx : wv x = true := by simp [wv]; omega
    obtain ⟨hpos, hbe⟩ := HPO.out rfl
    obtain rfl := hbe hwx
    clear hbe hwx
    go_enter Try.func51, Try.ntmps51
    go_wp2_with fail
    refine (HS.out _ (B1.out _)).mono ?_
    rintro e2 w2 ⟨a2, c2, f2, rfl, hc2, hs2, hf2, hb2⟩
    obtain ⟨b, off, AA, CC, gg, hfam, hdis⟩ := hs2.fam hf2.1
    have HFAM := Lib.hid (And.intro hfam hdis)
    obtain ⟨M, hM⟩ : ∃ M, ls.length = M := ⟨_, rfl⟩
    have HM := Lib.hid hM
    have hM3 : M ≤ 300 := by have := HLN.out; omega
    rw [hM] at hc2 hpos
    have HB := Lib.hid ((B1.out _).trans hb2)
    have HF2 := Lib.hid (And.intro (hf2.mono (by simp : w.heap.size ≤ _)) hs2)
    have hb0 := (hfam 0 (by omega)).1
    subst hb0
    clear hb2 hfam hdis hf2 hs2 hM
    have HL := Lib.hid (show ∀ W, Ext w2 W → ∀ j, (hj : j < ls.length) → (W.cell? ⟨b, off + j, none⟩ = some (.slice (AA j) ls[j].length (CC j)) ∧ ls[j].length ≤ CC j) ∧ LaySub W (AA j) ls[j] (gg j) from fun W hW j hj => by
      obtain ⟨_, hbm, h1, h2, h3, h4, h5⟩ := HFAM.out.1 j hj
      exact ⟨⟨(hW.cell (HF2.out.1.lt b hbm)).trans h1, h2⟩, h3.below h3.lt hW⟩)
    have HFR := Lib.hid (show ∀ W, Ext w2 W → ∀ j, (hj : j < ls.length) → Fresh w.heap.size W (gg j) from fun W hW j hj => by
      obtain ⟨_, hbm, h1, h2, h3, h4, h5⟩ := HFAM.out.1 j hj
      exact ⟨h5, fun q hq => ⟨(HF2.out.1.2 q (h4 q hq)).1, Nat.lt_of_lt_of_le (HF2.out.1.lt q (h4 q hq)) hW.size, fun o => (hW.frozen (HF2.out.1.lt q (h4 q hq))).trans ((HF2.out.1.2 q (h4 q hq)).2.2 o)⟩⟩)
    go_wp2_with fail
    go_loopw [9, 8] (fun i bv wr => ∃ (j c : Nat), 1 ≤ j ∧ j ≤ M ∧ c < M ∧ i = .int .i64 j ∧ bv = .int .i64 c ∧ Hid (∃ hc : c < ls.length, ls[c] = least (kc x) (ls.take j)) ∧ Ext w2 wr) (fun i _ _ => M - (intOf i).toNat)
    case atStart => exact ⟨1, 0, by omega, by omega, by omega, rfl, rfl, Lib.hid ⟨by have := HM.out; omega, (least_one (by have := HM.out; omega)).symm⟩, Ext.refl _⟩
    case round =>
      obtain ⟨j, c, hj1, hj, hcM, rfl, rfl, HBEST, hW⟩ := hrel
      obtain ⟨hcl, hce⟩ := HBEST.out
      by_cases hjM : j < M
      · have hjl : j < ls.length := by rw [HM.out]; exact hjM
        have hlt := least_take (f := kc x) hj1 hjl
        obtain ⟨⟨x1, x2⟩, x3⟩ := HL.out wr hW j hjl
        obtain ⟨⟨y1, y2⟩, y3⟩ := HL.out wr hW c hcl
        have hvj := HG.out _ (List.getElem_mem hjl)
        have hvc := HG.out _ (List.getElem_mem hcl)
        rw [← hce] at hlt
        have HLT := Lib.hid hlt
        have hq1 := fun (W : World) (h : LaySub W (AA j) ls[j] (gg j)) => l5Cost ls[j] x W (AA j) (CC j) (gg j) h x2 hvj (by omega) (by omega)
        have hq2 := fun (W : World) (h : LaySub W (AA c) ls[c] (gg c)) => l5Cost ls[c] x W (AA c) (CC c) (gg c) h y2 hvc (by omega) (by omega)
        have hcmp := fun (W : World) => specCompareCosts (ov x ls[j]) (ls[j].length : Int) (ov x ls[c]) (ls[c].length : Int) W
        have hkc := cmp_kc (x := x) hvj hvc
        obtain ⟨lj, hlj⟩ : ∃ x, ls[j].length = x := ⟨_, rfl⟩
        obtain ⟨lc, hlc⟩ : ∃ x, ls[c].length = x := ⟨_, rfl⟩
        obtain ⟨vj, hvj'⟩ : ∃ y, ov x ls[j] = y := ⟨_, rfl⟩
        obtain ⟨vc, hvc'⟩ : ∃ y, ov x ls[c] = y := ⟨_, rfl⟩
        rw [hvj', hlj, hvc', hlc] at hcmp hkc
        rw [hvj', hlj] at hq1
        rw [hvc', hlc] at hq2
        rw [hlj] at x1 x2
        rw [hlc] at y1 y2
        obtain ⟨z, hz⟩ : ∃ z, cmpC vj (lj : Int) vc (lc : Int) = z := ⟨_, rfl⟩
        rw [hz] at hcmp hkc
        have HKC := Lib.hid hkc
        have HQ1 := Lib.hid hq1
        have HQ2 := Lib.hid hq2
        have HQ3 := Lib.hid hcmp
        have HS0 := Lib.hid (show ((wr.cell? ⟨b, off + j, none⟩ = some (.slice (AA j) lj (CC j)) ∧ wr.cell? ⟨b, off + c, none⟩ = some (.slice (AA c) lc (CC c))) ∧ b < wr.heap.size) ∧ (LaySub wr (AA j) ls[j] (gg j) ∧ LaySub wr (AA c) ls[c] (gg c)) ∧ Ext w2 wr from ⟨⟨⟨x1, y1⟩, World.block_lt_of_cell? wr _ x1⟩, ⟨x3, y3⟩, hW⟩)
        clear hlt x3 y3 hce hlj hlc hvj hvc hvj' hvc' hq1 hq2 hW hcmp hkc hz
        go_wp2_with fail
        by_cases hll : z < 0
        · have hd : decide (z < 0) = true := decide_eq_true hll
          have HR := Lib.hid (HLT.out.trans (if_pos (HKC.out.1 hll)))
          refine wp_region_held_drew (S := (fun w' => ((w'.cell? ⟨b, off + j, none⟩ = some (.slice (AA j) lj (CC j)) ∧ w'.cell? ⟨b, off + c, none⟩ = some (.slice (AA c) lc (CC c))) ∧ b < w'.heap.size) ∧ (LaySub w' (AA j) ls[j] (gg j) ∧ LaySub w' (AA c) ls[c] (gg c)) ∧ Ext w2 w')) (by kernel_rfl) ?_ (fun hHeld => ?_)
          · exact keepB HS0.out (Ext.drew (Ext.refl _))
          refine wpAnyH_take (i := 0) (oi := { dst := some 32, op := Op.move (Operand.tmp 6), type := 42, pos := "l5_best.go:37", after := #[], guard := none }) (v := ?_) rfl (by kernel_rfl) (by kernel_rfl) (by kernel_rfl) (fun _ _ _ h => h) (Or.inl ⟨by rfl, ?_⟩) (by assumption) ?_
          rotate_left
          · (intro w hSw; (try dsimp only at hSw); (go_simp <;> with_reducible rfl))
          try simp only [Act.put, List.setIfInBounds_toArray, List.set_cons_zero, List.set_cons_succ]
          refine wpAnyH_take (i := 1) (oi := { dst := some 33, op := Op.move (Operand.tmp 9), type := 3, pos := "l5_best.go:37", after := #[], guard := none }) (v := ?_) rfl (by kernel_rfl) (by kernel_rfl) (by kernel_rfl) (fun _ _ _ h => h) (Or.inl ⟨by rfl, ?_⟩) (by assumption) ?_
          rotate_left
          · (intro w hSw; (try dsimp only at hSw); (go_simp <;> with_reducible rfl))
          try simp only [Act.put, List.setIfInBounds_toArray, List.set_cons_zero, List.set_cons_succ]
          refine wpAnyH_take (i := 2) (oi := { dst := some 34, op := Op.indexAddr 42 (Operand.tmp 32) (Operand.tmp 33), type := 0, pos := "l5_best.go:37", after := #[{ on := 0, ground := Ground.data }, { on := 1, ground := Ground.data }], guard := none }) (v := ?_) rfl (by kernel_rfl) (by kernel_rfl) (by kernel_rfl) (fun _ _ _ h => h) (Or.inl ⟨by rfl, ?_⟩) (by assumption) ?_
          rotate_left
          · (intro w hSw; (try dsimp only at hSw); (go_simp <;> with_reducible rfl))
          try simp only [Act.put, List.setIfInBounds_toArray, List.set_cons_zero, List.set_cons_succ]
          refine wpAnyH_take (i := 3) (oi := { dst := some 35, op := Op.load 28 (Operand.tmp 34), type := 28, pos := "l5_best.go:37", after := #[{ on := 2, ground := Ground.data }], guard := none }) (v := ?_) rfl (by kernel_rfl) (by kernel_rfl) (by kernel_rfl) (fun _ _ _ h => h) (Or.inl ⟨by rfl, ?_⟩) (by assumption) ?_
          rotate_left
          · (intro w hSw; (try dsimp only at hSw); (go_simp <;> with_reducible rfl))
          try simp only [Act.put, List.setIfInBounds_toArray, List.set_cons_zero, List.set_cons_succ]
          refine wpAnyH_take (i := 4) (oi := { dst := some 36, op := Op.move (Operand.tmp 1), type := 3, pos := "l5_best.go:37", after := #[], guard := none }) (v := ?_) rfl (by kernel_rfl) (by kernel_rfl) (by kernel_rfl) (fun _ _ _ h => h) (Or.inl ⟨by rfl, ?_⟩) (by assumption) ?_
          rotate_left
          · (intro w hSw; (try dsimp only at hSw); (go_simp <;> with_reducible rfl))
          try simp only [Act.put, List.setIfInBounds_toArray, List.set_cons_zero, List.set_cons_succ]
          refine wpAnyH_take (i := 6) (oi := { dst := some 38, op := Op.move (Operand.tmp 6), type := 42, pos := "l5_best.go:37", after := #[], guard := none }) (v := ?_) rfl (by kernel_rfl) (by kernel_rfl) (by kernel_rfl) (fun _ _ _ h => h) (Or.inl ⟨by rfl, ?_⟩) (by assumption) ?_
          rotate_left
          · (intro w hSw; (try dsimp only at hSw); (go_simp <;> with_reducible rfl))
          try simp only [Act.put, List.setIfInBounds_toArray, List.set_cons_zero, List.set_cons_succ]
          refine wpAnyH_take (i := 7) (oi := { dst := some 39, op := Op.move (Operand.tmp 8), type := 3, pos := "l5_best.go:37", after := #[], guard := none }) (v := ?_) rfl (by kernel_rfl) (by kernel_rfl) (by kernel_rfl) (fun _ _ _ h => h) (Or.inl ⟨by rfl, ?_⟩) (by assumption) ?_
          rotate_left
          · (intro w hSw; (try dsimp only at hSw); (go_simp <;> with_reducible rfl))
          try simp only [Act.put, List.setIfInBounds_toArray, List.set_cons_zero, List.set_cons_succ]
          refine wpAnyH_take (i := 8) (oi := { dst := some 40, op := Op.indexAddr 42 (Operand.tmp 38) (Operand.tmp 39), type := 0, pos := "l5_best.go:37", after := #[{ on := 6, ground := Ground.data }, { on := 7, ground := Ground.data }], guard := none }) (v := ?_) rfl (by kernel_rfl) (by kernel_rfl) (by kernel_rfl) (fun _ _ _ h => h) (Or.inl ⟨by rfl, ?_⟩) (by assumption) ?_
          rotate_left
          · (intro w hSw; (try dsimp only at hSw); (go_simp <;> with_reducible rfl))
          try simp only [Act.put, List.setIfInBounds_toArray, List.set_cons_zero, List.set_cons_succ]
          refine wpAnyH_take (i := 9) (oi := { dst := some 41, op := Op.load 28 (Operand.tmp 40), type := 28, pos := "l5_best.go:37", after := #[{ on := 8, ground := Ground.data }], guard := none }) (v := ?_) rfl (by kernel_rfl) (by kernel_rfl) (by kernel_rfl) (fun _ _ _ h => h) (Or.inl ⟨by rfl, ?_⟩) (by assumption) ?_
          rotate_left
          · (intro w hSw; (try dsimp only at hSw); (go_simp <;> with_reducible rfl))
          try simp only [Act.put, List.setIfInBounds_toArray, List.set_cons_zero, List.set_cons_succ]
          refine wpAnyH_take (i := 10) (oi := { dst := some 42, op := Op.move (Operand.tmp 1), type := 3, pos := "l5_best.go:37", after := #[], guard := none }) (v := ?_) rfl (by kernel_rfl) (by kernel_rfl) (by kernel_rfl) (fun _ _ _ h => h) (Or.inl ⟨by rfl, ?_⟩) (by assumption) ?_
          rotate_left
          · (intro w hSw; (try dsimp only at hSw); (go_simp <;> with_reducible rfl))
          try simp only [Act.put, List.setIfInBounds_toArray, List.set_cons_zero, List.set_cons_succ]
          refine wpAnyH_ready (rs := [5]) (by kernel_rfl) (by simp) ?_
          refine AllReadyH.cons (o := { dst := some 37, op := Op.call { callee := Callee.value (Operand.func 52), args := #[Operand.tmp 35, Operand.tmp 36], argTypes := #[28, 3] }, type := 36, pos := "l5_best.go:37", after := #[{ on := 3, ground := Ground.data }, { on := 4, ground := Ground.data }], guard := none }) rfl (fun K hK => ?_) AllReadyH.nil
          go_simp
          go_at_call 52
          refine (HQ1.out _ hHeld.2.1.1).mono ?_
          rintro e3 w3 ⟨rfl, hb3⟩
          have K3 := Lib.hid (keepB hHeld hb3)
          clear hb3
          try go_wp2_with fail
          refine hK.out _ _ ?_ (fun hHeld5 => ?_)
          · exact K3.out
          clear hK K hHeld
          try simp only [Act.put, List.setIfInBounds_toArray, List.set_cons_zero, List.set_cons_succ]
          refine wpAnyH_ready (rs := [11]) (by kernel_rfl) (by simp) ?_
          refine AllReadyH.cons (o := { dst := some 43, op := Op.call { callee := Callee.value (Operand.func 52), args := #[Operand.tmp 41, Operand.tmp 42], argTypes := #[28, 3] }, type := 36, pos := "l5_best.go:37", after := #[{ on := 9, ground := Ground.data }, { on := 10, ground := Ground.data }, { on := 5, ground := Ground.chain }], guard := none }) rfl (fun K hK => ?_) AllReadyH.nil
          go_simp
          go_at_call 52
          refine (HQ2.out _ hHeld5.2.1.2).mono ?_
          rintro e4 w4 ⟨rfl, hb4⟩
          have K4 := Lib.hid (keepB hHeld5 hb4)
          clear hb4
          try go_wp2_with fail
          refine hK.out _ _ ?_ (fun hHeld11 => ?_)
          · exact K4.out
          clear hK K hHeld5
          try simp only [Act.put, List.setIfInBounds_toArray, List.set_cons_zero, List.set_cons_succ]
          refine wpAnyH_ready (rs := [12]) (by kernel_rfl) (by simp) ?_
          refine AllReadyH.cons (o := { dst := some 44, op := Op.call { callee := Callee.value (Operand.func 95), args := #[Operand.tmp 37, Operand.tmp 43], argTypes := #[36, 36] }, type := 3, pos := "l5_best.go:37", after := #[{ on := 5, ground := Ground.data }, { on := 11, ground := Ground.data }, { on := 11, ground := Ground.chain }], guard := none }) rfl (fun K hK => ?_) AllReadyH.nil
          go_simp
          go_at_call 95
          refine (HQ3.out _).mono ?_
          rintro e5 w5 ⟨rfl, hb5⟩
          have K5 := Lib.hid (keepB hHeld11 hb5)
          clear hb5
          try go_wp2_with fail
          refine hK.out _ _ ?_ (fun hHeld12 => ?_)
          · exact K5.out
          clear hK K hHeld11
          try simp only [Act.put, List.setIfInBounds_toArray, List.set_cons_zero, List.set_cons_succ]
          refine wpAnyH_take (i := 13) (oi := { dst := some 45, op := Op.binOp BinOp.lss 3 (Operand.tmp 44) (Operand.const (Value.int IntKind.i64 0)) 3, type := 4, pos := "l5_best.go:37", after := #[{ on := 12, ground := Ground.data }], guard := none }) (v := ?_) rfl (by kernel_rfl) (by kernel_rfl) (by kernel_rfl) (fun _ _ _ h => h) (Or.inl ⟨by rfl, ?_⟩) (by assumption) ?_
          rotate_left
          · (intro w hSw; (try dsimp only at hSw); (go_simp <;> with_reducible rfl))
          try simp only [Act.put, List.setIfInBounds_toArray, List.set_cons_zero, List.set_cons_succ]
          refine wpAnyH_done (by kernel_rfl) ?_ _
          go_wp2_with fail
          go_roundw
          case rel => exact ⟨j + 1, j, by omega, by omega, by omega, by go_num, rfl, Lib.hid ⟨hjl, HR.out.symm⟩, K5.out.2.2⟩
          case measure => simp [intOf]; omega
        · have hd : decide (z < 0) = false := decide_eq_false hll
          have HR := Lib.hid (HLT.out.trans (if_neg (fun e => hll (HKC.out.2 e))))
          refine wp_region_held_drew (S := (fun w' => ((w'.cell? ⟨b, off + j, none⟩ = some (.slice (AA j) lj (CC j)) ∧ w'.cell? ⟨b, off + c, none⟩ = some (.slice (AA c) lc (CC c))) ∧ b < w'.heap.size) ∧ (LaySub w' (AA j) ls[j] (gg j) ∧ LaySub w' (AA c) ls[c] (gg c)) ∧ Ext w2 w')) (by kernel_rfl) ?_ (fun hHeld => ?_)
          · exact keepB HS0.out (Ext.drew (Ext.refl _))
          refine wpAnyH_take (i := 0) (oi := { dst := some 32, op := Op.move (Operand.tmp 6), type := 42, pos := "l5_best.go:37", after := #[], guard := none }) (v := ?_) rfl (by kernel_rfl) (by kernel_rfl) (by kernel_rfl) (fun _ _ _ h => h) (Or.inl ⟨by rfl, ?_⟩) (by assumption) ?_
          rotate_left
          · (intro w hSw; (try dsimp only at hSw); (go_simp <;> with_reducible rfl))
          try simp only [Act.put, List.setIfInBounds_toArray, List.set_cons_zero, List.set_cons_succ]
          refine wpAnyH_take (i := 1) (oi := { dst := some 33, op := Op.move (Operand.tmp 9), type := 3, pos := "l5_best.go:37", after := #[], guard := none }) (v := ?_) rfl (by kernel_rfl) (by kernel_rfl) (by kernel_rfl) (fun _ _ _ h => h) (Or.inl ⟨by rfl, ?_⟩) (by assumption) ?_
          rotate_left
          · (intro w hSw; (try dsimp only at hSw); (go_simp <;> with_reducible rfl))
          try simp only [Act.put, List.setIfInBounds_toArray, List.set_cons_zero, List.set_cons_succ]
          refine wpAnyH_take (i := 2) (oi := { dst := some 34, op := Op.indexAddr 42 (Operand.tmp 32) (Operand.tmp 33), type := 0, pos := "l5_best.go:37", after := #[{ on := 0, ground := Ground.data }, { on := 1, ground := Ground.data }], guard := none }) (v := ?_) rfl (by kernel_rfl) (by kernel_rfl) (by kernel_rfl) (fun _ _ _ h => h) (Or.inl ⟨by rfl, ?_⟩) (by assumption) ?_
          rotate_left
          · (intro w hSw; (try dsimp only at hSw); (go_simp <;> with_reducible rfl))
          try simp only [Act.put, List.setIfInBounds_toArray, List.set_cons_zero, List.set_cons_succ]
          refine wpAnyH_take (i := 3) (oi := { dst := some 35, op := Op.load 28 (Operand.tmp 34), type := 28, pos := "l5_best.go:37", after := #[{ on := 2, ground := Ground.data }], guard := none }) (v := ?_) rfl (by kernel_rfl) (by kernel_rfl) (by kernel_rfl) (fun _ _ _ h => h) (Or.inl ⟨by rfl, ?_⟩) (by assumption) ?_
          rotate_left
          · (intro w hSw; (try dsimp only at hSw); (go_simp <;> with_reducible rfl))
          try simp only [Act.put, List.setIfInBounds_toArray, List.set_cons_zero, List.set_cons_succ]
          refine wpAnyH_take (i := 4) (oi := { dst := some 36, op := Op.move (Operand.tmp 1), type := 3, pos := "l5_best.go:37", after := #[], guard := none }) (v := ?_) rfl (by kernel_rfl) (by kernel_rfl) (by kernel_rfl) (fun _ _ _ h => h) (Or.inl ⟨by rfl, ?_⟩) (by assumption) ?_
          rotate_left
          · (intro w hSw; (try dsimp only at hSw); (go_simp <;> with_reducible rfl))
          try simp only [Act.put, List.setIfInBounds_toArray, List.set_cons_zero, List.set_cons_succ]
          refine wpAnyH_take (i := 6) (oi := { dst := some 38, op := Op.move (Operand.tmp 6), type := 42, pos := "l5_best.go:37", after := #[], guard := none }) (v := ?_) rfl (by kernel_rfl) (by kernel_rfl) (by kernel_rfl) (fun _ _ _ h => h) (Or.inl ⟨by rfl, ?_⟩) (by assumption) ?_
          rotate_left
          · (intro w hSw; (try dsimp only at hSw); (go_simp <;> with_reducible rfl))
          try simp only [Act.put, List.setIfInBounds_toArray, List.set_cons_zero, List.set_cons_succ]
          refine wpAnyH_take (i := 7) (oi := { dst := some 39, op := Op.move (Operand.tmp 8), type := 3, pos := "l5_best.go:37", after := #[], guard := none }) (v := ?_) rfl (by kernel_rfl) (by kernel_rfl) (by kernel_rfl) (fun _ _ _ h => h) (Or.inl ⟨by rfl, ?_⟩) (by assumption) ?_
          rotate_left
          · (intro w hSw; (try dsimp only at hSw); (go_simp <;> with_reducible rfl))
          try simp only [Act.put, List.setIfInBounds_toArray, List.set_cons_zero, List.set_cons_succ]
          refine wpAnyH_take (i := 8) (oi := { dst := some 40, op := Op.indexAddr 42 (Operand.tmp 38) (Operand.tmp 39), type := 0, pos := "l5_best.go:37", after := #[{ on := 6, ground := Ground.data }, { on := 7, ground := Ground.data }], guard := none }) (v := ?_) rfl (by kernel_rfl) (by kernel_rfl) (by kernel_rfl) (fun _ _ _ h => h) (Or.inl ⟨by rfl, ?_⟩) (by assumption) ?_
          rotate_left
          · (intro w hSw; (try dsimp only at hSw); (go_simp <;> with_reducible rfl))
          try simp only [Act.put, List.setIfInBounds_toArray, List.set_cons_zero, List.set_cons_succ]
          refine wpAnyH_take (i := 9) (oi := { dst := some 41, op := Op.load 28 (Operand.tmp 40), type := 28, pos := "l5_best.go:37", after := #[{ on := 8, ground := Ground.data }], guard := none }) (v := ?_) rfl (by kernel_rfl) (by kernel_rfl) (by kernel_rfl) (fun _ _ _ h => h) (Or.inl ⟨by rfl, ?_⟩) (by assumption) ?_
          rotate_left
          · (intro w hSw; (try dsimp only at hSw); (go_simp <;> with_reducible rfl))
          try simp only [Act.put, List.setIfInBounds_toArray, List.set_cons_zero, List.set_cons_succ]
          refine wpAnyH_take (i := 10) (oi := { dst := some 42, op := Op.move (Operand.tmp 1), type := 3, pos := "l5_best.go:37", after := #[], guard := none }) (v := ?_) rfl (by kernel_rfl) (by kernel_rfl) (by kernel_rfl) (fun _ _ _ h => h) (Or.inl ⟨by rfl, ?_⟩) (by assumption) ?_
          rotate_left
          · (intro w hSw; (try dsimp only at hSw); (go_simp <;> with_reducible rfl))
          try simp only [Act.put, List.setIfInBounds_toArray, List.set_cons_zero, List.set_cons_succ]
          refine wpAnyH_ready (rs := [5]) (by kernel_rfl) (by simp) ?_
          refine AllReadyH.cons (o := { dst := some 37, op := Op.call { callee := Callee.value (Operand.func 52), args := #[Operand.tmp 35, Operand.tmp 36], argTypes := #[28, 3] }, type := 36, pos := "l5_best.go:37", after := #[{ on := 3, ground := Ground.data }, { on := 4, ground := Ground.data }], guard := none }) rfl (fun K hK => ?_) AllReadyH.nil
          go_simp
          go_at_call 52
          refine (HQ1.out _ hHeld.2.1.1).mono ?_
          rintro e3 w3 ⟨rfl, hb3⟩
          have K3 := Lib.hid (keepB hHeld hb3)
          clear hb3
          try go_wp2_with fail
          refine hK.out _ _ ?_ (fun hHeld5 => ?_)
          · exact K3.out
          clear hK K hHeld
          try simp only [Act.put, List.setIfInBounds_toArray, List.set_cons_zero, List.set_cons_succ]
          refine wpAnyH_ready (rs := [11]) (by kernel_rfl) (by simp) ?_
          refine AllReadyH.cons (o := { dst := some 43, op := Op.call { callee := Callee.value (Operand.func 52), args := #[Operand.tmp 41, Operand.tmp 42], argTypes := #[28, 3] }, type := 36, pos := "l5_best.go:37", after := #[{ on := 9, ground := Ground.data }, { on := 10, ground := Ground.data }, { on := 5, ground := Ground.chain }], guard := none }) rfl (fun K hK => ?_) AllReadyH.nil
          go_simp
          go_at_call 52
          refine (HQ2.out _ hHeld5.2.1.2).mono ?_
          rintro e4 w4 ⟨rfl, hb4⟩
          have K4 := Lib.hid (keepB hHeld5 hb4)
          clear hb4
          try go_wp2_with fail
          refine hK.out _ _ ?_ (fun hHeld11 => ?_)
          · exact K4.out
          clear hK K hHeld5
          try simp only [Act.put, List.setIfInBounds_toArray, List.set_cons_zero, List.set_cons_succ]
          refine wpAnyH_ready (rs := [12]) (by kernel_rfl) (by simp) ?_
          refine AllReadyH.cons (o := { dst := some 44, op := Op.call { callee := Callee.value (Operand.func 95), args := #[Operand.tmp 37, Operand.tmp 43], argTypes := #[36, 36] }, type := 3, pos := "l5_best.go:37", after := #[{ on := 5, ground := Ground.data }, { on := 11, ground := Ground.data }, { on := 11, ground := Ground.chain }], guard := none }) rfl (fun K hK => ?_) AllReadyH.nil
          go_simp
          go_at_call 95
          refine (HQ3.out _).mono ?_
          rintro e5 w5 ⟨rfl, hb5⟩
          have K5 := Lib.hid (keepB hHeld11 hb5)
          clear hb5
          try go_wp2_with fail
          refine hK.out _ _ ?_ (fun hHeld12 => ?_)
          · exact K5.out
          clear hK K hHeld11
          try simp only [Act.put, List.setIfInBounds_toArray, List.set_cons_zero, List.set_cons_succ]
          refine wpAnyH_take (i := 13) (oi := { dst := some 45, op := Op.binOp BinOp.lss 3 (Operand.tmp 44) (Operand.const (Value.int IntKind.i64 0)) 3, type := 4, pos := "l5_best.go:37", after := #[{ on := 12, ground := Ground.data }], guard := none }) (v := ?_) rfl (by kernel_rfl) (by kernel_rfl) (by kernel_rfl) (fun _ _ _ h => h) (Or.inl ⟨by rfl, ?_⟩) (by assumption) ?_
          rotate_left
          · (intro w hSw; (try dsimp only at hSw); (go_simp <;> with_reducible rfl))
          try simp only [Act.put, List.setIfInBounds_toArray, List.set_cons_zero, List.set_cons_succ]
          refine wpAnyH_done (by kernel_rfl) ?_ _
          go_wp2_with fail
          go_roundw
          case rel => exact ⟨j + 1, c, by omega, by omega, by omega, by go_num, rfl, Lib.hid ⟨hcl, HR.out.symm⟩, K5.out.2.2⟩
          case measure => simp [intOf]; omega
      · obtain rfl : j = M := by omega
        have htk : ls.take j = ls := List.take_of_length_le (by have := HM.out; omega)
        rw [htk] at hce
        obtain ⟨⟨x1, x2⟩, x3⟩ := HL.out wr hW c hcl
        have hfr := HFR.out wr hW c hcl
        have HR := Lib.hid (And.intro x2 (And.intro x3 (And.intro hfr (HB.out.trans hW))))
        rw [hce] at HR x1
        have hnl : ¬ (j < ls.length) := by have := HM.out; omega
        clear x2 x3 hfr hW HBEST hce
        go_wp2_with fail
        go_ret2
        exact ⟨AA c, CC c, gg c, rfl, HR.out.1, HR.out.2.1, HR.out.2.2.1, HR.out.2.2.2⟩

set_option maxRecDepth 100000 in
theorem specBestLayout (hs : SubAt w a k fs) (hfs : ∀ c ∈ fs, c < w.heap.size) (hc : k.len ≤ cap) (hsz : t.size + k.size ≤ 2000000) (hft : k.Fits) (ht : t.size ≤ maxLen) :
    Calls Try.prog 28 #[.agg #[.int .i64 o, .int .i64 n, .string t, .slice a k.len cap], .int .i64 x] w (LayRes w (beR x o n t k)) := by
  have B1 := Lib.hid (show ∀ ob, Ext w (w.alloc ob) from fun ob => (Ext.refl w).alloc _)
  have HS := Lib.hid (fun (w1 : World) (hw1 : Ext w w1) => l5Best x w1 o n t k a cap fs (hs.below hfs hw1) (fun c hc => Nat.lt_of_lt_of_le (hfs c hc) hw1.size) hc hsz hft ht)
  obtain ⟨R, hR⟩ : ∃ R, beR x o n t k = R := ⟨_, rfl⟩
  rw [hR] at HS ⊢
  clear hs hfs hR
  go_enter Try.func28, Try.ntmps28
  go_wp2_with fail
  refine (HS.out _ (B1.out _)).mono ?_
  rintro e2 w2 ⟨a2, c2, f2, rfl, hc2, hs2, hf2, hb2⟩
  have H2 := Lib.hid (show LayRes w R (.returned (.tuple #[.slice a2 R.1.length c2, .bool R.2])) w2 from ⟨a2, c2, f2, rfl, hc2, hs2, hf2.mono (by simp), (B1.out _).trans hb2⟩)
  clear hc2 hs2 hf2 hb2
  go_wp2_with fail
  go_ret2
  exact H2.out

/-- a cost, and whether there is one -/
def CoOut (w : World) (R : Int × Int × Bool) (e : Ending) (w' : World) : Prop := e = .returned (.tuple #[.agg #[.int .i64 R.1, .int .i64 R.2.1], .bool R.2.2]) ∧ Below w.heap.size w w'
set_option maxRecDepth 100000 in
set_option maxHeartbeats 1600000 in
theorem specBestCost (hs : SubAt w a k fs) (hfs : ∀ c ∈ fs, c < w.heap.size) (hc : k.len ≤ cap) (hsz : t.size + k.size ≤ 2000000) (hft : k.Fits) (ht : t.size ≤ maxLen) :
    Calls Try.prog 17 #[.agg #[.int .i64 o, .int .i64 n, .string t, .slice a k.len cap], .int .i64 x] w (CoOut w (bcR x o n t k)) := by
  have B1 := Lib.hid (show ∀ ob ob', Ext w ((w.alloc ob).alloc ob') from fun ob ob' => ((Ext.refl w).alloc _).alloc _)
  have HS := Lib.hid (fun (w1 : World) (hw1 : Ext w w1) => l5Best x w1 o n t k a cap fs (hs.below hfs hw1) (fun c hc => Nat.lt_of_lt_of_le (hfs c hc) hw1.size) hc hsz hft ht)
  have HBN := Lib.hid (fun h => bc_no (x := x) (o := o) (n := n) (t := t) (k := k) h)
  have HBY := Lib.hid (fun h => And.intro (bc_yes (x := x) (o := o) (n := n) (t := t) (k := k) h) (be_lv (x := x) (o := o) (n := n) (t := t) (k := k) h))
  obtain ⟨Q, hQ⟩ : ∃ Q, bcR x o n t k = Q := ⟨_, rfl⟩
  rw [hQ] at HBN HBY ⊢
  obtain ⟨⟨l, ok⟩, hR⟩ : ∃ R, beR x o n t k = R := ⟨_, rfl⟩
  rw [hR] at HS HBN HBY
  clear hs hfs hR hQ
  unfold CoOut
  go_enter Try.func17, Try.ntmps17
  go_wp2_with fail
  refine (HS.out _ (B1.out _ _)).mono ?_
  rintro e2 w2 ⟨a2, c2, f2, rfl, hc2, hs2, hf2, hb2⟩
  cases ok with
  | false =>
    obtain rfl := HBN.out rfl
    have HB := Lib.hid ((B1.out _ _).trans hb2)
    have hcx := cell0 (w := w.alloc (.cells #[.int .i64 o, .int .i64 n, .string t, .slice a k.len cap] 25)) (o := .cells #[] 0) hb2
    simp only [World.size_alloc] at hcx
    obtain ⟨c0, c1, z0, z1, cl⟩ := hcx
    clear hb2 hs2 hf2 hc2
    go_wp2_with fail
    obtain ⟨r0, r1, rl⟩ := pair_set (u := .int .i64 0) (u' := .int .i64 0) c0 c1 cl
    refine bodyPost_ret (v := .tuple #[.agg #[.int .i64 0, .int .i64 0], .bool false]) (by simp [results, Try.results17, go_sem, r0, r1, rl]) rfl ?_
    exact ⟨rfl, (HB.out.setNew (Nat.le_succ _) _).setNew (Nat.le_succ _) _⟩
  | true =>
    obtain ⟨hqe, hlv, hwx, _⟩ := HBY.out rfl
    have hbx := wv_bd hwx
    have HC := Lib.hid (fun (W : World) (h : Ext w2 W) => l5Cost l x W a2 c2 f2 (hs2.below hs2.lt h) hc2 hlv hbx.1 (by omega))
    have HB := Lib.hid (And.intro hb2 ((B1.out _ _).trans hb2))
    have hl200 := (lv_len hlv).2
    obtain ⟨m, hm⟩ : ∃ m, l.length = m := ⟨_, rfl⟩
    obtain ⟨v, hv⟩ : ∃ v, ov x l = v := ⟨_, rfl⟩
    rw [hm, hv] at HC
    rw [hm, hv] at hqe
    rw [hm] at hc2 hl200 ⊢
    have HQE := Lib.hid hqe
    clear hs2 hf2 hm hv hlv hwx hb2 hqe
    go_wp2_with fail
    refine (HC.out _ (Ext.refl _)).mono ?_
    rintro e3 w3 ⟨rfl, hb3⟩
    have hcx := cell0 (w := w.alloc (.cells #[.int .i64 o, .int .i64 n, .string t, .slice a k.len cap] 25)) (o := .cells #[] 0) (HB.out.1.trans (hb3.mono HB.out.1.size))
    simp only [World.size_alloc] at hcx
    obtain ⟨c0, c1, z0, z1, cl⟩ := hcx
    have H3 := Lib.hid (HB.out.2.trans hb3)
    clear hb3
    go_wp2_with fail
    obtain ⟨r0, r1, rl⟩ := pair_set (u := .int .i64 v) (u' := .int .i64 (m : Int)) c0 c1 cl
    refine bodyPost_ret (v := .tuple #[.agg #[.int .i64 v, .int .i64 (m : Int)], .bool true]) (by simp [results, Try.results17, go_sem, r0, r1, rl]) rfl ?_
    exact ⟨by rw [HQE.out], (H3.out.setNew (Nat.le_succ _) _).setNew (Nat.le_succ _) _⟩
end

end Go.Proofs.Ytgcaolofehgbeaa.Be


import Derived.Test.YtlpmocdbmnpjcaaDrJ
import Derived.Deep.RegionHeld3
/-
  The model's draw of the arguments of DocSame: two documents, each in memory of its own.
-/
set_option linter.unusedVariables false
set_option linter.unusedSimpArgs false
namespace Go.Proofs.Ytlpmocdbmnpjcaa.DrS
open Go.RowKit P1 Draw Draw2 Draw6 Copy DrA DrD Mut Mut2 DrI DrJ

theorem keep4 {w w' : World} {b B x : Nat} {u0 u1 u2 u3 : Value} (h : w.cell? ⟨b, 0, none⟩ = some u0 ∧ w.cell? ⟨b, 1, none⟩ = some u1 ∧ w.cell? ⟨b, 2, none⟩ = some u2 ∧ w.cell? ⟨b, 3, none⟩ = some u3) (k : But B x w w') (hb : b < B) (hx : b ≠ x) :
    w'.cell? ⟨b, 0, none⟩ = some u0 ∧ w'.cell? ⟨b, 1, none⟩ = some u1 ∧ w'.cell? ⟨b, 2, none⟩ = some u2 ∧ w'.cell? ⟨b, 3, none⟩ = some u3 :=
  ⟨(k.cell hb hx).trans h.1, (k.cell hb hx).trans h.2.1, (k.cell hb hx).trans h.2.2.1, (k.cell hb hx).trans h.2.2.2⟩
theorem keepSet {w : World} {b c : Nat} {u0 u1 u2 u3 v0 v1 v2 v3 : Value} (hne : c ≠ b) (h : w.cell? ⟨b, 0, none⟩ = some u0 ∧ w.cell? ⟨b, 1, none⟩ = some u1 ∧ w.cell? ⟨b, 2, none⟩ = some u2 ∧ w.cell? ⟨b, 3, none⟩ = some u3) :
    ((((w.setCell ⟨c, 0, none⟩ v0).setCell ⟨c, 1, none⟩ v1).setCell ⟨c, 2, none⟩ v2).setCell ⟨c, 3, none⟩ v3).cell? ⟨b, 0, none⟩ = some u0 ∧ ((((w.setCell ⟨c, 0, none⟩ v0).setCell ⟨c, 1, none⟩ v1).setCell ⟨c, 2, none⟩ v2).setCell ⟨c, 3, none⟩ v3).cell? ⟨b, 1, none⟩ = some u1 ∧
    ((((w.setCell ⟨c, 0, none⟩ v0).setCell ⟨c, 1, none⟩ v1).setCell ⟨c, 2, none⟩ v2).setCell ⟨c, 3, none⟩ v3).cell? ⟨b, 2, none⟩ = some u2 ∧ ((((w.setCell ⟨c, 0, none⟩ v0).setCell ⟨c, 1, none⟩ v1).setCell ⟨c, 2, none⟩ v2).setCell ⟨c, 3, none⟩ v3).cell? ⟨b, 3, none⟩ = some u3 := by
  obtain ⟨h0, h1, h2, h3⟩ := h
  refine ⟨?_, ?_, ?_, ?_⟩ <;> (rw [World.cell?_setCell_far _ _ _ _ hne, World.cell?_setCell_far _ _ _ _ hne, World.cell?_setCell_far _ _ _ _ hne, World.cell?_setCell_far _ _ _ _ hne]; assumption)

set_option maxRecDepth 100000 in
set_option maxHeartbeats 3200000 in
theorem drawDocSame (w : World) (a : Option Addr) (len cap : Nat) (hb : Bytes w a len) (hlc : len ≤ cap) (hcm : cap ≤ maxLen) :
    Calls Try.prog 24 #[.slice a len cap] w (TwoDraw w) := by
  have HO := Lib.hid (fun o1 o2 => l15Open ((w.alloc o1).alloc o2) a len cap (LawC.bytes_below hb (((Below.refl _ _).alloc (Nat.le_refl _) o1).alloc (by simp) o2)) hlc hcm)
  clear hb hlc hcm
  go_enter Try.func24, Try.ntmps24
  go_wp2_with fail
  refine (HO.out _ _).mono ?_
  rintro e1 w1 ⟨rfl, hrd1, hlt1, hb1⟩
  have hth1 := four_new' hb1
  have hth1' := eight_new hb1
  have e2 : ∀ o1 o2, ((w.alloc o1).alloc o2).heap.size = w.heap.size + 1 + 1 := fun o1 o2 => by simp
  simp only [World.size_alloc] at hrd1 hlt1
  have HD := Lib.hid (l1Draw w1 (w.heap.size + 1 + 1) _ 0 hrd1 (by omega) hlt1)
  have H1 := Lib.hid (And.intro hlt1 (And.intro (opened2 hb1) (And.intro hth1 hth1')))
  clear hrd1 hlt1 hb1 hth1 hth1' e2
  go_wp2_with fail
  refine HD.out.mono ?_
  rintro e2 w2 ⟨oA, nA, tA, kA, aA, cA, fA, q1, rfl, hcA, hsA, hvA, hsubA, hfrA, hrd2, hq1, hbut2⟩
  have hx2 : w.heap.size + 1 + 1 < w2.heap.size := Nat.lt_of_lt_of_le H1.out.1 hbut2.size
  obtain ⟨V, hV⟩ : ∃ V, w2.alloc (.cells #[.int .i64 oA, .int .i64 nA, .string tA, .slice aA kA.len cA] 25) = V := ⟨_, rfl⟩
  have hbV : Below w2.heap.size w2 V := by rw [← hV]; exact (Below.refl _ _).alloc (Nat.le_refl _) _
  have lV : w2.heap.size < V.heap.size := by rw [← hV]; simp
  have x0 : V.cell? ⟨w2.heap.size, 0, none⟩ = some (.int .i64 oA) := by rw [← hV, World.cell?_alloc_new]; rfl
  have x1 : V.cell? ⟨w2.heap.size, 1, none⟩ = some (.int .i64 nA) := by rw [← hV, World.cell?_alloc_new]; rfl
  have x2 : V.cell? ⟨w2.heap.size, 2, none⟩ = some (.string tA) := by rw [← hV, World.cell?_alloc_new]; rfl
  have x3 : V.cell? ⟨w2.heap.size, 3, none⟩ = some (.slice aA kA.len cA) := by rw [← hV, World.cell?_alloc_new]; rfl
  have HXV := Lib.hid (And.intro x0 (And.intro x1 (And.intro x2 x3)))
  have HP := Lib.hid (pick V (w.heap.size + 1 + 1) _ q1 4 (rdBelow hrd2 hx2 hbV) (by omega))
  have H2 := Lib.hid (And.intro hx2 (And.intro hbut2 (And.intro hcA (And.intro hsA (And.intro hsubA (And.intro hfrA hbV))))))
  go_wp2_with fail
  try rw [hV]
  have LV := Lib.hid lV
  clear hcA hsA hvA hsubA hfrA hrd2 hbut2 hx2 hbV hV x0 x1 x2 x3 lV
  refine HP.out.mono ?_
  rintro e3 w3 ⟨r, rfl, hr0, hr4, hrd3, hbut3⟩
  have hl3 : w2.heap.size < w3.heap.size := Nat.lt_of_lt_of_le LV.out hbut3.size
  have hx2 := H2.out.1
  have box3 : w3.cell? ⟨w2.heap.size, 0, none⟩ = some (.int .i64 oA) ∧ w3.cell? ⟨w2.heap.size, 1, none⟩ = some (.int .i64 nA) ∧ w3.cell? ⟨w2.heap.size, 2, none⟩ = some (.string tA) ∧ w3.cell? ⟨w2.heap.size, 3, none⟩ = some (.slice aA kA.len cA) :=
    ⟨(hbut3.cell LV.out (by omega)).trans HXV.out.1, (hbut3.cell LV.out (by omega)).trans HXV.out.2.1, (hbut3.cell LV.out (by omega)).trans HXV.out.2.2.1, (hbut3.cell LV.out (by omega)).trans HXV.out.2.2.2⟩
  have hb23 : But w2.heap.size (w.heap.size + 1 + 1) w2 w3 := (But.of_below H2.out.2.2.2.2.2.2).trans (hbut3.mono (by have := LV.out; omega))
  have hsub3 : SubAt w3 aA kA fA := hb23.sub H2.out.2.2.2.2.1 (fun c hc => ⟨H2.out.2.2.2.2.2.1.lt c hc, by have := (H2.out.2.2.2.2.2.1.2 c hc).1; have := H1.out.1; omega⟩)
  have H3 := Lib.hid (And.intro box3 (And.intro hb23 (And.intro hsub3 hrd3)))
  have L3 := Lib.hid hl3
  clear box3 hb23 hsub3 hrd3 hbut3 hx2 HXV
  have hth3 : ∀ b, b ≤ w.heap.size + 1 → w1.there b 0 4 → w3.there b 0 4 := fun b hb h => there_but (there_but h H2.out.2.1 (by have := H1.out.1; omega) (by omega)) H3.out.2.1 (by have := H1.out.1; have := H2.out.2.1.size; omega) (by omega)
  have HT := Lib.hid (And.intro (hth3 _ (by omega) H1.out.2.2.1) (hth3 _ (by omega) H1.out.2.2.2))
  clear hth3
  have HN := Lib.hid (show w.heap.size + 1 + 1 < w2.heap.size from H2.out.1)
  by_cases hr : r = 0
  · subst hr
    have hx3 : w.heap.size + 1 + 1 < w3.heap.size := by have := L3.out; have := HN.out; omega
    have HD3 := Lib.hid (l1Draw w3.drew (w.heap.size + 1 + 1) _ (q1 + 1) (rdBelow H3.out.2.2.2 hx3 ((Below.refl _ _).drew)) (by omega) hx3)
    go_wp2_with fail
    refine wp_region_held_drew (S := (fun w' => w'.cell? ⟨w2.heap.size, 0, none⟩ = some (.int .i64 oA) ∧ w'.cell? ⟨w2.heap.size, 1, none⟩ = some (.int .i64 nA) ∧ w'.cell? ⟨w2.heap.size, 2, none⟩ = some (.string tA) ∧ w'.cell? ⟨w2.heap.size, 3, none⟩ = some (.slice aA kA.len cA))) (by kernel_rfl) ?_ (fun hHeld => ?_)
    · exact keep4 (x := w.heap.size + 1 + 1) H3.out.1 (But.of_below ((Below.refl w3.heap.size w3).drew)) L3.out (by have := HN.out; omega)
    refine wpAnyH_take (i := 0) (oi := { dst := some 13, op := Op.load 25 (Operand.tmp 5), type := 25, pos := "l1_docs.go:324", after := #[], guard := none }) (v := ?_) rfl (by kernel_rfl) (by kernel_rfl) (by kernel_rfl) (fun _ _ _ h => h) (Or.inl ⟨by rfl, ?_⟩) (by assumption) ?_
    rotate_left
    · (intro w hSw; (try dsimp only at hSw); (go_simp <;> with_reducible rfl))
    try simp only [Act.put, List.setIfInBounds_toArray, List.set_cons_zero, List.set_cons_succ]
    refine wpAnyH_take (i := 1) (oi := { dst := some 14, op := Op.move (Operand.tmp 4), type := 61, pos := "l1_docs.go:324", after := #[], guard := none }) (v := ?_) rfl (by kernel_rfl) (by kernel_rfl) (by kernel_rfl) (fun _ _ _ h => h) (Or.inl ⟨by rfl, ?_⟩) (by assumption) ?_
    rotate_left
    · (intro w hSw; (try dsimp only at hSw); (go_simp <;> with_reducible rfl))
    try simp only [Act.put, List.setIfInBounds_toArray, List.set_cons_zero, List.set_cons_succ]
    refine wpAnyH_ready (rs := [2]) (by kernel_rfl) (by simp) ?_
    refine AllReadyH.cons (o := { dst := some 15, op := Op.call { callee := Callee.value (Operand.func 53), args := #[Operand.tmp 14], argTypes := #[61] }, type := 25, pos := "l1_docs.go:324", after := #[{ on := 1, ground := Ground.data }], guard := none }) rfl (fun K hK => ?_) AllReadyH.nil
    go_simp
    go_at_call 53
    refine HD3.out.mono ?_
    rintro e4 w4 ⟨oB, nB, tB, kB, aB, cB, fB, q2, rfl, hcB, hsB, hvB, hsubB, hfrB, hrd4, hq4, hbut4⟩
    have B4 := Lib.hid (show But w3.heap.size (w.heap.size + 1 + 1) w3 w4 from (But.of_below ((Below.refl w3.heap.size w3).drew)).trans hbut4)
    have HB := Lib.hid (And.intro hcB (And.intro (show tB.size + kB.size ≤ 1040 by omega) (And.intro hsubB (show Fresh w3.heap.size w4 fB from hfrB))))
    clear hcB hsB hvB hsubB hfrB hrd4 hbut4
    have hth : ∀ b, b ≤ w.heap.size + 1 → w3.there b 0 4 → w4.there b 0 4 := fun b hb h => there_but h B4.out (by have := L3.out; have := HN.out; omega) (by omega)
    obtain ⟨⟨u0, u1, u2, u3, y0, y1, y2, y3⟩, z0, z1, z2, z3⟩ := there_at (hth _ (by omega) HT.out.1)
    obtain ⟨⟨u4, u5, u6, u7, y4, y5, y6, y7⟩, z4, z5, z6, z7⟩ := there_at (hth _ (by omega) HT.out.2)
    have hl5 : w.heap.size < w4.heap.size := by have := L3.out; have := HN.out; have := B4.out.size; omega
    have hl6 : w.heap.size + 1 < w4.heap.size := by have := L3.out; have := HN.out; have := B4.out.size; omega
    clear hth
    try go_wp2_with fail
    refine hK.out _ _ ?_ (fun hHeld2 => ?_)
    · exact keep4 H3.out.1 B4.out L3.out (by have := HN.out; omega)
    clear hK K hHeld
    try simp only [Act.put, List.setIfInBounds_toArray, List.set_cons_zero, List.set_cons_succ]
    refine wpAnyH_ready (rs := [3]) (by kernel_rfl) (by simp) ?_
    refine AllReadyH.cons (o := { dst := none, op := Op.store 25 (Operand.tmp 2) (Operand.tmp 13), type := 0, pos := "l1_docs.go:324", after := #[{ on := 0, ground := Ground.data }, { on := 2, ground := Ground.chain }, { on := 0, ground := Ground.phase }, { on := 1, ground := Ground.textOnly Departure.lateStores }, { on := 2, ground := Ground.textOnly Departure.lateStoresUnsure }], guard := none }) rfl (fun K hK => ?_) AllReadyH.nil
    go_simp
    refine hK.out _ _ ?_ (fun hHeld3 => ?_)
    · exact keepSet (c := w.heap.size) (by have := HN.out; omega) hHeld2
    clear hK K hHeld2
    try simp only [Act.put, List.setIfInBounds_toArray, List.set_cons_zero, List.set_cons_succ]
    refine wpAnyH_ready (rs := [4]) (by kernel_rfl) (by simp) ?_
    refine AllReadyH.cons (o := { dst := none, op := Op.store 25 (Operand.tmp 3) (Operand.tmp 15), type := 0, pos := "l1_docs.go:324", after := #[{ on := 2, ground := Ground.data }, { on := 3, ground := Ground.chain }, { on := 0, ground := Ground.phase }, { on := 1, ground := Ground.phase }, { on := 2, ground := Ground.phase }, { on := 3, ground := Ground.phase }], guard := none }) rfl (fun K hK => ?_) AllReadyH.nil
    go_simp
    refine hK.out _ _ ?_ (fun hHeld4 => ?_)
    · exact keepSet (c := w.heap.size + 1) (by have := HN.out; omega) hHeld3
    clear hK K hHeld3
    try simp only [Act.put, List.setIfInBounds_toArray, List.set_cons_zero, List.set_cons_succ]
    refine wpAnyH_done (by kernel_rfl) ?_ _
    go_wp2_with fail
    refine bodyPost_ret (v := .tuple #[.agg #[.int .i64 oA, .int .i64 nA, .string tA, .slice aA kA.len cA], .agg #[.int .i64 oB, .int .i64 nB, .string tB, .slice aB kB.len cB]]) (by simp [results, Try.results24, go_sem, y0, y1, y2, y3, y4, y5, y6, y7, hl5, hl6]) rfl ?_
    have htt : Touch w.heap.size (w.heap.size + 1 + 1) w4 ((((((((w4.setCell ⟨w.heap.size, 0, none⟩ (.int .i64 oA)).setCell ⟨w.heap.size, 1, none⟩ (.int .i64 nA)).setCell ⟨w.heap.size, 2, none⟩ (.string tA)).setCell ⟨w.heap.size, 3, none⟩ (.slice aA kA.len cA)).setCell ⟨w.heap.size + 1, 0, none⟩ (.int .i64 oB)).setCell ⟨w.heap.size + 1, 1, none⟩ (.int .i64 nB)).setCell ⟨w.heap.size + 1, 2, none⟩ (.string tB)).setCell ⟨w.heap.size + 1, 3, none⟩ (.slice aB kB.len cB)) := by
      refine Touch.setCell (Touch.setCell (Touch.setCell (Touch.setCell (Touch.setCell (Touch.setCell (Touch.setCell (Touch.setCell (Touch.refl _ _ _) ?_ ?_ _) ?_ ?_ _) ?_ ?_ _) ?_ ?_ _) ?_ ?_ _) ?_ ?_ _) ?_ ?_ _) ?_ ?_ _ <;> (simp; try omega)
    obtain ⟨hx2, hbut2, hcA, hsA, hsubA, hfrA, _⟩ := H2.out
    obtain ⟨hcB, hsB, hsubB, hfrB⟩ := HB.out
    have l3 := L3.out
    have hx1 := H1.out.1
    have h2W : But w2.heap.size (w.heap.size + 1 + 1) w2 w4 := H3.out.2.1.trans (B4.out.mono (by omega))
    have hAne : ∀ c ∈ fA, c < w2.heap.size ∧ c ≠ w.heap.size + 1 + 1 := fun c hc => ⟨hfrA.lt c hc, by have := (hfrA.2 c hc).1; omega⟩
    have hsubA5 : SubAt w4 aA kA fA := h2W.sub hsubA hAne
    have hfrA5 : Fresh w1.heap.size w4 fA := hfrA.alike h2W.size (fun c hc _ => h2W.frozen (hAne c hc).1 (hAne c hc).2)
    have hoA : ∀ c ∈ fA, c < w.heap.size ∨ w.heap.size + 1 + 1 ≤ c := fun c hc => by have := (hfrA.2 c hc).1; omega
    have hoB : ∀ c ∈ fB, c < w.heap.size ∨ w.heap.size + 1 + 1 ≤ c := fun c hc => by have := (hfrB.2 c hc).1; omega
    have hB5 : Below w.heap.size w w4 := (H1.out.2.1.trans (hbut2.below (by have := H1.out.2.1.size; omega) (by omega))).trans (h2W.below (by omega) (by omega))
    exact ⟨oA, nA, tA, kA, aA, cA, fA, oB, nB, tB, kB, aB, cB, fB, rfl, hcA, hcB, by omega, by omega, htt.sub hsubA5 hoA, htt.sub hsubB hoB, (htt.fresh hfrA5 hoA).mono (by omega), (htt.fresh hfrB hoB).mono (by omega), htt.below hB5 (Nat.le_refl _)⟩
  · have hrb : (r == 0) = false := beq_eq_false_iff_ne.2 hr
    have hx3 : w.heap.size + 1 + 1 < w3.heap.size := by have := L3.out; have := HN.out; omega
    have HM3 := Lib.hid (l1Mutate w3.drew (w.heap.size + 1 + 1) _ (q1 + 1) 1000 oA nA tA kA aA cA fA (SubAt.below H3.out.2.2.1 (fun c hc => Nat.lt_of_lt_of_le (H2.out.2.2.2.2.2.1.lt c hc) (Nat.le_of_lt L3.out)) ((Below.refl _ _).drew)) (fun c hc => Nat.lt_of_lt_of_le (H2.out.2.2.2.2.2.1.lt c hc) (Nat.le_of_lt L3.out)) H2.out.2.2.1 H2.out.2.2.2.1 (by omega) (rdBelow H3.out.2.2.2 hx3 ((Below.refl _ _).drew)) (by omega) hx3)
    go_wp2_with fail
    refine wp_region_held_drew (S := (fun w' => w'.cell? ⟨w2.heap.size, 0, none⟩ = some (.int .i64 oA) ∧ w'.cell? ⟨w2.heap.size, 1, none⟩ = some (.int .i64 nA) ∧ w'.cell? ⟨w2.heap.size, 2, none⟩ = some (.string tA) ∧ w'.cell? ⟨w2.heap.size, 3, none⟩ = some (.slice aA kA.len cA))) (by kernel_rfl) ?_ (fun hHeld => ?_)
    · exact keep4 (x := w.heap.size + 1 + 1) H3.out.1 (But.of_below ((Below.refl w3.heap.size w3).drew)) L3.out (by have := HN.out; omega)
    refine wpAnyH_take (i := 0) (oi := { dst := some 16, op := Op.load 25 (Operand.tmp 5), type := 25, pos := "l1_docs.go:326", after := #[], guard := none }) (v := ?_) rfl (by kernel_rfl) (by kernel_rfl) (by kernel_rfl) (fun _ _ _ h => h) (Or.inl ⟨by rfl, ?_⟩) (by assumption) ?_
    rotate_left
    · (intro w hSw; (try dsimp only at hSw); (go_simp <;> with_reducible rfl))
    try simp only [Act.put, List.setIfInBounds_toArray, List.set_cons_zero, List.set_cons_succ]
    refine wpAnyH_take (i := 1) (oi := { dst := some 17, op := Op.move (Operand.tmp 4), type := 61, pos := "l1_docs.go:326", after := #[], guard := none }) (v := ?_) rfl (by kernel_rfl) (by kernel_rfl) (by kernel_rfl) (fun _ _ _ h => h) (Or.inl ⟨by rfl, ?_⟩) (by assumption) ?_
    rotate_left
    · (intro w hSw; (try dsimp only at hSw); (go_simp <;> with_reducible rfl))
    try simp only [Act.put, List.setIfInBounds_toArray, List.set_cons_zero, List.set_cons_succ]
    refine wpAnyH_take (i := 2) (oi := { dst := some 18, op := Op.move (Operand.tmp 4), type := 61, pos := "l1_docs.go:326", after := #[], guard := none }) (v := ?_) rfl (by kernel_rfl) (by kernel_rfl) (by kernel_rfl) (fun _ _ _ h => h) (Or.inl ⟨by rfl, ?_⟩) (by assumption) ?_
    rotate_left
    · (intro w hSw; (try dsimp only at hSw); (go_simp <;> with_reducible rfl))
    try simp only [Act.put, List.setIfInBounds_toArray, List.set_cons_zero, List.set_cons_succ]
    refine wpAnyH_take (i := 3) (oi := { dst := some 19, op := Op.load 25 (Operand.tmp 5), type := 25, pos := "l1_docs.go:326", after := #[], guard := none }) (v := ?_) rfl (by kernel_rfl) (by kernel_rfl) (by kernel_rfl) (fun _ _ _ h => h) (Or.inl ⟨by rfl, ?_⟩) (by assumption) ?_
    rotate_left
    · (intro w hSw; (try dsimp only at hSw); (go_simp <;> with_reducible rfl))
    try simp only [Act.put, List.setIfInBounds_toArray, List.set_cons_zero, List.set_cons_succ]
    refine wpAnyH_ready (rs := [4]) (by kernel_rfl) (by simp) ?_
    refine AllReadyH.cons (o := { dst := some 20, op := Op.call { callee := Callee.value (Operand.func 52), args := #[Operand.tmp 18, Operand.tmp 19], argTypes := #[61, 25] }, type := 25, pos := "l1_docs.go:326", after := #[{ on := 2, ground := Ground.data }, { on := 3, ground := Ground.data }], guard := none }) rfl (fun K hK => ?_) AllReadyH.nil
    go_simp
    go_at_call 52
    refine HM3.out.mono ?_
    rintro e4 w4 ⟨oM, nM, tM, kM, aM, cM, fM, q2, rfl, hcM, hsM, hsubM, hfrM, hrd4, hq4, hbut4⟩
    have B4 := Lib.hid (show But w3.heap.size (w.heap.size + 1 + 1) w3 w4 from (But.of_below ((Below.refl w3.heap.size w3).drew)).trans hbut4)
    have hx4 : w.heap.size + 1 + 1 < w4.heap.size := Nat.lt_of_lt_of_le hx3 B4.out.size
    have HM4 := Lib.hid (l1Mutate w4 (w.heap.size + 1 + 1) _ q2 1020 oM nM tM kM aM cM fM hsubM hfrM.lt hcM hsM (by omega) hrd4 (by omega) hx4)
    clear hcM hsM hsubM hfrM hrd4 hbut4 hx4
    try go_wp2_with fail
    refine hK.out _ _ ?_ (fun hHeld4 => ?_)
    · exact keep4 H3.out.1 B4.out L3.out (by have := HN.out; omega)
    clear hK K hHeld
    try simp only [Act.put, List.setIfInBounds_toArray, List.set_cons_zero, List.set_cons_succ]
    refine wpAnyH_ready (rs := [5]) (by kernel_rfl) (by simp) ?_
    refine AllReadyH.cons (o := { dst := some 21, op := Op.call { callee := Callee.value (Operand.func 52), args := #[Operand.tmp 17, Operand.tmp 20], argTypes := #[61, 25] }, type := 25, pos := "l1_docs.go:326", after := #[{ on := 1, ground := Ground.data }, { on := 4, ground := Ground.data }, { on := 4, ground := Ground.chain }], guard := none }) rfl (fun K hK => ?_) AllReadyH.nil
    go_simp
    go_at_call 52
    refine HM4.out.mono ?_
    rintro e5 w5 ⟨oB, nB, tB, kB, aB, cB, fB, q3, rfl, hcB, hsB, hsubB, hfrB, hrd5, hq5, hbut5⟩
    have B5 := Lib.hid (show But w3.heap.size (w.heap.size + 1 + 1) w3 w5 from B4.out.trans (hbut5.mono B4.out.size))
    have HB := Lib.hid (And.intro hcB (And.intro (show tB.size + kB.size ≤ 1040 by omega) (And.intro hsubB (hfrB.mono B4.out.size))))
    clear hcB hsB hsubB hfrB hrd5 hbut5
    have hth : ∀ b, b ≤ w.heap.size + 1 → w3.there b 0 4 → w5.there b 0 4 := fun b hb h => there_but h B5.out (by have := L3.out; have := HN.out; omega) (by omega)
    obtain ⟨⟨u0, u1, u2, u3, y0, y1, y2, y3⟩, z0, z1, z2, z3⟩ := there_at (hth _ (by omega) HT.out.1)
    obtain ⟨⟨u4, u5, u6, u7, y4, y5, y6, y7⟩, z4, z5, z6, z7⟩ := there_at (hth _ (by omega) HT.out.2)
    have hl5 : w.heap.size < w5.heap.size := by have := L3.out; have := HN.out; have := B5.out.size; omega
    have hl6 : w.heap.size + 1 < w5.heap.size := by have := L3.out; have := HN.out; have := B5.out.size; omega
    clear hth
    try go_wp2_with fail
    refine hK.out _ _ ?_ (fun hHeld5 => ?_)
    · exact keep4 H3.out.1 B5.out L3.out (by have := HN.out; omega)
    clear hK K hHeld4
    try simp only [Act.put, List.setIfInBounds_toArray, List.set_cons_zero, List.set_cons_succ]
    refine wpAnyH_ready (rs := [6]) (by kernel_rfl) (by simp) ?_
    refine AllReadyH.cons (o := { dst := none, op := Op.store 25 (Operand.tmp 2) (Operand.tmp 16), type := 0, pos := "l1_docs.go:326", after := #[{ on := 0, ground := Ground.data }, { on := 5, ground := Ground.chain }, { on := 0, ground := Ground.phase }, { on := 1, ground := Ground.textOnly Departure.lateStores }, { on := 2, ground := Ground.textOnly Departure.lateStores }, { on := 3, ground := Ground.textOnly Departure.lateStores }, { on := 4, ground := Ground.textOnly Departure.lateStoresUnsure }, { on := 5, ground := Ground.textOnly Departure.lateStoresUnsure }], guard := none }) rfl (fun K hK => ?_) AllReadyH.nil
    go_simp
    refine hK.out _ _ ?_ (fun hHeld6 => ?_)
    · exact keepSet (c := w.heap.size) (by have := HN.out; omega) hHeld5
    clear hK K hHeld5
    try simp only [Act.put, List.setIfInBounds_toArray, List.set_cons_zero, List.set_cons_succ]
    refine wpAnyH_ready (rs := [7]) (by kernel_rfl) (by simp) ?_
    refine AllReadyH.cons (o := { dst := none, op := Op.store 25 (Operand.tmp 3) (Operand.tmp 21), type := 0, pos := "l1_docs.go:326", after := #[{ on := 5, ground := Ground.data }, { on := 6, ground := Ground.chain }, { on := 0, ground := Ground.phase }, { on := 1, ground := Ground.phase }, { on := 2, ground := Ground.phase }, { on := 3, ground := Ground.phase }, { on := 4, ground := Ground.phase }, { on := 5, ground := Ground.phase }, { on := 6, ground := Ground.phase }], guard := none }) rfl (fun K hK => ?_) AllReadyH.nil
    go_simp
    refine hK.out _ _ ?_ (fun hHeld7 => ?_)
    · exact keepSet (c := w.heap.size + 1) (by have := HN.out; omega) hHeld6
    clear hK K hHeld6
    try simp only [Act.put, List.setIfInBounds_toArray, List.set_cons_zero, List.set_cons_succ]
    refine wpAnyH_done (by kernel_rfl) ?_ _
    go_wp2_with fail
    refine bodyPost_ret (v := .tuple #[.agg #[.int .i64 oA, .int .i64 nA, .string tA, .slice aA kA.len cA], .agg #[.int .i64 oB, .int .i64 nB, .string tB, .slice aB kB.len cB]]) (by simp [results, Try.results24, go_sem, y0, y1, y2, y3, y4, y5, y6, y7, hl5, hl6]) rfl ?_
    have htt : Touch w.heap.size (w.heap.size + 1 + 1) w5 ((((((((w5.setCell ⟨w.heap.size, 0, none⟩ (.int .i64 oA)).setCell ⟨w.heap.size, 1, none⟩ (.int .i64 nA)).setCell ⟨w.heap.size, 2, none⟩ (.string tA)).setCell ⟨w.heap.size, 3, none⟩ (.slice aA kA.len cA)).setCell ⟨w.heap.size + 1, 0, none⟩ (.int .i64 oB)).setCell ⟨w.heap.size + 1, 1, none⟩ (.int .i64 nB)).setCell ⟨w.heap.size + 1, 2, none⟩ (.string tB)).setCell ⟨w.heap.size + 1, 3, none⟩ (.slice aB kB.len cB)) := by
      refine Touch.setCell (Touch.setCell (Touch.setCell (Touch.setCell (Touch.setCell (Touch.setCell (Touch.setCell (Touch.setCell (Touch.refl _ _ _) ?_ ?_ _) ?_ ?_ _) ?_ ?_ _) ?_ ?_ _) ?_ ?_ _) ?_ ?_ _) ?_ ?_ _) ?_ ?_ _ <;> (simp; try omega)
    obtain ⟨hx2, hbut2, hcA, hsA, hsubA, hfrA, _⟩ := H2.out
    obtain ⟨hcB, hsB, hsubB, hfrB⟩ := HB.out
    have l3 := L3.out
    have hx1 := H1.out.1
    have h2W : But w2.heap.size (w.heap.size + 1 + 1) w2 w5 := H3.out.2.1.trans (B5.out.mono (by omega))
    have hAne : ∀ c ∈ fA, c < w2.heap.size ∧ c ≠ w.heap.size + 1 + 1 := fun c hc => ⟨hfrA.lt c hc, by have := (hfrA.2 c hc).1; omega⟩
    have hsubA5 : SubAt w5 aA kA fA := h2W.sub hsubA hAne
    have hfrA5 : Fresh w1.heap.size w5 fA := hfrA.alike h2W.size (fun c hc _ => h2W.frozen (hAne c hc).1 (hAne c hc).2)
    have hoA : ∀ c ∈ fA, c < w.heap.size ∨ w.heap.size + 1 + 1 ≤ c := fun c hc => by have := (hfrA.2 c hc).1; omega
    have hoB : ∀ c ∈ fB, c < w.heap.size ∨ w.heap.size + 1 + 1 ≤ c := fun c hc => by have := (hfrB.2 c hc).1; omega
    have hB5 : Below w.heap.size w w5 := (H1.out.2.1.trans (hbut2.below (by have := H1.out.2.1.size; omega) (by omega))).trans (h2W.below (by omega) (by omega))
    exact ⟨oA, nA, tA, kA, aA, cA, fA, oB, nB, tB, kB, aB, cB, fB, rfl, hcA, hcB, by omega, by omega, htt.sub hsubA5 hoA, htt.sub hsubB hoB, (htt.fresh hfrA5 hoA).mono (by omega), (htt.fresh hfrB hoB).mono (by omega), htt.below hB5 (Nat.le_refl _)⟩

end Go.Proofs.Ytlpmocdbmnpjcaa.DrS


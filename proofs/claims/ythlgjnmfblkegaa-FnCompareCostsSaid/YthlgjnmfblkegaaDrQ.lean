import Derived.Test.YthlgjnmfblkegaaDrF
import Derived.Test.YthlgjnmfblkegaaLawB
import Derived.Test.YthlgjnmfblkegaaCstB
import Derived.Deep.RegionHeld3
/-
  The model's draw of the arguments of CompareCosts: two costs of small numbers.
-/
set_option linter.unusedVariables false
set_option linter.unusedSimpArgs false
namespace Go.Proofs.Ythlgjnmfblkegaa.DrQ
open Go.RowKit P1 Draw Draw2 Draw6 DrA DrD DrE DrF LayN

/-- two costs that are drawn -/
def TwoCosts (w : World) (e : Ending) (w' : World) : Prop := ∃ p q r s : Int, e = .returned (.tuple #[.agg #[.int .i64 p, .int .i64 q], .agg #[.int .i64 r, .int .i64 s]]) ∧ (0 ≤ p ∧ p < 3) ∧ (0 ≤ q ∧ q < 3) ∧ (0 ≤ r ∧ r < 3) ∧ (0 ≤ s ∧ s < 3) ∧ Below w.heap.size w w'
theorem there_but {w w' : World} {b B x n : Nat} (h : w.there b 0 n) (k : But B x w w') (hb : b < B) (hx : b ≠ x) : w'.there b 0 n := fun j hj => ⟨by rw [k.cell hb hx]; exact (h j hj).1, by rw [k.frozen hb hx]; exact (h j hj).2⟩
theorem pick_bd {r : Int} (h0 : 0 ≤ r) (h1 : r < 3 ∨ r = 0) : 0 ≤ r ∧ r < 3 := by omega
theorem two_new {w w' : World} {T : TypeId} (h : Below ((w.alloc (.cells #[.int .i64 0, .int .i64 0] T)).alloc (.cells #[.int .i64 0, .int .i64 0] T)).heap.size ((w.alloc (.cells #[.int .i64 0, .int .i64 0] T)).alloc (.cells #[.int .i64 0, .int .i64 0] T)) w') :
    (w'.there w.heap.size 0 2 ∧ w'.there (w.heap.size + 1) 0 2) ∧ Below w.heap.size w w' ∧ w.heap.size + 1 < w'.heap.size := by
  have e1 : (w.alloc (.cells #[.int .i64 0, .int .i64 0] T)).heap.size = w.heap.size + 1 := by simp
  have t1 : (w.alloc (.cells #[.int .i64 0, .int .i64 0] T)).there w.heap.size 0 2 := there_new _ _ _ _ (by simp)
  have t2 : ((w.alloc (.cells #[.int .i64 0, .int .i64 0] T)).alloc (.cells #[.int .i64 0, .int .i64 0] T)).there (w.heap.size + 1) 0 2 := by rw [← e1]; exact there_new _ _ _ _ (by simp)
  have hz : ((w.alloc (.cells #[.int .i64 0, .int .i64 0] T)).alloc (.cells #[.int .i64 0, .int .i64 0] T)).heap.size = w.heap.size + 1 + 1 := by simp
  rw [hz] at h
  refine ⟨⟨there_below (there_below t1 (B := w.heap.size + 1) (by omega) ((Below.refl _ _).alloc (by simp) _)) (by omega) h, there_below t2 (by omega) h⟩, (((Below.refl w.heap.size w).alloc (Nat.le_refl _) _).alloc (by simp) _).trans (h.mono (by omega)), by have := h.size; rw [hz] at this; omega⟩
theorem there2 {w : World} {b : Nat} (h : w.there b 0 2) : ∃ u0 u1, w.cell? ⟨b, 0, none⟩ = some u0 ∧ w.cell? ⟨b, 1, none⟩ = some u1 ∧ w.frozen? ⟨b, 0, none⟩ = false ∧ w.frozen? ⟨b, 1, none⟩ = false := by
  obtain ⟨a0, z0⟩ := h 0 (by omega)
  obtain ⟨a1, z1⟩ := h 1 (by omega)
  obtain ⟨u0, a0⟩ := Option.isSome_iff_exists.1 a0
  obtain ⟨u1, a1⟩ := Option.isSome_iff_exists.1 a1
  exact ⟨u0, u1, a0, a1, z0, z1⟩

theorem keepT {w : World} {b c : Nat} {u0 u1 v0 v1 : Value} (hne : c ≠ b) (h : w.cell? ⟨b, 0, none⟩ = some u0 ∧ w.cell? ⟨b, 1, none⟩ = some u1) :
    ((w.setCell ⟨c, 0, none⟩ v0).setCell ⟨c, 1, none⟩ v1).cell? ⟨b, 0, none⟩ = some u0 ∧ ((w.setCell ⟨c, 0, none⟩ v0).setCell ⟨c, 1, none⟩ v1).cell? ⟨b, 1, none⟩ = some u1 := by
  refine ⟨?_, ?_⟩ <;> (rw [World.cell?_setCell_far _ _ _ _ hne, World.cell?_setCell_far _ _ _ _ hne])
  · exact h.1
  · exact h.2

set_option maxRecDepth 100000 in
set_option maxHeartbeats 3200000 in
theorem drawCC (w : World) (a : Option Addr) (len cap : Nat) (hb : Bytes w a len) (hlc : len ≤ cap) (hcm : cap ≤ maxLen) :
    Calls Try.prog 18 #[.slice a len cap] w (TwoCosts w) := by
  have HO := Lib.hid (fun o1 o2 => l15Open ((w.alloc o1).alloc o2) a len cap (LawB.bytes_below hb (((Below.refl _ _).alloc (Nat.le_refl _) o1).alloc (by simp) o2)) hlc hcm)
  clear hb hlc hcm
  go_enter Try.func18, Try.ntmps18
  go_wp2_with fail
  refine (HO.out _ _).mono ?_
  rintro e1 w1 ⟨rfl, hrd1, hlt1, hb1⟩
  obtain ⟨hth, hbw, hl1⟩ := two_new hb1
  simp only [World.size_alloc] at hrd1 hlt1
  have HP1 := Lib.hid (pick w1 (w.heap.size + 1 + 1) _ 0 3 hrd1 (by omega))
  have H1 := Lib.hid (And.intro hlt1 (And.intro hth (And.intro hbw hl1)))
  clear hrd1 hlt1 hb1 hth hbw hl1
  simp only [World.size_alloc]
  go_wp2_with fail
  refine HP1.out.mono ?_
  rintro e2 w2 ⟨p, rfl, hp0, hp1, hrd2, hbut2⟩
  have HP2 := Lib.hid (pick w2 (w.heap.size + 1 + 1) _ (0 + 1) 3 hrd2 (by omega))
  have H2 := Lib.hid (And.intro (pick_bd hp0 hp1) hbut2)
  clear hp0 hp1 hrd2 hbut2
  go_wp2_with fail
  refine HP2.out.mono ?_
  rintro e3 w3 ⟨q, rfl, hq0, hq1, hrd3, hbut3⟩
  have hb13 : But w1.heap.size (w.heap.size + 1 + 1) w1 w3 := H2.out.2.trans (hbut3.mono H2.out.2.size)
  obtain ⟨V, hV⟩ : ∃ V, w3.alloc (.cells #[.int .i64 p, .int .i64 q] 34) = V := ⟨_, rfl⟩
  have hbV : Below w3.heap.size w3 V := by rw [← hV]; exact (Below.refl _ _).alloc (Nat.le_refl _) _
  have lV : w3.heap.size < V.heap.size := by rw [← hV]; simp
  have x0 : V.cell? ⟨w3.heap.size, 0, none⟩ = some (.int .i64 p) := by rw [← hV, World.cell?_alloc_new]; rfl
  have x1 : V.cell? ⟨w3.heap.size, 1, none⟩ = some (.int .i64 q) := by rw [← hV, World.cell?_alloc_new]; rfl
  have hx3 : w.heap.size + 1 + 1 < w3.heap.size := Nat.lt_of_lt_of_le H1.out.1 hb13.size
  have hrdV := rdBelow hrd3 hx3 hbV
  have h1V : But w1.heap.size (w.heap.size + 1 + 1) w1 V := hb13.trans (But.of_below (hbV.mono hb13.size))
  have H3 := Lib.hid (And.intro (pick_bd hq0 hq1) (And.intro h1V (And.intro lV hx3)))
  have HX := Lib.hid (And.intro x0 x1)
  have HP3 := Lib.hid (pick V.drew (w.heap.size + 1 + 1) _ (0 + 1 + 1) 3 (rdBelow hrdV (Nat.lt_trans hx3 lV) ((Below.refl _ _).drew)) (by omega))
  clear hq0 hq1 hrd3 hbut3 hb13 hbV lV x0 x1 hx3 hrdV h1V
  go_wp2_with fail
  try rw [hV]
  clear hV
  refine wp_region_held_drew (S := (fun w' => w'.cell? ⟨w3.heap.size, 0, none⟩ = some (.int .i64 p) ∧ w'.cell? ⟨w3.heap.size, 1, none⟩ = some (.int .i64 q))) (by kernel_rfl) ?_ (fun hHeld => ?_)
  · exact HX.out
  refine wpAnyH_take (i := 0) (oi := { dst := some 13, op := Op.load 34 (Operand.tmp 5), type := 34, pos := "l5_best.go:138", after := #[], guard := none }) (v := ?_) rfl (by kernel_rfl) (by kernel_rfl) (by kernel_rfl) (fun _ _ _ h => h) (Or.inl ⟨by rfl, ?_⟩) (by assumption) ?_
  rotate_left
  · (intro w hSw; (try dsimp only at hSw); (go_simp <;> with_reducible rfl))
  try simp only [Act.put, List.setIfInBounds_toArray, List.set_cons_zero, List.set_cons_succ]
  refine wpAnyH_take (i := 1) (oi := { dst := some 14, op := Op.move (Operand.tmp 4), type := 50, pos := "l5_best.go:138", after := #[], guard := none }) (v := ?_) rfl (by kernel_rfl) (by kernel_rfl) (by kernel_rfl) (fun _ _ _ h => h) (Or.inl ⟨by rfl, ?_⟩) (by assumption) ?_
  rotate_left
  · (intro w hSw; (try dsimp only at hSw); (go_simp <;> with_reducible rfl))
  try simp only [Act.put, List.setIfInBounds_toArray, List.set_cons_zero, List.set_cons_succ]
  refine wpAnyH_take (i := 3) (oi := { dst := some 16, op := Op.move (Operand.tmp 4), type := 50, pos := "l5_best.go:138", after := #[], guard := none }) (v := ?_) rfl (by kernel_rfl) (by kernel_rfl) (by kernel_rfl) (fun _ _ _ h => h) (Or.inl ⟨by rfl, ?_⟩) (by assumption) ?_
  rotate_left
  · (intro w hSw; (try dsimp only at hSw); (go_simp <;> with_reducible rfl))
  try simp only [Act.put, List.setIfInBounds_toArray, List.set_cons_zero, List.set_cons_succ]
  refine wpAnyH_ready (rs := [2]) (by kernel_rfl) (by simp) ?_
  refine AllReadyH.cons (o := { dst := some 15, op := Op.call { callee := Callee.value (Operand.func 42), args := #[Operand.tmp 14, Operand.const (Value.int IntKind.i64 3)], argTypes := #[50, 3] }, type := 3, pos := "l5_best.go:138", after := #[{ on := 1, ground := Ground.data }], guard := none }) rfl (fun K hK => ?_) AllReadyH.nil
  go_simp
  go_at_call 42
  refine HP3.out.mono ?_
  rintro e4 w4 ⟨r, rfl, hr0, hr1, hrd4, hbut4⟩
  have hx4 : w3.heap.size < w4.heap.size := Nat.lt_of_lt_of_le H3.out.2.2.1 hbut4.size
  have HP4 := Lib.hid (pick w4 (w.heap.size + 1 + 1) _ (0 + 1 + 1 + 1) 3 hrd4 (by omega))
  have k4 : w4.cell? ⟨w3.heap.size, 0, none⟩ = some (.int .i64 p) ∧ w4.cell? ⟨w3.heap.size, 1, none⟩ = some (.int .i64 q) := ⟨(hbut4.cell H3.out.2.2.1 (by have := H3.out.2.2.2; omega)).trans HX.out.1, (hbut4.cell H3.out.2.2.1 (by have := H3.out.2.2.2; omega)).trans HX.out.2⟩
  have h14 : But w1.heap.size (w.heap.size + 1 + 1) w1 w4 := H3.out.2.1.trans ((But.of_below ((Below.refl w1.heap.size V).drew)).trans (hbut4.mono (by have := H3.out.2.1.size; exact this)))
  have H4 := Lib.hid (And.intro (pick_bd hr0 hr1) (And.intro k4 (And.intro h14 hx4)))
  clear hr0 hr1 hrd4 hbut4 hx4 k4 h14
  try go_wp2_with fail
  refine hK.out _ _ ?_ (fun hHeld2 => ?_)
  · exact H4.out.2.1
  clear hK K hHeld
  try simp only [Act.put, List.setIfInBounds_toArray, List.set_cons_zero, List.set_cons_succ]
  refine wpAnyH_ready (rs := [4]) (by kernel_rfl) (by simp) ?_
  refine AllReadyH.cons (o := { dst := some 17, op := Op.call { callee := Callee.value (Operand.func 42), args := #[Operand.tmp 16, Operand.const (Value.int IntKind.i64 3)], argTypes := #[50, 3] }, type := 3, pos := "l5_best.go:138", after := #[{ on := 3, ground := Ground.data }, { on := 2, ground := Ground.chain }], guard := none }) rfl (fun K hK => ?_) AllReadyH.nil
  go_simp
  go_at_call 42
  refine HP4.out.mono ?_
  rintro e5 w5 ⟨s, rfl, hs0, hs1, hrd5, hbut5⟩
  have k5 : w5.cell? ⟨w3.heap.size, 0, none⟩ = some (.int .i64 p) ∧ w5.cell? ⟨w3.heap.size, 1, none⟩ = some (.int .i64 q) := ⟨(hbut5.cell H4.out.2.2.2 (by have := H3.out.2.2.2; omega)).trans H4.out.2.1.1, (hbut5.cell H4.out.2.2.2 (by have := H3.out.2.2.2; omega)).trans H4.out.2.1.2⟩
  have h15 : But w1.heap.size (w.heap.size + 1 + 1) w1 w5 := H4.out.2.2.1.trans (hbut5.mono H4.out.2.2.1.size)
  have ht5 : w5.there w.heap.size 0 2 ∧ w5.there (w.heap.size + 1) 0 2 := ⟨there_but H1.out.2.1.1 h15 (by have := H1.out.1; omega) (by omega), there_but H1.out.2.1.2 h15 (by have := H1.out.1; omega) (by omega)⟩
  have H5 := Lib.hid (And.intro (pick_bd hs0 hs1) (And.intro k5 h15))
  obtain ⟨u0, u1, y0, y1, z0, z1⟩ := there2 ht5.1
  obtain ⟨u2, u3, y2, y3, z2, z3⟩ := there2 ht5.2
  have hl5 : w.heap.size < w5.heap.size := by have := h15.size; have := H1.out.1; omega
  have hl6 : w.heap.size + 1 < w5.heap.size := by have := h15.size; have := H1.out.1; omega
  have ne1 : ¬ (w3.heap.size = w.heap.size) := by have := H3.out.2.2.2; omega
  have ne2 : ¬ (w3.heap.size = w.heap.size + 1) := by have := H3.out.2.2.2; omega
  clear hs0 hs1 hrd5 hbut5 k5 h15 ht5
  try go_wp2_with fail
  refine hK.out _ _ ?_ (fun hHeld4 => ?_)
  · exact H5.out.2.1
  clear hK K hHeld2
  try simp only [Act.put, List.setIfInBounds_toArray, List.set_cons_zero, List.set_cons_succ]
  refine wpAnyH_take (i := 5) (oi := { dst := some 18, op := Op.build 34 #[(0, Operand.tmp 15), (1, Operand.tmp 17)], type := 34, pos := "l5_best.go:138", after := #[{ on := 2, ground := Ground.data }, { on := 4, ground := Ground.data }, { on := 6, ground := Ground.gcOnly Departure.lateStores }], guard := none }) (v := ?_) rfl (by kernel_rfl) (by kernel_rfl) (by kernel_rfl) (fun _ _ _ h => h) (Or.inl ⟨by rfl, ?_⟩) (by assumption) ?_
  rotate_left
  · (intro w hSw; (try dsimp only at hSw); (go_simp <;> with_reducible rfl))
  try simp only [Act.put, List.setIfInBounds_toArray, List.set_cons_zero, List.set_cons_succ]
  refine wpAnyH_ready (rs := [6]) (by kernel_rfl) (by simp) ?_
  refine AllReadyH.cons (o := { dst := none, op := Op.store 34 (Operand.tmp 2) (Operand.tmp 13), type := 0, pos := "l5_best.go:138", after := #[{ on := 0, ground := Ground.data }, { on := 4, ground := Ground.chain }, { on := 0, ground := Ground.phase }, { on := 1, ground := Ground.textOnly Departure.lateStores }, { on := 2, ground := Ground.textOnly Departure.lateStoresUnsure }, { on := 3, ground := Ground.textOnly Departure.lateStores }, { on := 4, ground := Ground.textOnly Departure.lateStoresUnsure }, { on := 5, ground := Ground.textOnly Departure.lateStores }], guard := none }) rfl (fun K hK => ?_) AllReadyH.nil
  go_simp
  refine hK.out _ _ ?_ (fun hHeld6 => ?_)
  · exact keepT (c := w.heap.size) (by have := H3.out.2.2.2; omega) hHeld4
  clear hK K hHeld4
  try simp only [Act.put, List.setIfInBounds_toArray, List.set_cons_zero, List.set_cons_succ]
  refine wpAnyH_ready (rs := [7]) (by kernel_rfl) (by simp) ?_
  refine AllReadyH.cons (o := { dst := none, op := Op.store 34 (Operand.tmp 3) (Operand.tmp 18), type := 0, pos := "l5_best.go:138", after := #[{ on := 5, ground := Ground.data }, { on := 6, ground := Ground.chain }, { on := 0, ground := Ground.phase }, { on := 1, ground := Ground.phase }, { on := 2, ground := Ground.phase }, { on := 3, ground := Ground.phase }, { on := 4, ground := Ground.phase }, { on := 5, ground := Ground.phase }, { on := 6, ground := Ground.phase }], guard := none }) rfl (fun K hK => ?_) AllReadyH.nil
  go_simp
  refine hK.out _ _ ?_ (fun hHeld7 => ?_)
  · exact keepT (c := w.heap.size + 1) (by have := H3.out.2.2.2; omega) hHeld6
  clear hK K hHeld6
  try simp only [Act.put, List.setIfInBounds_toArray, List.set_cons_zero, List.set_cons_succ]
  refine wpAnyH_done (by kernel_rfl) ?_ _
  go_wp2_with fail
  refine bodyPost_ret (v := .tuple #[.agg #[.int .i64 p, .int .i64 q], .agg #[.int .i64 r, .int .i64 s]]) (by simp [results, Try.results18, go_sem, y0, y1, y2, y3, hl5, hl6]) rfl ?_
  have hb15 := H5.out.2.2
  have hB : Below w.heap.size w w5 := H1.out.2.2.1.trans (hb15.below (by have := H1.out.1; omega) (by omega))
  exact ⟨p, q, r, s, rfl, H2.out.1, H3.out.1, H4.out.1, H5.out.1, (((hB.setCell (p := ⟨w.heap.size, 0, none⟩) (Nat.le_refl _) _).setCell (p := ⟨w.heap.size, 1, none⟩) (Nat.le_refl _) _).setCell (p := ⟨w.heap.size + 1, 0, none⟩) (by simp) _).setCell (p := ⟨w.heap.size + 1, 1, none⟩) (by simp) _⟩

end Go.Proofs.Ythlgjnmfblkegaa.DrQ


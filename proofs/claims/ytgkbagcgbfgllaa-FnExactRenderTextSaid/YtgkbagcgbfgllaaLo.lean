import Derived.Test.YtgkbagcgbfgllaaDec
/-
  layOut of the program: a step of rendering.
-/
set_option linter.unusedVariables false
set_option linter.unusedSimpArgs false
namespace Go.Proofs.Ytgkbagcgbfgllaa.RnM
open Go.RowKit Go.Shelf P1 Cnt CntC Flat Wid ChP Rn Rf Bwd BufQ
attribute [local go_sem] Oper.semAt_some

/-- what is carried of the call's variables: a pointer to the renderer, the item, its document -/
def Vars (b : Nat) (x : Itm) (a : Option Addr) (cap r0 : Nat) (w : World) : Prop :=
  w.heap[r0]? = some (.cells #[.pointer (some ⟨b, 0, none⟩)] 65 (0, 0)) ∧ w.heap[r0 + 1]? = some (.cells #[.int .i64 x.o, .int .i64 x.n, .string x.t, .slice a x.k.len cap, .int .i64 x.i] 107 (0, 0)) ∧ w.heap[r0 + 1 + 1]? = some (.cells #[.int .i64 x.o, .int .i64 x.n, .string x.t, .slice a x.k.len cap] 25 (0, 0))
theorem Vars.kept {b : Nat} {x : Itm} {a : Option Addr} {cap r0 : Nat} {w w' : World} (h : Vars b x a cap r0 w) {ts : List TypeId} (hb : b < r0) (k : KeptBut ts b w w') (h1 : 65 ∉ ts) (h2 : 107 ∉ ts) (h3 : 25 ∉ ts) : Vars b x a cap r0 w' :=
  ⟨k _ _ _ _ h.1 (by omega) h1, k _ _ _ _ h.2.1 (by omega) h2, k _ _ _ _ h.2.2 (by omega) h3⟩
theorem Vars.cells {b : Nat} {x : Itm} {a : Option Addr} {cap r0 : Nat} {w : World} (h : Vars b x a cap r0 w) : w.cell? ⟨r0, 0, none⟩ = some (.pointer (some ⟨b, 0, none⟩)) ∧
    (w.cell? ⟨r0 + 1, 0, none⟩ = some (.int .i64 x.o) ∧ w.cell? ⟨r0 + 1, 1, none⟩ = some (.int .i64 x.n) ∧ w.cell? ⟨r0 + 1, 2, none⟩ = some (.string x.t) ∧ w.cell? ⟨r0 + 1, 3, none⟩ = some (.slice a x.k.len cap) ∧ w.cell? ⟨r0 + 1, 4, none⟩ = some (.int .i64 x.i)) ∧
    (w.cell? ⟨r0 + 1 + 1, 0, none⟩ = some (.int .i64 x.o) ∧ w.cell? ⟨r0 + 1 + 1, 1, none⟩ = some (.int .i64 x.n) ∧ w.cell? ⟨r0 + 1 + 1, 2, none⟩ = some (.string x.t) ∧ w.cell? ⟨r0 + 1 + 1, 3, none⟩ = some (.slice a x.k.len cap)) := by
  obtain ⟨h0, h1, h2⟩ := h
  refine ⟨?_, ⟨?_, ?_, ?_, ?_, ?_⟩, ?_, ?_, ?_, ?_⟩ <;> (simp only [World.cell?, h0, h1, h2]; rfl)
theorem Vars.new (b : Nat) (x : Itm) (a : Option Addr) (cap : Nat) (w : World) : Vars b x a cap w.heap.size (((w.alloc (.cells #[.pointer (some ⟨b, 0, none⟩)] 65)).alloc (.cells #[.int .i64 x.o, .int .i64 x.n, .string x.t, .slice a x.k.len cap, .int .i64 x.i] 107)).alloc (.cells #[.int .i64 x.o, .int .i64 x.n, .string x.t, .slice a x.k.len cap] 25)) := by
  refine ⟨?_, ?_, ?_⟩
  · rw [Below.heap_alloc _ _ _ (by simp; omega), Below.heap_alloc _ _ _ (by simp)]; exact World.alloc_heap_new w _
  · rw [Below.heap_alloc _ _ _ (by simp)]
    have := World.alloc_heap_new (w.alloc (.cells #[.pointer (some ⟨b, 0, none⟩)] 65)) (.cells #[.int .i64 x.o, .int .i64 x.n, .string x.t, .slice a x.k.len cap, .int .i64 x.i] 107)
    rwa [World.size_alloc] at this
  · have := World.alloc_heap_new ((w.alloc (.cells #[.pointer (some ⟨b, 0, none⟩)] 65)).alloc (.cells #[.int .i64 x.o, .int .i64 x.n, .string x.t, .slice a x.k.len cap, .int .i64 x.i] 107)) (.cells #[.int .i64 x.o, .int .i64 x.n, .string x.t, .slice a x.k.len cap] 25)
    rwa [World.size_alloc, World.size_alloc] at this

set_option maxRecDepth 100000 in
set_option maxHeartbeats 3200000 in
theorem layOut_line {w0 w : World} {B b : Nat} {W : Int} {its : List Itm} {s : St} (hB : B ≤ w.heap.size) (h : RS w0 B b W its s w) (hn : s.rows.length ≤ 1000000) (x : Itm) (hnl : nl x.o = true) (a : Option Addr) (cap : Nat) :
    Calls Try.prog 78 #[.pointer (some ⟨b, 0, none⟩), .agg #[.int .i64 x.o, .int .i64 x.n, .string x.t, .slice a x.k.len cap, .int .i64 x.i]] w fun e w' => e = .returned (.tuple #[]) ∧ RS w0 B b W its (s.line x.i) w' ∧ Below B w w' := by
  have hbl : b < w.heap.size := by obtain ⟨F, hF⟩ := h; exact hF.cells.2.2.2.2.2.2.1
  have hBb : B ≤ b := by obtain ⟨F, hF⟩ := h; exact hF.cells.2.2.2.2.2.2.2
  have HIS := Lib.hid (fun w' => isNewline w' x.o)
  rw [hnl] at HIS
  obtain ⟨V, hV⟩ : ∃ V, ((w.alloc (.cells #[.pointer (some ⟨b, 0, none⟩)] 65)).alloc (.cells #[.int .i64 x.o, .int .i64 x.n, .string x.t, .slice a x.k.len cap, .int .i64 x.i] 107)).alloc (.cells #[.int .i64 x.o, .int .i64 x.n, .string x.t, .slice a x.k.len cap] 25) = V := ⟨_, rfl⟩
  have hE : Ext w V := by rw [← hV]; exact (((Ext.refl w).alloc _).alloc _).alloc _
  have hVV := Vars.new b x a cap w
  rw [hV] at hVV
  have HEL := Lib.hid (newLine (w := V.drew) (Nat.le_trans hB hE.size) ((h.below hE).below (Below.refl _ _).drew) hn x.i)
  refine calls_marks Try.func78 rfl ?_
  simp only [Try.ntmps78, List.size_toArray, List.length_cons, List.length_nil, Nat.reduceAdd, Nat.reduceSub, Array.replicate_succ, Array.replicate_zero, List.push_toArray, List.append_toArray, List.nil_append, List.cons_append]
  obtain ⟨v0, ⟨v1, v2, v3, v4, v5⟩, u1, u2, u3, u4⟩ := hVV.cells
  have HV := Lib.hid (And.intro hVV hE)
  have HB := Lib.hid (And.intro hbl hBb)
  clear hVV hE hbl hBb h
  go_wp2_with fail
  refine (HIS.out _).mono ?_
  rintro e1 w1 ⟨rfl, hw1⟩
  rw [hw1]
  clear hV hw1
  go_wp2_with fail
  refine wp_region_noPanic ?_
  refine wp_region_held_drew (S := (fun w' => w'.cell? ⟨w.heap.size, 0, none⟩ = some (.pointer (some ⟨b, 0, none⟩)) ∧ w'.cell? ⟨w.heap.size + 1, 4, none⟩ = some (.int .i64 x.i))) (by kernel_rfl) ?_ (fun hHeld => ?_)
  · exact ⟨v0, v5⟩
  refine wpAnyH_take (i := 0) (oi := { dst := some 12, op := Op.load 65 (Operand.tmp 2), type := 65, pos := "l4_greedy.go:71", after := #[], guard := none }) (v := ?_) rfl (by kernel_rfl) (by kernel_rfl) (by kernel_rfl) (fun _ _ _ h => h) (Or.inl ⟨by rfl, ?_⟩) (by assumption) ?_
  rotate_left
  · (intro w hSw; (try dsimp only at hSw); (go_simp <;> with_reducible rfl))
  try simp only [Act.put, List.setIfInBounds_toArray, List.set_cons_zero, List.set_cons_succ]
  refine wpAnyH_take (i := 1) (oi := { dst := some 13, op := Op.nilCheck (Operand.tmp 12), type := 0, pos := "l4_greedy.go:71", after := #[{ on := 0, ground := Ground.data }], guard := none }) (v := ?_) rfl (by kernel_rfl) (by kernel_rfl) (by kernel_rfl) (fun _ _ _ h => h) (Or.inl ⟨by rfl, ?_⟩) (by assumption) ?_
  rotate_left
  · (intro w hSw; (try dsimp only at hSw); (go_simp <;> with_reducible rfl))
  try simp only [Act.put, List.setIfInBounds_toArray, List.set_cons_zero, List.set_cons_succ]
  refine wpAnyH_take (i := 2) (oi := { dst := some 14, op := Op.fieldAddr 75 (Operand.tmp 13) 0, type := 0, pos := "l4_greedy.go:71", after := #[{ on := 1, ground := Ground.data }], guard := none }) (v := ?_) rfl (by kernel_rfl) (by kernel_rfl) (by kernel_rfl) (fun _ _ _ h => h) (Or.inl ⟨by rfl, ?_⟩) (by assumption) ?_
  rotate_left
  · (intro w hSw; (try dsimp only at hSw); (go_simp <;> with_reducible rfl))
  try simp only [Act.put, List.setIfInBounds_toArray, List.set_cons_zero, List.set_cons_succ]
  refine wpAnyH_take (i := 3) (oi := { dst := some 15, op := Op.fieldAddr 107 (Operand.tmp 3) 1, type := 0, pos := "l4_greedy.go:71", after := #[], guard := none }) (v := ?_) rfl (by kernel_rfl) (by kernel_rfl) (by kernel_rfl) (fun _ _ _ h => h) (Or.inl ⟨by rfl, ?_⟩) (by assumption) ?_
  rotate_left
  · (intro w hSw; (try dsimp only at hSw); (go_simp <;> with_reducible rfl))
  try simp only [Act.put, List.setIfInBounds_toArray, List.set_cons_zero, List.set_cons_succ]
  refine wpAnyH_take (i := 4) (oi := { dst := some 16, op := Op.load 3 (Operand.tmp 15), type := 3, pos := "l4_greedy.go:71", after := #[{ on := 3, ground := Ground.data }], guard := none }) (v := ?_) rfl (by kernel_rfl) (by kernel_rfl) (by kernel_rfl) (fun _ _ _ h => h) (Or.inl ⟨by rfl, ?_⟩) (by assumption) ?_
  rotate_left
  · (intro w hSw; (try dsimp only at hSw); (go_simp <;> with_reducible rfl))
  try simp only [Act.put, List.setIfInBounds_toArray, List.set_cons_zero, List.set_cons_succ]
  refine wpAnyH_ready (rs := [5]) (by kernel_rfl) (by simp) ?_
  refine AllReadyH.cons (o := { dst := some 17, op := Op.call { callee := Callee.value (Operand.func 106), args := #[Operand.tmp 14, Operand.tmp 16], argTypes := #[72, 3] }, type := 0, pos := "l4_greedy.go:71", after := #[{ on := 2, ground := Ground.data }, { on := 4, ground := Ground.data }], guard := none }) rfl (fun K hK => ?_) AllReadyH.nil
  go_simp
  go_at_call 106
  refine HEL.out.mono ?_
  rintro e2 w2 ⟨rfl, hF2, hb2, hk2⟩
  have hV2 := HV.out.1.kept HB.out.1 ((kept_ext (w' := V.drew) (Below.refl _ _).drew).trans hk2) (by decide) (by decide) (by decide)
  obtain ⟨x0, ⟨_, _, _, _, x5⟩, _⟩ := hV2.cells
  have H2 := Lib.hid (And.intro hF2 (((Below.refl B w).trans (HV.out.2.mono hB)).trans ((Below.refl _ _).drew.trans hb2)))
  clear hF2 hb2 hk2 hV2
  try go_wp2_with fail
  refine hK.out _ _ ?_ (fun hHeld5 => ?_)
  · exact ⟨x0, x5⟩
  clear hK K hHeld
  try simp only [Act.put, List.setIfInBounds_toArray, List.set_cons_zero, List.set_cons_succ]
  refine wpAnyH_done (by kernel_rfl) ?_ _
  refine NoPanic.normal ?_
  go_wp2_with fail
  refine leave_none (results_none rfl _ _ _) ⟨rfl, H2.out.1, H2.out.2⟩

end Go.Proofs.Ytgkbagcgbfgllaa.RnM


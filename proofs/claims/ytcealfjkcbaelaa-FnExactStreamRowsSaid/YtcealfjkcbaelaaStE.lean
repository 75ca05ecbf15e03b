import Derived.Test.YtcealfjkcbaelaaStM
import Derived.Shelf.RegionOpen
import Derived.Deep.RegionHeld3
/-
  endLine of the program.
-/

set_option linter.unusedVariables false
set_option linter.unusedSimpArgs false
namespace Go.Proofs.Ytcealfjkcbaelaa.StM
open Go.RowKit Go.Shelf P1 Cnt CntC Flat Wid ChP Rn Bwd BufS
open LayN (cells2 cells2_len cells2_one)
open LayC (cells2_app)

def St.ended (s : St) : St := { s with rows := s.fin, txt := ⟨#[]⟩ }
theorem two_news (w : World) (i : Int) (t : ByteArray) (T : TypeId) : ∀ j u, [Value.int .i64 i, .string t][j]? = some u → (w.alloc (.cells #[.int .i64 i, .string t] T)).cell? ((⟨w.heap.size, 0, none⟩ : Addr).add j) = some u := by
  intro j u hu
  rw [add_at, Nat.zero_add, World.cell?_alloc_new]
  simpa using hu
theorem cells2_snoc (R : List (Int × ByteArray)) (i : Int) (t : ByteArray) : cells2 R ++ [.int .i64 i, .string t] = cells2 (R ++ [(i, t)]) := by rw [cells2_app]; rfl
theorem own_slice {w : World} {B : Nat} {T : TypeId} {n m : Nat} {v : Value} {xs : List Value} (h : w.ownsRow B T n v m xs) : ∃ a cap, v = .slice a m cap ∧ m ≤ cap := by
  rcases h.2 with ⟨rfl, h0⟩ | ⟨g, cap, cur, rfl, _, _, h1, _⟩
  · exact ⟨none, 0, by rw [h0], by omega⟩
  · exact ⟨_, cap, rfl, h1⟩
theorem below_append {w w' : World} {B : Nat} {T : TypeId} {n m : Nat} {v : Value} {xs : List Value} {o : Obj} (hg : (w.alloc o).grownBy w' v.ownBlock) (h : w.ownsRow B T n v m xs) (hB : B ≤ w.heap.size) : Below B w w' :=
  ((Below.refl B w).alloc hB o).grown hg (by simp; omega) (fun k e => (h.lt k e).1)
/-- a line is appended, and the field is not yet stored to -/
theorem RF.append_row {w0 w w3 : World} {B b : Nat} {W : Int} {its : List Int} {s : St} {fa fr fl fi fg : Value} (h : RF w0 B b W its s ⟨fa, fr, fl, fi, fg⟩ w) {R : List (Int × ByteArray)} {xs : List Value} (hR : xs = cells2 R) {o : Obj} (hg : (w.alloc o).grownBy w3 fl.ownBlock) {g cap n : Nat} (hown : w3.ownsRow B 91 2 (.slice (some ⟨g, 0, none⟩) n cap) n xs) :
    w3.cell? ⟨b, 1, none⟩ = some fl ∧ w3.cell? ⟨b, 2, none⟩ = some (.int .i64 s.ind) ∧ (∀ u, (w3.setCell ⟨b, 1, none⟩ u).cell? ⟨b, 2, none⟩ = some (.int .i64 s.ind)) ∧ w3.frozen? ⟨b, 1, none⟩ = false ∧ (R.length = n → RF w0 B b W its { s with rows := R } ⟨fa, fr, .slice (some ⟨g, 0, none⟩) n cap, fi, fg⟩ (w3.setCell ⟨b, 1, none⟩ (.slice (some ⟨g, 0, none⟩) n cap))) := by
  have hl := h.below ((Below.refl w.heap.size w).alloc (Nat.le_refl _) o)
  obtain ⟨_, _, c2, c3, _, hz, hbl, _⟩ := hl.cells
  obtain ⟨c, hcb⟩ := hl.block
  have hne : fl.ownBlock ≠ some b := StM.own_ne hl.rows hcb ne5
  have hbk := hg.block b hbl (fun e => hne e.symm)
  refine ⟨(World.cell?_of_block (w := w.alloc o) hbk).trans c2, (World.cell?_of_block (w := w.alloc o) hbk).trans c3, fun u => (show (w3.setCell ⟨b, 1, none⟩ u).cell? ⟨b, 2, none⟩ = w3.cell? ⟨b, 2, none⟩ from World.cell?_setCell_other _ _ _ _ (by simp)).trans <| (World.cell?_of_block (w := w.alloc o) hbk).trans c3, (World.frozen?_of_block (w := w.alloc o) hbk).trans (hz 1), fun hRn => ?_⟩
  have hrow : ∀ k, fl.ownBlock = some k → ∃ c, (w.alloc o).heap[k]? = some (.cells c 91 (0, 0)) := own_block hl.rows
  refine hl.set hg (fun k e => by obtain ⟨c', h'⟩ := hrow k e; exact ⟨c', _, h', ne2, ne5⟩) 1 (.slice (some ⟨g, 0, none⟩) n cap) ⟨fa, fr, .slice (some ⟨g, 0, none⟩) n cap, fi, fg⟩ (fun p v => rfl) its { s with rows := R } rfl (hl.rest.kept hg (own_or (fun k e => ?_))) ?_ (hl.flags.kept hg (own_or (fun k e => ?_))) h.ind h.wid
  · obtain ⟨c', h'⟩ := hrow k e
    obtain ⟨ys, y1, _⟩ := hl.rest
    exact StM.own_ne y1 h' ne7
  · show w3.ownsRow B 91 2 (.slice (some ⟨g, 0, none⟩) n cap) R.length (cells2 R)
    rw [hRn, ← hR]; exact hown
  · obtain ⟨c', h'⟩ := hrow k e
    exact StM.own_ne hl.flags h' (Ne.symm ne9)

set_option maxRecDepth 100000 in
set_option maxHeartbeats 3200000 in
theorem endLine {w0 w : World} {B b : Nat} {W : Int} {its : List Int} {s : St} (hB : B ≤ w.heap.size) (h : RS w0 B b W its s w) (hn : s.rows.length ≤ 1000000) :
    Calls Try.prog 67 #[.pointer (some ⟨b, 0, none⟩)] w fun e w' => e = .returned (.tuple #[]) ∧ RS w0 B b W its (St.ended s) w' ∧ Below B w w' ∧ KeptBut [5, 91] b w w' := by
  obtain ⟨⟨fa, fr, fl, fi, fg⟩, hF⟩ := h
  obtain ⟨i0, z0, hi, hz, hz1, hz2, hz3⟩ := info_some info2
  have HI := Lib.hid (And.intro hi (And.intro hz (And.intro hz1 (And.intro hz2 hz3))))
  clear hi hz hz1 hz2 hz3
  obtain ⟨al, cl, rfl, hcl⟩ : ∃ a cap, fl = .slice a s.rows.length cap ∧ s.rows.length ≤ cap := own_slice hF.rows
  obtain ⟨n, hnn⟩ : ∃ n, s.rows.length = n := ⟨_, rfl⟩
  obtain ⟨ind, hind⟩ : ∃ i, s.ind = i := ⟨_, rfl⟩
  obtain ⟨T, hT⟩ : ∃ t, s.txt = t := ⟨_, rfl⟩
  obtain ⟨R, hR⟩ : ∃ r, s.rows = r := ⟨_, rfl⟩
  obtain ⟨G, hG⟩ : ∃ g, s.flags = g := ⟨_, rfl⟩
  obtain rfl : s = ⟨R, ind, T, G⟩ := by cases s; simp_all
  obtain rfl : fi = .int .i64 ind := hF.ind
  rw [hnn] at hF hn hcl
  have hFd : RF w0 B b W its ⟨R, ind, T, G⟩ ⟨fa, fr, .slice al n cl, .int .i64 ind, fg⟩ w.drew := hF.below (Below.refl _ _).drew
  obtain ⟨c0, c1, c2, c3, c6, hfz, hbl, hBb⟩ := hFd.cells
  have HSTR := Lib.hid (string B b _ _ w.drew hFd.hold)
  have HN := Lib.hid (show R.length = n from hnn)
  clear hnn hT hR hG hind
  go_enter Try.func67, Try.ntmps67
  go_wp2_with fail
  refine wp_region_held_drew (S := (fun w' => w'.cell? ⟨b, 2, none⟩ = some (.int .i64 ind))) (by kernel_rfl) ?_ (fun hHeld => ?_)
  · exact c3
  refine wpAnyH_take (i := 0) (oi := { dst := some 2, op := Op.move (Operand.tmp 0), type := 151, pos := "l4_greedy.go:35", after := #[], guard := none }) (v := ?_) rfl (by kernel_rfl) (by kernel_rfl) (by kernel_rfl) (fun _ _ _ h => h) (Or.inl ⟨by rfl, ?_⟩) (by assumption) ?_
  rotate_left
  · (intro w hSw; (try dsimp only at hSw); (go_simp <;> with_reducible rfl))
  try simp only [Act.put, List.setIfInBounds_toArray, List.set_cons_zero, List.set_cons_succ]
  refine wpAnyH_take (i := 1) (oi := { dst := some 3, op := Op.move (Operand.tmp 0), type := 151, pos := "l4_greedy.go:35", after := #[], guard := none }) (v := ?_) rfl (by kernel_rfl) (by kernel_rfl) (by kernel_rfl) (fun _ _ _ h => h) (Or.inl ⟨by rfl, ?_⟩) (by assumption) ?_
  rotate_left
  · (intro w hSw; (try dsimp only at hSw); (go_simp <;> with_reducible rfl))
  try simp only [Act.put, List.setIfInBounds_toArray, List.set_cons_zero, List.set_cons_succ]
  refine wpAnyH_take (i := 2) (oi := { dst := some 4, op := Op.nilCheck (Operand.tmp 3), type := 0, pos := "l4_greedy.go:35", after := #[{ on := 1, ground := Ground.data }], guard := none }) (v := ?_) rfl (by kernel_rfl) (by kernel_rfl) (by kernel_rfl) (fun _ _ _ h => h) (Or.inl ⟨by rfl, ?_⟩) (by assumption) ?_
  rotate_left
  · (intro w hSw; (try dsimp only at hSw); (go_simp <;> with_reducible rfl))
  try simp only [Act.put, List.setIfInBounds_toArray, List.set_cons_zero, List.set_cons_succ]
  refine wpAnyH_take (i := 3) (oi := { dst := some 5, op := Op.fieldAddr 84 (Operand.tmp 4) 1, type := 0, pos := "l4_greedy.go:35", after := #[{ on := 2, ground := Ground.data }], guard := none }) (v := ?_) rfl (by kernel_rfl) (by kernel_rfl) (by kernel_rfl) (fun _ _ _ h => h) (Or.inl ⟨by rfl, ?_⟩) (by assumption) ?_
  rotate_left
  · (intro w hSw; (try dsimp only at hSw); (go_simp <;> with_reducible rfl))
  try simp only [Act.put, List.setIfInBounds_toArray, List.set_cons_zero, List.set_cons_succ]
  refine wpAnyH_take (i := 5) (oi := { dst := some 7, op := Op.move (Operand.tmp 0), type := 151, pos := "l4_greedy.go:35", after := #[], guard := none }) (v := ?_) rfl (by kernel_rfl) (by kernel_rfl) (by kernel_rfl) (fun _ _ _ h => h) (Or.inl ⟨by rfl, ?_⟩) (by assumption) ?_
  rotate_left
  · (intro w hSw; (try dsimp only at hSw); (go_simp <;> with_reducible rfl))
  try simp only [Act.put, List.setIfInBounds_toArray, List.set_cons_zero, List.set_cons_succ]
  refine wpAnyH_take (i := 6) (oi := { dst := some 8, op := Op.nilCheck (Operand.tmp 7), type := 0, pos := "l4_greedy.go:35", after := #[{ on := 5, ground := Ground.data }], guard := none }) (v := ?_) rfl (by kernel_rfl) (by kernel_rfl) (by kernel_rfl) (fun _ _ _ h => h) (Or.inl ⟨by rfl, ?_⟩) (by assumption) ?_
  rotate_left
  · (intro w hSw; (try dsimp only at hSw); (go_simp <;> with_reducible rfl))
  try simp only [Act.put, List.setIfInBounds_toArray, List.set_cons_zero, List.set_cons_succ]
  refine wpAnyH_take (i := 7) (oi := { dst := some 9, op := Op.fieldAddr 84 (Operand.tmp 8) 2, type := 0, pos := "l4_greedy.go:35", after := #[{ on := 6, ground := Ground.data }], guard := none }) (v := ?_) rfl (by kernel_rfl) (by kernel_rfl) (by kernel_rfl) (fun _ _ _ h => h) (Or.inl ⟨by rfl, ?_⟩) (by assumption) ?_
  rotate_left
  · (intro w hSw; (try dsimp only at hSw); (go_simp <;> with_reducible rfl))
  try simp only [Act.put, List.setIfInBounds_toArray, List.set_cons_zero, List.set_cons_succ]
  refine wpAnyH_take (i := 8) (oi := { dst := some 10, op := Op.load 3 (Operand.tmp 9), type := 3, pos := "l4_greedy.go:35", after := #[{ on := 7, ground := Ground.data }], guard := none }) (v := ?_) rfl (by kernel_rfl) (by kernel_rfl) (by kernel_rfl) (fun _ _ _ h => h) (Or.inl ⟨by rfl, ?_⟩) (by assumption) ?_
  rotate_left
  · (intro w hSw; (try dsimp only at hSw); (go_simp <;> with_reducible rfl))
  try simp only [Act.put, List.setIfInBounds_toArray, List.set_cons_zero, List.set_cons_succ]
  refine wpAnyH_take (i := 9) (oi := { dst := some 11, op := Op.move (Operand.tmp 0), type := 151, pos := "l4_greedy.go:35", after := #[], guard := none }) (v := ?_) rfl (by kernel_rfl) (by kernel_rfl) (by kernel_rfl) (fun _ _ _ h => h) (Or.inl ⟨by rfl, ?_⟩) (by assumption) ?_
  rotate_left
  · (intro w hSw; (try dsimp only at hSw); (go_simp <;> with_reducible rfl))
  try simp only [Act.put, List.setIfInBounds_toArray, List.set_cons_zero, List.set_cons_succ]
  refine wpAnyH_take (i := 10) (oi := { dst := some 12, op := Op.nilCheck (Operand.tmp 11), type := 0, pos := "l4_greedy.go:35", after := #[{ on := 9, ground := Ground.data }], guard := none }) (v := ?_) rfl (by kernel_rfl) (by kernel_rfl) (by kernel_rfl) (fun _ _ _ h => h) (Or.inl ⟨by rfl, ?_⟩) (by assumption) ?_
  rotate_left
  · (intro w hSw; (try dsimp only at hSw); (go_simp <;> with_reducible rfl))
  try simp only [Act.put, List.setIfInBounds_toArray, List.set_cons_zero, List.set_cons_succ]
  refine wpAnyH_take (i := 11) (oi := { dst := some 13, op := Op.fieldAddr 84 (Operand.tmp 12) 3, type := 0, pos := "l4_greedy.go:35", after := #[{ on := 10, ground := Ground.data }], guard := none }) (v := ?_) rfl (by kernel_rfl) (by kernel_rfl) (by kernel_rfl) (fun _ _ _ h => h) (Or.inl ⟨by rfl, ?_⟩) (by assumption) ?_
  rotate_left
  · (intro w hSw; (try dsimp only at hSw); (go_simp <;> with_reducible rfl))
  try simp only [Act.put, List.setIfInBounds_toArray, List.set_cons_zero, List.set_cons_succ]
  refine wpAnyH_ready (rs := [4, 12]) (by kernel_rfl) (by simp) ?_
  refine AllReadyH.cons (o := { dst := some 6, op := Op.load 31 (Operand.tmp 5), type := 31, pos := "l4_greedy.go:35", after := #[{ on := 3, ground := Ground.data }], guard := none }) rfl (fun K hK => ?_) ?_
  · go_simp
    refine hK.out _ _ ?_ (fun hHeld4 => ?_)
    · exact c3
    clear hK K hHeld
    try simp only [Act.put, List.setIfInBounds_toArray, List.set_cons_zero, List.set_cons_succ]
    refine wpAnyH_ready (rs := [12]) (by kernel_rfl) (by simp) ?_
    refine AllReadyH.cons (o := { dst := some 14, op := Op.call { callee := Callee.value (Operand.func 116), args := #[Operand.tmp 13], argTypes := #[82] }, type := 9, pos := "l4_greedy.go:35", after := #[{ on := 11, ground := Ground.data }], guard := none }) rfl (fun K hK => ?_) AllReadyH.nil
    go_simp
    go_at_call 116
    refine HSTR.out.mono ?_
    rintro e1 w1 ⟨rfl, hw1⟩
    have hF1 := hFd.wrote hw1 rfl
    have hb1 := hw1.2.1
    obtain ⟨_, _, c2a, c3a, _, fza, hbla, _⟩ := hF1.cells
    have hown1 : w1.ownsRow B 91 2 (.slice al n cl) n (cells2 R) := by have := hF1.rows; simp only [HN.out] at this; exact this
    have hz1 : B ≤ w1.heap.size := Nat.le_trans hB hb1.size
    have H1 := Lib.hid (And.intro hF1 hb1)
    have HK1 := Lib.hid (kept_others (ts := [5, 91]) hw1.2.2 (by decide))
    clear hF1 hb1 hw1
    try go_wp2_with fail
    refine hK.out _ _ ?_ (fun hHeld12 => ?_)
    · exact c3a
    clear hK K hHeld4
    try simp only [Act.put, List.setIfInBounds_toArray, List.set_cons_zero, List.set_cons_succ]
    refine wpAnyH_take (i := 13) (oi := { dst := some 15, op := Op.build 91 #[(0, Operand.tmp 10), (1, Operand.tmp 14)], type := 91, pos := "l4_greedy.go:35", after := #[{ on := 8, ground := Ground.data }, { on := 12, ground := Ground.data }], guard := none }) (v := ?_) rfl (by kernel_rfl) (by kernel_rfl) (by kernel_rfl) (fun _ _ _ h => h) (Or.inl ⟨by rfl, ?_⟩) (by assumption) ?_
    rotate_left
    · (intro w hSw; (try dsimp only at hSw); (go_simp <;> with_reducible rfl))
    try simp only [Act.put, List.setIfInBounds_toArray, List.set_cons_zero, List.set_cons_succ]
    refine wpAnyH_ready (rs := [14]) (by kernel_rfl) (by simp) ?_
    refine AllReadyH.cons (o := { dst := some 16, op := Op.buildSlice 31 1 #[(0, Operand.tmp 15)], type := 31, pos := "l4_greedy.go:35", after := #[{ on := 13, ground := Ground.data }], guard := none }) rfl (fun K hK => ?_) AllReadyH.nil
    have c2b := fun (ob : Obj) => ((Ext.refl w1).alloc ob |>.cell hbla).trans c2a
    have c3b := fun (ob : Obj) => ((Ext.refl w1).alloc ob |>.cell hbla).trans c3a
    go_simp
    refine hK.out _ _ ?_ (fun hHeld14 => ?_)
    · exact c3b _
    clear hK K hHeld12
    try simp only [Act.put, List.setIfInBounds_toArray, List.set_cons_zero, List.set_cons_succ]
    refine wpAnyH_ready (rs := [15]) (by kernel_rfl) (by simp) ?_
    refine AllReadyH.cons (o := { dst := some 17, op := Op.call { callee := Callee.builtin Builtin.append, args := #[Operand.tmp 6, Operand.tmp 16], argTypes := #[31, 31] }, type := 31, pos := "l4_greedy.go:35", after := #[{ on := 4, ground := Ground.data }, { on := 14, ground := Ground.data }, { on := 12, ground := Ground.chain }], guard := none }) rfl (fun K hK => ?_) AllReadyH.nil
    refine wp_append_lies _ (.tmp 6) (.tmp 16) 31 (by rfl) B 91 i0 z0 2 24 Try.underlying31 HI.out.1 HI.out.2.1 HI.out.2.2.1 HI.out.2.2.2.1 HI.out.2.2.2.2 (by omega) (.slice al n cl) n (cells2 R) (by rfl) (hown1.alloc _) ⟨w1.heap.size, 0, none⟩ 1 1 [.int .i64 ind, .string T] (by rfl) rfl (two_news w1 ind T _) (by simp [Value.oneCell']) (by omega) (by unfold maxLen; omega) (by omega) (by simp; omega) (w1.heap.size + 1) (by simp) ?_
    intro g cap w3 hown3 hgrow3 hat3 hlt3
    obtain ⟨k2, k3, k4, kz, hset⟩ := H1.out.1.append_row (cells2_snoc R ind T) hgrow3 hown3
    have HSET := Lib.hid hset
    have HK3 := Lib.hid (kept_append (ts := [5, 91]) (b := b) hgrow3 H1.out.1.rows (by decide))
    have H3 := Lib.hid (below_append hgrow3 H1.out.1.rows (Nat.le_trans hB H1.out.2.size))
    clear hset hgrow3 hown3 hat3
    refine hK.out _ _ ?_ (fun hHeld15 => ?_)
    · exact k3
    clear hK K hHeld14
    try simp only [Act.put, List.setIfInBounds_toArray, List.set_cons_zero, List.set_cons_succ]
    refine wpAnyH_take (i := 16) (oi := { dst := some 18, op := Op.nilCheck (Operand.tmp 2), type := 0, pos := "l4_greedy.go:35", after := #[{ on := 0, ground := Ground.data }, { on := 0, ground := Ground.phase }, { on := 1, ground := Ground.phase }, { on := 2, ground := Ground.phase }, { on := 3, ground := Ground.phase }, { on := 4, ground := Ground.phase }, { on := 5, ground := Ground.phase }, { on := 6, ground := Ground.phase }, { on := 7, ground := Ground.phase }, { on := 8, ground := Ground.phase }, { on := 9, ground := Ground.phase }, { on := 10, ground := Ground.phase }, { on := 11, ground := Ground.phase }, { on := 12, ground := Ground.phase }, { on := 13, ground := Ground.phase }, { on := 14, ground := Ground.phase }, { on := 15, ground := Ground.phase }], guard := none }) (v := ?_) rfl (by kernel_rfl) (by kernel_rfl) (by kernel_rfl) (fun _ _ _ h => h) (Or.inl ⟨by rfl, ?_⟩) (by assumption) ?_
    rotate_left
    · (intro w hSw; (try dsimp only at hSw); (go_simp <;> with_reducible rfl))
    try simp only [Act.put, List.setIfInBounds_toArray, List.set_cons_zero, List.set_cons_succ]
    refine wpAnyH_take (i := 17) (oi := { dst := some 19, op := Op.fieldAddr 84 (Operand.tmp 18) 1, type := 0, pos := "l4_greedy.go:35", after := #[{ on := 16, ground := Ground.data }, { on := 0, ground := Ground.phase }, { on := 1, ground := Ground.phase }, { on := 2, ground := Ground.phase }, { on := 3, ground := Ground.phase }, { on := 4, ground := Ground.phase }, { on := 5, ground := Ground.phase }, { on := 6, ground := Ground.phase }, { on := 7, ground := Ground.phase }, { on := 8, ground := Ground.phase }, { on := 9, ground := Ground.phase }, { on := 10, ground := Ground.phase }, { on := 11, ground := Ground.phase }, { on := 12, ground := Ground.phase }, { on := 13, ground := Ground.phase }, { on := 14, ground := Ground.phase }, { on := 15, ground := Ground.phase }], guard := none }) (v := ?_) rfl (by kernel_rfl) (by kernel_rfl) (by kernel_rfl) (fun _ _ _ h => h) (Or.inl ⟨by rfl, ?_⟩) (by assumption) ?_
    rotate_left
    · (intro w hSw; (try dsimp only at hSw); (go_simp <;> with_reducible rfl))
    try simp only [Act.put, List.setIfInBounds_toArray, List.set_cons_zero, List.set_cons_succ]
    refine wpAnyH_ready (rs := [18]) (by kernel_rfl) (by simp) ?_
    refine AllReadyH.cons (o := { dst := none, op := Op.store 31 (Operand.tmp 19) (Operand.tmp 17), type := 0, pos := "l4_greedy.go:35", after := #[{ on := 17, ground := Ground.data }, { on := 15, ground := Ground.data }, { on := 15, ground := Ground.chain }, { on := 0, ground := Ground.phase }, { on := 1, ground := Ground.phase }, { on := 2, ground := Ground.phase }, { on := 3, ground := Ground.phase }, { on := 4, ground := Ground.phase }, { on := 5, ground := Ground.phase }, { on := 6, ground := Ground.phase }, { on := 7, ground := Ground.phase }, { on := 8, ground := Ground.phase }, { on := 9, ground := Ground.phase }, { on := 10, ground := Ground.phase }, { on := 11, ground := Ground.phase }, { on := 12, ground := Ground.phase }, { on := 13, ground := Ground.phase }, { on := 14, ground := Ground.phase }, { on := 15, ground := Ground.phase }], guard := none }) rfl (fun K hK => ?_) AllReadyH.nil
    go_simp
    refine hK.out _ _ ?_ (fun hHeld18 => ?_)
    · exact k4 _
    clear hK K hHeld15
    try simp only [Act.put, List.setIfInBounds_toArray, List.set_cons_zero, List.set_cons_succ]
    refine wpAnyH_done (by kernel_rfl) ?_ _
    have hset := HSET.out (by rw [List.length_append, HN.out]; rfl)
    have hb3 := (H1.out.2.trans H3.out).setCell (p := ⟨b, 1, none⟩) hBb (.slice (some ⟨g, 0, none⟩) (n + 1) cap)
    have hk3 := (HK1.out.trans HK3.out).trans (kept_set _ b 1 _ (.slice (some ⟨g, 0, none⟩) (n + 1) cap))
    obtain ⟨W3, hW3⟩ : ∃ W, w3.setCell ⟨b, 1, none⟩ (.slice (some ⟨g, 0, none⟩) (n + 1) cap) = W := ⟨_, rfl⟩
    rw [hW3] at hset hb3 hk3 ⊢
    have HR := Lib.hid (reset B b _ _ W3 hset.hold)
    have H4 := Lib.hid (And.intro hset hb3)
    have HK4 := Lib.hid hk3
    clear hset hb3 hk3 hW3 k2 k3 k4 kz
    go_wp2_with fail
    refine HR.out.mono ?_
    rintro e4 w4 ⟨rfl, hw4⟩
    go_wp2_with fail
    go_end0
    refine ⟨rfl, ⟨_, H4.out.1.wrote (t := ⟨#[]⟩) hw4 rfl⟩, ((Below.refl B w).drew.trans H4.out.2).trans hw4.2.1, ((kept_ext (w' := w.drew) (Below.refl _ _).drew).trans HK4.out).trans (kept_others hw4.2.2 (by decide))⟩
  refine AllReadyH.cons (o := { dst := some 14, op := Op.call { callee := Callee.value (Operand.func 116), args := #[Operand.tmp 13], argTypes := #[82] }, type := 9, pos := "l4_greedy.go:35", after := #[{ on := 11, ground := Ground.data }], guard := none }) rfl (fun K hK => ?_) AllReadyH.nil
  go_simp
  go_at_call 116
  refine HSTR.out.mono ?_
  rintro e1 w1 ⟨rfl, hw1⟩
  have hF1 := hFd.wrote hw1 rfl
  have hb1 := hw1.2.1
  obtain ⟨_, _, c2a, c3a, _, fza, hbla, _⟩ := hF1.cells
  have hown1 : w1.ownsRow B 91 2 (.slice al n cl) n (cells2 R) := by have := hF1.rows; simp only [HN.out] at this; exact this
  have hz1 : B ≤ w1.heap.size := Nat.le_trans hB hb1.size
  have H1 := Lib.hid (And.intro hF1 hb1)
  have HK1 := Lib.hid (kept_others (ts := [5, 91]) hw1.2.2 (by decide))
  clear hF1 hb1 hw1
  try go_wp2_with fail
  refine hK.out _ _ ?_ (fun hHeld12 => ?_)
  · exact c3a
  clear hK K hHeld
  try simp only [Act.put, List.setIfInBounds_toArray, List.set_cons_zero, List.set_cons_succ]
  refine wpAnyH_take (i := 13) (oi := { dst := some 15, op := Op.build 91 #[(0, Operand.tmp 10), (1, Operand.tmp 14)], type := 91, pos := "l4_greedy.go:35", after := #[{ on := 8, ground := Ground.data }, { on := 12, ground := Ground.data }], guard := none }) (v := ?_) rfl (by kernel_rfl) (by kernel_rfl) (by kernel_rfl) (fun _ _ _ h => h) (Or.inl ⟨by rfl, ?_⟩) (by assumption) ?_
  rotate_left
  · (intro w hSw; (try dsimp only at hSw); (go_simp <;> with_reducible rfl))
  try simp only [Act.put, List.setIfInBounds_toArray, List.set_cons_zero, List.set_cons_succ]
  refine wpAnyH_ready (rs := [4, 14]) (by kernel_rfl) (by simp) ?_
  refine AllReadyH.cons (o := { dst := some 6, op := Op.load 31 (Operand.tmp 5), type := 31, pos := "l4_greedy.go:35", after := #[{ on := 3, ground := Ground.data }], guard := none }) rfl (fun K hK => ?_) ?_
  · go_simp
    refine hK.out _ _ ?_ (fun hHeld4 => ?_)
    · exact c3a
    clear hK K hHeld12
    try simp only [Act.put, List.setIfInBounds_toArray, List.set_cons_zero, List.set_cons_succ]
    refine wpAnyH_ready (rs := [14]) (by kernel_rfl) (by simp) ?_
    refine AllReadyH.cons (o := { dst := some 16, op := Op.buildSlice 31 1 #[(0, Operand.tmp 15)], type := 31, pos := "l4_greedy.go:35", after := #[{ on := 13, ground := Ground.data }], guard := none }) rfl (fun K hK => ?_) AllReadyH.nil
    have c2b := fun (ob : Obj) => ((Ext.refl w1).alloc ob |>.cell hbla).trans c2a
    have c3b := fun (ob : Obj) => ((Ext.refl w1).alloc ob |>.cell hbla).trans c3a
    go_simp
    refine hK.out _ _ ?_ (fun hHeld14 => ?_)
    · exact c3b _
    clear hK K hHeld4
    try simp only [Act.put, List.setIfInBounds_toArray, List.set_cons_zero, List.set_cons_succ]
    refine wpAnyH_ready (rs := [15]) (by kernel_rfl) (by simp) ?_
    refine AllReadyH.cons (o := { dst := some 17, op := Op.call { callee := Callee.builtin Builtin.append, args := #[Operand.tmp 6, Operand.tmp 16], argTypes := #[31, 31] }, type := 31, pos := "l4_greedy.go:35", after := #[{ on := 4, ground := Ground.data }, { on := 14, ground := Ground.data }, { on := 12, ground := Ground.chain }], guard := none }) rfl (fun K hK => ?_) AllReadyH.nil
    refine wp_append_lies _ (.tmp 6) (.tmp 16) 31 (by rfl) B 91 i0 z0 2 24 Try.underlying31 HI.out.1 HI.out.2.1 HI.out.2.2.1 HI.out.2.2.2.1 HI.out.2.2.2.2 (by omega) (.slice al n cl) n (cells2 R) (by rfl) (hown1.alloc _) ⟨w1.heap.size, 0, none⟩ 1 1 [.int .i64 ind, .string T] (by rfl) rfl (two_news w1 ind T _) (by simp [Value.oneCell']) (by omega) (by unfold maxLen; omega) (by omega) (by simp; omega) (w1.heap.size + 1) (by simp) ?_
    intro g cap w3 hown3 hgrow3 hat3 hlt3
    obtain ⟨k2, k3, k4, kz, hset⟩ := H1.out.1.append_row (cells2_snoc R ind T) hgrow3 hown3
    have HSET := Lib.hid hset
    have HK3 := Lib.hid (kept_append (ts := [5, 91]) (b := b) hgrow3 H1.out.1.rows (by decide))
    have H3 := Lib.hid (below_append hgrow3 H1.out.1.rows (Nat.le_trans hB H1.out.2.size))
    clear hset hgrow3 hown3 hat3
    refine hK.out _ _ ?_ (fun hHeld15 => ?_)
    · exact k3
    clear hK K hHeld14
    try simp only [Act.put, List.setIfInBounds_toArray, List.set_cons_zero, List.set_cons_succ]
    refine wpAnyH_take (i := 16) (oi := { dst := some 18, op := Op.nilCheck (Operand.tmp 2), type := 0, pos := "l4_greedy.go:35", after := #[{ on := 0, ground := Ground.data }, { on := 0, ground := Ground.phase }, { on := 1, ground := Ground.phase }, { on := 2, ground := Ground.phase }, { on := 3, ground := Ground.phase }, { on := 4, ground := Ground.phase }, { on := 5, ground := Ground.phase }, { on := 6, ground := Ground.phase }, { on := 7, ground := Ground.phase }, { on := 8, ground := Ground.phase }, { on := 9, ground := Ground.phase }, { on := 10, ground := Ground.phase }, { on := 11, ground := Ground.phase }, { on := 12, ground := Ground.phase }, { on := 13, ground := Ground.phase }, { on := 14, ground := Ground.phase }, { on := 15, ground := Ground.phase }], guard := none }) (v := ?_) rfl (by kernel_rfl) (by kernel_rfl) (by kernel_rfl) (fun _ _ _ h => h) (Or.inl ⟨by rfl, ?_⟩) (by assumption) ?_
    rotate_left
    · (intro w hSw; (try dsimp only at hSw); (go_simp <;> with_reducible rfl))
    try simp only [Act.put, List.setIfInBounds_toArray, List.set_cons_zero, List.set_cons_succ]
    refine wpAnyH_take (i := 17) (oi := { dst := some 19, op := Op.fieldAddr 84 (Operand.tmp 18) 1, type := 0, pos := "l4_greedy.go:35", after := #[{ on := 16, ground := Ground.data }, { on := 0, ground := Ground.phase }, { on := 1, ground := Ground.phase }, { on := 2, ground := Ground.phase }, { on := 3, ground := Ground.phase }, { on := 4, ground := Ground.phase }, { on := 5, ground := Ground.phase }, { on := 6, ground := Ground.phase }, { on := 7, ground := Ground.phase }, { on := 8, ground := Ground.phase }, { on := 9, ground := Ground.phase }, { on := 10, ground := Ground.phase }, { on := 11, ground := Ground.phase }, { on := 12, ground := Ground.phase }, { on := 13, ground := Ground.phase }, { on := 14, ground := Ground.phase }, { on := 15, ground := Ground.phase }], guard := none }) (v := ?_) rfl (by kernel_rfl) (by kernel_rfl) (by kernel_rfl) (fun _ _ _ h => h) (Or.inl ⟨by rfl, ?_⟩) (by assumption) ?_
    rotate_left
    · (intro w hSw; (try dsimp only at hSw); (go_simp <;> with_reducible rfl))
    try simp only [Act.put, List.setIfInBounds_toArray, List.set_cons_zero, List.set_cons_succ]
    refine wpAnyH_ready (rs := [18]) (by kernel_rfl) (by simp) ?_
    refine AllReadyH.cons (o := { dst := none, op := Op.store 31 (Operand.tmp 19) (Operand.tmp 17), type := 0, pos := "l4_greedy.go:35", after := #[{ on := 17, ground := Ground.data }, { on := 15, ground := Ground.data }, { on := 15, ground := Ground.chain }, { on := 0, ground := Ground.phase }, { on := 1, ground := Ground.phase }, { on := 2, ground := Ground.phase }, { on := 3, ground := Ground.phase }, { on := 4, ground := Ground.phase }, { on := 5, ground := Ground.phase }, { on := 6, ground := Ground.phase }, { on := 7, ground := Ground.phase }, { on := 8, ground := Ground.phase }, { on := 9, ground := Ground.phase }, { on := 10, ground := Ground.phase }, { on := 11, ground := Ground.phase }, { on := 12, ground := Ground.phase }, { on := 13, ground := Ground.phase }, { on := 14, ground := Ground.phase }, { on := 15, ground := Ground.phase }], guard := none }) rfl (fun K hK => ?_) AllReadyH.nil
    go_simp
    refine hK.out _ _ ?_ (fun hHeld18 => ?_)
    · exact k4 _
    clear hK K hHeld15
    try simp only [Act.put, List.setIfInBounds_toArray, List.set_cons_zero, List.set_cons_succ]
    refine wpAnyH_done (by kernel_rfl) ?_ _
    have hset := HSET.out (by rw [List.length_append, HN.out]; rfl)
    have hb3 := (H1.out.2.trans H3.out).setCell (p := ⟨b, 1, none⟩) hBb (.slice (some ⟨g, 0, none⟩) (n + 1) cap)
    have hk3 := (HK1.out.trans HK3.out).trans (kept_set _ b 1 _ (.slice (some ⟨g, 0, none⟩) (n + 1) cap))
    obtain ⟨W3, hW3⟩ : ∃ W, w3.setCell ⟨b, 1, none⟩ (.slice (some ⟨g, 0, none⟩) (n + 1) cap) = W := ⟨_, rfl⟩
    rw [hW3] at hset hb3 hk3 ⊢
    have HR := Lib.hid (reset B b _ _ W3 hset.hold)
    have H4 := Lib.hid (And.intro hset hb3)
    have HK4 := Lib.hid hk3
    clear hset hb3 hk3 hW3 k2 k3 k4 kz
    go_wp2_with fail
    refine HR.out.mono ?_
    rintro e4 w4 ⟨rfl, hw4⟩
    go_wp2_with fail
    go_end0
    refine ⟨rfl, ⟨_, H4.out.1.wrote (t := ⟨#[]⟩) hw4 rfl⟩, ((Below.refl B w).drew.trans H4.out.2).trans hw4.2.1, ((kept_ext (w' := w.drew) (Below.refl _ _).drew).trans HK4.out).trans (kept_others hw4.2.2 (by decide))⟩
  refine AllReadyH.cons (o := { dst := some 16, op := Op.buildSlice 31 1 #[(0, Operand.tmp 15)], type := 31, pos := "l4_greedy.go:35", after := #[{ on := 13, ground := Ground.data }], guard := none }) rfl (fun K hK => ?_) AllReadyH.nil
  have c2b := fun (ob : Obj) => ((Ext.refl w1).alloc ob |>.cell hbla).trans c2a
  have c3b := fun (ob : Obj) => ((Ext.refl w1).alloc ob |>.cell hbla).trans c3a
  go_simp
  refine hK.out _ _ ?_ (fun hHeld14 => ?_)
  · exact c3b _
  clear hK K hHeld12
  try simp only [Act.put, List.setIfInBounds_toArray, List.set_cons_zero, List.set_cons_succ]
  refine wpAnyH_ready (rs := [4]) (by kernel_rfl) (by simp) ?_
  refine AllReadyH.cons (o := { dst := some 6, op := Op.load 31 (Operand.tmp 5), type := 31, pos := "l4_greedy.go:35", after := #[{ on := 3, ground := Ground.data }], guard := none }) rfl (fun K hK => ?_) AllReadyH.nil
  go_simp
  refine hK.out _ _ ?_ (fun hHeld4 => ?_)
  · exact c3b _
  clear hK K hHeld14
  try simp only [Act.put, List.setIfInBounds_toArray, List.set_cons_zero, List.set_cons_succ]
  refine wpAnyH_ready (rs := [15]) (by kernel_rfl) (by simp) ?_
  refine AllReadyH.cons (o := { dst := some 17, op := Op.call { callee := Callee.builtin Builtin.append, args := #[Operand.tmp 6, Operand.tmp 16], argTypes := #[31, 31] }, type := 31, pos := "l4_greedy.go:35", after := #[{ on := 4, ground := Ground.data }, { on := 14, ground := Ground.data }, { on := 12, ground := Ground.chain }], guard := none }) rfl (fun K hK => ?_) AllReadyH.nil
  refine wp_append_lies _ (.tmp 6) (.tmp 16) 31 (by rfl) B 91 i0 z0 2 24 Try.underlying31 HI.out.1 HI.out.2.1 HI.out.2.2.1 HI.out.2.2.2.1 HI.out.2.2.2.2 (by omega) (.slice al n cl) n (cells2 R) (by rfl) (hown1.alloc _) ⟨w1.heap.size, 0, none⟩ 1 1 [.int .i64 ind, .string T] (by rfl) rfl (two_news w1 ind T _) (by simp [Value.oneCell']) (by omega) (by unfold maxLen; omega) (by omega) (by simp; omega) (w1.heap.size + 1) (by simp) ?_
  intro g cap w3 hown3 hgrow3 hat3 hlt3
  obtain ⟨k2, k3, k4, kz, hset⟩ := H1.out.1.append_row (cells2_snoc R ind T) hgrow3 hown3
  have HSET := Lib.hid hset
  have HK3 := Lib.hid (kept_append (ts := [5, 91]) (b := b) hgrow3 H1.out.1.rows (by decide))
  have H3 := Lib.hid (below_append hgrow3 H1.out.1.rows (Nat.le_trans hB H1.out.2.size))
  clear hset hgrow3 hown3 hat3
  refine hK.out _ _ ?_ (fun hHeld15 => ?_)
  · exact k3
  clear hK K hHeld4
  try simp only [Act.put, List.setIfInBounds_toArray, List.set_cons_zero, List.set_cons_succ]
  refine wpAnyH_take (i := 16) (oi := { dst := some 18, op := Op.nilCheck (Operand.tmp 2), type := 0, pos := "l4_greedy.go:35", after := #[{ on := 0, ground := Ground.data }, { on := 0, ground := Ground.phase }, { on := 1, ground := Ground.phase }, { on := 2, ground := Ground.phase }, { on := 3, ground := Ground.phase }, { on := 4, ground := Ground.phase }, { on := 5, ground := Ground.phase }, { on := 6, ground := Ground.phase }, { on := 7, ground := Ground.phase }, { on := 8, ground := Ground.phase }, { on := 9, ground := Ground.phase }, { on := 10, ground := Ground.phase }, { on := 11, ground := Ground.phase }, { on := 12, ground := Ground.phase }, { on := 13, ground := Ground.phase }, { on := 14, ground := Ground.phase }, { on := 15, ground := Ground.phase }], guard := none }) (v := ?_) rfl (by kernel_rfl) (by kernel_rfl) (by kernel_rfl) (fun _ _ _ h => h) (Or.inl ⟨by rfl, ?_⟩) (by assumption) ?_
  rotate_left
  · (intro w hSw; (try dsimp only at hSw); (go_simp <;> with_reducible rfl))
  try simp only [Act.put, List.setIfInBounds_toArray, List.set_cons_zero, List.set_cons_succ]
  refine wpAnyH_take (i := 17) (oi := { dst := some 19, op := Op.fieldAddr 84 (Operand.tmp 18) 1, type := 0, pos := "l4_greedy.go:35", after := #[{ on := 16, ground := Ground.data }, { on := 0, ground := Ground.phase }, { on := 1, ground := Ground.phase }, { on := 2, ground := Ground.phase }, { on := 3, ground := Ground.phase }, { on := 4, ground := Ground.phase }, { on := 5, ground := Ground.phase }, { on := 6, ground := Ground.phase }, { on := 7, ground := Ground.phase }, { on := 8, ground := Ground.phase }, { on := 9, ground := Ground.phase }, { on := 10, ground := Ground.phase }, { on := 11, ground := Ground.phase }, { on := 12, ground := Ground.phase }, { on := 13, ground := Ground.phase }, { on := 14, ground := Ground.phase }, { on := 15, ground := Ground.phase }], guard := none }) (v := ?_) rfl (by kernel_rfl) (by kernel_rfl) (by kernel_rfl) (fun _ _ _ h => h) (Or.inl ⟨by rfl, ?_⟩) (by assumption) ?_
  rotate_left
  · (intro w hSw; (try dsimp only at hSw); (go_simp <;> with_reducible rfl))
  try simp only [Act.put, List.setIfInBounds_toArray, List.set_cons_zero, List.set_cons_succ]
  refine wpAnyH_ready (rs := [18]) (by kernel_rfl) (by simp) ?_
  refine AllReadyH.cons (o := { dst := none, op := Op.store 31 (Operand.tmp 19) (Operand.tmp 17), type := 0, pos := "l4_greedy.go:35", after := #[{ on := 17, ground := Ground.data }, { on := 15, ground := Ground.data }, { on := 15, ground := Ground.chain }, { on := 0, ground := Ground.phase }, { on := 1, ground := Ground.phase }, { on := 2, ground := Ground.phase }, { on := 3, ground := Ground.phase }, { on := 4, ground := Ground.phase }, { on := 5, ground := Ground.phase }, { on := 6, ground := Ground.phase }, { on := 7, ground := Ground.phase }, { on := 8, ground := Ground.phase }, { on := 9, ground := Ground.phase }, { on := 10, ground := Ground.phase }, { on := 11, ground := Ground.phase }, { on := 12, ground := Ground.phase }, { on := 13, ground := Ground.phase }, { on := 14, ground := Ground.phase }, { on := 15, ground := Ground.phase }], guard := none }) rfl (fun K hK => ?_) AllReadyH.nil
  go_simp
  refine hK.out _ _ ?_ (fun hHeld18 => ?_)
  · exact k4 _
  clear hK K hHeld15
  try simp only [Act.put, List.setIfInBounds_toArray, List.set_cons_zero, List.set_cons_succ]
  refine wpAnyH_done (by kernel_rfl) ?_ _
  have hset := HSET.out (by rw [List.length_append, HN.out]; rfl)
  have hb3 := (H1.out.2.trans H3.out).setCell (p := ⟨b, 1, none⟩) hBb (.slice (some ⟨g, 0, none⟩) (n + 1) cap)
  have hk3 := (HK1.out.trans HK3.out).trans (kept_set _ b 1 _ (.slice (some ⟨g, 0, none⟩) (n + 1) cap))
  obtain ⟨W3, hW3⟩ : ∃ W, w3.setCell ⟨b, 1, none⟩ (.slice (some ⟨g, 0, none⟩) (n + 1) cap) = W := ⟨_, rfl⟩
  rw [hW3] at hset hb3 hk3 ⊢
  have HR := Lib.hid (reset B b _ _ W3 hset.hold)
  have H4 := Lib.hid (And.intro hset hb3)
  have HK4 := Lib.hid hk3
  clear hset hb3 hk3 hW3 k2 k3 k4 kz
  go_wp2_with fail
  refine HR.out.mono ?_
  rintro e4 w4 ⟨rfl, hw4⟩
  go_wp2_with fail
  go_end0
  refine ⟨rfl, ⟨_, H4.out.1.wrote (t := ⟨#[]⟩) hw4 rfl⟩, ((Below.refl B w).drew.trans H4.out.2).trans hw4.2.1, ((kept_ext (w' := w.drew) (Below.refl _ _).drew).trans HK4.out).trans (kept_others hw4.2.2 (by decide))⟩

end Go.Proofs.Ytcealfjkcbaelaa.StM


import Derived.Test.YtgkbagcgbfgllaaPg
/-
  decide of the program: whether a group that is reached fits.
-/
set_option linter.unusedVariables false
set_option linter.unusedSimpArgs false
namespace Go.Proofs.Ytgkbagcgbfgllaa.RnM
open Go.RowKit Go.Shelf P1 Cnt CntC Flat Wid ChP Rn Bwd BufQ

-- HEAD
theorem one_news (w : World) (x : Bool) (T : TypeId) : ∀ j u, [Value.bool x][j]? = some u → (w.alloc (.cells #[.bool x] T)).cell? ((⟨w.heap.size, 0, none⟩ : Addr).add j) = some u := by
  intro j u hu
  rw [add_at, Nat.zero_add, World.cell?_alloc_new]
  simpa using hu
theorem flags_snoc (G : List Bool) (x : Bool) : G.map Value.bool ++ [.bool x] = (G ++ [x]).map Value.bool := by simp
/-- a flag is appended, and the field is not yet stored to -/
theorem RF.append_flag {w0 w w3 : World} {B b : Nat} {W : Int} {its : List Itm} {s : St} {fa fr fl fi fg : Value} (h : RF w0 B b W its s ⟨fa, fr, fl, fi, fg⟩ w) {R : List Bool} {xs : List Value} (hR : xs = R.map Value.bool) {o : Obj} (hg : (w.alloc o).grownBy w3 fg.ownBlock) {g cap n : Nat} (hown : w3.ownsRow B 4 1 (.slice (some ⟨g, 0, none⟩) n cap) n xs) :
    w3.cell? ⟨b, 6, none⟩ = some fg ∧ w3.frozen? ⟨b, 6, none⟩ = false ∧ (R.length = n → RF w0 B b W its { s with flags := R } ⟨fa, fr, fl, fi, .slice (some ⟨g, 0, none⟩) n cap⟩ (w3.setCell ⟨b, 6, none⟩ (.slice (some ⟨g, 0, none⟩) n cap))) := by
  have hl := h.below ((Below.refl w.heap.size w).alloc (Nat.le_refl _) o)
  obtain ⟨_, _, _, _, c6, hz, hbl, _⟩ := hl.cells
  obtain ⟨c, hcb⟩ := hl.block
  have hne : fg.ownBlock ≠ some b := RnM.own_ne hl.flags hcb ne6
  have hbk := hg.block b hbl (fun e => hne e.symm)
  refine ⟨(World.cell?_of_block (w := w.alloc o) hbk).trans c6, (World.frozen?_of_block (w := w.alloc o) hbk).trans (hz 6), fun hRn => ?_⟩
  have hrow : ∀ k, fg.ownBlock = some k → ∃ c, (w.alloc o).heap[k]? = some (.cells c 4 (0, 0)) := own_block hl.flags
  refine hl.set hg (fun k e => by obtain ⟨c', h'⟩ := hrow k e; exact ⟨c', _, h', ne3, ne6⟩) 6 (.slice (some ⟨g, 0, none⟩) n cap) ⟨fa, fr, fl, fi, .slice (some ⟨g, 0, none⟩) n cap⟩ (fun p v => rfl) its { s with flags := R } rfl (hl.rest.kept hg (own_or (fun k e => ?_))) (hl.rows.kept hg (own_or (fun k e => ?_))) ?_ h.ind h.wid
  · obtain ⟨c', h'⟩ := hrow k e
    obtain ⟨ys, y1, _⟩ := hl.rest
    exact RnM.own_ne y1 h' ne8
  · obtain ⟨c', h'⟩ := hrow k e
    exact RnM.own_ne hl.rows h' ne9
  · show w3.ownsRow B 4 1 (.slice (some ⟨g, 0, none⟩) n cap) R.length (R.map Value.bool)
    rw [hRn, ← hR]; exact hown
theorem group_size {d : Nat} {n : Int} {t : ByteArray} {k : F} (hok : okD d 8 n t k = true) : zD 8 t k = (flD 8 t k).size := by
  have h2 := zf_fl (.cons 8 n t k .nil) d (by rw [ok_cons, hok]; rfl)
  rwa [zf_one, fl_one] at h2

set_option maxRecDepth 100000 in
set_option maxHeartbeats 3200000 in
theorem decideI {w0 w : World} {B b : Nat} {W : Int} {its : List Itm} {s : St} {F0 : Fs} (hB0 : Below B w0 w) (hBw0 : B ≤ w0.heap.size) (h : RF w0 B b W its s F0 w) (hn : s.flags.length ≤ 1000000) (hi0 : 0 ≤ s.ind) (hi1 : s.ind ≤ 1000000) (ht : s.txt.size ≤ 4194304) (hW0 : 0 ≤ W) (hW1 : W ≤ 1000000)
    (hlen : its.length ≤ 4194304) (hsz : ∀ x ∈ its, x.t.size + x.k.size ≤ 4194304) (hsum : ldI its ≤ 4194304)
    {d : Nat} {m : Int} {t : ByteArray} {k : F} {a : Option Addr} {cap : Nat} (hk : KidsIn w0 B k a cap) (hok : okD d 8 m t k = true) (hks : t.size + k.size ≤ 4194304) :
    Calls Try.prog 107 #[.pointer (some ⟨b, 0, none⟩), .agg #[.int .i64 8, .int .i64 m, .string t, .slice a k.len cap]] w fun e w' => e = .returned (.bool (fitB W (ldI its) s t k)) ∧ (∃ F, F.r = F0.r ∧ RF w0 B b W its (s.flag (fitB W (ldI its) s t k)) F w') ∧ Below B w w' ∧ KeptBut [4] b w w' := by
  obtain ⟨fa, fr, fl, fi, fg⟩ := F0
  have hF := h
  clear h
  have hB : B ≤ w.heap.size := Nat.le_trans hBw0 hB0.size
  have B1 := Lib.hid (show ∀ ob, Ext w (w.alloc ob) from fun ob => (Ext.refl w).alloc _)
  obtain ⟨hcap, fs, hs, hfs⟩ := hk
  have HFZ := Lib.hid (fun (ob : Obj) => flatz_step (w.alloc ob) 8 m t k (flatZ _ k (Nat.le_refl _)) a cap fs ((hs.below hfs hB0).below (fun c hc => Nat.lt_of_lt_of_le (hfs c hc) hB) (B1.out ob)) (fun c hc => by have := hfs c hc; simp; omega) hcap hks)
  obtain ⟨i0, z0, hi, hz, hz1, hz2, hz3⟩ := info_some info1
  have HI := Lib.hid (And.intro hi (And.intro hz (And.intro hz1 (And.intro hz2 hz3))))
  clear hi hz hz1 hz2 hz3
  obtain ⟨ag, cg, rfl, hcg⟩ : ∃ a cap, fg = .slice a s.flags.length cap ∧ s.flags.length ≤ cap := own_slice hF.flags
  obtain ⟨ar, cr, rfl, hcr⟩ : ∃ a cap, fr = .slice a its.length cap ∧ its.length ≤ cap := by obtain ⟨xs, x1, _⟩ := hF.rest; exact own_slice x1
  have hfit : ∀ b, noD 8 k = b → fitB W (ldI its) s t k = (b && decide (s.ind + (s.txt.size : Int) + (zD 8 t k : Int) + (ldI its : Int) ≤ W)) := fun b hb => by
    have h8 : noD 8 k = noF k := by simp [noD]
    rw [group_size hok]; unfold fitB; rw [← h8, hb]; rfl
  have hZs : zD 8 t k ≤ 5000000 := by have := zD_size 8 t k; omega
  obtain ⟨LD, hLD⟩ : ∃ x, ldI its = x := ⟨_, rfl⟩
  have HLB' := Lib.hid (fun (w' : World) (h1 : Below B w0 w') (h2 : RF w0 B b W its s ⟨fa, .slice ar its.length cr, fl, fi, .slice ag s.flags.length cg⟩ w') => Lead.leadBehind (lo := B) h1 hBw0 h2.rest h2.cells.2.1 hlen hsz hsum)
  rw [hLD] at HLB' hfit hsum ⊢
  obtain ⟨Z, hZ⟩ : ∃ x, zD 8 t k = x := ⟨_, rfl⟩
  rw [hZ] at HFZ hfit hZs
  clear hLD hZ hs hfs hok hks hsz
  obtain ⟨n, hnn⟩ : ∃ n, s.flags.length = n := ⟨_, rfl⟩
  obtain ⟨ind, hind⟩ : ∃ i, s.ind = i := ⟨_, rfl⟩
  obtain ⟨X, hX⟩ : ∃ t, s.txt = t := ⟨_, rfl⟩
  obtain ⟨R, hR⟩ : ∃ r, s.rows = r := ⟨_, rfl⟩
  obtain ⟨G, hG⟩ : ∃ g, s.flags = g := ⟨_, rfl⟩
  obtain rfl : s = ⟨R, ind, X, G⟩ := by cases s; simp_all
  obtain rfl : fi = .int .i64 ind := hF.ind
  simp only at hi0 hi1 ht hn hcg hnn hfit hF HLB' ⊢
  rw [hnn] at hF hn hcg HLB'
  have HN := Lib.hid (show G.length = n from hnn)
  clear hnn hX hR hG hind
  have hlenB := len_text X
  have HZL := Lib.hid (show IntKind.i64.wrap ((Z : Int) + (LD : Int)) = (Z : Int) + (LD : Int) by rw [IntKind.wrap_i64]; omega)
  cases hno : noD 8 k with
  | true =>
    have hft := hfit _ hno
    rw [Bool.true_and] at hft
    have HFIT := Lib.hid hft
    rw [hno, show orZ true Z = (Z : Int) from rfl] at HFZ
    clear hft hfit hno
    generalize fitB W LD ⟨R, ind, X, G⟩ t k = FT at HFIT ⊢
    go_enter Try.func107, Try.ntmps107
    go_wp2_with fail
    refine (HFZ.out _).mono ?_
    rintro e1 w1 ⟨rfl, hb1⟩
    have hF1 := hF.below ((B1.out _).trans (hb1.mono (by simp)))
    have hFd : RF w0 B b W its ⟨R, ind, X, G⟩ ⟨fa, .slice ar its.length cr, fl, .int .i64 ind, .slice ag n cg⟩ w1.drew := hF1.below (Below.refl _ _).drew
    have hbd : Below B w w1.drew := (((B1.out _).mono hB).trans (hb1.mono (by simp; omega))).drew
    obtain ⟨c0, c1, c2, c3, c6, hfz, hbl, hBb⟩ := hFd.cells
    have HBb := Lib.hid hBb
    have HLB := Lib.hid (HLB'.out w1.drew (hB0.trans hbd) hFd)
    have HKE := Lib.hid (show KeptBut [4] b w w1.drew from kept_ext ((B1.out _).trans (hb1.mono (by simp))).drew)
    clear hb1 hF1 hlenB
    go_wp2_with fail
    refine wp_region_held_drew (S := (fun _ => True)) (by kernel_rfl) ?_ (fun hHeld => ?_)
    · trivial
    refine wpAnyH_take (i := 0) (oi := { dst := some 13, op := Op.move (Operand.tmp 6), type := 4, pos := "l4_greedy.go:87", after := #[], guard := none }) (v := ?_) rfl (by kernel_rfl) (by kernel_rfl) (by kernel_rfl) (fun _ _ _ h => h) (Or.inl ⟨by rfl, ?_⟩) (by assumption) ?_
    rotate_left
    · (intro w hSw; (try dsimp only at hSw); (go_simp <;> with_reducible rfl))
    try simp only [Act.put, List.setIfInBounds_toArray, List.set_cons_zero, List.set_cons_succ]
    refine wpAnyH_take (i := 1) (oi := { dst := some 14, op := Op.move (Operand.tmp 13), type := 4, pos := "l4_greedy.go:87", after := #[{ on := 0, ground := Ground.data }], guard := none }) (v := ?_) rfl (by kernel_rfl) (by kernel_rfl) (by kernel_rfl) (fun _ _ _ h => h) (Or.inl ⟨by rfl, ?_⟩) (by assumption) ?_
    rotate_left
    · (intro w hSw; (try dsimp only at hSw); (go_simp <;> with_reducible rfl))
    try simp only [Act.put, List.setIfInBounds_toArray, List.set_cons_zero, List.set_cons_succ]
    refine wpAnyH_take (i := 2) (oi := { dst := some 15, op := Op.move (Operand.tmp 0), type := 65, pos := "l4_greedy.go:87", after := #[{ on := 1, ground := Ground.guard }], guard := some (1, true) }) (v := ?_) rfl (by kernel_rfl) (by kernel_rfl) (by kernel_rfl) (fun _ _ _ h => h) (Or.inl ⟨by rfl, ?_⟩) (by assumption) ?_
    rotate_left
    · (intro w hSw; (try dsimp only at hSw); (go_simp <;> with_reducible rfl))
    try simp only [Act.put, List.setIfInBounds_toArray, List.set_cons_zero, List.set_cons_succ]
    refine wpAnyH_take (i := 3) (oi := { dst := some 16, op := Op.nilCheck (Operand.tmp 15), type := 0, pos := "l4_greedy.go:87", after := #[{ on := 2, ground := Ground.data }, { on := 1, ground := Ground.guard }], guard := some (1, true) }) (v := ?_) rfl (by kernel_rfl) (by kernel_rfl) (by kernel_rfl) (fun _ _ _ h => h) (Or.inl ⟨by rfl, ?_⟩) (by assumption) ?_
    rotate_left
    · (intro w hSw; (try dsimp only at hSw); (go_simp <;> with_reducible rfl))
    try simp only [Act.put, List.setIfInBounds_toArray, List.set_cons_zero, List.set_cons_succ]
    refine wpAnyH_take (i := 4) (oi := { dst := some 17, op := Op.fieldAddr 75 (Operand.tmp 16) 0, type := 0, pos := "l4_greedy.go:87", after := #[{ on := 3, ground := Ground.data }, { on := 1, ground := Ground.guard }], guard := some (1, true) }) (v := ?_) rfl (by kernel_rfl) (by kernel_rfl) (by kernel_rfl) (fun _ _ _ h => h) (Or.inl ⟨by rfl, ?_⟩) (by assumption) ?_
    rotate_left
    · (intro w hSw; (try dsimp only at hSw); (go_simp <;> with_reducible rfl))
    try simp only [Act.put, List.setIfInBounds_toArray, List.set_cons_zero, List.set_cons_succ]
    refine wpAnyH_take (i := 5) (oi := { dst := some 18, op := Op.move (Operand.tmp 5), type := 3, pos := "l4_greedy.go:87", after := #[{ on := 1, ground := Ground.guard }], guard := some (1, true) }) (v := ?_) rfl (by kernel_rfl) (by kernel_rfl) (by kernel_rfl) (fun _ _ _ h => h) (Or.inl ⟨by rfl, ?_⟩) (by assumption) ?_
    rotate_left
    · (intro w hSw; (try dsimp only at hSw); (go_simp <;> with_reducible rfl))
    try simp only [Act.put, List.setIfInBounds_toArray, List.set_cons_zero, List.set_cons_succ]
    refine wpAnyH_take (i := 6) (oi := { dst := some 19, op := Op.move (Operand.tmp 0), type := 65, pos := "l4_greedy.go:87", after := #[{ on := 1, ground := Ground.guard }], guard := some (1, true) }) (v := ?_) rfl (by kernel_rfl) (by kernel_rfl) (by kernel_rfl) (fun _ _ _ h => h) (Or.inl ⟨by rfl, ?_⟩) (by assumption) ?_
    rotate_left
    · (intro w hSw; (try dsimp only at hSw); (go_simp <;> with_reducible rfl))
    try simp only [Act.put, List.setIfInBounds_toArray, List.set_cons_zero, List.set_cons_succ]
    refine wpAnyH_ready (rs := [7]) (by kernel_rfl) (by simp) ?_
    refine AllReadyH.cons (o := { dst := some 20, op := Op.call { callee := Callee.value (Operand.func 125), args := #[Operand.tmp 19], argTypes := #[65] }, type := 3, pos := "l4_greedy.go:87", after := #[{ on := 6, ground := Ground.data }, { on := 1, ground := Ground.chain }, { on := 1, ground := Ground.guard }], guard := some (1, true) }) rfl (fun K hK => ?_) AllReadyH.nil
    go_simp
    go_at_call 125
    refine HLB.out.mono ?_
    rintro e3 w3 ⟨rfl, hb3⟩
    have HKA := Lib.hid (HKE.out.trans (kept_ext hb3))
    have HFA := Lib.hid (And.intro (hFd.below hb3) (hbd.trans (hb3.mono (Nat.le_trans hB hbd.size))))
    have HHR := Lib.hid (show Calls Try.prog 124 #[.pointer (some ⟨b, 0, none⟩), .int .i64 (IntKind.i64.wrap ((Z : Int) + (LD : Int)))] w3 (fun e w' => e = .returned (.bool FT) ∧ w' = w3.drew) from by
      rw [HFIT.out.trans (show decide (ind + (X.size : Int) + (Z : Int) + (LD : Int) ≤ W) = decide (ind + (X.size : Int) + IntKind.i64.wrap ((Z : Int) + (LD : Int)) ≤ W) by rw [HZL.out, Int.add_assoc (ind + (X.size : Int))])]
      exact hasRoom HFA.out.1 hi0 hi1 ht (IntKind.i64.wrap ((Z : Int) + (LD : Int))) (by rw [HZL.out]; omega) (by rw [HZL.out]; omega))
    clear hb3
    try go_wp2_with fail
    refine hK.out _ _ ?_ (fun hHeld7 => ?_)
    · trivial
    clear hK K hHeld
    try simp only [Act.put, List.setIfInBounds_toArray, List.set_cons_zero, List.set_cons_succ]
    refine wpAnyH_take (i := 8) (oi := { dst := some 21, op := Op.binOp BinOp.add 3 (Operand.tmp 18) (Operand.tmp 20) 3, type := 3, pos := "l4_greedy.go:87", after := #[{ on := 5, ground := Ground.data }, { on := 7, ground := Ground.data }, { on := 1, ground := Ground.guard }], guard := some (1, true) }) (v := ?_) rfl (by kernel_rfl) (by kernel_rfl) (by kernel_rfl) (fun _ _ _ h => h) (Or.inl ⟨by rfl, ?_⟩) (by assumption) ?_
    rotate_left
    · (intro w hSw; (try dsimp only at hSw); (go_simp <;> with_reducible rfl))
    try simp only [Act.put, List.setIfInBounds_toArray, List.set_cons_zero, List.set_cons_succ]
    refine wpAnyH_ready (rs := [9]) (by kernel_rfl) (by simp) ?_
    refine AllReadyH.cons (o := { dst := some 22, op := Op.call { callee := Callee.value (Operand.func 124), args := #[Operand.tmp 17, Operand.tmp 21], argTypes := #[72, 3] }, type := 4, pos := "l4_greedy.go:87", after := #[{ on := 4, ground := Ground.data }, { on := 8, ground := Ground.data }, { on := 7, ground := Ground.chain }, { on := 1, ground := Ground.guard }], guard := some (1, true) }) rfl (fun K hK => ?_) AllReadyH.nil
    go_simp
    go_at_call 124
    refine HHR.out.mono ?_
    rintro e4 w4 ⟨rfl, hw4⟩
    have hb4 : Below w3.heap.size w3 w4 := by rw [hw4]; exact (Below.refl _ _).drew
    have HKD := Lib.hid (HKA.out.trans (kept_ext hb4))
    have HF3 := Lib.hid (And.intro (HFA.out.1.below hb4) (HFA.out.2.trans (hb4.mono (Nat.le_trans hB HFA.out.2.size))))
    clear hb4 hw4
    try go_wp2_with fail
    refine hK.out _ _ ?_ (fun hHeld9 => ?_)
    · trivial
    clear hK K hHeld7
    try simp only [Act.put, List.setIfInBounds_toArray, List.set_cons_zero, List.set_cons_succ]
    refine wpAnyH_take (i := 10) (oi := { dst := some 23, op := Op.pick (Operand.tmp 14) (Operand.tmp 22) (Operand.const (Value.bool false)), type := 4, pos := "l4_greedy.go:87", after := #[{ on := 1, ground := Ground.data }, { on := 9, ground := Ground.data }], guard := none }) (v := ?_) rfl (by kernel_rfl) (by kernel_rfl) (by kernel_rfl) (fun _ _ _ h => h) (Or.inl ⟨by rfl, ?_⟩) (by assumption) ?_
    rotate_left
    · (intro w hSw; (try dsimp only at hSw); (go_simp <;> with_reducible rfl))
    try simp only [Act.put, List.setIfInBounds_toArray, List.set_cons_zero, List.set_cons_succ]
    refine wpAnyH_take (i := 11) (oi := { dst := some 7, op := Op.assign (Operand.tmp 23), type := 4, pos := "l4_greedy.go:87", after := #[{ on := 10, ground := Ground.data }, { on := 9, ground := Ground.chain }, { on := 0, ground := Ground.phase }, { on := 1, ground := Ground.phase }, { on := 2, ground := Ground.phase }, { on := 3, ground := Ground.phase }, { on := 4, ground := Ground.phase }, { on := 5, ground := Ground.phase }, { on := 6, ground := Ground.phase }, { on := 7, ground := Ground.phase }, { on := 8, ground := Ground.phase }, { on := 9, ground := Ground.phase }, { on := 10, ground := Ground.phase }], guard := none }) (v := ?_) rfl (by kernel_rfl) (by kernel_rfl) (by kernel_rfl) (fun _ _ _ h => h) (Or.inl ⟨by rfl, ?_⟩) (by assumption) ?_
    rotate_left
    · (intro w hSw; (try dsimp only at hSw); (go_simp <;> with_reducible rfl))
    try simp only [Act.put, List.setIfInBounds_toArray, List.set_cons_zero, List.set_cons_succ]
    refine wpAnyH_done (by kernel_rfl) ?_ _
    have HFT := Lib.hid (show FT = FT from rfl)
    obtain ⟨hFt, hbt⟩ := HF3.out
    obtain ⟨_, _, _, _, d6, dz, _, _⟩ := hFt.cells
    have dz6 := dz 6
    have hownt : (w4).ownsRow B 4 1 (.slice ag n cg) n (G.map Value.bool) := by have := hFt.flags; simp only [HN.out] at this; exact this
    have hzt : B ≤ (w4).heap.size := Nat.le_trans hB hbt.size
    clear hFt hbt dz c0 c1 c2 c3
    go_wp2_with (at_builtin; refine wpList_append_lies _ rfl (.tmp 28) (.tmp 30) 39 rfl B 4 i0 z0 1 1 Try.underlying39 HI.out.1 HI.out.2.1 HI.out.2.2.1 HI.out.2.2.2.1 HI.out.2.2.2.2 (by omega) (.slice ag n cg) n (G.map Value.bool) rfl (hownt.alloc _) ⟨(w4).heap.size, 0, none⟩ 1 1 [.bool (FT)] rfl rfl (one_news (w4) (FT) _) (by simp [Value.oneCell']) (by omega) (by unfold maxLen; omega) (by omega) (Nat.le_trans hzt (by simp)) ((w4).heap.size + 1) (by simp) ?_; intro g cap' w5 hown5 hgrow5 hat5 hlt5; obtain ⟨k6, kz, hset⟩ := HF3.out.1.append_flag (flags_snoc G (FT)) hgrow5 hown5; have HSET := Lib.hid hset; have HK5 := Lib.hid (kept_append (ts := [4]) (b := b) hgrow5 HF3.out.1.flags (by decide)); have H5 := Lib.hid (below_append hgrow5 HF3.out.1.flags (Nat.le_trans hB HF3.out.2.size)); clear hset hgrow5 hown5 hat5)
    go_ret
    refine ⟨by first | rfl | (rw [HFT.out]; rfl), ?_, (HF3.out.2.trans H5.out).setCell (p := ⟨b, 6, none⟩) HBb.out _, (HKD.out.trans HK5.out).trans (kept_set _ b 6 _ _)⟩
    try rw [HFT.out]
    exact ⟨_, rfl, HSET.out (by rw [List.length_append, HN.out]; rfl)⟩
  | false =>
    have hft := hfit _ hno
    rw [Bool.false_and] at hft
    have HFIT := Lib.hid hft
    rw [hno, show orZ false Z = 0 from rfl] at HFZ
    clear hft hfit hno
    generalize fitB W LD ⟨R, ind, X, G⟩ t k = FT at HFIT ⊢
    go_enter Try.func107, Try.ntmps107
    go_wp2_with fail
    refine (HFZ.out _).mono ?_
    rintro e1 w1 ⟨rfl, hb1⟩
    have hF1 := hF.below ((B1.out _).trans (hb1.mono (by simp)))
    have hFd : RF w0 B b W its ⟨R, ind, X, G⟩ ⟨fa, .slice ar its.length cr, fl, .int .i64 ind, .slice ag n cg⟩ w1.drew := hF1.below (Below.refl _ _).drew
    have hbd : Below B w w1.drew := (((B1.out _).mono hB).trans (hb1.mono (by simp; omega))).drew
    obtain ⟨c0, c1, c2, c3, c6, hfz, hbl, hBb⟩ := hFd.cells
    have HBb := Lib.hid hBb
    have HF3 := Lib.hid (And.intro hFd hbd)
    have HKE := Lib.hid (show KeptBut [4] b w w1.drew from kept_ext ((B1.out _).trans (hb1.mono (by simp))).drew)
    clear hb1 hF1 hlenB
    go_wp2_with fail
    refine wp_region_held_drew (S := (fun _ => True)) (by kernel_rfl) ?_ (fun hHeld => ?_)
    · trivial
    refine wpAnyH_take (i := 0) (oi := { dst := some 13, op := Op.move (Operand.tmp 6), type := 4, pos := "l4_greedy.go:87", after := #[], guard := none }) (v := ?_) rfl (by kernel_rfl) (by kernel_rfl) (by kernel_rfl) (fun _ _ _ h => h) (Or.inl ⟨by rfl, ?_⟩) (by assumption) ?_
    rotate_left
    · (intro w hSw; (try dsimp only at hSw); (go_simp <;> with_reducible rfl))
    try simp only [Act.put, List.setIfInBounds_toArray, List.set_cons_zero, List.set_cons_succ]
    refine wpAnyH_take (i := 1) (oi := { dst := some 14, op := Op.move (Operand.tmp 13), type := 4, pos := "l4_greedy.go:87", after := #[{ on := 0, ground := Ground.data }], guard := none }) (v := ?_) rfl (by kernel_rfl) (by kernel_rfl) (by kernel_rfl) (fun _ _ _ h => h) (Or.inl ⟨by rfl, ?_⟩) (by assumption) ?_
    rotate_left
    · (intro w hSw; (try dsimp only at hSw); (go_simp <;> with_reducible rfl))
    try simp only [Act.put, List.setIfInBounds_toArray, List.set_cons_zero, List.set_cons_succ]
    refine wpAnyH_take (i := 2) (oi := { dst := some 15, op := Op.move (Operand.tmp 0), type := 65, pos := "l4_greedy.go:87", after := #[{ on := 1, ground := Ground.guard }], guard := some (1, true) }) (v := undef) rfl (by kernel_rfl) (by kernel_rfl) (by kernel_rfl) (fun _ _ _ h => h) (Or.inr ⟨by rfl, rfl⟩) (by assumption) ?_
    try simp only [Act.put, List.setIfInBounds_toArray, List.set_cons_zero, List.set_cons_succ]
    refine wpAnyH_take (i := 3) (oi := { dst := some 16, op := Op.nilCheck (Operand.tmp 15), type := 0, pos := "l4_greedy.go:87", after := #[{ on := 2, ground := Ground.data }, { on := 1, ground := Ground.guard }], guard := some (1, true) }) (v := undef) rfl (by kernel_rfl) (by kernel_rfl) (by kernel_rfl) (fun _ _ _ h => h) (Or.inr ⟨by rfl, rfl⟩) (by assumption) ?_
    try simp only [Act.put, List.setIfInBounds_toArray, List.set_cons_zero, List.set_cons_succ]
    refine wpAnyH_take (i := 4) (oi := { dst := some 17, op := Op.fieldAddr 75 (Operand.tmp 16) 0, type := 0, pos := "l4_greedy.go:87", after := #[{ on := 3, ground := Ground.data }, { on := 1, ground := Ground.guard }], guard := some (1, true) }) (v := undef) rfl (by kernel_rfl) (by kernel_rfl) (by kernel_rfl) (fun _ _ _ h => h) (Or.inr ⟨by rfl, rfl⟩) (by assumption) ?_
    try simp only [Act.put, List.setIfInBounds_toArray, List.set_cons_zero, List.set_cons_succ]
    refine wpAnyH_take (i := 5) (oi := { dst := some 18, op := Op.move (Operand.tmp 5), type := 3, pos := "l4_greedy.go:87", after := #[{ on := 1, ground := Ground.guard }], guard := some (1, true) }) (v := undef) rfl (by kernel_rfl) (by kernel_rfl) (by kernel_rfl) (fun _ _ _ h => h) (Or.inr ⟨by rfl, rfl⟩) (by assumption) ?_
    try simp only [Act.put, List.setIfInBounds_toArray, List.set_cons_zero, List.set_cons_succ]
    refine wpAnyH_take (i := 6) (oi := { dst := some 19, op := Op.move (Operand.tmp 0), type := 65, pos := "l4_greedy.go:87", after := #[{ on := 1, ground := Ground.guard }], guard := some (1, true) }) (v := undef) rfl (by kernel_rfl) (by kernel_rfl) (by kernel_rfl) (fun _ _ _ h => h) (Or.inr ⟨by rfl, rfl⟩) (by assumption) ?_
    try simp only [Act.put, List.setIfInBounds_toArray, List.set_cons_zero, List.set_cons_succ]
    refine wpAnyH_take (i := 7) (oi := { dst := some 20, op := Op.call { callee := Callee.value (Operand.func 125), args := #[Operand.tmp 19], argTypes := #[65] }, type := 3, pos := "l4_greedy.go:87", after := #[{ on := 6, ground := Ground.data }, { on := 1, ground := Ground.chain }, { on := 1, ground := Ground.guard }], guard := some (1, true) }) (v := undef) rfl (by kernel_rfl) (by kernel_rfl) (by kernel_rfl) (fun _ _ _ h => h) (Or.inr ⟨by rfl, rfl⟩) (by assumption) ?_
    try simp only [Act.put, List.setIfInBounds_toArray, List.set_cons_zero, List.set_cons_succ]
    refine wpAnyH_take (i := 8) (oi := { dst := some 21, op := Op.binOp BinOp.add 3 (Operand.tmp 18) (Operand.tmp 20) 3, type := 3, pos := "l4_greedy.go:87", after := #[{ on := 5, ground := Ground.data }, { on := 7, ground := Ground.data }, { on := 1, ground := Ground.guard }], guard := some (1, true) }) (v := undef) rfl (by kernel_rfl) (by kernel_rfl) (by kernel_rfl) (fun _ _ _ h => h) (Or.inr ⟨by rfl, rfl⟩) (by assumption) ?_
    try simp only [Act.put, List.setIfInBounds_toArray, List.set_cons_zero, List.set_cons_succ]
    refine wpAnyH_take (i := 9) (oi := { dst := some 22, op := Op.call { callee := Callee.value (Operand.func 124), args := #[Operand.tmp 17, Operand.tmp 21], argTypes := #[72, 3] }, type := 4, pos := "l4_greedy.go:87", after := #[{ on := 4, ground := Ground.data }, { on := 8, ground := Ground.data }, { on := 7, ground := Ground.chain }, { on := 1, ground := Ground.guard }], guard := some (1, true) }) (v := undef) rfl (by kernel_rfl) (by kernel_rfl) (by kernel_rfl) (fun _ _ _ h => h) (Or.inr ⟨by rfl, rfl⟩) (by assumption) ?_
    try simp only [Act.put, List.setIfInBounds_toArray, List.set_cons_zero, List.set_cons_succ]
    refine wpAnyH_take (i := 10) (oi := { dst := some 23, op := Op.pick (Operand.tmp 14) (Operand.tmp 22) (Operand.const (Value.bool false)), type := 4, pos := "l4_greedy.go:87", after := #[{ on := 1, ground := Ground.data }, { on := 9, ground := Ground.data }], guard := none }) (v := ?_) rfl (by kernel_rfl) (by kernel_rfl) (by kernel_rfl) (fun _ _ _ h => h) (Or.inl ⟨by rfl, ?_⟩) (by assumption) ?_
    rotate_left
    · (intro w hSw; (try dsimp only at hSw); (go_simp <;> with_reducible rfl))
    try simp only [Act.put, List.setIfInBounds_toArray, List.set_cons_zero, List.set_cons_succ]
    refine wpAnyH_take (i := 11) (oi := { dst := some 7, op := Op.assign (Operand.tmp 23), type := 4, pos := "l4_greedy.go:87", after := #[{ on := 10, ground := Ground.data }, { on := 9, ground := Ground.chain }, { on := 0, ground := Ground.phase }, { on := 1, ground := Ground.phase }, { on := 2, ground := Ground.phase }, { on := 3, ground := Ground.phase }, { on := 4, ground := Ground.phase }, { on := 5, ground := Ground.phase }, { on := 6, ground := Ground.phase }, { on := 7, ground := Ground.phase }, { on := 8, ground := Ground.phase }, { on := 9, ground := Ground.phase }, { on := 10, ground := Ground.phase }], guard := none }) (v := ?_) rfl (by kernel_rfl) (by kernel_rfl) (by kernel_rfl) (fun _ _ _ h => h) (Or.inl ⟨by rfl, ?_⟩) (by assumption) ?_
    rotate_left
    · (intro w hSw; (try dsimp only at hSw); (go_simp <;> with_reducible rfl))
    try simp only [Act.put, List.setIfInBounds_toArray, List.set_cons_zero, List.set_cons_succ]
    refine wpAnyH_done (by kernel_rfl) ?_ _
    obtain ⟨w3, hw3⟩ : ∃ x, w1.drew = x := ⟨_, rfl⟩
    have HKD := HKE
    rw [hw3] at HF3 HKD ⊢
    clear hw3 hFd hbd
    have HFT := Lib.hid (HFIT.out)
    obtain ⟨hFt, hbt⟩ := HF3.out
    obtain ⟨_, _, _, _, d6, dz, _, _⟩ := hFt.cells
    have dz6 := dz 6
    have hownt : (w3).ownsRow B 4 1 (.slice ag n cg) n (G.map Value.bool) := by have := hFt.flags; simp only [HN.out] at this; exact this
    have hzt : B ≤ (w3).heap.size := Nat.le_trans hB hbt.size
    clear hFt hbt dz c0 c1 c2 c3 c6 hfz hbl
    go_wp2_with (at_builtin; refine wpList_append_lies _ rfl (.tmp 28) (.tmp 30) 39 rfl B 4 i0 z0 1 1 Try.underlying39 HI.out.1 HI.out.2.1 HI.out.2.2.1 HI.out.2.2.2.1 HI.out.2.2.2.2 (by omega) (.slice ag n cg) n (G.map Value.bool) rfl (hownt.alloc _) ⟨(w3).heap.size, 0, none⟩ 1 1 [.bool (false)] rfl rfl (one_news (w3) (false) _) (by simp [Value.oneCell']) (by omega) (by unfold maxLen; omega) (by omega) (Nat.le_trans hzt (by simp)) ((w3).heap.size + 1) (by simp) ?_; intro g cap' w5 hown5 hgrow5 hat5 hlt5; obtain ⟨k6, kz, hset⟩ := HF3.out.1.append_flag (flags_snoc G (false)) hgrow5 hown5; have HSET := Lib.hid hset; have HK5 := Lib.hid (kept_append (ts := [4]) (b := b) hgrow5 HF3.out.1.flags (by decide)); have H5 := Lib.hid (below_append hgrow5 HF3.out.1.flags (Nat.le_trans hB HF3.out.2.size)); clear hset hgrow5 hown5 hat5)
    go_ret
    refine ⟨by first | rfl | (rw [HFT.out]; rfl), ?_, (HF3.out.2.trans H5.out).setCell (p := ⟨b, 6, none⟩) HBb.out _, (HKD.out.trans HK5.out).trans (kept_set _ b 6 _ _)⟩
    try rw [HFT.out]
    exact ⟨_, rfl, HSET.out (by rw [List.length_append, HN.out]; rfl)⟩

end Go.Proofs.Ytgkbagcgbfgllaa.RnM


import Derived.Test.YtjcaiecapapceaaGreatRnM
/-
 endLine of the program.
-/
set_option linter.unusedVariables false
set_option linter.unusedSimpArgs false
set_option maxRecDepth 100000
set_option maxHeartbeats 3200000
namespace Go.Proofs.YtjcaiecapapceaaGreat.RnM
theorem zpgRnE {α : Type} : (∀ (l : List α) (i : Nat) (h : i < l.toArray.size), l.toArray[i]'h = l[i]'(by simpa using h)) ∧ (∀ (x : α) (l : List α) (h : 0 < (x :: l).length), (x :: l)[0]'h = x) ∧ (∀ (x : α) (l : List α) (i : Nat) (h : i + 1 < (x :: l).length), (x :: l)[i + 1]'h = l[i]'(by simpa using h)) := ⟨fun _ _ _ => rfl, fun _ _ _ => rfl, fun _ _ _ _ => rfl⟩
open Go.RowKit Go.Shelf P1 Cnt CntC Flat Wid ChP Rn Bwd BufQ
open LayN (cells2 cells2_len cells2_one)
open LayC (cells2_app)
def St.ended (s : St) : St := { s with rows := s.fin, txt := ⟨#[]⟩ }
theorem two_news (w : World) (i : Int) (t : ByteArray) (T : TypeId) : ∀ j u, [Value.int .i64 i, .string t][j]? = some u → (w.alloc (.cells #[.int .i64 i, .string t] T)).cell? ((⟨w.heap.size, 0, none⟩ : Addr).add j) = some u := by
 intro j u hu
 rw [add_at, Nat.zero_add, World.cell?_alloc_new]
 simpa using hu
theorem cells2_snoc (R : List (Int × ByteArray)) (i : Int) (t : ByteArray) : cells2 R ++ [.int .i64 i, .string t] = cells2 (R ++ [(i, t)]) := by rw [cells2_app]; rfl
theorem own_slice {w : World} {B : Nat} {T : TypeId} {n m : Nat} {v : Value} {xs : List Value} (h : w.ownsRow B T n v m xs) : ∃ a cap, v = .slice a m cap ∧ m ≤ cap := by
 rcases h.2 with ⟨rfl, h0⟩ | ⟨g, cap, cur, rfl, _, _, h1, _⟩
 ·exact ⟨none, 0, by rw [h0], by omega⟩
 ·exact ⟨_, cap, rfl, h1⟩
theorem below_append {w w' : World} {B : Nat} {T : TypeId} {n m : Nat} {v : Value} {xs : List Value} {o : Obj} (hg : (w.alloc o).grownBy w' v.ownBlock) (h : w.ownsRow B T n v m xs) (hB : B ≤ w.heap.size) : Below B w w' :=
 ((Below.refl B w).alloc hB o).grown hg (by simp; omega) (fun k e => (h.lt k e).1)
theorem RF.append_row {w0 w w3 : World} {B b : Nat} {W : Int} {its : List Itm} {s : St} {fa fr fl fi fg : Value} (h : RF w0 B b W its s ⟨fa, fr, fl, fi, fg⟩ w) {R : List (Int × ByteArray)} {xs : List Value} (hR : xs = cells2 R) {o : Obj} (hg : (w.alloc o).grownBy w3 fl.ownBlock) {g cap n : Nat} (hown : w3.ownsRow B 67 2 (.slice (some ⟨g, 0, none⟩) n cap) n xs) :
  w3.cell? ⟨b, 1, none⟩ = some fl ∧ w3.cell? ⟨b, 2, none⟩ = some (.int .i64 s.ind) ∧ (∀ u, (w3.setCell ⟨b, 1, none⟩ u).cell? ⟨b, 2, none⟩ = some (.int .i64 s.ind)) ∧ w3.frozen? ⟨b, 1, none⟩ = false ∧ (R.length = n → RF w0 B b W its { s with rows := R } ⟨fa, fr, .slice (some ⟨g, 0, none⟩) n cap, fi, fg⟩ (w3.setCell ⟨b, 1, none⟩ (.slice (some ⟨g, 0, none⟩) n cap))) := by
 have hl := h.below ((Below.refl w.heap.size w).alloc (Nat.le_refl _) o)
 obtain ⟨_, _, c2, c3, _, hz, hbl, _⟩ := hl.cells
 obtain ⟨c, hcb⟩ := hl.block
 have hne : fl.ownBlock ≠ some b := RnM.own_ne hl.rows hcb ne5
 have hbk := hg.block b hbl (fun e => hne e.symm)
 refine ⟨(World.cell?_of_block (w := w.alloc o) hbk).trans c2, (World.cell?_of_block (w := w.alloc o) hbk).trans c3, fun u => (show (w3.setCell ⟨b, 1, none⟩ u).cell? ⟨b, 2, none⟩ = w3.cell? ⟨b, 2, none⟩ from World.cell?_setCell_other _ _ _ _ (by simp)).trans <| (World.cell?_of_block (w := w.alloc o) hbk).trans c3, (World.frozen?_of_block (w := w.alloc o) hbk).trans (hz 1), fun hRn => ?_⟩
 have hrow : ∀ k, fl.ownBlock = some k → ∃ c, (w.alloc o).heap[k]? = some (.cells c 67 (0, 0)) := own_block hl.rows
 refine hl.set hg (fun k e => by obtain ⟨c', h'⟩ := hrow k e; exact ⟨c', _, h', ne2, ne5⟩) 1 (.slice (some ⟨g, 0, none⟩) n cap) ⟨fa, fr, .slice (some ⟨g, 0, none⟩) n cap, fi, fg⟩ (fun p v => rfl) its { s with rows := R } rfl (hl.rest.kept hg (own_or (fun k e => ?_))) ?_ (hl.flags.kept hg (own_or (fun k e => ?_))) h.ind h.wid
 ·obtain ⟨c', h'⟩ := hrow k e
  obtain ⟨ys, y1, _⟩ := hl.rest
  exact RnM.own_ne y1 h' ne7
 ·show w3.ownsRow B 67 2 (.slice (some ⟨g, 0, none⟩) n cap) R.length (cells2 R)
  rw [hRn, ← hR]; exact hown
 ·obtain ⟨c', h'⟩ := hrow k e
  exact RnM.own_ne hl.flags h' (Ne.symm ne9)
theorem endLine {w0 w : World} {B b : Nat} {W : Int} {its : List Itm} {s : St} (hB : B ≤ w.heap.size) (h : RS w0 B b W its s w) (hn : s.rows.length ≤ 1000000) :
  Calls Tryz.prog 84 #[.pointer (some ⟨b, 0, none⟩)] w fun e w' => e = .returned (.tuple #[]) ∧ RS w0 B b W its (St.ended s) w' ∧ Below B w w' ∧ KeptBut [5, 67] b w w' := by
 obtain ⟨⟨fa, fr, fl, fi, fg⟩, hF⟩ := h
 obtain ⟨i0, z0, hi, hz, hz1, hz2, hz3⟩ := info_some info2
 have HI := Lib.hid (And.intro hi (And.intro hz (And.intro hz1 (And.intro hz2 hz3))))
 clear hi hz hz1 hz2 hz3
 obtain ⟨al, cl, rfl, hcl⟩ : ∃ a cap, fl = .slice a s.rows.length cap ∧ s.rows.length ≤ cap := own_slice hF.rows
 obtain ⟨n, hnn⟩ : ∃ n, s.rows.length = n := ⟨_, rfl⟩
 obtain ⟨ind, hind⟩ : ∃ i, s.ind = i := ⟨_, rfl⟩
 obtain ⟨T, hT⟩ : ∃ t, s.txt = t := ⟨_, rfl⟩
 obtain ⟨R, hR⟩ : ∃ r, s.rows = r := ⟨_, rfl⟩
 obtain ⟨G, hG⟩ : ∃ g, s.flags = g := ⟨_, rfl⟩
 obtain rfl : s = ⟨R, ind, T, G⟩ := by cases s; simp_all
 obtain rfl : fi = .int .i64 ind := hF.ind
 rw [hnn] at hF hn hcl
 have hFd : RF w0 B b W its ⟨R, ind, T, G⟩ ⟨fa, fr, .slice al n cl, .int .i64 ind, fg⟩ w.drew := hF.below (Below.refl _ _).drew
 obtain ⟨c0, c1, c2, c3, c6, hfz, hbl, hBb⟩ := hFd.cells
 have HSTR := Lib.hid (string B b _ _ w.drew hFd.hold)
 have HN := Lib.hid (show R.length = n from hnn)
 clear hnn hT hR hG hind
 go_enter Tryz.func84, Tryz.ntmps84
 go_wp2_with fail
 refine wp_region_held_drew (S := (fun w' => w'.cell? ⟨b, 2, none⟩ = some (.int .i64 ind))) (by kernel_rfl) ?_ (fun hHeld => ?_)
 ·exact c3
 refine wpAnyH_take (i := 0) (v := ?_) rfl (by kernel_rfl) (by kernel_rfl) (by kernel_rfl) (fun _ _ _ h => h) (Or.inl ⟨by rfl, ?_⟩) (by assumption) ?_
 rotate_left
 ·(intro w hSw; (try dsimp only at hSw); (go_simp <;> with_reducible rfl))
 try simp only [Act.put, zpu, zpgRnE]
 refine wpAnyH_take (i := 1) (v := ?_) rfl (by kernel_rfl) (by kernel_rfl) (by kernel_rfl) (fun _ _ _ h => h) (Or.inl ⟨by rfl, ?_⟩) (by assumption) ?_
 rotate_left
 ·(intro w hSw; (try dsimp only at hSw); (go_simp <;> with_reducible rfl))
 try simp only [Act.put, zpu, zpgRnE]
 refine wpAnyH_take (i := 2) (v := ?_) rfl (by kernel_rfl) (by kernel_rfl) (by kernel_rfl) (fun _ _ _ h => h) (Or.inl ⟨by rfl, ?_⟩) (by assumption) ?_
 rotate_left
 ·(intro w hSw; (try dsimp only at hSw); (go_simp <;> with_reducible rfl))
 try simp only [Act.put, zpu, zpgRnE]
 refine wpAnyH_take (i := 3) (v := ?_) rfl (by kernel_rfl) (by kernel_rfl) (by kernel_rfl) (fun _ _ _ h => h) (Or.inl ⟨by rfl, ?_⟩) (by assumption) ?_
 rotate_left
 ·(intro w hSw; (try dsimp only at hSw); (go_simp <;> with_reducible rfl))
 try simp only [Act.put, zpu, zpgRnE]
 refine wpAnyH_take (i := 5) (v := ?_) rfl (by kernel_rfl) (by kernel_rfl) (by kernel_rfl) (fun _ _ _ h => h) (Or.inl ⟨by rfl, ?_⟩) (by assumption) ?_
 rotate_left
 ·(intro w hSw; (try dsimp only at hSw); (go_simp <;> with_reducible rfl))
 try simp only [Act.put, zpu, zpgRnE]
 refine wpAnyH_take (i := 6) (v := ?_) rfl (by kernel_rfl) (by kernel_rfl) (by kernel_rfl) (fun _ _ _ h => h) (Or.inl ⟨by rfl, ?_⟩) (by assumption) ?_
 rotate_left
 ·(intro w hSw; (try dsimp only at hSw); (go_simp <;> with_reducible rfl))
 try simp only [Act.put, zpu, zpgRnE]
 refine wpAnyH_take (i := 7) (v := ?_) rfl (by kernel_rfl) (by kernel_rfl) (by kernel_rfl) (fun _ _ _ h => h) (Or.inl ⟨by rfl, ?_⟩) (by assumption) ?_
 rotate_left
 ·(intro w hSw; (try dsimp only at hSw); (go_simp <;> with_reducible rfl))
 try simp only [Act.put, zpu, zpgRnE]
 refine wpAnyH_take (i := 8) (v := ?_) rfl (by kernel_rfl) (by kernel_rfl) (by kernel_rfl) (fun _ _ _ h => h) (Or.inl ⟨by rfl, ?_⟩) (by assumption) ?_
 rotate_left
 ·(intro w hSw; (try dsimp only at hSw); (go_simp <;> with_reducible rfl))
 try simp only [Act.put, zpu, zpgRnE]
 refine wpAnyH_take (i := 9) (v := ?_) rfl (by kernel_rfl) (by kernel_rfl) (by kernel_rfl) (fun _ _ _ h => h) (Or.inl ⟨by rfl, ?_⟩) (by assumption) ?_
 rotate_left
 ·(intro w hSw; (try dsimp only at hSw); (go_simp <;> with_reducible rfl))
 try simp only [Act.put, zpu, zpgRnE]
 refine wpAnyH_take (i := 10) (v := ?_) rfl (by kernel_rfl) (by kernel_rfl) (by kernel_rfl) (fun _ _ _ h => h) (Or.inl ⟨by rfl, ?_⟩) (by assumption) ?_
 rotate_left
 ·(intro w hSw; (try dsimp only at hSw); (go_simp <;> with_reducible rfl))
 try simp only [Act.put, zpu, zpgRnE]
 refine wpAnyH_take (i := 11) (v := ?_) rfl (by kernel_rfl) (by kernel_rfl) (by kernel_rfl) (fun _ _ _ h => h) (Or.inl ⟨by rfl, ?_⟩) (by assumption) ?_
 rotate_left
 ·(intro w hSw; (try dsimp only at hSw); (go_simp <;> with_reducible rfl))
 try simp only [Act.put, zpu, zpgRnE]
 refine wpAnyH_ready (rs := [4, 12]) (by kernel_rfl) (by simp) ?_
 refine AllReadyH.cons rfl (fun K hK => ?_) ?_
 ·go_simp
  refine hK.out _ _ ?_ (fun hHeld4 => ?_)
  ·exact c3
  clear hK K hHeld
  try simp only [Act.put, zpu, zpgRnE]
  refine wpAnyH_ready (rs := [12]) (by kernel_rfl) (by simp) ?_
  refine AllReadyH.cons rfl (fun K hK => ?_) AllReadyH.nil
  go_simp
  go_at_call 51
  refine HSTR.out.mono ?_
  rintro e1 w1 ⟨rfl, hw1⟩
  have hF1 := hFd.wrote hw1 rfl
  have hb1 := hw1.2.1
  obtain ⟨_, _, c2a, c3a, _, fza, hbla, _⟩ := hF1.cells
  have hown1 : w1.ownsRow B 67 2 (.slice al n cl) n (cells2 R) := by have := hF1.rows; simp only [HN.out] at this; exact this
  have hz1 : B ≤ w1.heap.size := Nat.le_trans hB hb1.size
  have H1 := Lib.hid (And.intro hF1 hb1)
  have HK1 := Lib.hid (kept_others (ts := [5, 67]) hw1.2.2 (by decide))
  clear hF1 hb1 hw1
  try go_wp2_with fail
  refine hK.out _ _ ?_ (fun hHeld12 => ?_)
  ·exact c3a
  clear hK K hHeld4
  try simp only [Act.put, zpu, zpgRnE]
  refine wpAnyH_take (i := 13) (v := ?_) rfl (by kernel_rfl) (by kernel_rfl) (by kernel_rfl) (fun _ _ _ h => h) (Or.inl ⟨by rfl, ?_⟩) (by assumption) ?_
  rotate_left
  ·(intro w hSw; (try dsimp only at hSw); (go_simp <;> with_reducible rfl))
  try simp only [Act.put, zpu, zpgRnE]
  refine wpAnyH_ready (rs := [14]) (by kernel_rfl) (by simp) ?_
  refine AllReadyH.cons rfl (fun K hK => ?_) AllReadyH.nil
  have c2b := fun (ob : Obj) => ((Ext.refl w1).alloc ob |>.cell hbla).trans c2a
  have c3b := fun (ob : Obj) => ((Ext.refl w1).alloc ob |>.cell hbla).trans c3a
  go_simp
  refine hK.out _ _ ?_ (fun hHeld14 => ?_)
  ·exact c3b _
  clear hK K hHeld12
  try simp only [Act.put, zpu, zpgRnE]
  refine wpAnyH_ready (rs := [15]) (by kernel_rfl) (by simp) ?_
  refine AllReadyH.cons rfl (fun K hK => ?_) AllReadyH.nil
  refine wp_append_lies _ (.tmp 6) (.tmp 16) 28 (by rfl) B 67 i0 z0 2 24 Tryz.underlying28 HI.out.1 HI.out.2.1 HI.out.2.2.1 HI.out.2.2.2.1 HI.out.2.2.2.2 (by omega) (.slice al n cl) n (cells2 R) (by rfl) (hown1.alloc _) ⟨w1.heap.size, 0, none⟩ 1 1 [.int .i64 ind, .string T] (by rfl) rfl (two_news w1 ind T _) (by simp [Value.oneCell']) (by omega) (by unfold maxLen; omega) (by omega) (by simp; omega) (w1.heap.size + 1) (by simp) ?_
  intro g cap w3 hown3 hgrow3 hat3 hlt3
  obtain ⟨k2, k3, k4, kz, hset⟩ := H1.out.1.append_row (cells2_snoc R ind T) hgrow3 hown3
  have HSET := Lib.hid hset
  have HK3 := Lib.hid (kept_append (ts := [5, 67]) (b := b) hgrow3 H1.out.1.rows (by decide))
  have H3 := Lib.hid (below_append hgrow3 H1.out.1.rows (Nat.le_trans hB H1.out.2.size))
  clear hset hgrow3 hown3 hat3
  refine hK.out _ _ ?_ (fun hHeld15 => ?_)
  ·exact k3
  clear hK K hHeld14
  try simp only [Act.put, zpu, zpgRnE]
  refine wpAnyH_take (i := 16) (v := ?_) rfl (by kernel_rfl) (by kernel_rfl) (by kernel_rfl) (fun _ _ _ h => h) (Or.inl ⟨by rfl, ?_⟩) (by assumption) ?_
  rotate_left
  ·(intro w hSw; (try dsimp only at hSw); (go_simp <;> with_reducible rfl))
  try simp only [Act.put, zpu, zpgRnE]
  refine wpAnyH_take (i := 17) (v := ?_) rfl (by kernel_rfl) (by kernel_rfl) (by kernel_rfl) (fun _ _ _ h => h) (Or.inl ⟨by rfl, ?_⟩) (by assumption) ?_
  rotate_left
  ·(intro w hSw; (try dsimp only at hSw); (go_simp <;> with_reducible rfl))
  try simp only [Act.put, zpu, zpgRnE]
  refine wpAnyH_ready (rs := [18]) (by kernel_rfl) (by simp) ?_
  refine AllReadyH.cons rfl (fun K hK => ?_) AllReadyH.nil
  go_simp
  refine hK.out _ _ ?_ (fun hHeld18 => ?_)
  ·exact k4 _
  clear hK K hHeld15
  try simp only [Act.put, zpu, zpgRnE]
  refine wpAnyH_done (by kernel_rfl) ?_ _
  have hset := HSET.out (by rw [List.length_append, HN.out]; rfl)
  have hb3 := (H1.out.2.trans H3.out).setCell (p := ⟨b, 1, none⟩) hBb (.slice (some ⟨g, 0, none⟩) (n + 1) cap)
  have hk3 := (HK1.out.trans HK3.out).trans (kept_set _ b 1 _ (.slice (some ⟨g, 0, none⟩) (n + 1) cap))
  obtain ⟨W3, hW3⟩ : ∃ W, w3.setCell ⟨b, 1, none⟩ (.slice (some ⟨g, 0, none⟩) (n + 1) cap) = W := ⟨_, rfl⟩
  rw [hW3] at hset hb3 hk3 ⊢
  have HR := Lib.hid (reset B b _ _ W3 hset.hold)
  have H4 := Lib.hid (And.intro hset hb3)
  have HK4 := Lib.hid hk3
  clear hset hb3 hk3 hW3 k2 k3 k4 kz
  go_wp2_with fail
  refine HR.out.mono ?_
  rintro e4 w4 ⟨rfl, hw4⟩
  go_wp2_with fail
  go_end0
  refine ⟨rfl, ⟨_, H4.out.1.wrote (t := ⟨#[]⟩) hw4 rfl⟩, ((Below.refl B w).drew.trans H4.out.2).trans hw4.2.1, ((kept_ext (w' := w.drew) (Below.refl _ _).drew).trans HK4.out).trans (kept_others hw4.2.2 (by decide))⟩
 refine AllReadyH.cons rfl (fun K hK => ?_) AllReadyH.nil
 go_simp
 go_at_call 51
 refine HSTR.out.mono ?_
 rintro e1 w1 ⟨rfl, hw1⟩
 have hF1 := hFd.wrote hw1 rfl
 have hb1 := hw1.2.1
 obtain ⟨_, _, c2a, c3a, _, fza, hbla, _⟩ := hF1.cells
 have hown1 : w1.ownsRow B 67 2 (.slice al n cl) n (cells2 R) := by have := hF1.rows; simp only [HN.out] at this; exact this
 have hz1 : B ≤ w1.heap.size := Nat.le_trans hB hb1.size
 have H1 := Lib.hid (And.intro hF1 hb1)
 have HK1 := Lib.hid (kept_others (ts := [5, 67]) hw1.2.2 (by decide))
 clear hF1 hb1 hw1
 try go_wp2_with fail
 refine hK.out _ _ ?_ (fun hHeld12 => ?_)
 ·exact c3a
 clear hK K hHeld
 try simp only [Act.put, zpu, zpgRnE]
 refine wpAnyH_take (i := 13) (v := ?_) rfl (by kernel_rfl) (by kernel_rfl) (by kernel_rfl) (fun _ _ _ h => h) (Or.inl ⟨by rfl, ?_⟩) (by assumption) ?_
 rotate_left
 ·(intro w hSw; (try dsimp only at hSw); (go_simp <;> with_reducible rfl))
 try simp only [Act.put, zpu, zpgRnE]
 refine wpAnyH_ready (rs := [4, 14]) (by kernel_rfl) (by simp) ?_
 refine AllReadyH.cons rfl (fun K hK => ?_) ?_
 ·go_simp
  refine hK.out _ _ ?_ (fun hHeld4 => ?_)
  ·exact c3a
  clear hK K hHeld12
  try simp only [Act.put, zpu, zpgRnE]
  refine wpAnyH_ready (rs := [14]) (by kernel_rfl) (by simp) ?_
  refine AllReadyH.cons rfl (fun K hK => ?_) AllReadyH.nil
  have c2b := fun (ob : Obj) => ((Ext.refl w1).alloc ob |>.cell hbla).trans c2a
  have c3b := fun (ob : Obj) => ((Ext.refl w1).alloc ob |>.cell hbla).trans c3a
  go_simp
  refine hK.out _ _ ?_ (fun hHeld14 => ?_)
  ·exact c3b _
  clear hK K hHeld4
  try simp only [Act.put, zpu, zpgRnE]
  refine wpAnyH_ready (rs := [15]) (by kernel_rfl) (by simp) ?_
  refine AllReadyH.cons rfl (fun K hK => ?_) AllReadyH.nil
  refine wp_append_lies _ (.tmp 6) (.tmp 16) 28 (by rfl) B 67 i0 z0 2 24 Tryz.underlying28 HI.out.1 HI.out.2.1 HI.out.2.2.1 HI.out.2.2.2.1 HI.out.2.2.2.2 (by omega) (.slice al n cl) n (cells2 R) (by rfl) (hown1.alloc _) ⟨w1.heap.size, 0, none⟩ 1 1 [.int .i64 ind, .string T] (by rfl) rfl (two_news w1 ind T _) (by simp [Value.oneCell']) (by omega) (by unfold maxLen; omega) (by omega) (by simp; omega) (w1.heap.size + 1) (by simp) ?_
  intro g cap w3 hown3 hgrow3 hat3 hlt3
  obtain ⟨k2, k3, k4, kz, hset⟩ := H1.out.1.append_row (cells2_snoc R ind T) hgrow3 hown3
  have HSET := Lib.hid hset
  have HK3 := Lib.hid (kept_append (ts := [5, 67]) (b := b) hgrow3 H1.out.1.rows (by decide))
  have H3 := Lib.hid (below_append hgrow3 H1.out.1.rows (Nat.le_trans hB H1.out.2.size))
  clear hset hgrow3 hown3 hat3
  refine hK.out _ _ ?_ (fun hHeld15 => ?_)
  ·exact k3
  clear hK K hHeld14
  try simp only [Act.put, zpu, zpgRnE]
  refine wpAnyH_take (i := 16) (v := ?_) rfl (by kernel_rfl) (by kernel_rfl) (by kernel_rfl) (fun _ _ _ h => h) (Or.inl ⟨by rfl, ?_⟩) (by assumption) ?_
  rotate_left
  ·(intro w hSw; (try dsimp only at hSw); (go_simp <;> with_reducible rfl))
  try simp only [Act.put, zpu, zpgRnE]
  refine wpAnyH_take (i := 17) (v := ?_) rfl (by kernel_rfl) (by kernel_rfl) (by kernel_rfl) (fun _ _ _ h => h) (Or.inl ⟨by rfl, ?_⟩) (by assumption) ?_
  rotate_left
  ·(intro w hSw; (try dsimp only at hSw); (go_simp <;> with_reducible rfl))
  try simp only [Act.put, zpu, zpgRnE]
  refine wpAnyH_ready (rs := [18]) (by kernel_rfl) (by simp) ?_
  refine AllReadyH.cons rfl (fun K hK => ?_) AllReadyH.nil
  go_simp
  refine hK.out _ _ ?_ (fun hHeld18 => ?_)
  ·exact k4 _
  clear hK K hHeld15
  try simp only [Act.put, zpu, zpgRnE]
  refine wpAnyH_done (by kernel_rfl) ?_ _
  have hset := HSET.out (by rw [List.length_append, HN.out]; rfl)
  have hb3 := (H1.out.2.trans H3.out).setCell (p := ⟨b, 1, none⟩) hBb (.slice (some ⟨g, 0, none⟩) (n + 1) cap)
  have hk3 := (HK1.out.trans HK3.out).trans (kept_set _ b 1 _ (.slice (some ⟨g, 0, none⟩) (n + 1) cap))
  obtain ⟨W3, hW3⟩ : ∃ W, w3.setCell ⟨b, 1, none⟩ (.slice (some ⟨g, 0, none⟩) (n + 1) cap) = W := ⟨_, rfl⟩
  rw [hW3] at hset hb3 hk3 ⊢
  have HR := Lib.hid (reset B b _ _ W3 hset.hold)
  have H4 := Lib.hid (And.intro hset hb3)
  have HK4 := Lib.hid hk3
  clear hset hb3 hk3 hW3 k2 k3 k4 kz
  go_wp2_with fail
  refine HR.out.mono ?_
  rintro e4 w4 ⟨rfl, hw4⟩
  go_wp2_with fail
  go_end0
  refine ⟨rfl, ⟨_, H4.out.1.wrote (t := ⟨#[]⟩) hw4 rfl⟩, ((Below.refl B w).drew.trans H4.out.2).trans hw4.2.1, ((kept_ext (w' := w.drew) (Below.refl _ _).drew).trans HK4.out).trans (kept_others hw4.2.2 (by decide))⟩
 refine AllReadyH.cons rfl (fun K hK => ?_) AllReadyH.nil
 have c2b := fun (ob : Obj) => ((Ext.refl w1).alloc ob |>.cell hbla).trans c2a
 have c3b := fun (ob : Obj) => ((Ext.refl w1).alloc ob |>.cell hbla).trans c3a
 go_simp
 refine hK.out _ _ ?_ (fun hHeld14 => ?_)
 ·exact c3b _
 clear hK K hHeld12
 try simp only [Act.put, zpu, zpgRnE]
 refine wpAnyH_ready (rs := [4]) (by kernel_rfl) (by simp) ?_
 refine AllReadyH.cons rfl (fun K hK => ?_) AllReadyH.nil
 go_simp
 refine hK.out _ _ ?_ (fun hHeld4 => ?_)
 ·exact c3b _
 clear hK K hHeld14
 try simp only [Act.put, zpu, zpgRnE]
 refine wpAnyH_ready (rs := [15]) (by kernel_rfl) (by simp) ?_
 refine AllReadyH.cons rfl (fun K hK => ?_) AllReadyH.nil
 refine wp_append_lies _ (.tmp 6) (.tmp 16) 28 (by rfl) B 67 i0 z0 2 24 Tryz.underlying28 HI.out.1 HI.out.2.1 HI.out.2.2.1 HI.out.2.2.2.1 HI.out.2.2.2.2 (by omega) (.slice al n cl) n (cells2 R) (by rfl) (hown1.alloc _) ⟨w1.heap.size, 0, none⟩ 1 1 [.int .i64 ind, .string T] (by rfl) rfl (two_news w1 ind T _) (by simp [Value.oneCell']) (by omega) (by unfold maxLen; omega) (by omega) (by simp; omega) (w1.heap.size + 1) (by simp) ?_
 intro g cap w3 hown3 hgrow3 hat3 hlt3
 obtain ⟨k2, k3, k4, kz, hset⟩ := H1.out.1.append_row (cells2_snoc R ind T) hgrow3 hown3
 have HSET := Lib.hid hset
 have HK3 := Lib.hid (kept_append (ts := [5, 67]) (b := b) hgrow3 H1.out.1.rows (by decide))
 have H3 := Lib.hid (below_append hgrow3 H1.out.1.rows (Nat.le_trans hB H1.out.2.size))
 clear hset hgrow3 hown3 hat3
 refine hK.out _ _ ?_ (fun hHeld15 => ?_)
 ·exact k3
 clear hK K hHeld4
 try simp only [Act.put, zpu, zpgRnE]
 refine wpAnyH_take (i := 16) (v := ?_) rfl (by kernel_rfl) (by kernel_rfl) (by kernel_rfl) (fun _ _ _ h => h) (Or.inl ⟨by rfl, ?_⟩) (by assumption) ?_
 rotate_left
 ·(intro w hSw; (try dsimp only at hSw); (go_simp <;> with_reducible rfl))
 try simp only [Act.put, zpu, zpgRnE]
 refine wpAnyH_take (i := 17) (v := ?_) rfl (by kernel_rfl) (by kernel_rfl) (by kernel_rfl) (fun _ _ _ h => h) (Or.inl ⟨by rfl, ?_⟩) (by assumption) ?_
 rotate_left
 ·(intro w hSw; (try dsimp only at hSw); (go_simp <;> with_reducible rfl))
 try simp only [Act.put, zpu, zpgRnE]
 refine wpAnyH_ready (rs := [18]) (by kernel_rfl) (by simp) ?_
 refine AllReadyH.cons rfl (fun K hK => ?_) AllReadyH.nil
 go_simp
 refine hK.out _ _ ?_ (fun hHeld18 => ?_)
 ·exact k4 _
 clear hK K hHeld15
 try simp only [Act.put, zpu, zpgRnE]
 refine wpAnyH_done (by kernel_rfl) ?_ _
 have hset := HSET.out (by rw [List.length_append, HN.out]; rfl)
 have hb3 := (H1.out.2.trans H3.out).setCell (p := ⟨b, 1, none⟩) hBb (.slice (some ⟨g, 0, none⟩) (n + 1) cap)
 have hk3 := (HK1.out.trans HK3.out).trans (kept_set _ b 1 _ (.slice (some ⟨g, 0, none⟩) (n + 1) cap))
 obtain ⟨W3, hW3⟩ : ∃ W, w3.setCell ⟨b, 1, none⟩ (.slice (some ⟨g, 0, none⟩) (n + 1) cap) = W := ⟨_, rfl⟩
 rw [hW3] at hset hb3 hk3 ⊢
 have HR := Lib.hid (reset B b _ _ W3 hset.hold)
 have H4 := Lib.hid (And.intro hset hb3)
 have HK4 := Lib.hid hk3
 clear hset hb3 hk3 hW3 k2 k3 k4 kz
 go_wp2_with fail
 refine HR.out.mono ?_
 rintro e4 w4 ⟨rfl, hw4⟩
 go_wp2_with fail
 go_end0
 refine ⟨rfl, ⟨_, H4.out.1.wrote (t := ⟨#[]⟩) hw4 rfl⟩, ((Below.refl B w).drew.trans H4.out.2).trans hw4.2.1, ((kept_ext (w' := w.drew) (Below.refl _ _).drew).trans HK4.out).trans (kept_others hw4.2.2 (by decide))⟩
end Go.Proofs.YtjcaiecapapceaaGreat.RnM
namespace Go.Proofs.YtjcaiecapapceaaGreat.RnM
open Go.RowKit Go.Shelf P1 Cnt CntC Flat Wid ChP Rn Bwd BufQ
theorem len_text (t : ByteArray) : t.data.toList.length = t.size := Array.length_toList
theorem RF.set_ind {w0 w : World} {B b : Nat} {W : Int} {its : List Itm} {s : St} {fa fr fl fi fg : Value} (h : RF w0 B b W its s ⟨fa, fr, fl, fi, fg⟩ w) (i : Int) : RF w0 B b W its { s with ind := i } ⟨fa, fr, fl, .int .i64 i, fg⟩ (w.setCell ⟨b, 2, none⟩ (.int .i64 i)) :=
 h.set (row := none) ⟨rfl, rfl, rfl, Nat.le_refl _, fun _ _ _ => rfl⟩ (by simp) 2 (.int .i64 i) ⟨fa, fr, fl, .int .i64 i, fg⟩ (fun p v => rfl) its { s with ind := i } rfl h.rest h.rows h.flags rfl h.wid
theorem newLine {w0 w : World} {B b : Nat} {W : Int} {its : List Itm} {s : St} (hB : B ≤ w.heap.size) (h : RS w0 B b W its s w) (hn : s.rows.length ≤ 1000000) (i : Int) :
  Calls Tryz.prog 130 #[.pointer (some ⟨b, 0, none⟩), .int .i64 i] w fun e w' => e = .returned (.tuple #[]) ∧ RS w0 B b W its (s.line i) w' ∧ Below B w w' ∧ KeptBut [5, 67] b w w' := by
 have hBb : B ≤ b := by obtain ⟨F, hF⟩ := h; exact hF.cells.2.2.2.2.2.2.2
 have HEL := Lib.hid (endLine hB h hn)
 have HB := Lib.hid hBb
 clear h hBb
 go_enter Tryz.func130, Tryz.ntmps130
 go_wp2_with fail
 refine HEL.out.mono ?_
 rintro e2 w2 ⟨rfl, ⟨⟨fa, fr, fl, fi, fg⟩, hF2⟩, hb2, hk2⟩
 obtain ⟨_, _, _, c3, _, fz, _, _⟩ := hF2.cells
 have f3 := fz 2
 have H2 := Lib.hid (And.intro hF2 (And.intro hb2 hk2))
 clear hF2 hb2 hk2 fz
 go_wp2_with fail
 go_end0
 exact ⟨rfl, ⟨⟨fa, fr, fl, .int .i64 i, fg⟩, H2.out.1.set_ind i⟩, H2.out.2.1.setCell (p := ⟨b, 2, none⟩) HB.out _, H2.out.2.2.trans (kept_set _ b 2 _ _)⟩
theorem hasRoom {w0 w : World} {B b : Nat} {W : Int} {its : List Itm} {s : St} {F : Fs} (h : RF w0 B b W its s F w) (hi0 : 0 ≤ s.ind) (hi1 : s.ind ≤ 1000000) (ht : s.txt.size ≤ 4194304) (z : Int) (hz0 : 0 ≤ z) (hz1 : z ≤ 100000000) :
  Calls Tryz.prog 170 #[.pointer (some ⟨b, 0, none⟩), .int .i64 z] w fun e w' => e = .returned (.bool (decide (s.ind + (s.txt.size : Int) + z ≤ W))) ∧ w' = w.drew := by
 have hFd : RF w0 B b W its s F w.drew := h.below (Below.refl _ _).drew
 have HLEN := Lib.hid (len B b _ _ w.drew hFd.hold)
 simp only [len_text] at HLEN
 obtain ⟨c0, _, _, c3, _, _, hbl, _⟩ := hFd.cells
 obtain ⟨ind, hind⟩ : ∃ i, s.ind = i := ⟨_, rfl⟩
 obtain ⟨X, hX⟩ : ∃ t, s.txt = t := ⟨_, rfl⟩
 rw [hind] at hi0 hi1 c3 ⊢
 rw [hX] at ht HLEN ⊢
 clear h hFd hind hX
 go_enter Tryz.func170, Tryz.ntmps170
 go_wp2_with fail
 go_region_held3 (fun w' => w'.cell? ⟨b, 0, none⟩ = some (.int .i64 W) ∧ w'.cell? ⟨b, 2, none⟩ = some (.int .i64 ind))
  (first | go_keep | exact ⟨c0, c3⟩)
  (first | (go_at_call 145; refine HLEN.out.mono ?_; rintro e2 w2 ⟨rfl, rfl⟩))
 go_wp2_with fail
 go_ret
 refine ⟨?_, rfl⟩
 show Ending.returned (Value.bool (decide (IntKind.i64.wrap (IntKind.i64.wrap (ind + (X.size : Int)) + z) ≤ W))) = _
 rw [show IntKind.i64.wrap (ind + (X.size : Int)) = ind + (X.size : Int) by rw [IntKind.wrap_i64]; omega, show IntKind.i64.wrap (ind + (X.size : Int) + z) = ind + (X.size : Int) + z by rw [IntKind.wrap_i64]; omega]
end Go.Proofs.YtjcaiecapapceaaGreat.RnM
namespace Go.Proofs.YtjcaiecapapceaaGreat.RnM
open Go.RowKit Go.Shelf P1 Cnt CntC Flat Wid ChP Rn Bwd BufQ
-- HEAD
theorem one_news (w : World) (x : Bool) (T : TypeId) : ∀ j u, [Value.bool x][j]? = some u → (w.alloc (.cells #[.bool x] T)).cell? ((⟨w.heap.size, 0, none⟩ : Addr).add j) = some u := by
 intro j u hu
 rw [add_at, Nat.zero_add, World.cell?_alloc_new]
 simpa using hu
theorem flags_snoc (G : List Bool) (x : Bool) : G.map Value.bool ++ [.bool x] = (G ++ [x]).map Value.bool := by simp
theorem RF.append_flag {w0 w w3 : World} {B b : Nat} {W : Int} {its : List Itm} {s : St} {fa fr fl fi fg : Value} (h : RF w0 B b W its s ⟨fa, fr, fl, fi, fg⟩ w) {R : List Bool} {xs : List Value} (hR : xs = R.map Value.bool) {o : Obj} (hg : (w.alloc o).grownBy w3 fg.ownBlock) {g cap n : Nat} (hown : w3.ownsRow B 4 1 (.slice (some ⟨g, 0, none⟩) n cap) n xs) :
  w3.cell? ⟨b, 6, none⟩ = some fg ∧ w3.frozen? ⟨b, 6, none⟩ = false ∧ (R.length = n → RF w0 B b W its { s with flags := R } ⟨fa, fr, fl, fi, .slice (some ⟨g, 0, none⟩) n cap⟩ (w3.setCell ⟨b, 6, none⟩ (.slice (some ⟨g, 0, none⟩) n cap))) := by
 have hl := h.below ((Below.refl w.heap.size w).alloc (Nat.le_refl _) o)
 obtain ⟨_, _, _, _, c6, hz, hbl, _⟩ := hl.cells
 obtain ⟨c, hcb⟩ := hl.block
 have hne : fg.ownBlock ≠ some b := RnM.own_ne hl.flags hcb ne6
 have hbk := hg.block b hbl (fun e => hne e.symm)
 refine ⟨(World.cell?_of_block (w := w.alloc o) hbk).trans c6, (World.frozen?_of_block (w := w.alloc o) hbk).trans (hz 6), fun hRn => ?_⟩
 have hrow : ∀ k, fg.ownBlock = some k → ∃ c, (w.alloc o).heap[k]? = some (.cells c 4 (0, 0)) := own_block hl.flags
 refine hl.set hg (fun k e => by obtain ⟨c', h'⟩ := hrow k e; exact ⟨c', _, h', ne3, ne6⟩) 6 (.slice (some ⟨g, 0, none⟩) n cap) ⟨fa, fr, fl, fi, .slice (some ⟨g, 0, none⟩) n cap⟩ (fun p v => rfl) its { s with flags := R } rfl (hl.rest.kept hg (own_or (fun k e => ?_))) (hl.rows.kept hg (own_or (fun k e => ?_))) ?_ h.ind h.wid
 ·obtain ⟨c', h'⟩ := hrow k e
  obtain ⟨ys, y1, _⟩ := hl.rest
  exact RnM.own_ne y1 h' ne8
 ·obtain ⟨c', h'⟩ := hrow k e
  exact RnM.own_ne hl.rows h' ne9
 ·show w3.ownsRow B 4 1 (.slice (some ⟨g, 0, none⟩) n cap) R.length (R.map Value.bool)
  rw [hRn, ← hR]; exact hown
theorem group_size {d : Nat} {n : Int} {t : ByteArray} {k : F} (hok : okD d 8 n t k = true) : zD 8 t k = (flD 8 t k).size := by
 have h2 := zf_fl (.cons 8 n t k .nil) d (by rw [ok_cons, hok]; rfl)
 rwa [zf_one, fl_one] at h2
theorem decideI {w0 w : World} {B b : Nat} {W : Int} {its : List Itm} {s : St} {F0 : Fs} (hB0 : Below B w0 w) (hBw0 : B ≤ w0.heap.size) (h : RF w0 B b W its s F0 w) (hn : s.flags.length ≤ 1000000) (hi0 : 0 ≤ s.ind) (hi1 : s.ind ≤ 1000000) (ht : s.txt.size ≤ 4194304) (hW0 : 0 ≤ W) (hW1 : W ≤ 1000000)
  (hlen : its.length ≤ 4194304) (hsz : ∀ x ∈ its, x.t.size + x.k.size ≤ 4194304) (hsum : ldI its ≤ 4194304)
  {d : Nat} {m : Int} {t : ByteArray} {k : F} {a : Option Addr} {cap : Nat} (hk : KidsIn w0 B k a cap) (hok : okD d 8 m t k = true) (hks : t.size + k.size ≤ 4194304) :
  Calls Tryz.prog 131 #[.pointer (some ⟨b, 0, none⟩), .agg #[.int .i64 8, .int .i64 m, .string t, .slice a k.len cap]] w fun e w' => e = .returned (.bool (fitB W (ldI its) s t k)) ∧ (∃ F, F.r = F0.r ∧ RF w0 B b W its (s.flag (fitB W (ldI its) s t k)) F w') ∧ Below B w w' ∧ KeptBut [4] b w w' := by
 obtain ⟨fa, fr, fl, fi, fg⟩ := F0
 have hF := h
 clear h
 have hB : B ≤ w.heap.size := Nat.le_trans hBw0 hB0.size
 have B1 := Lib.hid (show ∀ ob, Ext w (w.alloc ob) from fun ob => (Ext.refl w).alloc _)
 obtain ⟨hcap, fs, hs, hfs⟩ := hk
 have HFZ := Lib.hid (fun (ob : Obj) => flatz_step (w.alloc ob) 8 m t k (flatZ _ k (Nat.le_refl _)) a cap fs ((hs.below hfs hB0).below (fun c hc => Nat.lt_of_lt_of_le (hfs c hc) hB) (B1.out ob)) (fun c hc => by have := hfs c hc; simp; omega) hcap hks)
 obtain ⟨i0, z0, hi, hz, hz1, hz2, hz3⟩ := info_some info1
 have HI := Lib.hid (And.intro hi (And.intro hz (And.intro hz1 (And.intro hz2 hz3))))
 clear hi hz hz1 hz2 hz3
 obtain ⟨ag, cg, rfl, hcg⟩ : ∃ a cap, fg = .slice a s.flags.length cap ∧ s.flags.length ≤ cap := own_slice hF.flags
 obtain ⟨ar, cr, rfl, hcr⟩ : ∃ a cap, fr = .slice a its.length cap ∧ its.length ≤ cap := by obtain ⟨xs, x1, _⟩ := hF.rest; exact own_slice x1
 have hfit : ∀ b, noD 8 k = b → fitB W (ldI its) s t k = (b && decide (s.ind + (s.txt.size : Int) + (zD 8 t k : Int) + (ldI its : Int) ≤ W)) := fun b hb => by
  have h8 : noD 8 k = noF k := by simp [noD]
  rw [group_size hok]; unfold fitB; rw [← h8, hb]; rfl
 have hZs : zD 8 t k ≤ 5000000 := by have := zD_size 8 t k; omega
 obtain ⟨LD, hLD⟩ : ∃ x, ldI its = x := ⟨_, rfl⟩
 have HLB' := Lib.hid (fun (w' : World) (h1 : Below B w0 w') (h2 : RF w0 B b W its s ⟨fa, .slice ar its.length cr, fl, fi, .slice ag s.flags.length cg⟩ w') => Lead.leadBehind (lo := B) h1 hBw0 h2.rest h2.cells.2.1 hlen hsz hsum)
 rw [hLD] at HLB' hfit hsum ⊢
 obtain ⟨Z, hZ⟩ : ∃ x, zD 8 t k = x := ⟨_, rfl⟩
 rw [hZ] at HFZ hfit hZs
 clear hLD hZ hs hfs hok hks hsz
 obtain ⟨n, hnn⟩ : ∃ n, s.flags.length = n := ⟨_, rfl⟩
 obtain ⟨ind, hind⟩ : ∃ i, s.ind = i := ⟨_, rfl⟩
 obtain ⟨X, hX⟩ : ∃ t, s.txt = t := ⟨_, rfl⟩
 obtain ⟨R, hR⟩ : ∃ r, s.rows = r := ⟨_, rfl⟩
 obtain ⟨G, hG⟩ : ∃ g, s.flags = g := ⟨_, rfl⟩
 obtain rfl : s = ⟨R, ind, X, G⟩ := by cases s; simp_all
 obtain rfl : fi = .int .i64 ind := hF.ind
 simp only at hi0 hi1 ht hn hcg hnn hfit hF HLB' ⊢
 rw [hnn] at hF hn hcg HLB'
 have HN := Lib.hid (show G.length = n from hnn)
 clear hnn hX hR hG hind
 have hlenB := len_text X
 have HZL := Lib.hid (show IntKind.i64.wrap ((Z : Int) + (LD : Int)) = (Z : Int) + (LD : Int) by rw [IntKind.wrap_i64]; omega)
 cases hno : noD 8 k with
 | true =>
   have hft := hfit _ hno
   rw [Bool.true_and] at hft
   have HFIT := Lib.hid hft
   rw [hno, show orZ true Z = (Z : Int) from rfl] at HFZ
   clear hft hfit hno
   generalize fitB W LD ⟨R, ind, X, G⟩ t k = FT at HFIT ⊢
   go_enter Tryz.func131, Tryz.ntmps131
   go_wp2_with fail
   refine (HFZ.out _).mono ?_
   rintro e1 w1 ⟨rfl, hb1⟩
   have hF1 := hF.below ((B1.out _).trans (hb1.mono (by simp)))
   have hFd : RF w0 B b W its ⟨R, ind, X, G⟩ ⟨fa, .slice ar its.length cr, fl, .int .i64 ind, .slice ag n cg⟩ w1.drew := hF1.below (Below.refl _ _).drew
   have hbd : Below B w w1.drew := (((B1.out _).mono hB).trans (hb1.mono (by simp; omega))).drew
   obtain ⟨c0, c1, c2, c3, c6, hfz, hbl, hBb⟩ := hFd.cells
   have HBb := Lib.hid hBb
   have HLB := Lib.hid (HLB'.out w1.drew (hB0.trans hbd) hFd)
   have HKE := Lib.hid (show KeptBut [4] b w w1.drew from kept_ext ((B1.out _).trans (hb1.mono (by simp))).drew)
   clear hb1 hF1 hlenB
   go_wp2_with fail
   refine wp_region_held_drew (S := (fun _ => True)) (by kernel_rfl) ?_ (fun hHeld => ?_)
   ·trivial
   refine wpAnyH_take (i := 0) (v := ?_) rfl (by kernel_rfl) (by kernel_rfl) (by kernel_rfl) (fun _ _ _ h => h) (Or.inl ⟨by rfl, ?_⟩) (by assumption) ?_
   rotate_left
   ·(intro w hSw; (try dsimp only at hSw); (go_simp <;> with_reducible rfl))
   try simp only [Act.put, zpu, zpgRnE]
   refine wpAnyH_take (i := 1) (v := ?_) rfl (by kernel_rfl) (by kernel_rfl) (by kernel_rfl) (fun _ _ _ h => h) (Or.inl ⟨by rfl, ?_⟩) (by assumption) ?_
   rotate_left
   ·(intro w hSw; (try dsimp only at hSw); (go_simp <;> with_reducible rfl))
   try simp only [Act.put, zpu, zpgRnE]
   refine wpAnyH_take (i := 2) (oi := { dst := some 15, op := Op.move (Operand.tmp 0), type := 50, pos := "l4_greedy.go:87", after := #[{ on := 1, ground := Ground.guard }], guard := some (1, true) }) (v := ?_) rfl (by kernel_rfl) (by kernel_rfl) (by kernel_rfl) (fun _ _ _ h => h) (Or.inl ⟨by rfl, ?_⟩) (by assumption) ?_
   rotate_left
   ·(intro w hSw; (try dsimp only at hSw); (go_simp <;> with_reducible rfl))
   try simp only [Act.put, zpu, zpgRnE]
   refine wpAnyH_take (i := 3) (oi := { dst := some 16, op := Op.nilCheck (Operand.tmp 15), type := 0, pos := "l4_greedy.go:87", after := #[{ on := 2, ground := Ground.data }, { on := 1, ground := Ground.guard }], guard := some (1, true) }) (v := ?_) rfl (by kernel_rfl) (by kernel_rfl) (by kernel_rfl) (fun _ _ _ h => h) (Or.inl ⟨by rfl, ?_⟩) (by assumption) ?_
   rotate_left
   ·(intro w hSw; (try dsimp only at hSw); (go_simp <;> with_reducible rfl))
   try simp only [Act.put, zpu, zpgRnE]
   refine wpAnyH_take (i := 4) (oi := { dst := some 17, op := Op.fieldAddr 61 (Operand.tmp 16) 0, type := 0, pos := "l4_greedy.go:87", after := #[{ on := 3, ground := Ground.data }, { on := 1, ground := Ground.guard }], guard := some (1, true) }) (v := ?_) rfl (by kernel_rfl) (by kernel_rfl) (by kernel_rfl) (fun _ _ _ h => h) (Or.inl ⟨by rfl, ?_⟩) (by assumption) ?_
   rotate_left
   ·(intro w hSw; (try dsimp only at hSw); (go_simp <;> with_reducible rfl))
   try simp only [Act.put, zpu, zpgRnE]
   refine wpAnyH_take (i := 5) (oi := { dst := some 18, op := Op.move (Operand.tmp 5), type := 3, pos := "l4_greedy.go:87", after := #[{ on := 1, ground := Ground.guard }], guard := some (1, true) }) (v := ?_) rfl (by kernel_rfl) (by kernel_rfl) (by kernel_rfl) (fun _ _ _ h => h) (Or.inl ⟨by rfl, ?_⟩) (by assumption) ?_
   rotate_left
   ·(intro w hSw; (try dsimp only at hSw); (go_simp <;> with_reducible rfl))
   try simp only [Act.put, zpu, zpgRnE]
   refine wpAnyH_take (i := 6) (oi := { dst := some 19, op := Op.move (Operand.tmp 0), type := 50, pos := "l4_greedy.go:87", after := #[{ on := 1, ground := Ground.guard }], guard := some (1, true) }) (v := ?_) rfl (by kernel_rfl) (by kernel_rfl) (by kernel_rfl) (fun _ _ _ h => h) (Or.inl ⟨by rfl, ?_⟩) (by assumption) ?_
   rotate_left
   ·(intro w hSw; (try dsimp only at hSw); (go_simp <;> with_reducible rfl))
   try simp only [Act.put, zpu, zpgRnE]
   refine wpAnyH_ready (rs := [7]) (by kernel_rfl) (by simp) ?_
   refine AllReadyH.cons (o := { dst := some 20, op := Op.call { callee := Callee.value (Operand.func 171), args := #[Operand.tmp 19], argTypes := #[50] }, type := 3, pos := "l4_greedy.go:87", after := #[{ on := 6, ground := Ground.data }, { on := 1, ground := Ground.chain }, { on := 1, ground := Ground.guard }], guard := some (1, true) }) rfl (fun K hK => ?_) AllReadyH.nil
   go_simp
   go_at_call 171
   refine HLB.out.mono ?_
   rintro e3 w3 ⟨rfl, hb3⟩
   have HKA := Lib.hid (HKE.out.trans (kept_ext hb3))
   have HFA := Lib.hid (And.intro (hFd.below hb3) (hbd.trans (hb3.mono (Nat.le_trans hB hbd.size))))
   have HHR := Lib.hid (show Calls Tryz.prog 170 #[.pointer (some ⟨b, 0, none⟩), .int .i64 (IntKind.i64.wrap ((Z : Int) + (LD : Int)))] w3 (fun e w' => e = .returned (.bool FT) ∧ w' = w3.drew) from by
    rw [HFIT.out.trans (show decide (ind + (X.size : Int) + (Z : Int) + (LD : Int) ≤ W) = decide (ind + (X.size : Int) + IntKind.i64.wrap ((Z : Int) + (LD : Int)) ≤ W) by rw [HZL.out, Int.add_assoc (ind + (X.size : Int))])]
    exact hasRoom HFA.out.1 hi0 hi1 ht (IntKind.i64.wrap ((Z : Int) + (LD : Int))) (by rw [HZL.out]; omega) (by rw [HZL.out]; omega))
   clear hb3
   try go_wp2_with fail
   refine hK.out _ _ ?_ (fun hHeld7 => ?_)
   ·trivial
   clear hK K hHeld
   try simp only [Act.put, zpu, zpgRnE]
   refine wpAnyH_take (i := 8) (oi := { dst := some 21, op := Op.binOp BinOp.add 3 (Operand.tmp 18) (Operand.tmp 20) 3, type := 3, pos := "l4_greedy.go:87", after := #[{ on := 5, ground := Ground.data }, { on := 7, ground := Ground.data }, { on := 1, ground := Ground.guard }], guard := some (1, true) }) (v := ?_) rfl (by kernel_rfl) (by kernel_rfl) (by kernel_rfl) (fun _ _ _ h => h) (Or.inl ⟨by rfl, ?_⟩) (by assumption) ?_
   rotate_left
   ·(intro w hSw; (try dsimp only at hSw); (go_simp <;> with_reducible rfl))
   try simp only [Act.put, zpu, zpgRnE]
   refine wpAnyH_ready (rs := [9]) (by kernel_rfl) (by simp) ?_
   refine AllReadyH.cons (o := { dst := some 22, op := Op.call { callee := Callee.value (Operand.func 170), args := #[Operand.tmp 17, Operand.tmp 21], argTypes := #[57, 3] }, type := 4, pos := "l4_greedy.go:87", after := #[{ on := 4, ground := Ground.data }, { on := 8, ground := Ground.data }, { on := 7, ground := Ground.chain }, { on := 1, ground := Ground.guard }], guard := some (1, true) }) rfl (fun K hK => ?_) AllReadyH.nil
   go_simp
   go_at_call 170
   refine HHR.out.mono ?_
   rintro e4 w4 ⟨rfl, hw4⟩
   have hb4 : Below w3.heap.size w3 w4 := by rw [hw4]; exact (Below.refl _ _).drew
   have HKD := Lib.hid (HKA.out.trans (kept_ext hb4))
   have HF3 := Lib.hid (And.intro (HFA.out.1.below hb4) (HFA.out.2.trans (hb4.mono (Nat.le_trans hB HFA.out.2.size))))
   clear hb4 hw4
   try go_wp2_with fail
   refine hK.out _ _ ?_ (fun hHeld9 => ?_)
   ·trivial
   clear hK K hHeld7
   try simp only [Act.put, zpu, zpgRnE]
   refine wpAnyH_take (i := 10) (v := ?_) rfl (by kernel_rfl) (by kernel_rfl) (by kernel_rfl) (fun _ _ _ h => h) (Or.inl ⟨by rfl, ?_⟩) (by assumption) ?_
   rotate_left
   ·(intro w hSw; (try dsimp only at hSw); (go_simp <;> with_reducible rfl))
   try simp only [Act.put, zpu, zpgRnE]
   refine wpAnyH_take (i := 11) (v := ?_) rfl (by kernel_rfl) (by kernel_rfl) (by kernel_rfl) (fun _ _ _ h => h) (Or.inl ⟨by rfl, ?_⟩) (by assumption) ?_
   rotate_left
   ·(intro w hSw; (try dsimp only at hSw); (go_simp <;> with_reducible rfl))
   try simp only [Act.put, zpu, zpgRnE]
   refine wpAnyH_done (by kernel_rfl) ?_ _
   have HFT := Lib.hid (show FT = FT from rfl)
   obtain ⟨hFt, hbt⟩ := HF3.out
   obtain ⟨_, _, _, _, d6, dz, _, _⟩ := hFt.cells
   have dz6 := dz 6
   have hownt : (w4).ownsRow B 4 1 (.slice ag n cg) n (G.map Value.bool) := by have := hFt.flags; simp only [HN.out] at this; exact this
   have hzt : B ≤ (w4).heap.size := Nat.le_trans hB hbt.size
   clear hFt hbt dz c0 c1 c2 c3
   go_wp2_with (at_builtin; refine wpList_append_lies _ rfl (.tmp 28) (.tmp 30) 59 rfl B 4 i0 z0 1 1 Tryz.underlying59 HI.out.1 HI.out.2.1 HI.out.2.2.1 HI.out.2.2.2.1 HI.out.2.2.2.2 (by omega) (.slice ag n cg) n (G.map Value.bool) rfl (hownt.alloc _) ⟨(w4).heap.size, 0, none⟩ 1 1 [.bool (FT)] rfl rfl (one_news (w4) (FT) _) (by simp [Value.oneCell']) (by omega) (by unfold maxLen; omega) (by omega) (Nat.le_trans hzt (by simp)) ((w4).heap.size + 1) (by simp) ?_; intro g cap' w5 hown5 hgrow5 hat5 hlt5; obtain ⟨k6, kz, hset⟩ := HF3.out.1.append_flag (flags_snoc G (FT)) hgrow5 hown5; have HSET := Lib.hid hset; have HK5 := Lib.hid (kept_append (ts := [4]) (b := b) hgrow5 HF3.out.1.flags (by decide)); have H5 := Lib.hid (below_append hgrow5 HF3.out.1.flags (Nat.le_trans hB HF3.out.2.size)); clear hset hgrow5 hown5 hat5)
   go_ret
   refine ⟨by first | rfl | (rw [HFT.out]; rfl), ?_, (HF3.out.2.trans H5.out).setCell (p := ⟨b, 6, none⟩) HBb.out _, (HKD.out.trans HK5.out).trans (kept_set _ b 6 _ _)⟩
   try rw [HFT.out]
   exact ⟨_, rfl, HSET.out (by rw [List.length_append, HN.out]; rfl)⟩
 | false =>
   have hft := hfit _ hno
   rw [Bool.false_and] at hft
   have HFIT := Lib.hid hft
   rw [hno, show orZ false Z = 0 from rfl] at HFZ
   clear hft hfit hno
   generalize fitB W LD ⟨R, ind, X, G⟩ t k = FT at HFIT ⊢
   go_enter Tryz.func131, Tryz.ntmps131
   go_wp2_with fail
   refine (HFZ.out _).mono ?_
   rintro e1 w1 ⟨rfl, hb1⟩
   have hF1 := hF.below ((B1.out _).trans (hb1.mono (by simp)))
   have hFd : RF w0 B b W its ⟨R, ind, X, G⟩ ⟨fa, .slice ar its.length cr, fl, .int .i64 ind, .slice ag n cg⟩ w1.drew := hF1.below (Below.refl _ _).drew
   have hbd : Below B w w1.drew := (((B1.out _).mono hB).trans (hb1.mono (by simp; omega))).drew
   obtain ⟨c0, c1, c2, c3, c6, hfz, hbl, hBb⟩ := hFd.cells
   have HBb := Lib.hid hBb
   have HF3 := Lib.hid (And.intro hFd hbd)
   have HKE := Lib.hid (show KeptBut [4] b w w1.drew from kept_ext ((B1.out _).trans (hb1.mono (by simp))).drew)
   clear hb1 hF1 hlenB
   go_wp2_with fail
   refine wp_region_held_drew (S := (fun _ => True)) (by kernel_rfl) ?_ (fun hHeld => ?_)
   ·trivial
   refine wpAnyH_take (i := 0) (v := ?_) rfl (by kernel_rfl) (by kernel_rfl) (by kernel_rfl) (fun _ _ _ h => h) (Or.inl ⟨by rfl, ?_⟩) (by assumption) ?_
   rotate_left
   ·(intro w hSw; (try dsimp only at hSw); (go_simp <;> with_reducible rfl))
   try simp only [Act.put, zpu, zpgRnE]
   refine wpAnyH_take (i := 1) (v := ?_) rfl (by kernel_rfl) (by kernel_rfl) (by kernel_rfl) (fun _ _ _ h => h) (Or.inl ⟨by rfl, ?_⟩) (by assumption) ?_
   rotate_left
   ·(intro w hSw; (try dsimp only at hSw); (go_simp <;> with_reducible rfl))
   try simp only [Act.put, zpu, zpgRnE]
   refine wpAnyH_take (i := 2) (oi := { dst := some 15, op := Op.move (Operand.tmp 0), type := 50, pos := "l4_greedy.go:87", after := #[{ on := 1, ground := Ground.guard }], guard := some (1, true) }) (v := undef) rfl (by kernel_rfl) (by kernel_rfl) (by kernel_rfl) (fun _ _ _ h => h) (Or.inr ⟨by rfl, rfl⟩) (by assumption) ?_
   try simp only [Act.put, zpu, zpgRnE]
   refine wpAnyH_take (i := 3) (oi := { dst := some 16, op := Op.nilCheck (Operand.tmp 15), type := 0, pos := "l4_greedy.go:87", after := #[{ on := 2, ground := Ground.data }, { on := 1, ground := Ground.guard }], guard := some (1, true) }) (v := undef) rfl (by kernel_rfl) (by kernel_rfl) (by kernel_rfl) (fun _ _ _ h => h) (Or.inr ⟨by rfl, rfl⟩) (by assumption) ?_
   try simp only [Act.put, zpu, zpgRnE]
   refine wpAnyH_take (i := 4) (oi := { dst := some 17, op := Op.fieldAddr 61 (Operand.tmp 16) 0, type := 0, pos := "l4_greedy.go:87", after := #[{ on := 3, ground := Ground.data }, { on := 1, ground := Ground.guard }], guard := some (1, true) }) (v := undef) rfl (by kernel_rfl) (by kernel_rfl) (by kernel_rfl) (fun _ _ _ h => h) (Or.inr ⟨by rfl, rfl⟩) (by assumption) ?_
   try simp only [Act.put, zpu, zpgRnE]
   refine wpAnyH_take (i := 5) (oi := { dst := some 18, op := Op.move (Operand.tmp 5), type := 3, pos := "l4_greedy.go:87", after := #[{ on := 1, ground := Ground.guard }], guard := some (1, true) }) (v := undef) rfl (by kernel_rfl) (by kernel_rfl) (by kernel_rfl) (fun _ _ _ h => h) (Or.inr ⟨by rfl, rfl⟩) (by assumption) ?_
   try simp only [Act.put, zpu, zpgRnE]
   refine wpAnyH_take (i := 6) (oi := { dst := some 19, op := Op.move (Operand.tmp 0), type := 50, pos := "l4_greedy.go:87", after := #[{ on := 1, ground := Ground.guard }], guard := some (1, true) }) (v := undef) rfl (by kernel_rfl) (by kernel_rfl) (by kernel_rfl) (fun _ _ _ h => h) (Or.inr ⟨by rfl, rfl⟩) (by assumption) ?_
   try simp only [Act.put, zpu, zpgRnE]
   refine wpAnyH_take (i := 7) (oi := { dst := some 20, op := Op.call { callee := Callee.value (Operand.func 171), args := #[Operand.tmp 19], argTypes := #[50] }, type := 3, pos := "l4_greedy.go:87", after := #[{ on := 6, ground := Ground.data }, { on := 1, ground := Ground.chain }, { on := 1, ground := Ground.guard }], guard := some (1, true) }) (v := undef) rfl (by kernel_rfl) (by kernel_rfl) (by kernel_rfl) (fun _ _ _ h => h) (Or.inr ⟨by rfl, rfl⟩) (by assumption) ?_
   try simp only [Act.put, zpu, zpgRnE]
   refine wpAnyH_take (i := 8) (oi := { dst := some 21, op := Op.binOp BinOp.add 3 (Operand.tmp 18) (Operand.tmp 20) 3, type := 3, pos := "l4_greedy.go:87", after := #[{ on := 5, ground := Ground.data }, { on := 7, ground := Ground.data }, { on := 1, ground := Ground.guard }], guard := some (1, true) }) (v := undef) rfl (by kernel_rfl) (by kernel_rfl) (by kernel_rfl) (fun _ _ _ h => h) (Or.inr ⟨by rfl, rfl⟩) (by assumption) ?_
   try simp only [Act.put, zpu, zpgRnE]
   refine wpAnyH_take (i := 9) (oi := { dst := some 22, op := Op.call { callee := Callee.value (Operand.func 170), args := #[Operand.tmp 17, Operand.tmp 21], argTypes := #[57, 3] }, type := 4, pos := "l4_greedy.go:87", after := #[{ on := 4, ground := Ground.data }, { on := 8, ground := Ground.data }, { on := 7, ground := Ground.chain }, { on := 1, ground := Ground.guard }], guard := some (1, true) }) (v := undef) rfl (by kernel_rfl) (by kernel_rfl) (by kernel_rfl) (fun _ _ _ h => h) (Or.inr ⟨by rfl, rfl⟩) (by assumption) ?_
   try simp only [Act.put, zpu, zpgRnE]
   refine wpAnyH_take (i := 10) (v := ?_) rfl (by kernel_rfl) (by kernel_rfl) (by kernel_rfl) (fun _ _ _ h => h) (Or.inl ⟨by rfl, ?_⟩) (by assumption) ?_
   rotate_left
   ·(intro w hSw; (try dsimp only at hSw); (go_simp <;> with_reducible rfl))
   try simp only [Act.put, zpu, zpgRnE]
   refine wpAnyH_take (i := 11) (v := ?_) rfl (by kernel_rfl) (by kernel_rfl) (by kernel_rfl) (fun _ _ _ h => h) (Or.inl ⟨by rfl, ?_⟩) (by assumption) ?_
   rotate_left
   ·(intro w hSw; (try dsimp only at hSw); (go_simp <;> with_reducible rfl))
   try simp only [Act.put, zpu, zpgRnE]
   refine wpAnyH_done (by kernel_rfl) ?_ _
   obtain ⟨w3, hw3⟩ : ∃ x, w1.drew = x := ⟨_, rfl⟩
   have HKD := HKE
   rw [hw3] at HF3 HKD ⊢
   clear hw3 hFd hbd
   have HFT := Lib.hid (HFIT.out)
   obtain ⟨hFt, hbt⟩ := HF3.out
   obtain ⟨_, _, _, _, d6, dz, _, _⟩ := hFt.cells
   have dz6 := dz 6
   have hownt : (w3).ownsRow B 4 1 (.slice ag n cg) n (G.map Value.bool) := by have := hFt.flags; simp only [HN.out] at this; exact this
   have hzt : B ≤ (w3).heap.size := Nat.le_trans hB hbt.size
   clear hFt hbt dz c0 c1 c2 c3 c6 hfz hbl
   go_wp2_with (at_builtin; refine wpList_append_lies _ rfl (.tmp 28) (.tmp 30) 59 rfl B 4 i0 z0 1 1 Tryz.underlying59 HI.out.1 HI.out.2.1 HI.out.2.2.1 HI.out.2.2.2.1 HI.out.2.2.2.2 (by omega) (.slice ag n cg) n (G.map Value.bool) rfl (hownt.alloc _) ⟨(w3).heap.size, 0, none⟩ 1 1 [.bool (false)] rfl rfl (one_news (w3) (false) _) (by simp [Value.oneCell']) (by omega) (by unfold maxLen; omega) (by omega) (Nat.le_trans hzt (by simp)) ((w3).heap.size + 1) (by simp) ?_; intro g cap' w5 hown5 hgrow5 hat5 hlt5; obtain ⟨k6, kz, hset⟩ := HF3.out.1.append_flag (flags_snoc G (false)) hgrow5 hown5; have HSET := Lib.hid hset; have HK5 := Lib.hid (kept_append (ts := [4]) (b := b) hgrow5 HF3.out.1.flags (by decide)); have H5 := Lib.hid (below_append hgrow5 HF3.out.1.flags (Nat.le_trans hB HF3.out.2.size)); clear hset hgrow5 hown5 hat5)
   go_ret
   refine ⟨by first | rfl | (rw [HFT.out]; rfl), ?_, (HF3.out.2.trans H5.out).setCell (p := ⟨b, 6, none⟩) HBb.out _, (HKD.out.trans HK5.out).trans (kept_set _ b 6 _ _)⟩
   try rw [HFT.out]
   exact ⟨_, rfl, HSET.out (by rw [List.length_append, HN.out]; rfl)⟩
end Go.Proofs.YtjcaiecapapceaaGreat.RnM
namespace Go.Proofs.YtjcaiecapapceaaGreat.RnM
open Go.RowKit Go.Shelf P1 Cnt CntC Flat Wid ChP Rn Rf Bwd BufQ
attribute [local go_sem] Oper.semAt_some
def Vars (b : Nat) (x : Itm) (a : Option Addr) (cap r0 : Nat) (w : World) : Prop :=
 w.heap[r0]? = some (.cells #[.pointer (some ⟨b, 0, none⟩)] 50 (0, 0)) ∧ w.heap[r0 + 1]? = some (.cells #[.int .i64 x.o, .int .i64 x.n, .string x.t, .slice a x.k.len cap, .int .i64 x.i] 109 (0, 0)) ∧ w.heap[r0 + 1 + 1]? = some (.cells #[.int .i64 x.o, .int .i64 x.n, .string x.t, .slice a x.k.len cap] 25 (0, 0))
theorem Vars.kept {b : Nat} {x : Itm} {a : Option Addr} {cap r0 : Nat} {w w' : World} (h : Vars b x a cap r0 w) {ts : List TypeId} (hb : b < r0) (k : KeptBut ts b w w') (h1 : 50 ∉ ts) (h2 : 109 ∉ ts) (h3 : 25 ∉ ts) : Vars b x a cap r0 w' :=
 ⟨k _ _ _ _ h.1 (by omega) h1, k _ _ _ _ h.2.1 (by omega) h2, k _ _ _ _ h.2.2 (by omega) h3⟩
theorem Vars.cells {b : Nat} {x : Itm} {a : Option Addr} {cap r0 : Nat} {w : World} (h : Vars b x a cap r0 w) : w.cell? ⟨r0, 0, none⟩ = some (.pointer (some ⟨b, 0, none⟩)) ∧
  (w.cell? ⟨r0 + 1, 0, none⟩ = some (.int .i64 x.o) ∧ w.cell? ⟨r0 + 1, 1, none⟩ = some (.int .i64 x.n) ∧ w.cell? ⟨r0 + 1, 2, none⟩ = some (.string x.t) ∧ w.cell? ⟨r0 + 1, 3, none⟩ = some (.slice a x.k.len cap) ∧ w.cell? ⟨r0 + 1, 4, none⟩ = some (.int .i64 x.i)) ∧
  (w.cell? ⟨r0 + 1 + 1, 0, none⟩ = some (.int .i64 x.o) ∧ w.cell? ⟨r0 + 1 + 1, 1, none⟩ = some (.int .i64 x.n) ∧ w.cell? ⟨r0 + 1 + 1, 2, none⟩ = some (.string x.t) ∧ w.cell? ⟨r0 + 1 + 1, 3, none⟩ = some (.slice a x.k.len cap)) := by
 obtain ⟨h0, h1, h2⟩ := h
 refine ⟨?_, ⟨?_, ?_, ?_, ?_, ?_⟩, ?_, ?_, ?_, ?_⟩ <;> (simp only [World.cell?, h0, h1, h2]; rfl)
theorem Vars.new (b : Nat) (x : Itm) (a : Option Addr) (cap : Nat) (w : World) : Vars b x a cap w.heap.size (((w.alloc (.cells #[.pointer (some ⟨b, 0, none⟩)] 50)).alloc (.cells #[.int .i64 x.o, .int .i64 x.n, .string x.t, .slice a x.k.len cap, .int .i64 x.i] 109)).alloc (.cells #[.int .i64 x.o, .int .i64 x.n, .string x.t, .slice a x.k.len cap] 25)) := by
 refine ⟨?_, ?_, ?_⟩
 ·rw [Below.heap_alloc _ _ _ (by simp; omega), Below.heap_alloc _ _ _ (by simp)]; exact World.alloc_heap_new w _
 ·rw [Below.heap_alloc _ _ _ (by simp)]
  have := World.alloc_heap_new (w.alloc (.cells #[.pointer (some ⟨b, 0, none⟩)] 50)) (.cells #[.int .i64 x.o, .int .i64 x.n, .string x.t, .slice a x.k.len cap, .int .i64 x.i] 109)
  rwa [World.size_alloc] at this
 ·have := World.alloc_heap_new ((w.alloc (.cells #[.pointer (some ⟨b, 0, none⟩)] 50)).alloc (.cells #[.int .i64 x.o, .int .i64 x.n, .string x.t, .slice a x.k.len cap, .int .i64 x.i] 109)) (.cells #[.int .i64 x.o, .int .i64 x.n, .string x.t, .slice a x.k.len cap] 25)
  rwa [World.size_alloc, World.size_alloc] at this
theorem layOut_line {w0 w : World} {B b : Nat} {W : Int} {its : List Itm} {s : St} (hB : B ≤ w.heap.size) (h : RS w0 B b W its s w) (hn : s.rows.length ≤ 1000000) (x : Itm) (hnl : nl x.o = true) (a : Option Addr) (cap : Nat) :
  Calls Tryz.prog 83 #[.pointer (some ⟨b, 0, none⟩), .agg #[.int .i64 x.o, .int .i64 x.n, .string x.t, .slice a x.k.len cap, .int .i64 x.i]] w fun e w' => e = .returned (.tuple #[]) ∧ RS w0 B b W its (s.line x.i) w' ∧ Below B w w' := by
 have hbl : b < w.heap.size := by obtain ⟨F, hF⟩ := h; exact hF.cells.2.2.2.2.2.2.1
 have hBb : B ≤ b := by obtain ⟨F, hF⟩ := h; exact hF.cells.2.2.2.2.2.2.2
 have HIS := Lib.hid (fun w' => isNewline w' x.o)
 rw [hnl] at HIS
 obtain ⟨V, hV⟩ : ∃ V, ((w.alloc (.cells #[.pointer (some ⟨b, 0, none⟩)] 50)).alloc (.cells #[.int .i64 x.o, .int .i64 x.n, .string x.t, .slice a x.k.len cap, .int .i64 x.i] 109)).alloc (.cells #[.int .i64 x.o, .int .i64 x.n, .string x.t, .slice a x.k.len cap] 25) = V := ⟨_, rfl⟩
 have hE : Ext w V := by rw [← hV]; exact (((Ext.refl w).alloc _).alloc _).alloc _
 have hVV := Vars.new b x a cap w
 rw [hV] at hVV
 have HEL := Lib.hid (newLine (w := V.drew) (Nat.le_trans hB hE.size) ((h.below hE).below (Below.refl _ _).drew) hn x.i)
 refine calls_marks Tryz.func83 rfl ?_
 simp only [Tryz.ntmps83, List.size_toArray, List.length_cons, List.length_nil, Nat.reduceAdd, Nat.reduceSub, Array.replicate_succ, Array.replicate_zero, List.push_toArray, List.append_toArray, List.nil_append, List.cons_append]
 obtain ⟨v0, ⟨v1, v2, v3, v4, v5⟩, u1, u2, u3, u4⟩ := hVV.cells
 have HV := Lib.hid (And.intro hVV hE)
 have HB := Lib.hid (And.intro hbl hBb)
 clear hVV hE hbl hBb h
 go_wp2_with fail
 refine (HIS.out _).mono ?_
 rintro e1 w1 ⟨rfl, hw1⟩
 rw [hw1]
 clear hV hw1
 go_wp2_with fail
 refine wp_region_noPanic ?_
 refine wp_region_held_drew (S := (fun w' => w'.cell? ⟨w.heap.size, 0, none⟩ = some (.pointer (some ⟨b, 0, none⟩)) ∧ w'.cell? ⟨w.heap.size + 1, 4, none⟩ = some (.int .i64 x.i))) (by kernel_rfl) ?_ (fun hHeld => ?_)
 ·exact ⟨v0, v5⟩
 refine wpAnyH_take (i := 0) (v := ?_) rfl (by kernel_rfl) (by kernel_rfl) (by kernel_rfl) (fun _ _ _ h => h) (Or.inl ⟨by rfl, ?_⟩) (by assumption) ?_
 rotate_left
 ·(intro w hSw; (try dsimp only at hSw); (go_simp <;> with_reducible rfl))
 try simp only [Act.put, zpu, zpgRnE]
 refine wpAnyH_take (i := 1) (v := ?_) rfl (by kernel_rfl) (by kernel_rfl) (by kernel_rfl) (fun _ _ _ h => h) (Or.inl ⟨by rfl, ?_⟩) (by assumption) ?_
 rotate_left
 ·(intro w hSw; (try dsimp only at hSw); (go_simp <;> with_reducible rfl))
 try simp only [Act.put, zpu, zpgRnE]
 refine wpAnyH_take (i := 2) (v := ?_) rfl (by kernel_rfl) (by kernel_rfl) (by kernel_rfl) (fun _ _ _ h => h) (Or.inl ⟨by rfl, ?_⟩) (by assumption) ?_
 rotate_left
 ·(intro w hSw; (try dsimp only at hSw); (go_simp <;> with_reducible rfl))
 try simp only [Act.put, zpu, zpgRnE]
 refine wpAnyH_take (i := 3) (v := ?_) rfl (by kernel_rfl) (by kernel_rfl) (by kernel_rfl) (fun _ _ _ h => h) (Or.inl ⟨by rfl, ?_⟩) (by assumption) ?_
 rotate_left
 ·(intro w hSw; (try dsimp only at hSw); (go_simp <;> with_reducible rfl))
 try simp only [Act.put, zpu, zpgRnE]
 refine wpAnyH_take (i := 4) (v := ?_) rfl (by kernel_rfl) (by kernel_rfl) (by kernel_rfl) (fun _ _ _ h => h) (Or.inl ⟨by rfl, ?_⟩) (by assumption) ?_
 rotate_left
 ·(intro w hSw; (try dsimp only at hSw); (go_simp <;> with_reducible rfl))
 try simp only [Act.put, zpu, zpgRnE]
 refine wpAnyH_ready (rs := [5]) (by kernel_rfl) (by simp) ?_
 refine AllReadyH.cons rfl (fun K hK => ?_) AllReadyH.nil
 go_simp
 go_at_call 130
 refine HEL.out.mono ?_
 rintro e2 w2 ⟨rfl, hF2, hb2, hk2⟩
 have hV2 := HV.out.1.kept HB.out.1 ((kept_ext (w' := V.drew) (Below.refl _ _).drew).trans hk2) (by decide) (by decide) (by decide)
 obtain ⟨x0, ⟨_, _, _, _, x5⟩, _⟩ := hV2.cells
 have H2 := Lib.hid (And.intro hF2 (((Below.refl B w).trans (HV.out.2.mono hB)).trans ((Below.refl _ _).drew.trans hb2)))
 clear hF2 hb2 hk2 hV2
 try go_wp2_with fail
 refine hK.out _ _ ?_ (fun hHeld5 => ?_)
 ·exact ⟨x0, x5⟩
 clear hK K hHeld
 try simp only [Act.put, zpu, zpgRnE]
 refine wpAnyH_done (by kernel_rfl) ?_ _
 refine NoPanic.normal ?_
 go_wp2_with fail
 refine leave_none (results_none rfl _ _ _) ⟨rfl, H2.out.1, H2.out.2⟩
end Go.Proofs.YtjcaiecapapceaaGreat.RnM
namespace Go.Proofs.YtjcaiecapapceaaGreat.RnM
open Go.RowKit Go.Shelf P1 Cnt CntC Flat Wid ChP Rn Rf Bwd BufQ
attribute [local go_sem] Oper.semAt_some
theorem layOut_flat {w0 w : World} {B b : Nat} {W : Int} {its : List Itm} {s : St} (hB0 : Below B w0 w) (hBw0 : B ≤ w0.heap.size) (h : RS w0 B b W its s w) (hn : s.flags.length ≤ 1000000) (hi0 : 0 ≤ s.ind) (hi1 : s.ind ≤ 1000000) (ht : s.txt.size ≤ 4194304) (hW0 : 0 ≤ W) (hW1 : W ≤ 1000000)
  (hlen : its.length ≤ 4194304) (hsz : ∀ x ∈ its, x.t.size + x.k.size ≤ 4194304) (hsum : ldI its ≤ 4194304)
  {d : Nat} {i m : Int} {t : ByteArray} {k : F} {a : Option Addr} {cap : Nat} (hk : KidsIn w0 B k a cap) (hok : okD d 8 m t k = true) (hks : t.size + k.size ≤ 4194304) (hfit : fitB W (ldI its) s t k = true) :
  Calls Tryz.prog 83 #[.pointer (some ⟨b, 0, none⟩), .agg #[.int .i64 8, .int .i64 m, .string t, .slice a k.len cap, .int .i64 i]] w fun e w' => e = .returned (.tuple #[]) ∧ RS w0 B b W its ((s.flag true).put (flD 8 t k)) w' ∧ Below B w w' := by
 have hB : B ≤ w.heap.size := Nat.le_trans hBw0 hB0.size
 have hbl : b < w.heap.size := by obtain ⟨F, hF⟩ := h; exact hF.cells.2.2.2.2.2.2.1
 have hBb : B ≤ b := by obtain ⟨F, hF⟩ := h; exact hF.cells.2.2.2.2.2.2.2
 have HIS := Lib.hid (fun w' => isNewline w' 8)
 rw [show nl 8 = false from eight_nl] at HIS
 obtain ⟨V, hV⟩ : ∃ V, ((w.alloc (.cells #[.pointer (some ⟨b, 0, none⟩)] 50)).alloc (.cells #[.int .i64 8, .int .i64 m, .string t, .slice a k.len cap, .int .i64 i] 109)).alloc (.cells #[.int .i64 8, .int .i64 m, .string t, .slice a k.len cap] 25) = V := ⟨_, rfl⟩
 have hE : Ext w V := by rw [← hV]; exact (((Ext.refl w).alloc _).alloc _).alloc _
 have hVV := Vars.new b ⟨i, 8, m, t, k⟩ a cap w
 simp only [hV] at hVV
 have hBV : Below B w V := (Below.refl B w).trans (hE.mono hB)
 obtain ⟨F0, hF0⟩ := h
 have HDC := Lib.hid (decideI (W := W) (hB0.trans hBV) hBw0 (hF0.below hE) hn hi0 hi1 ht hW0 hW1 hlen hsz hsum hk hok hks)
 rw [hfit] at HDC
 obtain ⟨hcap, fs, hs, hfs⟩ := hk
 have HTX := Lib.hid (show wfD 8 t k = (flD 8 t k).data.toList by
  have h2 := wf_fl (.cons 8 m t k .nil) d (by rw [ok_cons, hok]; rfl)
  rwa [wf_one, fl_one] at h2)
 have HWF' := Lib.hid (fun (F : Fs) (W' : World) (h1 : Below B w0 W') (h2 : B ≤ W'.heap.size) (h3 : Holds B b F s.txt.data.toList W') => FlatQ.write_step B b F W' s.txt.data.toList 8 m t k (FlatQ.writeI B b F _ k (Nat.le_refl _)) a cap fs (hs.below hfs h1) hfs hcap (by rw [len_text]; omega) h3 h2 h3.lt)
 refine calls_marks Tryz.func83 rfl ?_
 simp only [Tryz.ntmps83, List.size_toArray, List.length_cons, List.length_nil, Nat.reduceAdd, Nat.reduceSub, Array.replicate_succ, Array.replicate_zero, List.push_toArray, List.append_toArray, List.nil_append, List.cons_append]
 obtain ⟨v0, ⟨v1, v2, v3, v4, v5⟩, u1, u2, u3, u4⟩ := hVV.cells
 have HV := Lib.hid (And.intro hVV hBV)
 have HB := Lib.hid (And.intro hbl hBb)
 clear hVV hE hbl hBb hF0 hBV hs hfs hok hfit hsz
 go_wp2_with fail
 refine (HIS.out _).mono ?_
 rintro e1 w1 ⟨rfl, hw1⟩
 rw [hw1]
 clear hV hw1
 go_wp2_with fail
 refine HDC.out.mono ?_
 rintro e2 w2 ⟨rfl, ⟨⟨fa, fr, fl, fi, fg⟩, _, hF2⟩, hb2, hk2⟩
 have hV2 := HV.out.1.kept HB.out.1 hk2 (by decide) (by decide) (by decide)
 have H2 := Lib.hid (And.intro hF2 (HV.out.2.trans hb2))
 clear v0 v1 v2 v3 v4 v5 u1 u2 u3 u4 hb2 hk2 hF2
 obtain ⟨v0, ⟨_, _, _, _, v5⟩, u1, u2, u3, u4⟩ := hV2.cells
 have HV2 := Lib.hid (show Vars b ⟨i, 8, m, t, k⟩ a cap w.heap.size w2.drew from hV2)
 clear hV2
 have hF2d := H2.out.1.below (Below.refl _ _).drew
 have hb2d : Below B w w2.drew := H2.out.2.drew
 have HWF := Lib.hid (HWF'.out _ w2.drew (hB0.trans hb2d) (Nat.le_trans hB hb2d.size) hF2d.hold)
 clear hF2d hb2d
 go_wp2_with fail
 refine wp_region_noPanic ?_
 refine wp_region_held_drew (S := (fun w' => w'.cell? ⟨w.heap.size, 0, none⟩ = some (.pointer (some ⟨b, 0, none⟩)) ∧ (w'.cell? ⟨w.heap.size + 1 + 1, 0, none⟩ = some (.int .i64 8) ∧ w'.cell? ⟨w.heap.size + 1 + 1, 1, none⟩ = some (.int .i64 m) ∧ w'.cell? ⟨w.heap.size + 1 + 1, 2, none⟩ = some (.string t) ∧ w'.cell? ⟨w.heap.size + 1 + 1, 3, none⟩ = some (.slice a k.len cap)))) (by kernel_rfl) ?_ (fun hHeld => ?_)
 ·exact ⟨v0, u1, u2, u3, u4⟩
 refine wpAnyH_take (i := 0) (v := ?_) rfl (by kernel_rfl) (by kernel_rfl) (by kernel_rfl) (fun _ _ _ h => h) (Or.inl ⟨by rfl, ?_⟩) (by assumption) ?_
 rotate_left
 ·(intro w hSw; (try dsimp only at hSw); (go_simp <;> with_reducible rfl))
 try simp only [Act.put, zpu, zpgRnE]
 refine wpAnyH_take (i := 1) (v := ?_) rfl (by kernel_rfl) (by kernel_rfl) (by kernel_rfl) (fun _ _ _ h => h) (Or.inl ⟨by rfl, ?_⟩) (by assumption) ?_
 rotate_left
 ·(intro w hSw; (try dsimp only at hSw); (go_simp <;> with_reducible rfl))
 try simp only [Act.put, zpu, zpgRnE]
 refine wpAnyH_take (i := 2) (v := ?_) rfl (by kernel_rfl) (by kernel_rfl) (by kernel_rfl) (fun _ _ _ h => h) (Or.inl ⟨by rfl, ?_⟩) (by assumption) ?_
 rotate_left
 ·(intro w hSw; (try dsimp only at hSw); (go_simp <;> with_reducible rfl))
 try simp only [Act.put, zpu, zpgRnE]
 refine wpAnyH_take (i := 3) (v := ?_) rfl (by kernel_rfl) (by kernel_rfl) (by kernel_rfl) (fun _ _ _ h => h) (Or.inl ⟨by rfl, ?_⟩) (by assumption) ?_
 rotate_left
 ·(intro w hSw; (try dsimp only at hSw); (go_simp <;> with_reducible rfl))
 try simp only [Act.put, zpu, zpgRnE]
 refine wpAnyH_take (i := 4) (v := ?_) rfl (by kernel_rfl) (by kernel_rfl) (by kernel_rfl) (fun _ _ _ h => h) (Or.inl ⟨by rfl, ?_⟩) (by assumption) ?_
 rotate_left
 ·(intro w hSw; (try dsimp only at hSw); (go_simp <;> with_reducible rfl))
 try simp only [Act.put, zpu, zpgRnE]
 refine wpAnyH_ready (rs := [5]) (by kernel_rfl) (by simp) ?_
 refine AllReadyH.cons rfl (fun K hK => ?_) AllReadyH.nil
 go_simp
 go_at_call 132
 refine HWF.out.mono ?_
 rintro e3 w3 ⟨rfl, hw3⟩
 have hV3 := HV2.out.kept HB.out.1 (kept_others (ts := [5]) hw3.2.2 (by decide)) (by decide) (by decide) (by decide)
 obtain ⟨x0, _, y1, y2, y3, y4⟩ := hV3.cells
 have H3 := Lib.hid hw3
 clear hw3 hV3
 try go_wp2_with fail
 refine hK.out _ _ ?_ (fun hHeld5 => ?_)
 ·exact ⟨x0, y1, y2, y3, y4⟩
 clear hK K hHeld
 try simp only [Act.put, zpu, zpgRnE]
 refine wpAnyH_done (by kernel_rfl) ?_ _
 refine NoPanic.normal ?_
 go_wp2_with fail
 refine leave_none (results_none rfl _ _ _) ⟨rfl, ⟨_, (H2.out.1.below (Below.refl _ _).drew).wrote H3.out ?_⟩, H2.out.2.drew.trans H3.out.2.1⟩
 show (s.txt ++ flD 8 t k).data.toList = _
 rw [HTX.out]; simp
end Go.Proofs.YtjcaiecapapceaaGreat.RnM
namespace Go.Proofs.YtjcaiecapapceaaGreat.RnM
open Go.RowKit Go.Shelf P1 Cnt CntC Flat Wid ChP Rn Rf Bwd BufQ
theorem own_turn {lo : Nat} {A C : World} (hT : Turn lo A C) {B n m : Nat} {T : TypeId} {v : Value} {xs : List Value} (h : A.ownsRow B T n v m xs) : C.ownsRow B T n v m xs := by
 obtain ⟨h1, h2⟩ := h
 refine ⟨h1, ?_⟩
 rcases h2 with h2 | ⟨g, cap, cur, rfl, h3, h4, h5⟩
 ·exact .inl h2
 ·exact .inr ⟨g, cap, cur, rfl, h3, (hT.block h4 rfl).trans h4, h5⟩
theorem ownF_turn {lo : Nat} {A C : World} (hT : Turn lo A C) {B n m : Nat} {T : TypeId} {v : Value} {xs : List Value} (h : A.ownsRowF B T n v m xs) : C.ownsRowF B T n v m xs := by
 obtain ⟨h1, h2⟩ := h
 refine ⟨h1, ?_⟩
 rcases h2 with h2 | ⟨g, cap, cur, fz, rfl, h3, h4, h5⟩
 ·exact .inl h2
 ·exact .inr ⟨g, cap, cur, fz, rfl, h3, (hT.block h4 rfl).trans h4, h5⟩
theorem At.turn {lo : Nat} {A C : World} (hT : Turn lo A C) {B b : Nat} {F : Fs} {p : Value} {bs : List Value} (h : At B b F p bs A) : At B b F p bs C := by
 obtain ⟨hB, v, hb, hown, hne, hnn⟩ := h
 exact ⟨hB, v, (hT.block hb rfl).trans hb, ownF_turn hT hown, hne, hnn⟩
section
variable {w0 w w' : World} {B b : Nat} {W : Int} {its : List Itm} {s : St} {F : Fs}
theorem RF.turn {lo : Nat} (h : RF w0 B b W its s F w) (hT : Turn lo w w') : RF w0 B b W its s F w' := by
 obtain ⟨xs, x1, x2⟩ := h.rest
 exact ⟨h.hold.elim (fun x => .inl (At.turn hT x)) (fun x => .inr (At.turn hT x)), ⟨xs, own_turn hT x1, x2⟩, own_turn hT h.rows, own_turn hT h.flags, h.ind, h.wid⟩
theorem Vars.turn {lo : Nat} {x : Itm} {a : Option Addr} {cap r0 : Nat} (h : Vars b x a cap r0 w) (hT : Turn lo w w') : Vars b x a cap r0 w' :=
 ⟨(hT.block h.1 rfl).trans h.1, (hT.block h.2.1 rfl).trans h.2.1, (hT.block h.2.2 rfl).trans h.2.2⟩
theorem Vars.ext {x : Itm} {a : Option Addr} {cap r0 : Nat} (h : Vars b x a cap r0 w) (k : Below w.heap.size w w') : Vars b x a cap r0 w' :=
 ⟨(k.block _ (Array.getElem?_eq_some_iff.1 h.1).1).trans h.1, (k.block _ (Array.getElem?_eq_some_iff.1 h.2.1).1).trans h.2.1, (k.block _ (Array.getElem?_eq_some_iff.1 h.2.2).1).trans h.2.2⟩
theorem Vars.grown {x : Itm} {a : Option Addr} {cap r0 : Nat} (h : Vars b x a cap r0 w) {row : Option Nat} (hg : w.grownBy w' row) (hrow : ∀ g, row = some g → ∃ c, w.heap[g]? = some (.cells c 109 (0, 0))) (hne : row ≠ some (r0 + 1)) : Vars b x a cap r0 w' := by
 have q : ∀ (k : Nat) (c : Array Value) (T : TypeId), w.heap[k]? = some (.cells c T (0, 0)) → T ≠ 109 → w'.heap[k]? = some (.cells c T (0, 0)) := fun k c T h1 h2 => (hg.block k (Array.getElem?_eq_some_iff.1 h1).1 (fun e => by
  obtain ⟨c', hc⟩ := hrow k e.symm
  rw [h1] at hc; injection hc with hc; injection hc with _ hc; exact h2 hc)).trans h1
 exact ⟨q _ _ _ h.1 (by decide), (hg.block _ (Array.getElem?_eq_some_iff.1 h.2.1).1 (fun e => hne e.symm)).trans h.2.1, q _ _ _ h.2.2 (by decide)⟩
theorem Vars.set {x : Itm} {a : Option Addr} {cap r0 : Nat} (h : Vars b x a cap r0 w) (hb : b < r0) (o : Nat) (u : Value) : Vars b x a cap r0 (w.setCell ⟨b, o, none⟩ u) :=
 h.kept (ts := []) hb (kept_set [] b o w u) (by simp) (by simp) (by simp)
end
theorem F.app_len_inj {g g' : F} : ∀ (p p' : F), p.app g = p'.app g' → p.len = p'.len → g = g'
 | .nil, p', h, hl => by
   have := F.len_eq_zero (f := p') (by simp only [F.len] at hl; exact hl.symm)
   subst this; exact h
 | .cons o n t k r, p', h, hl => by
   cases p' with
   | nil => simp [F.len] at hl
   | cons o' n' t' k' r' =>
     simp only [F.app, F.cons.injEq] at h
     simp only [F.len] at hl
     exact F.app_len_inj r r' h.2.2.2.2 (by omega)
theorem F.app_inj_right {g g' : F} (p p' : F) (h : p.app g = p'.app g') (hl : g.len = g'.len) : g = g' := by
 refine F.app_len_inj p p' h ?_
 have := congrArg F.len h
 rw [F.len_app, F.len_app] at this
 omega
theorem RF.append_item {w0 w w3 : World} {B b : Nat} {W : Int} {its : List Itm} {s : St} {fa fr fl fi fg : Value} (h : RF w0 B b W its s ⟨fa, fr, fl, fi, fg⟩ w) {y : Itm} {c xs : List Value} (hx : ∃ ys, xs = ys ++ c ∧ ItemsV (ItV w0 B) its.reverse ys) (hy : ItV w0 B y c) {o : Obj} (hg : (w.alloc o).grownBy w3 fr.ownBlock) {g cap n : Nat} (hn : n = its.length + 1) (hown : w3.ownsRow B 109 5 (.slice (some ⟨g, 0, none⟩) n cap) n xs) :
  w3.cell? ⟨b, 5, none⟩ = some fr ∧ w3.frozen? ⟨b, 5, none⟩ = false ∧ RF w0 B b W (y :: its) s ⟨fa, .slice (some ⟨g, 0, none⟩) n cap, fl, fi, fg⟩ (w3.setCell ⟨b, 5, none⟩ (.slice (some ⟨g, 0, none⟩) n cap)) := by
 have hl := h.below ((Below.refl w.heap.size w).alloc (Nat.le_refl _) o)
 obtain ⟨_, c1, _, _, _, hz, hbl, _⟩ := hl.cells
 obtain ⟨cc, hcb⟩ := hl.block
 obtain ⟨xs1, x1, x2⟩ := hl.rest
 have hne : fr.ownBlock ≠ some b := RnM.own_ne x1 hcb ne4
 have hbk := hg.block b hbl (fun e => hne e.symm)
 have hrow : ∀ k, fr.ownBlock = some k → ∃ c, (w.alloc o).heap[k]? = some (.cells c 109 (0, 0)) := own_block x1
 refine ⟨(World.cell?_of_block (w := w.alloc o) hbk).trans c1, (World.frozen?_of_block (w := w.alloc o) hbk).trans (hz 5), ?_⟩
 obtain ⟨ys, rfl, hys⟩ := hx
 subst hn
 refine hl.set hg (fun k e => by obtain ⟨c', h'⟩ := hrow k e; exact ⟨c', _, h', ne1, ne4⟩) 5 (.slice (some ⟨g, 0, none⟩) (its.length + 1) cap) ⟨fa, .slice (some ⟨g, 0, none⟩) (its.length + 1) cap, fl, fi, fg⟩ (fun p v => rfl) (y :: its) s rfl (StackG.push hys hy hown) (hl.rows.kept hg (own_or (fun k e => ?_))) (hl.flags.kept hg (own_or (fun k e => ?_))) h.ind h.wid
 ·obtain ⟨c', h'⟩ := hrow k e
  exact RnM.own_ne hl.rows h' (Ne.symm ne7)
 ·obtain ⟨c', h'⟩ := hrow k e
  exact RnM.own_ne hl.flags h' (Ne.symm ne8)
theorem five_news (w : World) (o n i : Int) (t : ByteArray) (v : Value) (T : TypeId) : ∀ j u, [Value.int .i64 o, .int .i64 n, .string t, v, .int .i64 i][j]? = some u → (w.alloc (.cells #[.int .i64 o, .int .i64 n, .string t, v, .int .i64 i] T)).cell? ((⟨w.heap.size, 0, none⟩ : Addr).add j) = some u := by
 intro j u hu
 rw [add_at, Nat.zero_add, World.cell?_alloc_new]
 simpa using hu
end Go.Proofs.YtjcaiecapapceaaGreat.RnM

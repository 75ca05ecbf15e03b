import Derived.Test.YtgkbagcgbfgllaaLo
/-
  layOut of the program at a group that fits.
-/
set_option linter.unusedVariables false
set_option linter.unusedSimpArgs false
namespace Go.Proofs.Ytgkbagcgbfgllaa.RnM
open Go.RowKit Go.Shelf P1 Cnt CntC Flat Wid ChP Rn Rf Bwd BufQ
attribute [local go_sem] Oper.semAt_some

set_option maxRecDepth 100000 in
set_option maxHeartbeats 3200000 in
theorem layOut_flat {w0 w : World} {B b : Nat} {W : Int} {its : List Itm} {s : St} (hB0 : Below B w0 w) (hBw0 : B ≤ w0.heap.size) (h : RS w0 B b W its s w) (hn : s.flags.length ≤ 1000000) (hi0 : 0 ≤ s.ind) (hi1 : s.ind ≤ 1000000) (ht : s.txt.size ≤ 4194304) (hW0 : 0 ≤ W) (hW1 : W ≤ 1000000)
    (hlen : its.length ≤ 4194304) (hsz : ∀ x ∈ its, x.t.size + x.k.size ≤ 4194304) (hsum : ldI its ≤ 4194304)
    {d : Nat} {i m : Int} {t : ByteArray} {k : F} {a : Option Addr} {cap : Nat} (hk : KidsIn w0 B k a cap) (hok : okD d 8 m t k = true) (hks : t.size + k.size ≤ 4194304) (hfit : fitB W (ldI its) s t k = true) :
    Calls Try.prog 78 #[.pointer (some ⟨b, 0, none⟩), .agg #[.int .i64 8, .int .i64 m, .string t, .slice a k.len cap, .int .i64 i]] w fun e w' => e = .returned (.tuple #[]) ∧ RS w0 B b W its ((s.flag true).put (flD 8 t k)) w' ∧ Below B w w' := by
  have hB : B ≤ w.heap.size := Nat.le_trans hBw0 hB0.size
  have hbl : b < w.heap.size := by obtain ⟨F, hF⟩ := h; exact hF.cells.2.2.2.2.2.2.1
  have hBb : B ≤ b := by obtain ⟨F, hF⟩ := h; exact hF.cells.2.2.2.2.2.2.2
  have HIS := Lib.hid (fun w' => isNewline w' 8)
  rw [show nl 8 = false from eight_nl] at HIS
  obtain ⟨V, hV⟩ : ∃ V, ((w.alloc (.cells #[.pointer (some ⟨b, 0, none⟩)] 65)).alloc (.cells #[.int .i64 8, .int .i64 m, .string t, .slice a k.len cap, .int .i64 i] 107)).alloc (.cells #[.int .i64 8, .int .i64 m, .string t, .slice a k.len cap] 25) = V := ⟨_, rfl⟩
  have hE : Ext w V := by rw [← hV]; exact (((Ext.refl w).alloc _).alloc _).alloc _
  have hVV := Vars.new b ⟨i, 8, m, t, k⟩ a cap w
  simp only [hV] at hVV
  have hBV : Below B w V := (Below.refl B w).trans (hE.mono hB)
  obtain ⟨F0, hF0⟩ := h
  have HDC := Lib.hid (decideI (W := W) (hB0.trans hBV) hBw0 (hF0.below hE) hn hi0 hi1 ht hW0 hW1 hlen hsz hsum hk hok hks)
  rw [hfit] at HDC
  obtain ⟨hcap, fs, hs, hfs⟩ := hk
  have HTX := Lib.hid (show wfD 8 t k = (flD 8 t k).data.toList by
    have h2 := wf_fl (.cons 8 m t k .nil) d (by rw [ok_cons, hok]; rfl)
    rwa [wf_one, fl_one] at h2)
  have HWF' := Lib.hid (fun (F : Fs) (W' : World) (h1 : Below B w0 W') (h2 : B ≤ W'.heap.size) (h3 : Holds B b F s.txt.data.toList W') => FlatQ.write_step B b F W' s.txt.data.toList 8 m t k (FlatQ.writeI B b F _ k (Nat.le_refl _)) a cap fs (hs.below hfs h1) hfs hcap (by rw [len_text]; omega) h3 h2 h3.lt)
  refine calls_marks Try.func78 rfl ?_
  simp only [Try.ntmps78, List.size_toArray, List.length_cons, List.length_nil, Nat.reduceAdd, Nat.reduceSub, Array.replicate_succ, Array.replicate_zero, List.push_toArray, List.append_toArray, List.nil_append, List.cons_append]
  obtain ⟨v0, ⟨v1, v2, v3, v4, v5⟩, u1, u2, u3, u4⟩ := hVV.cells
  have HV := Lib.hid (And.intro hVV hBV)
  have HB := Lib.hid (And.intro hbl hBb)
  clear hVV hE hbl hBb hF0 hBV hs hfs hok hfit hsz
  go_wp2_with fail
  refine (HIS.out _).mono ?_
  rintro e1 w1 ⟨rfl, hw1⟩
  rw [hw1]
  clear hV hw1
  go_wp2_with fail
  refine HDC.out.mono ?_
  rintro e2 w2 ⟨rfl, ⟨⟨fa, fr, fl, fi, fg⟩, _, hF2⟩, hb2, hk2⟩
  have hV2 := HV.out.1.kept HB.out.1 hk2 (by decide) (by decide) (by decide)
  have H2 := Lib.hid (And.intro hF2 (HV.out.2.trans hb2))
  clear v0 v1 v2 v3 v4 v5 u1 u2 u3 u4 hb2 hk2 hF2
  obtain ⟨v0, ⟨_, _, _, _, v5⟩, u1, u2, u3, u4⟩ := hV2.cells
  have HV2 := Lib.hid (show Vars b ⟨i, 8, m, t, k⟩ a cap w.heap.size w2.drew from hV2)
  clear hV2
  have hF2d := H2.out.1.below (Below.refl _ _).drew
  have hb2d : Below B w w2.drew := H2.out.2.drew
  have HWF := Lib.hid (HWF'.out _ w2.drew (hB0.trans hb2d) (Nat.le_trans hB hb2d.size) hF2d.hold)
  clear hF2d hb2d
  go_wp2_with fail
  refine wp_region_noPanic ?_
  refine wp_region_held_drew (S := (fun w' => w'.cell? ⟨w.heap.size, 0, none⟩ = some (.pointer (some ⟨b, 0, none⟩)) ∧ (w'.cell? ⟨w.heap.size + 1 + 1, 0, none⟩ = some (.int .i64 8) ∧ w'.cell? ⟨w.heap.size + 1 + 1, 1, none⟩ = some (.int .i64 m) ∧ w'.cell? ⟨w.heap.size + 1 + 1, 2, none⟩ = some (.string t) ∧ w'.cell? ⟨w.heap.size + 1 + 1, 3, none⟩ = some (.slice a k.len cap)))) (by kernel_rfl) ?_ (fun hHeld => ?_)
  · exact ⟨v0, u1, u2, u3, u4⟩
  refine wpAnyH_take (i := 0) (oi := { dst := some 26, op := Op.load 65 (Operand.tmp 2), type := 65, pos := "l4_greedy.go:75", after := #[], guard := none }) (v := ?_) rfl (by kernel_rfl) (by kernel_rfl) (by kernel_rfl) (fun _ _ _ h => h) (Or.inl ⟨by rfl, ?_⟩) (by assumption) ?_
  rotate_left
  · (intro w hSw; (try dsimp only at hSw); (go_simp <;> with_reducible rfl))
  try simp only [Act.put, List.setIfInBounds_toArray, List.set_cons_zero, List.set_cons_succ]
  refine wpAnyH_take (i := 1) (oi := { dst := some 27, op := Op.nilCheck (Operand.tmp 26), type := 0, pos := "l4_greedy.go:75", after := #[{ on := 0, ground := Ground.data }], guard := none }) (v := ?_) rfl (by kernel_rfl) (by kernel_rfl) (by kernel_rfl) (fun _ _ _ h => h) (Or.inl ⟨by rfl, ?_⟩) (by assumption) ?_
  rotate_left
  · (intro w hSw; (try dsimp only at hSw); (go_simp <;> with_reducible rfl))
  try simp only [Act.put, List.setIfInBounds_toArray, List.set_cons_zero, List.set_cons_succ]
  refine wpAnyH_take (i := 2) (oi := { dst := some 28, op := Op.fieldAddr 75 (Operand.tmp 27) 0, type := 0, pos := "l4_greedy.go:75", after := #[{ on := 1, ground := Ground.data }], guard := none }) (v := ?_) rfl (by kernel_rfl) (by kernel_rfl) (by kernel_rfl) (fun _ _ _ h => h) (Or.inl ⟨by rfl, ?_⟩) (by assumption) ?_
  rotate_left
  · (intro w hSw; (try dsimp only at hSw); (go_simp <;> with_reducible rfl))
  try simp only [Act.put, List.setIfInBounds_toArray, List.set_cons_zero, List.set_cons_succ]
  refine wpAnyH_take (i := 3) (oi := { dst := some 29, op := Op.fieldAddr 72 (Operand.tmp 28) 3, type := 0, pos := "l4_greedy.go:75", after := #[{ on := 2, ground := Ground.data }], guard := none }) (v := ?_) rfl (by kernel_rfl) (by kernel_rfl) (by kernel_rfl) (fun _ _ _ h => h) (Or.inl ⟨by rfl, ?_⟩) (by assumption) ?_
  rotate_left
  · (intro w hSw; (try dsimp only at hSw); (go_simp <;> with_reducible rfl))
  try simp only [Act.put, List.setIfInBounds_toArray, List.set_cons_zero, List.set_cons_succ]
  refine wpAnyH_take (i := 4) (oi := { dst := some 30, op := Op.load 25 (Operand.tmp 4), type := 25, pos := "l4_greedy.go:75", after := #[], guard := none }) (v := ?_) rfl (by kernel_rfl) (by kernel_rfl) (by kernel_rfl) (fun _ _ _ h => h) (Or.inl ⟨by rfl, ?_⟩) (by assumption) ?_
  rotate_left
  · (intro w hSw; (try dsimp only at hSw); (go_simp <;> with_reducible rfl))
  try simp only [Act.put, List.setIfInBounds_toArray, List.set_cons_zero, List.set_cons_succ]
  refine wpAnyH_ready (rs := [5]) (by kernel_rfl) (by simp) ?_
  refine AllReadyH.cons (o := { dst := some 31, op := Op.call { callee := Callee.value (Operand.func 54), args := #[Operand.tmp 29, Operand.tmp 30], argTypes := #[68, 25] }, type := 0, pos := "l4_greedy.go:75", after := #[{ on := 3, ground := Ground.data }, { on := 4, ground := Ground.data }], guard := none }) rfl (fun K hK => ?_) AllReadyH.nil
  go_simp
  go_at_call 54
  refine HWF.out.mono ?_
  rintro e3 w3 ⟨rfl, hw3⟩
  have hV3 := HV2.out.kept HB.out.1 (kept_others (ts := [5]) hw3.2.2 (by decide)) (by decide) (by decide) (by decide)
  obtain ⟨x0, _, y1, y2, y3, y4⟩ := hV3.cells
  have H3 := Lib.hid hw3
  clear hw3 hV3
  try go_wp2_with fail
  refine hK.out _ _ ?_ (fun hHeld5 => ?_)
  · exact ⟨x0, y1, y2, y3, y4⟩
  clear hK K hHeld
  try simp only [Act.put, List.setIfInBounds_toArray, List.set_cons_zero, List.set_cons_succ]
  refine wpAnyH_done (by kernel_rfl) ?_ _
  refine NoPanic.normal ?_
  go_wp2_with fail
  refine leave_none (results_none rfl _ _ _) ⟨rfl, ⟨_, (H2.out.1.below (Below.refl _ _).drew).wrote H3.out ?_⟩, H2.out.2.drew.trans H3.out.2.1⟩
  show (s.txt ++ flD 8 t k).data.toList = _
  rw [HTX.out]; simp

end Go.Proofs.Ytgkbagcgbfgllaa.RnM


import Derived.Test.YtlopcdabajcnkaaDec
/-
  layOut of the program: a step of rendering.
-/
set_option linter.unusedVariables false
set_option linter.unusedSimpArgs false
namespace Go.Proofs.Ytlopcdabajcnkaa.RnM
open Go.RowKit Go.Shelf P1 Cnt CntC Flat Wid ChP Rn Rf Bwd BufQ
attribute [local go_sem] Oper.semAt_some

/-- what is carried of the call's variables: a pointer to the renderer, the item, its document -/
def Vars (b : Nat) (x : Itm) (a : Option Addr) (cap r0 : Nat) (w : World) : Prop :=
  w.heap[r0]? = some (.cells #[.pointer (some ⟨b, 0, none⟩)] 83 (0, 0)) ∧ w.heap[r0 + 1]? = some (.cells #[.int .i64 x.o, .int .i64 x.n, .string x.t, .slice a x.k.len cap, .int .i64 x.i] 130 (0, 0)) ∧ w.heap[r0 + 1 + 1]? = some (.cells #[.int .i64 x.o, .int .i64 x.n, .string x.t, .slice a x.k.len cap] 31 (0, 0))
theorem Vars.kept {b : Nat} {x : Itm} {a : Option Addr} {cap r0 : Nat} {w w' : World} (h : Vars b x a cap r0 w) {ts : List TypeId} (hb : b < r0) (k : KeptBut ts b w w') (h1 : 83 ∉ ts) (h2 : 130 ∉ ts) (h3 : 31 ∉ ts) : Vars b x a cap r0 w' :=
  ⟨k _ _ _ _ h.1 (by omega) h1, k _ _ _ _ h.2.1 (by omega) h2, k _ _ _ _ h.2.2 (by omega) h3⟩
theorem Vars.cells {b : Nat} {x : Itm} {a : Option Addr} {cap r0 : Nat} {w : World} (h : Vars b x a cap r0 w) : w.cell? ⟨r0, 0, none⟩ = some (.pointer (some ⟨b, 0, none⟩)) ∧
    (w.cell? ⟨r0 + 1, 0, none⟩ = some (.int .i64 x.o) ∧ w.cell? ⟨r0 + 1, 1, none⟩ = some (.int .i64 x.n) ∧ w.cell? ⟨r0 + 1, 2, none⟩ = some (.string x.t) ∧ w.cell? ⟨r0 + 1, 3, none⟩ = some (.slice a x.k.len cap) ∧ w.cell? ⟨r0 + 1, 4, none⟩ = some (.int .i64 x.i)) ∧
    (w.cell? ⟨r0 + 1 + 1, 0, none⟩ = some (.int .i64 x.o) ∧ w.cell? ⟨r0 + 1 + 1, 1, none⟩ = some (.int .i64 x.n) ∧ w.cell? ⟨r0 + 1 + 1, 2, none⟩ = some (.string x.t) ∧ w.cell? ⟨r0 + 1 + 1, 3, none⟩ = some (.slice a x.k.len cap)) := by
  obtain ⟨h0, h1, h2⟩ := h
  refine ⟨?_, ⟨?_, ?_, ?_, ?_, ?_⟩, ?_, ?_, ?_, ?_⟩ <;> (simp only [World.cell?, h0, h1, h2]; rfl)
theorem Vars.new (b : Nat) (x : Itm) (a : Option Addr) (cap : Nat) (w : World) : Vars b x a cap w.heap.size (((w.alloc (.cells #[.pointer (some ⟨b, 0, none⟩)] 83)).alloc (.cells #[.int .i64 x.o, .int .i64 x.n, .string x.t, .slice a x.k.len cap, .int .i64 x.i] 130)).alloc (.cells #[.int .i64 x.o, .int .i64 x.n, .string x.t, .slice a x.k.len cap] 31)) := by
  refine ⟨?_, ?_, ?_⟩
  · rw [Below.heap_alloc _ _ _ (by simp; omega), Below.heap_alloc _ _ _ (by simp)]; exact World.alloc_heap_new w _
  · rw [Below.heap_alloc _ _ _ (by simp)]
    have := World.alloc_heap_new (w.alloc (.cells #[.pointer (some ⟨b, 0, none⟩)] 83)) (.cells #[.int .i64 x.o, .int .i64 x.n, .string x.t, .slice a x.k.len cap, .int .i64 x.i] 130)
    rwa [World.size_alloc] at this
  · have := World.alloc_heap_new ((w.alloc (.cells #[.pointer (some ⟨b, 0, none⟩)] 83)).alloc (.cells #[.int .i64 x.o, .int .i64 x.n, .string x.t, .slice a x.k.len cap, .int .i64 x.i] 130)) (.cells #[.int .i64 x.o, .int .i64 x.n, .string x.t, .slice a x.k.len cap] 31)
    rwa [World.size_alloc, World.size_alloc] at this

/-- a field that is a number is stored to -/
theorem RF.set_ind {w0 w : World} {B b : Nat} {W : Int} {its : List Itm} {s : St} {fa fr fl fi fg : Value} (h : RF w0 B b W its s ⟨fa, fr, fl, fi, fg⟩ w) (i : Int) : RF w0 B b W its { s with ind := i } ⟨fa, fr, fl, .int .i64 i, fg⟩ (w.setCell ⟨b, 3, none⟩ (.int .i64 i)) :=
  h.set (row := none) ⟨rfl, rfl, rfl, Nat.le_refl _, fun _ _ _ => rfl⟩ (by simp) 3 (.int .i64 i) ⟨fa, fr, fl, .int .i64 i, fg⟩ (fun p v => rfl) its { s with ind := i } rfl h.rest h.rows h.flags rfl h.wid

set_option maxRecDepth 100000 in
set_option maxHeartbeats 3200000 in
theorem layOut_line {w0 w : World} {B b : Nat} {W : Int} {its : List Itm} {s : St} (hB : B ≤ w.heap.size) (h : RS w0 B b W its s w) (hn : s.rows.length ≤ 1000000) (x : Itm) (hnl : nl x.o = true) (a : Option Addr) (cap : Nat) :
    Calls Try.prog 119 #[.pointer (some ⟨b, 0, none⟩), .agg #[.int .i64 x.o, .int .i64 x.n, .string x.t, .slice a x.k.len cap, .int .i64 x.i]] w fun e w' => e = .returned (.tuple #[]) ∧ RS w0 B b W its (s.line x.i) w' ∧ Below B w w' := by
  have hbl : b < w.heap.size := by obtain ⟨F, hF⟩ := h; exact hF.cells.2.2.2.2.2.2.1
  have hBb : B ≤ b := by obtain ⟨F, hF⟩ := h; exact hF.cells.2.2.2.2.2.2.2
  have HIS := Lib.hid (fun w' => isNewline w' x.o)
  rw [hnl] at HIS
  obtain ⟨V, hV⟩ : ∃ V, ((w.alloc (.cells #[.pointer (some ⟨b, 0, none⟩)] 83)).alloc (.cells #[.int .i64 x.o, .int .i64 x.n, .string x.t, .slice a x.k.len cap, .int .i64 x.i] 130)).alloc (.cells #[.int .i64 x.o, .int .i64 x.n, .string x.t, .slice a x.k.len cap] 31) = V := ⟨_, rfl⟩
  have hE : Ext w V := by rw [← hV]; exact (((Ext.refl w).alloc _).alloc _).alloc _
  have hVV := Vars.new b x a cap w
  rw [hV] at hVV
  have HEL := Lib.hid (endLine (Nat.le_trans hB hE.size) (h.below hE) hn)
  refine calls_marks Try.func119 rfl ?_
  simp only [Try.ntmps119, List.size_toArray, List.length_cons, List.length_nil, Nat.reduceAdd, Nat.reduceSub, Array.replicate_succ, Array.replicate_zero, List.push_toArray, List.append_toArray, List.nil_append, List.cons_append]
  obtain ⟨v0, ⟨v1, v2, v3, v4, v5⟩, u1, u2, u3, u4⟩ := hVV.cells
  have HV := Lib.hid (And.intro hVV hE)
  have HB := Lib.hid (And.intro hbl hBb)
  clear hVV hE hbl hBb h
  go_wp2_with fail
  refine (HIS.out _).mono ?_
  rintro e1 w1 ⟨rfl, hw1⟩
  rw [hw1]
  clear hV hw1
  go_wp2_with fail
  refine HEL.out.mono ?_
  rintro e2 w2 ⟨rfl, ⟨⟨fa, fr, fl, fi, fg⟩, hF2⟩, hb2, hk2⟩
  have hV2 := HV.out.1.kept HB.out.1 hk2 (by decide) (by decide) (by decide)
  have H2 := Lib.hid (And.intro hF2 (((Below.refl B w).trans (HV.out.2.mono hB)).trans hb2))
  obtain ⟨_, _, _, c3, _, fz, _, _⟩ := hF2.cells
  have f3 := fz 3
  clear v0 v1 v2 v3 v4 v5 u1 u2 u3 u4 hb2 hk2 fz hF2
  obtain ⟨v0, ⟨_, _, _, _, v5⟩, _⟩ := hV2.cells
  clear hV2
  go_wp2_with fail
  refine leave_none (results_none rfl _ _ _) ⟨rfl, ⟨⟨fa, fr, fl, .int .i64 x.i, fg⟩, H2.out.1.set_ind x.i⟩, H2.out.2.setCell (p := ⟨b, 3, none⟩) HB.out.2 _⟩

end Go.Proofs.Ytlopcdabajcnkaa.RnM

/-
  layOut of the program at a group that fits.
-/
set_option linter.unusedVariables false
set_option linter.unusedSimpArgs false
namespace Go.Proofs.Ytlopcdabajcnkaa.RnM
open Go.RowKit Go.Shelf P1 Cnt CntC Flat Wid ChP Rn Rf Bwd BufQ
attribute [local go_sem] Oper.semAt_some

set_option maxRecDepth 100000 in
set_option maxHeartbeats 3200000 in
theorem layOut_flat {w0 w : World} {B b : Nat} {W : Int} {its : List Itm} {s : St} (hB0 : Below B w0 w) (hBw0 : B ≤ w0.heap.size) (h : RS w0 B b W its s w) (hn : s.flags.length ≤ 1000000) (hi0 : 0 ≤ s.ind) (hi1 : s.ind ≤ 1000000) (ht : s.txt.size ≤ 4194304) (hW0 : 0 ≤ W) (hW1 : W ≤ 1000000)
    (hlen : its.length ≤ 4194304) (hsz : ∀ x ∈ its, x.t.size + x.k.size ≤ 4194304) (hsum : ldI its ≤ 4194304)
    {d : Nat} {i m : Int} {t : ByteArray} {k : F} {a : Option Addr} {cap : Nat} (hk : KidsIn w0 B k a cap) (hok : okD d 8 m t k = true) (hks : t.size + k.size ≤ 4194304) (hfit : fitB W (ldI its) s t k = true) :
    Calls Try.prog 119 #[.pointer (some ⟨b, 0, none⟩), .agg #[.int .i64 8, .int .i64 m, .string t, .slice a k.len cap, .int .i64 i]] w fun e w' => e = .returned (.tuple #[]) ∧ RS w0 B b W its ((s.flag true).put (flD 8 t k)) w' ∧ Below B w w' := by
  have hB : B ≤ w.heap.size := Nat.le_trans hBw0 hB0.size
  have hbl : b < w.heap.size := by obtain ⟨F, hF⟩ := h; exact hF.cells.2.2.2.2.2.2.1
  have hBb : B ≤ b := by obtain ⟨F, hF⟩ := h; exact hF.cells.2.2.2.2.2.2.2
  have HIS := Lib.hid (fun w' => isNewline w' 8)
  rw [show nl 8 = false from eight_nl] at HIS
  obtain ⟨V, hV⟩ : ∃ V, ((w.alloc (.cells #[.pointer (some ⟨b, 0, none⟩)] 83)).alloc (.cells #[.int .i64 8, .int .i64 m, .string t, .slice a k.len cap, .int .i64 i] 130)).alloc (.cells #[.int .i64 8, .int .i64 m, .string t, .slice a k.len cap] 31) = V := ⟨_, rfl⟩
  have hE : Ext w V := by rw [← hV]; exact (((Ext.refl w).alloc _).alloc _).alloc _
  have hVV := Vars.new b ⟨i, 8, m, t, k⟩ a cap w
  simp only [hV] at hVV
  have hBV : Below B w V := (Below.refl B w).trans (hE.mono hB)
  obtain ⟨F0, hF0⟩ := h
  have HDC := Lib.hid (decideI (W := W) (hB0.trans hBV) hBw0 (hF0.below hE) hn hi0 hi1 ht hW0 hW1 hlen hsz hsum hk hok hks)
  rw [hfit] at HDC
  obtain ⟨hcap, fs, hs, hfs⟩ := hk
  have HTX := Lib.hid (show wfD 8 t k = (flD 8 t k).data.toList by
    have h2 := wf_fl (.cons 8 m t k .nil) d (by rw [ok_cons, hok]; rfl)
    rwa [wf_one, fl_one] at h2)
  have HWF' := Lib.hid (fun (F : Fs) (W' : World) (h1 : Below B w0 W') (h2 : B ≤ W'.heap.size) (h3 : Holds B b F s.txt.data.toList W') => FlatQ.write_step B b F W' s.txt.data.toList 8 m t k (FlatQ.writeI B b F _ k (Nat.le_refl _)) a cap fs (hs.below hfs h1) hfs hcap (by rw [len_text]; omega) h3 h2 h3.lt)
  refine calls_marks Try.func119 rfl ?_
  simp only [Try.ntmps119, List.size_toArray, List.length_cons, List.length_nil, Nat.reduceAdd, Nat.reduceSub, Array.replicate_succ, Array.replicate_zero, List.push_toArray, List.append_toArray, List.nil_append, List.cons_append]
  obtain ⟨v0, ⟨v1, v2, v3, v4, v5⟩, u1, u2, u3, u4⟩ := hVV.cells
  have HV := Lib.hid (And.intro hVV hBV)
  have HB := Lib.hid (And.intro hbl hBb)
  clear hVV hE hbl hBb hF0 hBV hs hfs hok hfit hsz
  go_wp2_with fail
  refine (HIS.out _).mono ?_
  rintro e1 w1 ⟨rfl, hw1⟩
  rw [hw1]
  clear hV hw1
  go_wp2_with fail
  refine HDC.out.mono ?_
  rintro e2 w2 ⟨rfl, ⟨⟨fa, fr, fl, fi, fg⟩, _, hF2⟩, hb2, hk2⟩
  have hV2 := HV.out.1.kept HB.out.1 hk2 (by decide) (by decide) (by decide)
  have H2 := Lib.hid (And.intro hF2 (HV.out.2.trans hb2))
  clear v0 v1 v2 v3 v4 v5 u1 u2 u3 u4 hb2 hk2 hF2
  obtain ⟨v0, ⟨_, _, _, _, v5⟩, u1, u2, u3, u4⟩ := hV2.cells
  have HV2 := Lib.hid (show Vars b ⟨i, 8, m, t, k⟩ a cap w.heap.size w2.drew from hV2)
  clear hV2
  have hF2d := H2.out.1.below (Below.refl _ _).drew
  have hb2d : Below B w w2.drew := H2.out.2.drew
  have HWF := Lib.hid (HWF'.out _ w2.drew (hB0.trans hb2d) (Nat.le_trans hB hb2d.size) hF2d.hold)
  clear hF2d hb2d
  go_wp2_with fail
  refine wp_region_noPanic ?_
  refine wp_region_held_drew (S := (fun w' => w'.cell? ⟨w.heap.size, 0, none⟩ = some (.pointer (some ⟨b, 0, none⟩)) ∧ (w'.cell? ⟨w.heap.size + 1 + 1, 0, none⟩ = some (.int .i64 8) ∧ w'.cell? ⟨w.heap.size + 1 + 1, 1, none⟩ = some (.int .i64 m) ∧ w'.cell? ⟨w.heap.size + 1 + 1, 2, none⟩ = some (.string t) ∧ w'.cell? ⟨w.heap.size + 1 + 1, 3, none⟩ = some (.slice a k.len cap)))) (by kernel_rfl) ?_ (fun hHeld => ?_)
  · exact ⟨v0, u1, u2, u3, u4⟩
  refine wpAnyH_take (i := 0) (oi := { dst := some 27, op := Op.load 83 (Operand.tmp 2), type := 83, pos := "l4_greedy.go:55", after := #[], guard := none }) (v := ?_) rfl (by kernel_rfl) (by kernel_rfl) (by kernel_rfl) (fun _ _ _ h => h) (Or.inl ⟨by rfl, ?_⟩) (by assumption) ?_
  rotate_left
  · (intro w hSw; (try dsimp only at hSw); (go_simp <;> with_reducible rfl))
  try simp only [Act.put, List.setIfInBounds_toArray, List.set_cons_zero, List.set_cons_succ]
  refine wpAnyH_take (i := 1) (oi := { dst := some 28, op := Op.nilCheck (Operand.tmp 27), type := 0, pos := "l4_greedy.go:55", after := #[{ on := 0, ground := Ground.data }], guard := none }) (v := ?_) rfl (by kernel_rfl) (by kernel_rfl) (by kernel_rfl) (fun _ _ _ h => h) (Or.inl ⟨by rfl, ?_⟩) (by assumption) ?_
  rotate_left
  · (intro w hSw; (try dsimp only at hSw); (go_simp <;> with_reducible rfl))
  try simp only [Act.put, List.setIfInBounds_toArray, List.set_cons_zero, List.set_cons_succ]
  refine wpAnyH_take (i := 2) (oi := { dst := some 29, op := Op.fieldAddr 91 (Operand.tmp 28) 4, type := 0, pos := "l4_greedy.go:55", after := #[{ on := 1, ground := Ground.data }], guard := none }) (v := ?_) rfl (by kernel_rfl) (by kernel_rfl) (by kernel_rfl) (fun _ _ _ h => h) (Or.inl ⟨by rfl, ?_⟩) (by assumption) ?_
  rotate_left
  · (intro w hSw; (try dsimp only at hSw); (go_simp <;> with_reducible rfl))
  try simp only [Act.put, List.setIfInBounds_toArray, List.set_cons_zero, List.set_cons_succ]
  refine wpAnyH_take (i := 3) (oi := { dst := some 30, op := Op.load 31 (Operand.tmp 4), type := 31, pos := "l4_greedy.go:55", after := #[], guard := none }) (v := ?_) rfl (by kernel_rfl) (by kernel_rfl) (by kernel_rfl) (fun _ _ _ h => h) (Or.inl ⟨by rfl, ?_⟩) (by assumption) ?_
  rotate_left
  · (intro w hSw; (try dsimp only at hSw); (go_simp <;> with_reducible rfl))
  try simp only [Act.put, List.setIfInBounds_toArray, List.set_cons_zero, List.set_cons_succ]
  refine wpAnyH_ready (rs := [4]) (by kernel_rfl) (by simp) ?_
  refine AllReadyH.cons (o := { dst := some 31, op := Op.call { callee := Callee.value (Operand.func 88), args := #[Operand.tmp 29, Operand.tmp 30], argTypes := #[87, 31] }, type := 0, pos := "l4_greedy.go:55", after := #[{ on := 2, ground := Ground.data }, { on := 3, ground := Ground.data }], guard := none }) rfl (fun K hK => ?_) AllReadyH.nil
  go_simp
  go_at_call 88
  refine HWF.out.mono ?_
  rintro e3 w3 ⟨rfl, hw3⟩
  have hV3 := HV2.out.kept HB.out.1 (kept_others (ts := [5]) hw3.2.2 (by decide)) (by decide) (by decide) (by decide)
  obtain ⟨x0, _, y1, y2, y3, y4⟩ := hV3.cells
  have H3 := Lib.hid hw3
  clear hw3 hV3
  try go_wp2_with fail
  refine hK.out _ _ ?_ (fun hHeld4 => ?_)
  · exact ⟨x0, y1, y2, y3, y4⟩
  clear hK K hHeld
  try simp only [Act.put, List.setIfInBounds_toArray, List.set_cons_zero, List.set_cons_succ]
  refine wpAnyH_done (by kernel_rfl) ?_ _
  refine NoPanic.normal ?_
  go_wp2_with fail
  refine leave_none (results_none rfl _ _ _) ⟨rfl, ⟨_, (H2.out.1.below (Below.refl _ _).drew).wrote H3.out ?_⟩, H2.out.2.drew.trans H3.out.2.1⟩
  show (s.txt ++ flD 8 t k).data.toList = _
  rw [HTX.out]; simp

end Go.Proofs.Ytlopcdabajcnkaa.RnM

/-
  What a round of layOut's loop owes: a kid is pushed.
-/
set_option linter.unusedVariables false
set_option linter.unusedSimpArgs false
namespace Go.Proofs.Ytlopcdabajcnkaa.RnM
open Go.RowKit Go.Shelf P1 Cnt CntC Flat Wid ChP Rn Rf Bwd BufQ

/-! ### a block that holds no cells turns -/
theorem own_turn {lo : Nat} {A C : World} (hT : Turn lo A C) {B n m : Nat} {T : TypeId} {v : Value} {xs : List Value} (h : A.ownsRow B T n v m xs) : C.ownsRow B T n v m xs := by
  obtain ⟨h1, h2⟩ := h
  refine ⟨h1, ?_⟩
  rcases h2 with h2 | ⟨g, cap, cur, rfl, h3, h4, h5⟩
  · exact .inl h2
  · exact .inr ⟨g, cap, cur, rfl, h3, (hT.block h4 rfl).trans h4, h5⟩
theorem ownF_turn {lo : Nat} {A C : World} (hT : Turn lo A C) {B n m : Nat} {T : TypeId} {v : Value} {xs : List Value} (h : A.ownsRowF B T n v m xs) : C.ownsRowF B T n v m xs := by
  obtain ⟨h1, h2⟩ := h
  refine ⟨h1, ?_⟩
  rcases h2 with h2 | ⟨g, cap, cur, fz, rfl, h3, h4, h5⟩
  · exact .inl h2
  · exact .inr ⟨g, cap, cur, fz, rfl, h3, (hT.block h4 rfl).trans h4, h5⟩
theorem At.turn {lo : Nat} {A C : World} (hT : Turn lo A C) {B b : Nat} {F : Fs} {p : Value} {bs : List Value} (h : At B b F p bs A) : At B b F p bs C := by
  obtain ⟨hB, v, hb, hown, hne, hnn⟩ := h
  exact ⟨hB, v, (hT.block hb rfl).trans hb, ownF_turn hT hown, hne, hnn⟩
section
variable {w0 w w' : World} {B b : Nat} {W : Int} {its : List Itm} {s : St} {F : Fs}
theorem RF.turn {lo : Nat} (h : RF w0 B b W its s F w) (hT : Turn lo w w') : RF w0 B b W its s F w' := by
  obtain ⟨xs, x1, x2⟩ := h.rest
  exact ⟨h.hold.elim (fun x => .inl (At.turn hT x)) (fun x => .inr (At.turn hT x)), ⟨xs, own_turn hT x1, x2⟩, own_turn hT h.rows, own_turn hT h.flags, h.ind, h.wid⟩
theorem Vars.turn {lo : Nat} {x : Itm} {a : Option Addr} {cap r0 : Nat} (h : Vars b x a cap r0 w) (hT : Turn lo w w') : Vars b x a cap r0 w' :=
  ⟨(hT.block h.1 rfl).trans h.1, (hT.block h.2.1 rfl).trans h.2.1, (hT.block h.2.2 rfl).trans h.2.2⟩
theorem Vars.ext {x : Itm} {a : Option Addr} {cap r0 : Nat} (h : Vars b x a cap r0 w) (k : Below w.heap.size w w') : Vars b x a cap r0 w' :=
  ⟨(k.block _ (Array.getElem?_eq_some_iff.1 h.1).1).trans h.1, (k.block _ (Array.getElem?_eq_some_iff.1 h.2.1).1).trans h.2.1, (k.block _ (Array.getElem?_eq_some_iff.1 h.2.2).1).trans h.2.2⟩
/-- a row of items grows, which is not the item's variable -/
theorem Vars.grown {x : Itm} {a : Option Addr} {cap r0 : Nat} (h : Vars b x a cap r0 w) {row : Option Nat} (hg : w.grownBy w' row) (hrow : ∀ g, row = some g → ∃ c, w.heap[g]? = some (.cells c 130 (0, 0))) (hne : row ≠ some (r0 + 1)) : Vars b x a cap r0 w' := by
  have q : ∀ (k : Nat) (c : Array Value) (T : TypeId), w.heap[k]? = some (.cells c T (0, 0)) → T ≠ 130 → w'.heap[k]? = some (.cells c T (0, 0)) := fun k c T h1 h2 => (hg.block k (Array.getElem?_eq_some_iff.1 h1).1 (fun e => by
    obtain ⟨c', hc⟩ := hrow k e.symm
    rw [h1] at hc; injection hc with hc; injection hc with _ hc; exact h2 hc)).trans h1
  exact ⟨q _ _ _ h.1 (by decide), (hg.block _ (Array.getElem?_eq_some_iff.1 h.2.1).1 (fun e => hne e.symm)).trans h.2.1, q _ _ _ h.2.2 (by decide)⟩
theorem Vars.set {x : Itm} {a : Option Addr} {cap r0 : Nat} (h : Vars b x a cap r0 w) (hb : b < r0) (o : Nat) (u : Value) : Vars b x a cap r0 (w.setCell ⟨b, o, none⟩ u) :=
  h.kept (ts := []) hb (kept_set [] b o w u) (by simp) (by simp) (by simp)
end

/-- the lists behind the same place are the same -/
theorem F.app_len_inj {g g' : F} : ∀ (p p' : F), p.app g = p'.app g' → p.len = p'.len → g = g'
  | .nil, p', h, hl => by
    have := F.len_eq_zero (f := p') (by simp only [F.len] at hl; exact hl.symm)
    subst this; exact h
  | .cons o n t k r, p', h, hl => by
    cases p' with
    | nil => simp [F.len] at hl
    | cons o' n' t' k' r' =>
      simp only [F.app, F.cons.injEq] at h
      simp only [F.len] at hl
      exact F.app_len_inj r r' h.2.2.2.2 (by omega)
theorem F.app_inj_right {g g' : F} (p p' : F) (h : p.app g = p'.app g') (hl : g.len = g'.len) : g = g' := by
  refine F.app_len_inj p p' h ?_
  have := congrArg F.len h
  rw [F.len_app, F.len_app] at this
  omega

/-- an item is pushed, and the field is not yet stored to -/
theorem RF.append_item {w0 w w3 : World} {B b : Nat} {W : Int} {its : List Itm} {s : St} {fa fr fl fi fg : Value} (h : RF w0 B b W its s ⟨fa, fr, fl, fi, fg⟩ w) {y : Itm} {c xs : List Value} (hx : ∃ ys, xs = ys ++ c ∧ ItemsV (ItV w0 B) its.reverse ys) (hy : ItV w0 B y c) {o : Obj} (hg : (w.alloc o).grownBy w3 fr.ownBlock) {g cap n : Nat} (hn : n = its.length + 1) (hown : w3.ownsRow B 130 5 (.slice (some ⟨g, 0, none⟩) n cap) n xs) :
    w3.cell? ⟨b, 1, none⟩ = some fr ∧ w3.frozen? ⟨b, 1, none⟩ = false ∧ RF w0 B b W (y :: its) s ⟨fa, .slice (some ⟨g, 0, none⟩) n cap, fl, fi, fg⟩ (w3.setCell ⟨b, 1, none⟩ (.slice (some ⟨g, 0, none⟩) n cap)) := by
  have hl := h.below ((Below.refl w.heap.size w).alloc (Nat.le_refl _) o)
  obtain ⟨_, c1, _, _, _, hz, hbl, _⟩ := hl.cells
  obtain ⟨cc, hcb⟩ := hl.block
  obtain ⟨xs1, x1, x2⟩ := hl.rest
  have hne : fr.ownBlock ≠ some b := RnM.own_ne x1 hcb ne4
  have hbk := hg.block b hbl (fun e => hne e.symm)
  have hrow : ∀ k, fr.ownBlock = some k → ∃ c, (w.alloc o).heap[k]? = some (.cells c 130 (0, 0)) := own_block x1
  refine ⟨(World.cell?_of_block (w := w.alloc o) hbk).trans c1, (World.frozen?_of_block (w := w.alloc o) hbk).trans (hz 1), ?_⟩
  obtain ⟨ys, rfl, hys⟩ := hx
  subst hn
  refine hl.set hg (fun k e => by obtain ⟨c', h'⟩ := hrow k e; exact ⟨c', _, h', ne1, ne4⟩) 1 (.slice (some ⟨g, 0, none⟩) (its.length + 1) cap) ⟨fa, .slice (some ⟨g, 0, none⟩) (its.length + 1) cap, fl, fi, fg⟩ (fun p v => rfl) (y :: its) s rfl (StackG.push hys hy hown) (hl.rows.kept hg (own_or (fun k e => ?_))) (hl.flags.kept hg (own_or (fun k e => ?_))) h.ind h.wid
  · obtain ⟨c', h'⟩ := hrow k e
    exact RnM.own_ne hl.rows h' (Ne.symm ne7)
  · obtain ⟨c', h'⟩ := hrow k e
    exact RnM.own_ne hl.flags h' (Ne.symm ne8)
theorem five_news (w : World) (o n i : Int) (t : ByteArray) (v : Value) (T : TypeId) : ∀ j u, [Value.int .i64 o, .int .i64 n, .string t, v, .int .i64 i][j]? = some u → (w.alloc (.cells #[.int .i64 o, .int .i64 n, .string t, v, .int .i64 i] T)).cell? ((⟨w.heap.size, 0, none⟩ : Addr).add j) = some u := by
  intro j u hu
  rw [add_at, Nat.zero_add, World.cell?_alloc_new]
  simpa using hu

end Go.Proofs.Ytlopcdabajcnkaa.RnM


import Derived.Test.YtmkibpimjaofgaaRnE
/-
  layOut of the program where the parts of a document are pushed.
-/
set_option linter.unusedVariables false
set_option linter.unusedSimpArgs false
set_option maxRecDepth 100000
set_option maxHeartbeats 6400000
namespace Go.Proofs.Ytmkibpimjaofgaa.RnM
open Go.RowKit Go.Shelf P1 Cnt CntC Flat Wid ChP Rn Rf Bwd BufQ
attribute [local go_sem] Oper.semAt_some

theorem backK (a : Option Addr) (n cap : Nat) (w : World) : Calls Try.prog 129 #[.slice a n cap] w fun e w' => e = .returned (.func (.func 171) #[] #[.pointer (some ⟨w.heap.size, 0, none⟩)]) ∧ w' = w.alloc (.cells #[.slice a n cap] 27) := by
  go_enter Try.func129, Try.ntmps129
  go_wp2_with fail
  go_ret
  exact ⟨rfl, rfl⟩

def LoI (w0 : World) (B b : Nat) (W : Int) (its : List Itm) (S : St) (x : Itm) (a : Option Addr) (cap r0 cb : Nat) (wb : World) (j : Nat) (A : World) : Prop :=
  (∃ (Fz : Fs) (g p : F), x.k = p.app g ∧ g.len = j ∧ RF w0 B b W (kidsI g (x.i + x.n) ++ its) S Fz A ∧ (∀ q, Fz.r.ownBlock = some q → q ≠ r0 + 1)) ∧ Vars b x a cap r0 A ∧ Boxed A cb 27 (.slice a x.k.len cap) ∧ Below B wb A
def Kid (kb : Nat) (o n : Int) (t : ByteArray) (v : Value) (w : World) : Prop := w.heap[kb]? = some (.cells #[.int .i64 o, .int .i64 n, .string t, v] 29 (0, 0))
theorem kid_alloc {kb : Nat} {o n : Int} {t : ByteArray} {v : Value} {w : World} (h : Kid kb o n t v w) (ob : Obj) : Kid kb o n t v (w.alloc ob) := (Below.heap_alloc _ _ _ (Array.getElem?_eq_some_iff.1 h).1).trans h
theorem Kid.grown {kb : Nat} {o n : Int} {t : ByteArray} {v : Value} {w w' : World} (h : Kid kb o n t v w) {row : Option Nat} (hg : w.grownBy w' row) (hrow : ∀ g, row = some g → ∃ c, w.heap[g]? = some (Obj.cells c 163 (0, 0))) : Kid kb o n t v w' :=
  (hg.block _ (Array.getElem?_eq_some_iff.1 h).1 (fun e => by
    obtain ⟨c', hc⟩ := hrow kb e.symm
    rw [show w.heap[kb]? = _ from h] at hc; injection hc with hc; injection hc with _ hc; exact absurd hc (by decide))).trans h
theorem Kid.set {kb : Nat} {o n : Int} {t : ByteArray} {v : Value} {w : World} (h : Kid kb o n t v w) {b : Nat} (hb : b ≠ kb) (x : Nat) (u : Value) : Kid kb o n t v (w.setCell ⟨b, x, none⟩ u) :=
  (Below.heap_setCell _ _ _ _ (fun e => hb e.symm)).trans h
theorem held_s {w : World} {b r0 kb : Nat} {x : Itm} {a : Option Addr} {cap : Nat} {o n : Int} {t : ByteArray} {v : Value} (h : Vars b x a cap r0 w) (k : Kid kb o n t v w) :
    w.cell? ⟨r0, 0, none⟩ = some (.pointer (some ⟨b, 0, none⟩)) ∧ w.cell? ⟨r0 + 1, 4, none⟩ = some (.int .i64 x.i) ∧ w.cell? ⟨r0 + 1 + 1, 1, none⟩ = some (.int .i64 x.n) ∧ (w.cell? ⟨kb, 0, none⟩ = some (.int .i64 o) ∧ w.cell? ⟨kb, 1, none⟩ = some (.int .i64 n) ∧ w.cell? ⟨kb, 2, none⟩ = some (.string t) ∧ w.cell? ⟨kb, 3, none⟩ = some v) := by
  obtain ⟨v0, ⟨_, _, _, _, v5⟩, _, u2, _⟩ := h.cells
  have k' : w.heap[kb]? = _ := k
  refine ⟨v0, v5, u2, ?_, ?_, ?_, ?_⟩ <;> (simp only [World.cell?, k']; rfl)
theorem grown_rows {w w' : World} {B n m : Nat} {T : TypeId} {v : Value} {xs : List Value} (hg : w.grownBy w' v.ownBlock) (h : w.ownsRow B T n v m xs) : ∀ (j : Nat) (o : Obj), v.ownBlock = some j → w.heap[j]? = some o → o.isCells = true := by
  intro j o hj ho
  obtain ⟨c, hc⟩ := own_block h j hj
  rw [ho] at hc; cases hc; rfl
theorem own_new {D w5 : World} {ob : Obj} {B n m g5 N cap5 : Nat} {T : TypeId} {v : Value} {xs : List Value} (h : (D.alloc ob).ownsRow B T n v m xs) (hg : (D.alloc ob).grownBy w5 v.ownBlock) (hat : v.ownBlock = some g5 ∨ g5 = D.heap.size + 1) : ∀ q, (Value.slice (some ⟨g5, 0, none⟩) N cap5).ownBlock = some q → v.ownBlock = some q ∨ D.heap.size ≤ q := by
  intro q hq
  simp only [Value.ownBlock, Option.some.injEq] at hq
  subst hq
  rcases hat with hat | hat
  · exact .inl hat
  · exact .inr (by omega)
theorem keep_of {B b cb : Nat} {Y D w' : World} {v : Value} (hYD : Ext Y D) (hB : Boxed Y cb 27 v) (hcb : cb ≠ b) (hb : Below B D w') (hk : KeptBut [163] b D w') : Keep (fun c => c < B ∨ c = cb) Y w' := by
  refine ⟨Nat.le_trans hYD.size hb.size, fun c hc hl => ?_⟩
  rcases hc with hc | rfl
  · exact (hb.block c hc).trans (hYD.block c hl)
  · have h1 : D.heap[c]? = some (.cells #[v] 27 (0, 0)) := (hYD.block c hl).trans hB
    exact (hk _ _ _ _ h1 hcb (by decide)).trans (show Y.heap[c]? = _ from hB).symm

theorem layOut_eight {w0 w : World} {B b : Nat} {W : Int} {its : List Itm} {s : St} {d : Nat} {i m : Int} {t : ByteArray} {k : F} {a : Option Addr} {cap : Nat} (hB0 : Below B w0 w) (hBw0 : B ≤ w0.heap.size) (h : RS w0 B b W its s w) (hn : s.flags.length ≤ 1000000) (hi0 : 0 ≤ s.ind) (hi1 : s.ind ≤ 1000000) (ht : s.txt.size ≤ 4194304) (hW0 : 0 ≤ W) (hW1 : W ≤ 1000000)
    (hlen : its.length + k.len ≤ 4194304) (hsz : ∀ x ∈ its, x.t.size + x.k.size ≤ 4194304) (hsum : ldI its ≤ 4194304)
    (hk : KidsIn w0 B k a cap) (hok : okD d 8 m t k = true) (hfit : fitB W (ldI its) s t k = false) (hks : t.size + k.size ≤ 4194304) (hy0 : 0 ≤ i) (hy1 : i ≤ 1000000) (hm0 : 0 ≤ m) (hm1 : m ≤ 1000000) :
    Calls Try.prog 156 #[.pointer (some ⟨b, 0, none⟩), .agg #[.int .i64 8, .int .i64 m, .string t, .slice a k.len cap, .int .i64 i]] w fun e w' => e = .returned (.tuple #[]) ∧ RS w0 B b W (kidsI k (i + m) ++ its) ((s.flag false).put t) w' ∧ Below B w w' := by
  have hB : B ≤ w.heap.size := Nat.le_trans hBw0 hB0.size
  have hbl : b < w.heap.size := by obtain ⟨F, hF⟩ := h; exact hF.cells.2.2.2.2.2.2.1
  have hBb : B ≤ b := by obtain ⟨F, hF⟩ := h; exact hF.cells.2.2.2.2.2.2.2
  have HIS := Lib.hid (fun w' => isNewline w' 8)
  rw [show nl 8 = false from eight_nl] at HIS
  obtain ⟨V, hV⟩ : ∃ V, ((w.alloc (.cells #[.pointer (some ⟨b, 0, none⟩)] 107)).alloc (.cells #[.int .i64 8, .int .i64 m, .string t, .slice a k.len cap, .int .i64 i] 163)).alloc (.cells #[.int .i64 8, .int .i64 m, .string t, .slice a k.len cap] 29) = V := ⟨_, rfl⟩
  have hE : Ext w V := by rw [← hV]; exact (((Ext.refl w).alloc _).alloc _).alloc _
  have hVV := Vars.new b ⟨i, 8, m, t, k⟩ a cap w
  simp only [hV] at hVV
  have hBV : Below B w V := (Below.refl B w).trans (hE.mono hB)
  have HKID := Lib.hid hk
  have hkl : k.len ≤ 4194304 := by omega
  obtain ⟨⟨fa, fr, fl, fi, fg⟩, hF⟩ := h
  have HF := Lib.hid hF
  have HNB := Lib.hid (show ∀ q, fr.ownBlock = some q → q < w.heap.size from fun q hq => by obtain ⟨xs, x1, _⟩ := hF.rest; exact (x1.lt q hq).2)
  have HDC := Lib.hid (decideI (W := W) (hB0.trans hBV) hBw0 (hF.below hE) hn hi0 hi1 ht hW0 hW1 (by omega) hsz hsum hk hok hks)
  rw [hfit] at HDC
  obtain ⟨hcap, fs, hs, hfs⟩ := hk
  have HWF' := Lib.hid (fun (F : Fs) (W' : World) (h2 : B ≤ W'.heap.size) (h3 : Holds B b F s.txt.data.toList W') => writeString B b F s.txt.data.toList t W' h3 (by rw [len_text]; omega) (by omega) h2)
  refine calls_marks Try.func156 rfl ?_
  simp only [Try.ntmps156, List.size_toArray, List.length_cons, List.length_nil, Nat.reduceAdd, Nat.reduceSub, Array.replicate_succ, Array.replicate_zero, List.push_toArray, List.append_toArray, List.nil_append, List.cons_append]
  obtain ⟨v0, ⟨v1, v2, v3, v4, v5⟩, u1, u2, u3, u4⟩ := hVV.cells
  have HV := Lib.hid (And.intro hVV hBV)
  have HE := Lib.hid hE
  have HB := Lib.hid (And.intro hbl hBb)
  clear hVV hE hbl hBb hBV hs hfs hok hsz hF hfit
  go_wp2_with fail
  refine (HIS.out _).mono ?_
  rintro e1 w1 ⟨rfl, hw1⟩
  rw [hw1]
  clear hV hw1
  go_wp2_with fail
  refine HDC.out.mono ?_
  rintro e2 w2 ⟨rfl, ⟨⟨fa2, fr2, fl2, fi2, fg2⟩, hr, hF2⟩, hb2, hk2⟩
  obtain rfl : fr2 = fr := hr
  have HV2 := Lib.hid (show Vars b ⟨i, 8, m, t, k⟩ a cap w.heap.size w2.drew from HV.out.1.kept HB.out.1 hk2 (by decide) (by decide) (by decide))
  have H2 := Lib.hid (And.intro (hF2.below (Below.refl _ _).drew) (HV.out.2.trans hb2).drew)
  clear v0 v1 v2 v3 v4 v5 u1 u2 u3 u4 hb2 hk2 hF2
  obtain ⟨v0, ⟨_, _, _, _, v5⟩, u1, u2, u3, u4⟩ := HV2.out.cells
  go_wp2_with fail
  have HWF := Lib.hid (HWF'.out _ w2.drew (Nat.le_trans hB H2.out.2.size) H2.out.1.hold)
  have HBK := Lib.hid (backK a k.len cap)
  refine wp_region_noPanic ?_
  refine wp_region_held_drew (S := (fun w' => w'.cell? ⟨w.heap.size, 0, none⟩ = some (.pointer (some ⟨b, 0, none⟩)) ∧ w'.cell? ⟨w.heap.size + 1 + 1, 2, none⟩ = some (.string t))) (by kernel_rfl) ?_ (fun hHeld => ?_)
  · exact ⟨v0, u3⟩
  refine wpAnyH_take (i := 0) (oi := { dst := some 32, op := Op.load 107 (Operand.tmp 2), type := 107, pos := "l4_greedy.go:78", after := #[], guard := none }) (v := ?_) rfl (by kernel_rfl) (by kernel_rfl) (by kernel_rfl) (fun _ _ _ h => h) (Or.inl ⟨by rfl, ?_⟩) (by assumption) ?_
  rotate_left
  · (intro w hSw; (try dsimp only at hSw); (go_simp <;> with_reducible rfl))
  try simp only [Act.put, List.setIfInBounds_toArray, List.set_cons_zero, List.set_cons_succ]
  refine wpAnyH_take (i := 1) (oi := { dst := some 33, op := Op.nilCheck (Operand.tmp 32), type := 0, pos := "l4_greedy.go:78", after := #[{ on := 0, ground := Ground.data }], guard := none }) (v := ?_) rfl (by kernel_rfl) (by kernel_rfl) (by kernel_rfl) (fun _ _ _ h => h) (Or.inl ⟨by rfl, ?_⟩) (by assumption) ?_
  rotate_left
  · (intro w hSw; (try dsimp only at hSw); (go_simp <;> with_reducible rfl))
  try simp only [Act.put, List.setIfInBounds_toArray, List.set_cons_zero, List.set_cons_succ]
  refine wpAnyH_take (i := 2) (oi := { dst := some 34, op := Op.fieldAddr 118 (Operand.tmp 33) 0, type := 0, pos := "l4_greedy.go:78", after := #[{ on := 1, ground := Ground.data }], guard := none }) (v := ?_) rfl (by kernel_rfl) (by kernel_rfl) (by kernel_rfl) (fun _ _ _ h => h) (Or.inl ⟨by rfl, ?_⟩) (by assumption) ?_
  rotate_left
  · (intro w hSw; (try dsimp only at hSw); (go_simp <;> with_reducible rfl))
  try simp only [Act.put, List.setIfInBounds_toArray, List.set_cons_zero, List.set_cons_succ]
  refine wpAnyH_take (i := 3) (oi := { dst := some 35, op := Op.fieldAddr 114 (Operand.tmp 34) 3, type := 0, pos := "l4_greedy.go:78", after := #[{ on := 2, ground := Ground.data }], guard := none }) (v := ?_) rfl (by kernel_rfl) (by kernel_rfl) (by kernel_rfl) (fun _ _ _ h => h) (Or.inl ⟨by rfl, ?_⟩) (by assumption) ?_
  rotate_left
  · (intro w hSw; (try dsimp only at hSw); (go_simp <;> with_reducible rfl))
  try simp only [Act.put, List.setIfInBounds_toArray, List.set_cons_zero, List.set_cons_succ]
  refine wpAnyH_take (i := 4) (oi := { dst := some 36, op := Op.fieldAddr 29 (Operand.tmp 4) 2, type := 0, pos := "l4_greedy.go:78", after := #[], guard := none }) (v := ?_) rfl (by kernel_rfl) (by kernel_rfl) (by kernel_rfl) (fun _ _ _ h => h) (Or.inl ⟨by rfl, ?_⟩) (by assumption) ?_
  rotate_left
  · (intro w hSw; (try dsimp only at hSw); (go_simp <;> with_reducible rfl))
  try simp only [Act.put, List.setIfInBounds_toArray, List.set_cons_zero, List.set_cons_succ]
  refine wpAnyH_take (i := 5) (oi := { dst := some 37, op := Op.load 9 (Operand.tmp 36), type := 9, pos := "l4_greedy.go:78", after := #[{ on := 4, ground := Ground.data }], guard := none }) (v := ?_) rfl (by kernel_rfl) (by kernel_rfl) (by kernel_rfl) (fun _ _ _ h => h) (Or.inl ⟨by rfl, ?_⟩) (by assumption) ?_
  rotate_left
  · (intro w hSw; (try dsimp only at hSw); (go_simp <;> with_reducible rfl))
  try simp only [Act.put, List.setIfInBounds_toArray, List.set_cons_zero, List.set_cons_succ]
  refine wpAnyH_ready (rs := [6]) (by kernel_rfl) (by simp) ?_
  refine AllReadyH.cons (o := { dst := some 38, op := Op.call { callee := Callee.value (Operand.func 190), args := #[Operand.tmp 35, Operand.tmp 37], argTypes := #[112, 9] }, type := 188, pos := "l4_greedy.go:78", after := #[{ on := 3, ground := Ground.data }, { on := 5, ground := Ground.data }], guard := none }) rfl (fun K hK => ?_) AllReadyH.nil
  go_simp
  go_at_call 190
  refine HWF.out.mono ?_
  rintro e3 w3 ⟨rfl, hw3⟩
  have hV3 := HV2.out.kept HB.out.1 (kept_others (ts := [5]) hw3.2.2 (by decide)) (by decide) (by decide) (by decide)
  obtain ⟨x0, ⟨_, _, _, _, x5⟩, y1, y2, y3, y4⟩ := hV3.cells
  have H3 := Lib.hid (And.intro (H2.out.1.wrote (t := s.txt ++ t) hw3 (by simp [St.flag])) (H2.out.2.trans hw3.2.1))
  have HV3 := Lib.hid hV3
  clear hw3 hV3
  try go_wp2_with fail
  refine hK.out _ _ ?_ (fun hHeld6 => ?_)
  · exact ⟨x0, y3⟩
  clear hK K hHeld
  try simp only [Act.put, List.setIfInBounds_toArray, List.set_cons_zero, List.set_cons_succ]
  refine wpAnyH_done (by kernel_rfl) ?_ _
  refine NoPanic.normal ?_
  clear v0 v5 u1 u2 u3 u4
  go_wp2_with fail
  refine (HBK.out _).mono ?_
  rintro e4 w4 ⟨rfl, rfl⟩
  go_wp2_with fail
  obtain ⟨W0, hW0⟩ : ∃ x, w3.alloc (.cells #[.slice a k.len cap] 27) = x := ⟨_, rfl⟩
  have hz : W0.heap.size = w3.heap.size + 1 := by rw [← hW0]; simp
  have hE0 : Ext w3 W0 := by rw [← hW0]; exact (Ext.refl _).alloc _
  have hX0 : Boxed W0 w3.heap.size 27 (.slice a k.len cap) := by rw [← hW0]; exact Boxed.new _ _ _
  try rw [hW0]
  clear hW0
  have hB3 := H3.out.2
  have hz3 := hB3.size
  have hbw3 : b < w.heap.size := HB.out.1
  have hr3 : w.heap.size + 1 + 1 < w3.heap.size := (Array.getElem?_eq_some_iff.1 HV3.out.2.2).1
  refine wpIn_wide.1 (rangeFunc_gives2 (n := 7) (gf := 171) (lb := #[.pointer (some ⟨w3.heap.size, 0, none⟩)]) (X := XK w0 B k) (Pc := fun c => c < B ∨ c = w3.heap.size) (N := k.len) ?g0 (enters_of Try.func171 (by kernel_rfl) rfl) (by omega) (backKids ((hB0.trans hB3).trans (hE0.mono (by omega))) HKID.out hX0.cell hkl) (fun c hc => by omega) (fun k args A W hX => by obtain ⟨q, p, o1, n1, t1, k1, r1, a1, cap1, _, _, _, rfl, _⟩ := hX; rfl)
    (fun j A => LoI w0 B b W its ((s.flag false).put t) ⟨i, 8, m, t, k⟩ a cap w.heap.size w3.heap.size w j A)
    (fun _ _ => False)
    (fun j A C ⟨⟨F, g, p, h1, h2, h3, h4⟩, h5, h6, h7⟩ hA hT => ⟨⟨F, g, p, h1, h2, h3.turn hT, h4⟩, h5.turn hT, hT.boxed h6, h7.trans (hT.below (by omega))⟩)
    (fun A C ⟨⟨F, g, p, h1, h2, h3, h4⟩, h5, h6, h7⟩ hE => ⟨⟨F, g, p, h1, h2, h3.below hE, h4⟩, h5.ext hE, (hE.block _ h6.lt).trans h6, h7.trans (hE.mono (by have := h7.size; omega))⟩)
    (fun _ _ _ h => h.elim)
    ⟨⟨_, .nil, k, (F.app_nil k).symm, rfl, H3.out.1.below hE0, fun q hq => by have := HNB.out q hq; omega⟩, HV3.out.ext hE0, hX0, hB3.trans (hE0.mono (by omega))⟩
    (fun args Y => { tmps := #[Value.pointer (some { block := b, off := 0 }), Value.agg #[Value.int IntKind.i64 8, Value.int IntKind.i64 m, Value.string t, Value.slice a k.len cap, Value.int IntKind.i64 i], Value.pointer (some { block := w.heap.size, off := 0 }), Value.pointer (some { block := w.heap.size + 1, off := 0 }), Value.pointer (some { block := w.heap.size + 1 + 1, off := 0 }), undef, .pointer (some ⟨Y.heap.size, 0, none⟩), Value.pointer (some { block := w.heap.size + 1, off := 0 }), Value.agg #[Value.int IntKind.i64 8, Value.int IntKind.i64 m, Value.string t, Value.slice a k.len cap], Value.pointer (some { block := w.heap.size + 1 + 1, off := 0 }), Value.int IntKind.i64 8, Value.bool false, undef, undef, undef, undef, undef, undef, Value.pointer (some { block := w.heap.size + 1 + 1, off := 0 }), Value.int IntKind.i64 8, Value.bool true, Value.bool true, Value.pointer (some { block := b, off := 0 }), Value.agg #[Value.int IntKind.i64 8, Value.int IntKind.i64 m, Value.string t, Value.slice a k.len cap], Value.bool false, Value.bool false, undef, undef, undef, undef, undef, undef, Value.pointer (some { block := b, off := 0 }), Value.pointer (some { block := b, off := 0 }), Value.pointer (some { block := b, off := 0 }), Value.pointer (some { block := b, off := 3 }), Value.pointer (some { block := w.heap.size + 1 + 1, off := 2 }), Value.string t, Value.tuple #[Value.int IntKind.i64 ↑t.size, Value.nilIface], Value.pointer (some { block := w.heap.size + 1 + 1, off := 3 }), Value.slice a k.len cap, Value.func (Fn.func 171) #[] #[Value.pointer (some { block := w3.heap.size, off := 0 })], args.getD 0 undef, args.getD 1 undef, undef, undef, undef, undef, undef, undef, undef, undef, undef, undef, undef, undef, undef, undef, undef, undef], defers := [] })
    (fun args Y => Y.alloc (.cells (args.getD 1 undef).cells 29)) (fun args Y => (Ext.refl Y).alloc _) ?assign ?body ?done ?stop)
  case g0 => rfl
  case assign =>
    rintro l j args A Y K ⟨q, p', o1, n1, t1, k1, r1, a1, cap1, hsp, hpl, hq, rfl, hkid⟩ hK
    clear hsp hpl hq hkid
    gi_wp2_with fail
    exact hK
  case body =>
    rintro l j args A Wp Y hj hz1 ⟨⟨⟨fa4, fr4, fl4, fi4, fg4⟩, g, p, h1, h2, h3, h4⟩, h5, h6, h7⟩ hE ⟨q, p', o1, n1, t1, k1, r1, a1, cap1, hsp, hpl, hq, rfl, hkid⟩ hT
    have hA2 : Ext A (Wp.alloc (.cells #[.int .i64 o1, .int .i64 n1, .string t1, .slice a1 k1.len cap1] 29)) := hE.trans ((Ext.refl _).alloc _)
    have hlen1 : k.len = p'.len + (1 + r1.len) := by rw [hsp, F.len_app]; simp only [F.len]; omega
    obtain rfl : r1 = g := F.app_inj_right (p'.app (.cons o1 n1 t1 k1 .nil)) p (by rw [F.app_assoc, ← h1, hsp]; rfl) (by omega)
    obtain ⟨i0, z0, hi, hzz, hz1', hz2, hz3'⟩ := info_some info5
    have HI := Lib.hid (And.intro hi (And.intro hzz (And.intro hz1' (And.intro hz2 hz3'))))
    clear hi hzz hz1' hz2 hz3'
    obtain ⟨N, hNN⟩ : ∃ N, (kidsI r1 (i + m) ++ its).length = N := ⟨_, rfl⟩
    have hNl : N ≤ 4194304 := by rw [← hNN, List.length_append, kidsI_len]; omega
    obtain ⟨ar, cr, rfl, hcr⟩ : ∃ a cap, fr4 = .slice a N cap ∧ N ≤ cap := by obtain ⟨xs, x1, _⟩ := h3.rest; rw [← hNN]; exact own_slice x1
    have hFY := (h3.below hA2).turn hT
    have hVY := (h5.ext hA2).turn hT
    have hBY : Boxed Y w3.heap.size 27 (.slice a k.len cap) := hT.boxed ((hA2.block _ h6.lt).trans h6)
    have hbY : Below B w Y := (h7.trans (hA2.mono (by have := h7.size; omega))).trans (hT.below (by omega))
    have hKY : Kid Wp.heap.size o1 n1 t1 (.slice a1 k1.len cap1) Y := (hT.block (World.alloc_heap_new Wp _) rfl).trans (World.alloc_heap_new Wp _)
    have hAz := h6.lt
    have hWz : Wp.heap.size < Y.heap.size := (Array.getElem?_eq_some_iff.1 hKY).1
    have hEz := hE.size
    obtain ⟨D, hD⟩ : ∃ D, Y.drew = D := ⟨_, rfl⟩
    have hYD : Ext Y D := by rw [← hD]; exact (Below.refl _ _).drew
    have hFD := hFY.below hYD
    have hVD := hVY.ext hYD
    have hKD : Kid Wp.heap.size o1 n1 t1 (.slice a1 k1.len cap1) D := (hYD.block _ hWz).trans hKY
    have hS0 := held_s hVD hKD
    obtain ⟨_, c1, _, _, _, _, hbD, _⟩ := hFD.cells
    have hzD : B ≤ D.heap.size := by have := hbY.size; have := hYD.size; omega
    obtain ⟨xs, hown0, hitems⟩ := hFD.rest
    have hownD : D.ownsRow B 163 5 (.slice ar N cr) N xs := by rw [hNN] at hown0; exact hown0
    have HXS := Lib.hid hitems
    have HFD := Lib.hid hFD
    have HVD := Lib.hid hVD
    have HKD := Lib.hid hKD
    have HITV := Lib.hid (show ItV w0 B ⟨i + m, o1, n1, t1, k1⟩ [.int .i64 o1, .int .i64 n1, .string t1, .slice a1 k1.len cap1, .int .i64 (i + m)] from ⟨a1, cap1, rfl, hkid⟩)
    have HNN := Lib.hid (show N + 1 = (kidsI r1 (i + m) ++ its).length + 1 by rw [hNN])
    have HNR := Lib.hid (show ∀ q, (Value.slice ar N cr).ownBlock = some q → q = w.heap.size + 1 → False from fun q hq e => h4 q hq e)
    have HBR := Lib.hid hbw3
    have HBR2 := Lib.hid HB.out.2
    have HBK2 := Lib.hid (show b ≠ Wp.heap.size by omega)
    have HSP := Lib.hid hsp
    have HLN := Lib.hid (show (F.cons o1 n1 t1 k1 r1).len = j + 1 by simp only [F.len]; omega)
    have HBD := Lib.hid (And.intro trivial (And.intro (hbY.trans (hYD.mono (by have := hbY.size; omega))) (keeps_of_ext hYD)))
    have HKP := Lib.hid (show ∀ w', Below B D w' → KeptBut [163] b D w' → Keep (fun c => c < B ∨ c = w3.heap.size) Y w' from fun w' hbl hkb => keep_of hYD hBY (by omega) hbl hkb)
    have HBOX := Lib.hid (show ∀ w', KeptBut [163] b D w' → Boxed w' w3.heap.size 27 (.slice a k.len cap) from fun w' hkb => hkb _ _ _ _ ((hYD.block _ hBY.lt).trans hBY) (by omega) (by decide))
    have HNQ := Lib.hid (show ∀ q, ((Value.slice ar N cr).ownBlock = some q ∨ D.heap.size ≤ q) → q ≠ w.heap.size + 1 from fun q hq e => by
      rcases hq with hq | hq
      · exact h4 q hq e
      · have := hYD.size; omega)
    have hx0 : IntKind.i64.wrap (i + m) = i + m := by rw [IntKind.wrap_i64]; omega
    refine wpIn_block ?_
    refine region_in (S := (fun w' => w'.cell? ⟨w.heap.size, 0, none⟩ = some (.pointer (some ⟨b, 0, none⟩)) ∧ w'.cell? ⟨w.heap.size + 1, 4, none⟩ = some (.int .i64 i) ∧ w'.cell? ⟨w.heap.size + 1 + 1, 1, none⟩ = some (.int .i64 m) ∧ (w'.cell? ⟨Wp.heap.size, 0, none⟩ = some (.int .i64 o1) ∧ w'.cell? ⟨Wp.heap.size, 1, none⟩ = some (.int .i64 n1) ∧ w'.cell? ⟨Wp.heap.size, 2, none⟩ = some (.string t1) ∧ w'.cell? ⟨Wp.heap.size, 3, none⟩ = some (.slice a1 k1.len cap1)))) (by kernel_rfl) (by simp) (fun h => by obtain ⟨_, _, h⟩ := h; exact h) ?_ (fun hHeld => ?_)
    · rw [hD]; exact hS0
    rw [hD] at hHeld ⊢
    clear hD hFY hVY hBY hbY hKY hYD hFD hVD hKD hS0 hown0 hitems hkid h1 h3 h4 h5 h6 h7 hE hT hA2 hsp hNN hlen1 hpl hq h2 hj
    refine wpAnyH_take (i := 0) (oi := { dst := some 44, op := Op.load 107 (Operand.tmp 2), type := 107, pos := "l4_greedy.go:80", after := #[], guard := none }) (v := ?_) rfl (by kernel_rfl) (by kernel_rfl) (by kernel_rfl) (fun _ _ _ h => h) (Or.inl ⟨by rfl, ?_⟩) (by assumption) ?_
    rotate_left
    · (intro w hSw; (try dsimp only at hSw); (go_simp <;> with_reducible rfl))
    try simp only [Act.put, List.setIfInBounds_toArray, List.set_cons_zero, List.set_cons_succ]
    refine wpAnyH_take (i := 1) (oi := { dst := some 45, op := Op.load 107 (Operand.tmp 2), type := 107, pos := "l4_greedy.go:80", after := #[], guard := none }) (v := ?_) rfl (by kernel_rfl) (by kernel_rfl) (by kernel_rfl) (fun _ _ _ h => h) (Or.inl ⟨by rfl, ?_⟩) (by assumption) ?_
    rotate_left
    · (intro w hSw; (try dsimp only at hSw); (go_simp <;> with_reducible rfl))
    try simp only [Act.put, List.setIfInBounds_toArray, List.set_cons_zero, List.set_cons_succ]
    refine wpAnyH_take (i := 2) (oi := { dst := some 46, op := Op.nilCheck (Operand.tmp 45), type := 0, pos := "l4_greedy.go:80", after := #[{ on := 1, ground := Ground.data }], guard := none }) (v := ?_) rfl (by kernel_rfl) (by kernel_rfl) (by kernel_rfl) (fun _ _ _ h => h) (Or.inl ⟨by rfl, ?_⟩) (by assumption) ?_
    rotate_left
    · (intro w hSw; (try dsimp only at hSw); (go_simp <;> with_reducible rfl))
    try simp only [Act.put, List.setIfInBounds_toArray, List.set_cons_zero, List.set_cons_succ]
    refine wpAnyH_take (i := 3) (oi := { dst := some 47, op := Op.fieldAddr 118 (Operand.tmp 46) 1, type := 0, pos := "l4_greedy.go:80", after := #[{ on := 2, ground := Ground.data }], guard := none }) (v := ?_) rfl (by kernel_rfl) (by kernel_rfl) (by kernel_rfl) (fun _ _ _ h => h) (Or.inl ⟨by rfl, ?_⟩) (by assumption) ?_
    rotate_left
    · (intro w hSw; (try dsimp only at hSw); (go_simp <;> with_reducible rfl))
    try simp only [Act.put, List.setIfInBounds_toArray, List.set_cons_zero, List.set_cons_succ]
    refine wpAnyH_take (i := 5) (oi := { dst := some 49, op := Op.load 29 (Operand.tmp 6), type := 29, pos := "l4_greedy.go:80", after := #[], guard := none }) (v := ?_) rfl (by kernel_rfl) (by kernel_rfl) (by kernel_rfl) (fun _ _ _ h => h) (Or.inl ⟨by rfl, ?_⟩) (by assumption) ?_
    rotate_left
    · (intro w hSw; (try dsimp only at hSw); (go_simp <;> with_reducible rfl))
    try simp only [Act.put, List.setIfInBounds_toArray, List.set_cons_zero, List.set_cons_succ]
    refine wpAnyH_take (i := 6) (oi := { dst := some 50, op := Op.fieldAddr 163 (Operand.tmp 3) 1, type := 0, pos := "l4_greedy.go:80", after := #[], guard := none }) (v := ?_) rfl (by kernel_rfl) (by kernel_rfl) (by kernel_rfl) (fun _ _ _ h => h) (Or.inl ⟨by rfl, ?_⟩) (by assumption) ?_
    rotate_left
    · (intro w hSw; (try dsimp only at hSw); (go_simp <;> with_reducible rfl))
    try simp only [Act.put, List.setIfInBounds_toArray, List.set_cons_zero, List.set_cons_succ]
    refine wpAnyH_take (i := 7) (oi := { dst := some 51, op := Op.load 3 (Operand.tmp 50), type := 3, pos := "l4_greedy.go:80", after := #[{ on := 6, ground := Ground.data }], guard := none }) (v := ?_) rfl (by kernel_rfl) (by kernel_rfl) (by kernel_rfl) (fun _ _ _ h => h) (Or.inl ⟨by rfl, ?_⟩) (by assumption) ?_
    rotate_left
    · (intro w hSw; (try dsimp only at hSw); (go_simp <;> with_reducible rfl))
    try simp only [Act.put, List.setIfInBounds_toArray, List.set_cons_zero, List.set_cons_succ]
    refine wpAnyH_take (i := 8) (oi := { dst := some 52, op := Op.fieldAddr 29 (Operand.tmp 4) 1, type := 0, pos := "l4_greedy.go:80", after := #[], guard := none }) (v := ?_) rfl (by kernel_rfl) (by kernel_rfl) (by kernel_rfl) (fun _ _ _ h => h) (Or.inl ⟨by rfl, ?_⟩) (by assumption) ?_
    rotate_left
    · (intro w hSw; (try dsimp only at hSw); (go_simp <;> with_reducible rfl))
    try simp only [Act.put, List.setIfInBounds_toArray, List.set_cons_zero, List.set_cons_succ]
    refine wpAnyH_take (i := 9) (oi := { dst := some 53, op := Op.load 3 (Operand.tmp 52), type := 3, pos := "l4_greedy.go:80", after := #[{ on := 8, ground := Ground.data }], guard := none }) (v := ?_) rfl (by kernel_rfl) (by kernel_rfl) (by kernel_rfl) (fun _ _ _ h => h) (Or.inl ⟨by rfl, ?_⟩) (by assumption) ?_
    rotate_left
    · (intro w hSw; (try dsimp only at hSw); (go_simp <;> with_reducible rfl))
    try simp only [Act.put, List.setIfInBounds_toArray, List.set_cons_zero, List.set_cons_succ]
    refine wpAnyH_take (i := 10) (oi := { dst := some 54, op := Op.binOp BinOp.add 3 (Operand.tmp 51) (Operand.tmp 53) 3, type := 3, pos := "l4_greedy.go:80", after := #[{ on := 7, ground := Ground.data }, { on := 9, ground := Ground.data }], guard := none }) (v := ?_) rfl (by kernel_rfl) (by kernel_rfl) (by kernel_rfl) (fun _ _ _ h => h) (Or.inl ⟨by rfl, ?_⟩) (by assumption) ?_
    rotate_left
    · (intro w hSw; (try dsimp only at hSw); (go_simp <;> with_reducible rfl))
    try simp only [Act.put, List.setIfInBounds_toArray, List.set_cons_zero, List.set_cons_succ]
    refine wpAnyH_take (i := 11) (oi := { dst := some 55, op := Op.build 163 #[(0, Operand.tmp 49), (1, Operand.tmp 54)], type := 163, pos := "l4_greedy.go:80", after := #[{ on := 5, ground := Ground.data }, { on := 10, ground := Ground.data }], guard := none }) (v := ?_) rfl (by kernel_rfl) (by kernel_rfl) (by kernel_rfl) (fun _ _ _ h => h) (Or.inl ⟨by rfl, ?_⟩) (by assumption) ?_
    rotate_left
    · (intro w hSw; (try dsimp only at hSw); (go_simp <;> with_reducible rfl))
    try simp only [Act.put, List.setIfInBounds_toArray, List.set_cons_zero, List.set_cons_succ]
    refine wpAnyH_ready (rs := [4, 12]) (by kernel_rfl) (by simp) ?_
    refine AllReadyH.cons (o := { dst := some 48, op := Op.load 115 (Operand.tmp 47), type := 115, pos := "l4_greedy.go:80", after := #[{ on := 3, ground := Ground.data }], guard := none }) rfl (fun K hK => ?_) ?_
    · go_simp
      refine hK.out _ _ ?_ (fun hHeld4 => ?_)
      · exact hHeld
      clear hK K hHeld
      try simp only [Act.put, List.setIfInBounds_toArray, List.set_cons_zero, List.set_cons_succ]
      refine wpAnyH_ready (rs := [12]) (by kernel_rfl) (by simp) ?_
      refine AllReadyH.cons (o := { dst := some 56, op := Op.buildSlice 115 1 #[(0, Operand.tmp 55)], type := 115, pos := "l4_greedy.go:80", after := #[{ on := 11, ground := Ground.data }], guard := none }) rfl (fun K hK => ?_) AllReadyH.nil
      have c1b := fun (ob : Obj) => (((Below.refl D.heap.size D).alloc (Nat.le_refl _) ob).cell (p := ⟨b, 5, none⟩) hbD).trans c1
      have hSb := fun (ob : Obj) => held_s (HVD.out.ext ((Below.refl D.heap.size D).alloc (Nat.le_refl _) ob)) (kid_alloc HKD.out ob)
      go_simp
      refine hK.out _ _ ?_ (fun hHeld12 => ?_)
      · exact hSb _
      clear hK K hHeld4
      try simp only [Act.put, List.setIfInBounds_toArray, List.set_cons_zero, List.set_cons_succ]
      refine wpAnyH_ready (rs := [13]) (by kernel_rfl) (by simp) ?_
      refine AllReadyH.cons (o := { dst := some 57, op := Op.call { callee := Callee.builtin Builtin.append, args := #[Operand.tmp 48, Operand.tmp 56], argTypes := #[115, 115] }, type := 115, pos := "l4_greedy.go:80", after := #[{ on := 4, ground := Ground.data }, { on := 12, ground := Ground.data }], guard := none }) rfl (fun K hK => ?_) AllReadyH.nil
      refine wp_append_lies _ (.tmp 48) (.tmp 56) 115 (by rfl) B 163 i0 z0 5 64 Try.underlying115 HI.out.1 HI.out.2.1 HI.out.2.2.1 HI.out.2.2.2.1 HI.out.2.2.2.2 (by omega) (.slice ar N cr) N xs (by rfl) (hownD.alloc _) ⟨D.heap.size, 0, none⟩ 1 1 [.int .i64 o1, .int .i64 n1, .string t1, .slice a1 k1.len cap1, .int .i64 (i + m)] (by rfl) rfl (five_news D o1 n1 (i + m) t1 _ _) (by simp [Value.oneCell']) (by omega) (by unfold maxLen; omega) (by omega) (Nat.le_trans hzD (by simp)) (D.heap.size + 1) (by simp) ?_
      intro g5 cap5 w5 hown5 hgrow5 hat5 hlt5
      obtain ⟨k5, kz, hset⟩ := HFD.out.append_item (y := ⟨i + m, o1, n1, t1, k1⟩) ⟨xs, rfl, HXS.out⟩ HITV.out hgrow5 HNN.out hown5
      have hrw5 := grown_rows hgrow5 (hownD.alloc _)
      have hV5 : Vars b ⟨i, 8, m, t, k⟩ a cap w.heap.size w5 := (HVD.out.ext ((Below.refl D.heap.size D).alloc (Nat.le_refl _) _)).grown hgrow5 (own_block (hownD.alloc _)) (fun e => HNR.out _ e rfl)
      have hK5 := (kid_alloc HKD.out _).grown hgrow5 (own_block (hownD.alloc _))
      have hS5 := held_s hV5 hK5
      have HSET := Lib.hid hset
      have HV5 := Lib.hid (And.intro hV5 hK5)
      have H5 := Lib.hid (And.intro (below_append hgrow5 hownD hzD) (And.intro (kept_append (ts := [163]) (b := b) hgrow5 hownD (by decide)) (And.intro ((KeepsOthers.alloc D _).trans (KeepsOthers.of_grownBy hgrow5 hrw5)) (And.intro (own_new (N := N + 1) (cap5 := cap5) (hownD.alloc _) hgrow5 hat5) hlt5))))
      clear hset hgrow5 hown5 hat5 hV5 hK5 hrw5
      refine hK.out _ _ ?_ (fun hHeld13 => ?_)
      · exact hS5
      clear hK K hHeld12
      try simp only [Act.put, List.setIfInBounds_toArray, List.set_cons_zero, List.set_cons_succ]
      refine wpAnyH_take (i := 14) (oi := { dst := some 58, op := Op.nilCheck (Operand.tmp 44), type := 0, pos := "l4_greedy.go:80", after := #[{ on := 0, ground := Ground.data }, { on := 0, ground := Ground.phase }, { on := 1, ground := Ground.phase }, { on := 2, ground := Ground.phase }, { on := 3, ground := Ground.phase }, { on := 4, ground := Ground.phase }, { on := 5, ground := Ground.phase }, { on := 6, ground := Ground.phase }, { on := 7, ground := Ground.phase }, { on := 8, ground := Ground.phase }, { on := 9, ground := Ground.phase }, { on := 10, ground := Ground.phase }, { on := 11, ground := Ground.phase }, { on := 12, ground := Ground.phase }, { on := 13, ground := Ground.phase }], guard := none }) (v := ?_) rfl (by kernel_rfl) (by kernel_rfl) (by kernel_rfl) (fun _ _ _ h => h) (Or.inl ⟨by rfl, ?_⟩) (by assumption) ?_
      rotate_left
      · (intro w hSw; (try dsimp only at hSw); (go_simp <;> with_reducible rfl))
      try simp only [Act.put, List.setIfInBounds_toArray, List.set_cons_zero, List.set_cons_succ]
      refine wpAnyH_take (i := 15) (oi := { dst := some 59, op := Op.fieldAddr 118 (Operand.tmp 58) 1, type := 0, pos := "l4_greedy.go:80", after := #[{ on := 14, ground := Ground.data }, { on := 0, ground := Ground.phase }, { on := 1, ground := Ground.phase }, { on := 2, ground := Ground.phase }, { on := 3, ground := Ground.phase }, { on := 4, ground := Ground.phase }, { on := 5, ground := Ground.phase }, { on := 6, ground := Ground.phase }, { on := 7, ground := Ground.phase }, { on := 8, ground := Ground.phase }, { on := 9, ground := Ground.phase }, { on := 10, ground := Ground.phase }, { on := 11, ground := Ground.phase }, { on := 12, ground := Ground.phase }, { on := 13, ground := Ground.phase }], guard := none }) (v := ?_) rfl (by kernel_rfl) (by kernel_rfl) (by kernel_rfl) (fun _ _ _ h => h) (Or.inl ⟨by rfl, ?_⟩) (by assumption) ?_
      rotate_left
      · (intro w hSw; (try dsimp only at hSw); (go_simp <;> with_reducible rfl))
      try simp only [Act.put, List.setIfInBounds_toArray, List.set_cons_zero, List.set_cons_succ]
      refine wpAnyH_ready (rs := [16]) (by kernel_rfl) (by simp) ?_
      refine AllReadyH.cons (o := { dst := none, op := Op.store 115 (Operand.tmp 59) (Operand.tmp 57), type := 0, pos := "l4_greedy.go:80", after := #[{ on := 15, ground := Ground.data }, { on := 13, ground := Ground.data }, { on := 13, ground := Ground.chain }, { on := 0, ground := Ground.phase }, { on := 1, ground := Ground.phase }, { on := 2, ground := Ground.phase }, { on := 3, ground := Ground.phase }, { on := 4, ground := Ground.phase }, { on := 5, ground := Ground.phase }, { on := 6, ground := Ground.phase }, { on := 7, ground := Ground.phase }, { on := 8, ground := Ground.phase }, { on := 9, ground := Ground.phase }, { on := 10, ground := Ground.phase }, { on := 11, ground := Ground.phase }, { on := 12, ground := Ground.phase }, { on := 13, ground := Ground.phase }], guard := none }) rfl (fun K hK => ?_) AllReadyH.nil
      go_simp
      refine hK.out _ _ ?_ (fun hHeld16 => ?_)
      · exact held_s (HV5.out.1.set HBR.out 5 _) (HV5.out.2.set HBK2.out 5 _)
      clear hK K hHeld13
      try simp only [Act.put, List.setIfInBounds_toArray, List.set_cons_zero, List.set_cons_succ]
      refine wpAnyH_done (by kernel_rfl) ?_ _
      gi_wp2_with fail
      have hset := HSET.out
      have hbD5 := HBD.out.2.1.trans (H5.out.1.setCell (p := ⟨b, 5, none⟩) HBR2.out (.slice (some ⟨g5, 0, none⟩) (N + 1) cap5))
      refine ⟨(HBD.out.2.2.trans H5.out.2.2.1).trans (KeepsOthers.setCell _ _ _), ?_, ⟨⟨_, .cons o1 n1 t1 k1 r1, p', HSP.out, HLN.out, hset, fun q hq => ?_⟩, HV5.out.1.set HBR.out 5 _, HBOX.out _ (H5.out.2.1.trans (kept_set [163] b 5 _ _)), hbD5⟩⟩
      · exact HKP.out _ (H5.out.1.setCell (p := ⟨b, 5, none⟩) HBR2.out _) (H5.out.2.1.trans (kept_set [163] b 5 _ _))
      · exact HNQ.out q (H5.out.2.2.2.1 q hq)
    refine AllReadyH.cons (o := { dst := some 56, op := Op.buildSlice 115 1 #[(0, Operand.tmp 55)], type := 115, pos := "l4_greedy.go:80", after := #[{ on := 11, ground := Ground.data }], guard := none }) rfl (fun K hK => ?_) AllReadyH.nil
    have c1b := fun (ob : Obj) => (((Below.refl D.heap.size D).alloc (Nat.le_refl _) ob).cell (p := ⟨b, 5, none⟩) hbD).trans c1
    have hSb := fun (ob : Obj) => held_s (HVD.out.ext ((Below.refl D.heap.size D).alloc (Nat.le_refl _) ob)) (kid_alloc HKD.out ob)
    go_simp
    refine hK.out _ _ ?_ (fun hHeld12 => ?_)
    · exact hSb _
    clear hK K hHeld
    try simp only [Act.put, List.setIfInBounds_toArray, List.set_cons_zero, List.set_cons_succ]
    refine wpAnyH_ready (rs := [4]) (by kernel_rfl) (by simp) ?_
    refine AllReadyH.cons (o := { dst := some 48, op := Op.load 115 (Operand.tmp 47), type := 115, pos := "l4_greedy.go:80", after := #[{ on := 3, ground := Ground.data }], guard := none }) rfl (fun K hK => ?_) AllReadyH.nil
    go_simp
    refine hK.out _ _ ?_ (fun hHeld4 => ?_)
    · exact hSb _
    clear hK K hHeld12
    try simp only [Act.put, List.setIfInBounds_toArray, List.set_cons_zero, List.set_cons_succ]
    refine wpAnyH_ready (rs := [13]) (by kernel_rfl) (by simp) ?_
    refine AllReadyH.cons (o := { dst := some 57, op := Op.call { callee := Callee.builtin Builtin.append, args := #[Operand.tmp 48, Operand.tmp 56], argTypes := #[115, 115] }, type := 115, pos := "l4_greedy.go:80", after := #[{ on := 4, ground := Ground.data }, { on := 12, ground := Ground.data }], guard := none }) rfl (fun K hK => ?_) AllReadyH.nil
    refine wp_append_lies _ (.tmp 48) (.tmp 56) 115 (by rfl) B 163 i0 z0 5 64 Try.underlying115 HI.out.1 HI.out.2.1 HI.out.2.2.1 HI.out.2.2.2.1 HI.out.2.2.2.2 (by omega) (.slice ar N cr) N xs (by rfl) (hownD.alloc _) ⟨D.heap.size, 0, none⟩ 1 1 [.int .i64 o1, .int .i64 n1, .string t1, .slice a1 k1.len cap1, .int .i64 (i + m)] (by rfl) rfl (five_news D o1 n1 (i + m) t1 _ _) (by simp [Value.oneCell']) (by omega) (by unfold maxLen; omega) (by omega) (Nat.le_trans hzD (by simp)) (D.heap.size + 1) (by simp) ?_
    intro g5 cap5 w5 hown5 hgrow5 hat5 hlt5
    obtain ⟨k5, kz, hset⟩ := HFD.out.append_item (y := ⟨i + m, o1, n1, t1, k1⟩) ⟨xs, rfl, HXS.out⟩ HITV.out hgrow5 HNN.out hown5
    have hrw5 := grown_rows hgrow5 (hownD.alloc _)
    have hV5 : Vars b ⟨i, 8, m, t, k⟩ a cap w.heap.size w5 := (HVD.out.ext ((Below.refl D.heap.size D).alloc (Nat.le_refl _) _)).grown hgrow5 (own_block (hownD.alloc _)) (fun e => HNR.out _ e rfl)
    have hK5 := (kid_alloc HKD.out _).grown hgrow5 (own_block (hownD.alloc _))
    have hS5 := held_s hV5 hK5
    have HSET := Lib.hid hset
    have HV5 := Lib.hid (And.intro hV5 hK5)
    have H5 := Lib.hid (And.intro (below_append hgrow5 hownD hzD) (And.intro (kept_append (ts := [163]) (b := b) hgrow5 hownD (by decide)) (And.intro ((KeepsOthers.alloc D _).trans (KeepsOthers.of_grownBy hgrow5 hrw5)) (And.intro (own_new (N := N + 1) (cap5 := cap5) (hownD.alloc _) hgrow5 hat5) hlt5))))
    clear hset hgrow5 hown5 hat5 hV5 hK5 hrw5
    refine hK.out _ _ ?_ (fun hHeld13 => ?_)
    · exact hS5
    clear hK K hHeld4
    try simp only [Act.put, List.setIfInBounds_toArray, List.set_cons_zero, List.set_cons_succ]
    refine wpAnyH_take (i := 14) (oi := { dst := some 58, op := Op.nilCheck (Operand.tmp 44), type := 0, pos := "l4_greedy.go:80", after := #[{ on := 0, ground := Ground.data }, { on := 0, ground := Ground.phase }, { on := 1, ground := Ground.phase }, { on := 2, ground := Ground.phase }, { on := 3, ground := Ground.phase }, { on := 4, ground := Ground.phase }, { on := 5, ground := Ground.phase }, { on := 6, ground := Ground.phase }, { on := 7, ground := Ground.phase }, { on := 8, ground := Ground.phase }, { on := 9, ground := Ground.phase }, { on := 10, ground := Ground.phase }, { on := 11, ground := Ground.phase }, { on := 12, ground := Ground.phase }, { on := 13, ground := Ground.phase }], guard := none }) (v := ?_) rfl (by kernel_rfl) (by kernel_rfl) (by kernel_rfl) (fun _ _ _ h => h) (Or.inl ⟨by rfl, ?_⟩) (by assumption) ?_
    rotate_left
    · (intro w hSw; (try dsimp only at hSw); (go_simp <;> with_reducible rfl))
    try simp only [Act.put, List.setIfInBounds_toArray, List.set_cons_zero, List.set_cons_succ]
    refine wpAnyH_take (i := 15) (oi := { dst := some 59, op := Op.fieldAddr 118 (Operand.tmp 58) 1, type := 0, pos := "l4_greedy.go:80", after := #[{ on := 14, ground := Ground.data }, { on := 0, ground := Ground.phase }, { on := 1, ground := Ground.phase }, { on := 2, ground := Ground.phase }, { on := 3, ground := Ground.phase }, { on := 4, ground := Ground.phase }, { on := 5, ground := Ground.phase }, { on := 6, ground := Ground.phase }, { on := 7, ground := Ground.phase }, { on := 8, ground := Ground.phase }, { on := 9, ground := Ground.phase }, { on := 10, ground := Ground.phase }, { on := 11, ground := Ground.phase }, { on := 12, ground := Ground.phase }, { on := 13, ground := Ground.phase }], guard := none }) (v := ?_) rfl (by kernel_rfl) (by kernel_rfl) (by kernel_rfl) (fun _ _ _ h => h) (Or.inl ⟨by rfl, ?_⟩) (by assumption) ?_
    rotate_left
    · (intro w hSw; (try dsimp only at hSw); (go_simp <;> with_reducible rfl))
    try simp only [Act.put, List.setIfInBounds_toArray, List.set_cons_zero, List.set_cons_succ]
    refine wpAnyH_ready (rs := [16]) (by kernel_rfl) (by simp) ?_
    refine AllReadyH.cons (o := { dst := none, op := Op.store 115 (Operand.tmp 59) (Operand.tmp 57), type := 0, pos := "l4_greedy.go:80", after := #[{ on := 15, ground := Ground.data }, { on := 13, ground := Ground.data }, { on := 13, ground := Ground.chain }, { on := 0, ground := Ground.phase }, { on := 1, ground := Ground.phase }, { on := 2, ground := Ground.phase }, { on := 3, ground := Ground.phase }, { on := 4, ground := Ground.phase }, { on := 5, ground := Ground.phase }, { on := 6, ground := Ground.phase }, { on := 7, ground := Ground.phase }, { on := 8, ground := Ground.phase }, { on := 9, ground := Ground.phase }, { on := 10, ground := Ground.phase }, { on := 11, ground := Ground.phase }, { on := 12, ground := Ground.phase }, { on := 13, ground := Ground.phase }], guard := none }) rfl (fun K hK => ?_) AllReadyH.nil
    go_simp
    refine hK.out _ _ ?_ (fun hHeld16 => ?_)
    · exact held_s (HV5.out.1.set HBR.out 5 _) (HV5.out.2.set HBK2.out 5 _)
    clear hK K hHeld13
    try simp only [Act.put, List.setIfInBounds_toArray, List.set_cons_zero, List.set_cons_succ]
    refine wpAnyH_done (by kernel_rfl) ?_ _
    gi_wp2_with fail
    have hset := HSET.out
    have hbD5 := HBD.out.2.1.trans (H5.out.1.setCell (p := ⟨b, 5, none⟩) HBR2.out (.slice (some ⟨g5, 0, none⟩) (N + 1) cap5))
    refine ⟨(HBD.out.2.2.trans H5.out.2.2.1).trans (KeepsOthers.setCell _ _ _), ?_, ⟨⟨_, .cons o1 n1 t1 k1 r1, p', HSP.out, HLN.out, hset, fun q hq => ?_⟩, HV5.out.1.set HBR.out 5 _, HBOX.out _ (H5.out.2.1.trans (kept_set [163] b 5 _ _)), hbD5⟩⟩
    · exact HKP.out _ (H5.out.1.setCell (p := ⟨b, 5, none⟩) HBR2.out _) (H5.out.2.1.trans (kept_set [163] b 5 _ _))
    · exact HNQ.out q (H5.out.2.2.2.1 q hq)
  case done =>
    rintro D A Y hD ⟨⟨Fz, g, p, h1, h2, h3, h4⟩, h5, h6, h7⟩ ⟨B', hE, hT⟩ hK
    replace h1 : k = p.app g := h1
    have hp : p = .nil := F.len_eq_zero (by have := congrArg F.len h1; rw [F.len_app] at this; omega)
    subst hp
    obtain rfl : k = g := h1
    have hFY := (h3.below hE).turn hT
    have hbY : Below B w Y := (h7.trans (hE.mono (by have := h7.size; omega))).trans (hT.below (by omega))
    have hT2 : Turn W0.heap.size Y (Y.putObj D (.deferred none)) := turn_put _ hK rfl hD
    have HFY := Lib.hid (And.intro (hFY.turn hT2) (hbY.trans (hT2.below (by omega))))
    clear hFY hbY hT2 h3 h4 h5 h6 h7 hE hT h2
    go_wp2_with fail
    exact leave_mark hK (results_none rfl _ _ _) ⟨rfl, ⟨_, HFY.out.1⟩, HFY.out.2⟩
  case stop =>
    rintro D c A Y _ h _ _
    exact h.elim

theorem layOut_else {w0 w : World} {B b : Nat} {W : Int} {its : List Itm} {s : St} {d : Nat} {i m : Int} {t : ByteArray} {k : F} {a : Option Addr} {cap : Nat} (hB0 : Below B w0 w) (hBw0 : B ≤ w0.heap.size) (h : RS w0 B b W its s w) (hn : s.flags.length ≤ 1000000) (hi0 : 0 ≤ s.ind) (hi1 : s.ind ≤ 1000000) (ht : s.txt.size ≤ 4194304) (hW0 : 0 ≤ W) (hW1 : W ≤ 1000000)
    (hlen : its.length + k.len ≤ 4194304) (hsz : ∀ x ∈ its, x.t.size + x.k.size ≤ 4194304) (hsum : ldI its ≤ 4194304)
    (hk : KidsIn w0 B k a cap) {o : Int} (hok : okD d o m t k = true) (hnl : nl o = false) (h8 : (o == 8) = false) (hks : t.size + k.size ≤ 4194304) (hy0 : 0 ≤ i) (hy1 : i ≤ 1000000) (hm0 : 0 ≤ m) (hm1 : m ≤ 1000000) :
    Calls Try.prog 156 #[.pointer (some ⟨b, 0, none⟩), .agg #[.int .i64 o, .int .i64 m, .string t, .slice a k.len cap, .int .i64 i]] w fun e w' => e = .returned (.tuple #[]) ∧ RS w0 B b W (kidsI k (i + m) ++ its) (s.put t) w' ∧ Below B w w' := by
  have hB : B ≤ w.heap.size := Nat.le_trans hBw0 hB0.size
  have hbl : b < w.heap.size := by obtain ⟨F, hF⟩ := h; exact hF.cells.2.2.2.2.2.2.1
  have hBb : B ≤ b := by obtain ⟨F, hF⟩ := h; exact hF.cells.2.2.2.2.2.2.2
  have HIS := Lib.hid (fun w' => isNewline w' o)
  rw [show nl o = false from hnl] at HIS
  obtain ⟨V, hV⟩ : ∃ V, ((w.alloc (.cells #[.pointer (some ⟨b, 0, none⟩)] 107)).alloc (.cells #[.int .i64 o, .int .i64 m, .string t, .slice a k.len cap, .int .i64 i] 163)).alloc (.cells #[.int .i64 o, .int .i64 m, .string t, .slice a k.len cap] 29) = V := ⟨_, rfl⟩
  have hE : Ext w V := by rw [← hV]; exact (((Ext.refl w).alloc _).alloc _).alloc _
  have hVV := Vars.new b ⟨i, o, m, t, k⟩ a cap w
  simp only [hV] at hVV
  have hBV : Below B w V := (Below.refl B w).trans (hE.mono hB)
  have HKID := Lib.hid hk
  have hkl : k.len ≤ 4194304 := by omega
  obtain ⟨⟨fa, fr, fl, fi, fg⟩, hF⟩ := h
  have HF := Lib.hid hF
  have HNB := Lib.hid (show ∀ q, fr.ownBlock = some q → q < w.heap.size from fun q hq => by obtain ⟨xs, x1, _⟩ := hF.rest; exact (x1.lt q hq).2)
  obtain ⟨hcap, fs, hs, hfs⟩ := hk
  have HWF' := Lib.hid (fun (F : Fs) (W' : World) (h2 : B ≤ W'.heap.size) (h3 : Holds B b F s.txt.data.toList W') => writeString B b F s.txt.data.toList t W' h3 (by rw [len_text]; omega) (by omega) h2)
  refine calls_marks Try.func156 rfl ?_
  simp only [Try.ntmps156, List.size_toArray, List.length_cons, List.length_nil, Nat.reduceAdd, Nat.reduceSub, Array.replicate_succ, Array.replicate_zero, List.push_toArray, List.append_toArray, List.nil_append, List.cons_append]
  obtain ⟨v0, ⟨v1, v2, v3, v4, v5⟩, u1, u2, u3, u4⟩ := hVV.cells
  have HV := Lib.hid (And.intro hVV hBV)
  have HE := Lib.hid hE
  have HB := Lib.hid (And.intro hbl hBb)
  clear hVV hE hbl hBb hBV hs hfs hok hsz hF hnl
  go_wp2_with fail
  refine (HIS.out _).mono ?_
  rintro e1 w1 ⟨rfl, hw1⟩
  rw [hw1]
  clear hV hw1
  go_wp2_with fail
  have HV2 := Lib.hid (show Vars b ⟨i, o, m, t, k⟩ a cap w.heap.size V.drew from HV.out.1)
  have H2 := Lib.hid (And.intro ((HF.out.below HE.out).below (Below.refl _ _).drew) HV.out.2.drew)
  clear v0 v1 v2 v3 v4 v5 u1 u2 u3 u4
  obtain ⟨v0, ⟨_, _, _, _, v5⟩, u1, u2, u3, u4⟩ := HV2.out.cells
  have HWF := Lib.hid (HWF'.out _ V.drew (Nat.le_trans hB H2.out.2.size) H2.out.1.hold)
  have HBK := Lib.hid (backK a k.len cap)
  refine wp_region_noPanic ?_
  refine wp_region_held_drew (S := (fun w' => w'.cell? ⟨w.heap.size, 0, none⟩ = some (.pointer (some ⟨b, 0, none⟩)) ∧ w'.cell? ⟨w.heap.size + 1 + 1, 2, none⟩ = some (.string t))) (by kernel_rfl) ?_ (fun hHeld => ?_)
  · exact ⟨v0, u3⟩
  refine wpAnyH_take (i := 0) (oi := { dst := some 32, op := Op.load 107 (Operand.tmp 2), type := 107, pos := "l4_greedy.go:78", after := #[], guard := none }) (v := ?_) rfl (by kernel_rfl) (by kernel_rfl) (by kernel_rfl) (fun _ _ _ h => h) (Or.inl ⟨by rfl, ?_⟩) (by assumption) ?_
  rotate_left
  · (intro w hSw; (try dsimp only at hSw); (go_simp <;> with_reducible rfl))
  try simp only [Act.put, List.setIfInBounds_toArray, List.set_cons_zero, List.set_cons_succ]
  refine wpAnyH_take (i := 1) (oi := { dst := some 33, op := Op.nilCheck (Operand.tmp 32), type := 0, pos := "l4_greedy.go:78", after := #[{ on := 0, ground := Ground.data }], guard := none }) (v := ?_) rfl (by kernel_rfl) (by kernel_rfl) (by kernel_rfl) (fun _ _ _ h => h) (Or.inl ⟨by rfl, ?_⟩) (by assumption) ?_
  rotate_left
  · (intro w hSw; (try dsimp only at hSw); (go_simp <;> with_reducible rfl))
  try simp only [Act.put, List.setIfInBounds_toArray, List.set_cons_zero, List.set_cons_succ]
  refine wpAnyH_take (i := 2) (oi := { dst := some 34, op := Op.fieldAddr 118 (Operand.tmp 33) 0, type := 0, pos := "l4_greedy.go:78", after := #[{ on := 1, ground := Ground.data }], guard := none }) (v := ?_) rfl (by kernel_rfl) (by kernel_rfl) (by kernel_rfl) (fun _ _ _ h => h) (Or.inl ⟨by rfl, ?_⟩) (by assumption) ?_
  rotate_left
  · (intro w hSw; (try dsimp only at hSw); (go_simp <;> with_reducible rfl))
  try simp only [Act.put, List.setIfInBounds_toArray, List.set_cons_zero, List.set_cons_succ]
  refine wpAnyH_take (i := 3) (oi := { dst := some 35, op := Op.fieldAddr 114 (Operand.tmp 34) 3, type := 0, pos := "l4_greedy.go:78", after := #[{ on := 2, ground := Ground.data }], guard := none }) (v := ?_) rfl (by kernel_rfl) (by kernel_rfl) (by kernel_rfl) (fun _ _ _ h => h) (Or.inl ⟨by rfl, ?_⟩) (by assumption) ?_
  rotate_left
  · (intro w hSw; (try dsimp only at hSw); (go_simp <;> with_reducible rfl))
  try simp only [Act.put, List.setIfInBounds_toArray, List.set_cons_zero, List.set_cons_succ]
  refine wpAnyH_take (i := 4) (oi := { dst := some 36, op := Op.fieldAddr 29 (Operand.tmp 4) 2, type := 0, pos := "l4_greedy.go:78", after := #[], guard := none }) (v := ?_) rfl (by kernel_rfl) (by kernel_rfl) (by kernel_rfl) (fun _ _ _ h => h) (Or.inl ⟨by rfl, ?_⟩) (by assumption) ?_
  rotate_left
  · (intro w hSw; (try dsimp only at hSw); (go_simp <;> with_reducible rfl))
  try simp only [Act.put, List.setIfInBounds_toArray, List.set_cons_zero, List.set_cons_succ]
  refine wpAnyH_take (i := 5) (oi := { dst := some 37, op := Op.load 9 (Operand.tmp 36), type := 9, pos := "l4_greedy.go:78", after := #[{ on := 4, ground := Ground.data }], guard := none }) (v := ?_) rfl (by kernel_rfl) (by kernel_rfl) (by kernel_rfl) (fun _ _ _ h => h) (Or.inl ⟨by rfl, ?_⟩) (by assumption) ?_
  rotate_left
  · (intro w hSw; (try dsimp only at hSw); (go_simp <;> with_reducible rfl))
  try simp only [Act.put, List.setIfInBounds_toArray, List.set_cons_zero, List.set_cons_succ]
  refine wpAnyH_ready (rs := [6]) (by kernel_rfl) (by simp) ?_
  refine AllReadyH.cons (o := { dst := some 38, op := Op.call { callee := Callee.value (Operand.func 190), args := #[Operand.tmp 35, Operand.tmp 37], argTypes := #[112, 9] }, type := 188, pos := "l4_greedy.go:78", after := #[{ on := 3, ground := Ground.data }, { on := 5, ground := Ground.data }], guard := none }) rfl (fun K hK => ?_) AllReadyH.nil
  go_simp
  go_at_call 190
  refine HWF.out.mono ?_
  rintro e3 w3 ⟨rfl, hw3⟩
  have hV3 := HV2.out.kept HB.out.1 (kept_others (ts := [5]) hw3.2.2 (by decide)) (by decide) (by decide) (by decide)
  obtain ⟨x0, ⟨_, _, _, _, x5⟩, y1, y2, y3, y4⟩ := hV3.cells
  have H3 := Lib.hid (And.intro (H2.out.1.wrote (t := s.txt ++ t) hw3 (by simp [St.flag])) (H2.out.2.trans hw3.2.1))
  have HV3 := Lib.hid hV3
  clear hw3 hV3
  try go_wp2_with fail
  refine hK.out _ _ ?_ (fun hHeld6 => ?_)
  · exact ⟨x0, y3⟩
  clear hK K hHeld
  try simp only [Act.put, List.setIfInBounds_toArray, List.set_cons_zero, List.set_cons_succ]
  refine wpAnyH_done (by kernel_rfl) ?_ _
  refine NoPanic.normal ?_
  clear v0 v5 u1 u2 u3 u4
  go_wp2_with fail
  refine (HBK.out _).mono ?_
  rintro e4 w4 ⟨rfl, rfl⟩
  go_wp2_with fail
  obtain ⟨W0, hW0⟩ : ∃ x, w3.alloc (.cells #[.slice a k.len cap] 27) = x := ⟨_, rfl⟩
  have hz : W0.heap.size = w3.heap.size + 1 := by rw [← hW0]; simp
  have hE0 : Ext w3 W0 := by rw [← hW0]; exact (Ext.refl _).alloc _
  have hX0 : Boxed W0 w3.heap.size 27 (.slice a k.len cap) := by rw [← hW0]; exact Boxed.new _ _ _
  try rw [hW0]
  clear hW0
  have hB3 := H3.out.2
  have hz3 := hB3.size
  have hbw3 : b < w.heap.size := HB.out.1
  have hr3 : w.heap.size + 1 + 1 < w3.heap.size := (Array.getElem?_eq_some_iff.1 HV3.out.2.2).1
  refine wpIn_wide.1 (rangeFunc_gives2 (n := 7) (gf := 171) (lb := #[.pointer (some ⟨w3.heap.size, 0, none⟩)]) (X := XK w0 B k) (Pc := fun c => c < B ∨ c = w3.heap.size) (N := k.len) ?g0 (enters_of Try.func171 (by kernel_rfl) rfl) (by omega) (backKids ((hB0.trans hB3).trans (hE0.mono (by omega))) HKID.out hX0.cell hkl) (fun c hc => by omega) (fun k args A W hX => by obtain ⟨q, p, o1, n1, t1, k1, r1, a1, cap1, _, _, _, rfl, _⟩ := hX; rfl)
    (fun j A => LoI w0 B b W its (s.put t) ⟨i, o, m, t, k⟩ a cap w.heap.size w3.heap.size w j A)
    (fun _ _ => False)
    (fun j A C ⟨⟨F, g, p, h1, h2, h3, h4⟩, h5, h6, h7⟩ hA hT => ⟨⟨F, g, p, h1, h2, h3.turn hT, h4⟩, h5.turn hT, hT.boxed h6, h7.trans (hT.below (by omega))⟩)
    (fun A C ⟨⟨F, g, p, h1, h2, h3, h4⟩, h5, h6, h7⟩ hE => ⟨⟨F, g, p, h1, h2, h3.below hE, h4⟩, h5.ext hE, (hE.block _ h6.lt).trans h6, h7.trans (hE.mono (by have := h7.size; omega))⟩)
    (fun _ _ _ h => h.elim)
    ⟨⟨_, .nil, k, (F.app_nil k).symm, rfl, H3.out.1.below hE0, fun q hq => by have := HNB.out q hq; omega⟩, HV3.out.ext hE0, hX0, hB3.trans (hE0.mono (by omega))⟩
    (fun args Y => { tmps := #[Value.pointer (some { block := b, off := 0 }), Value.agg #[Value.int IntKind.i64 o, Value.int IntKind.i64 m, Value.string t, Value.slice a k.len cap, Value.int IntKind.i64 i], Value.pointer (some { block := w.heap.size, off := 0 }), Value.pointer (some { block := w.heap.size + 1, off := 0 }), Value.pointer (some { block := w.heap.size + 1 + 1, off := 0 }), undef, .pointer (some ⟨Y.heap.size, 0, none⟩), Value.pointer (some { block := w.heap.size + 1, off := 0 }), Value.agg #[Value.int IntKind.i64 o, Value.int IntKind.i64 m, Value.string t, Value.slice a k.len cap], Value.pointer (some { block := w.heap.size + 1 + 1, off := 0 }), Value.int IntKind.i64 o, Value.bool false, undef, undef, undef, undef, undef, undef, Value.pointer (some { block := w.heap.size + 1 + 1, off := 0 }), Value.int IntKind.i64 o, Value.bool false, Value.bool false, undef, undef, undef, Value.bool false, undef, undef, undef, undef, undef, undef, Value.pointer (some { block := b, off := 0 }), Value.pointer (some { block := b, off := 0 }), Value.pointer (some { block := b, off := 0 }), Value.pointer (some { block := b, off := 3 }), Value.pointer (some { block := w.heap.size + 1 + 1, off := 2 }), Value.string t, Value.tuple #[Value.int IntKind.i64 ↑t.size, Value.nilIface], Value.pointer (some { block := w.heap.size + 1 + 1, off := 3 }), Value.slice a k.len cap, Value.func (Fn.func 171) #[] #[Value.pointer (some { block := w3.heap.size, off := 0 })], args.getD 0 undef, args.getD 1 undef, undef, undef, undef, undef, undef, undef, undef, undef, undef, undef, undef, undef, undef, undef, undef, undef], defers := [] })
    (fun args Y => Y.alloc (.cells (args.getD 1 undef).cells 29)) (fun args Y => (Ext.refl Y).alloc _) ?assign ?body ?done ?stop)
  case g0 => rfl
  case assign =>
    rintro l j args A Y K ⟨q, p', o1, n1, t1, k1, r1, a1, cap1, hsp, hpl, hq, rfl, hkid⟩ hK
    clear hsp hpl hq hkid
    gi_wp2_with fail
    exact hK
  case body =>
    rintro l j args A Wp Y hj hz1 ⟨⟨⟨fa4, fr4, fl4, fi4, fg4⟩, g, p, h1, h2, h3, h4⟩, h5, h6, h7⟩ hE ⟨q, p', o1, n1, t1, k1, r1, a1, cap1, hsp, hpl, hq, rfl, hkid⟩ hT
    have hA2 : Ext A (Wp.alloc (.cells #[.int .i64 o1, .int .i64 n1, .string t1, .slice a1 k1.len cap1] 29)) := hE.trans ((Ext.refl _).alloc _)
    have hlen1 : k.len = p'.len + (1 + r1.len) := by rw [hsp, F.len_app]; simp only [F.len]; omega
    obtain rfl : r1 = g := F.app_inj_right (p'.app (.cons o1 n1 t1 k1 .nil)) p (by rw [F.app_assoc, ← h1, hsp]; rfl) (by omega)
    obtain ⟨i0, z0, hi, hzz, hz1', hz2, hz3'⟩ := info_some info5
    have HI := Lib.hid (And.intro hi (And.intro hzz (And.intro hz1' (And.intro hz2 hz3'))))
    clear hi hzz hz1' hz2 hz3'
    obtain ⟨N, hNN⟩ : ∃ N, (kidsI r1 (i + m) ++ its).length = N := ⟨_, rfl⟩
    have hNl : N ≤ 4194304 := by rw [← hNN, List.length_append, kidsI_len]; omega
    obtain ⟨ar, cr, rfl, hcr⟩ : ∃ a cap, fr4 = .slice a N cap ∧ N ≤ cap := by obtain ⟨xs, x1, _⟩ := h3.rest; rw [← hNN]; exact own_slice x1
    have hFY := (h3.below hA2).turn hT
    have hVY := (h5.ext hA2).turn hT
    have hBY : Boxed Y w3.heap.size 27 (.slice a k.len cap) := hT.boxed ((hA2.block _ h6.lt).trans h6)
    have hbY : Below B w Y := (h7.trans (hA2.mono (by have := h7.size; omega))).trans (hT.below (by omega))
    have hKY : Kid Wp.heap.size o1 n1 t1 (.slice a1 k1.len cap1) Y := (hT.block (World.alloc_heap_new Wp _) rfl).trans (World.alloc_heap_new Wp _)
    have hAz := h6.lt
    have hWz : Wp.heap.size < Y.heap.size := (Array.getElem?_eq_some_iff.1 hKY).1
    have hEz := hE.size
    obtain ⟨D, hD⟩ : ∃ D, Y.drew = D := ⟨_, rfl⟩
    have hYD : Ext Y D := by rw [← hD]; exact (Below.refl _ _).drew
    have hFD := hFY.below hYD
    have hVD := hVY.ext hYD
    have hKD : Kid Wp.heap.size o1 n1 t1 (.slice a1 k1.len cap1) D := (hYD.block _ hWz).trans hKY
    have hS0 := held_s hVD hKD
    obtain ⟨_, c1, _, _, _, _, hbD, _⟩ := hFD.cells
    have hzD : B ≤ D.heap.size := by have := hbY.size; have := hYD.size; omega
    obtain ⟨xs, hown0, hitems⟩ := hFD.rest
    have hownD : D.ownsRow B 163 5 (.slice ar N cr) N xs := by rw [hNN] at hown0; exact hown0
    have HXS := Lib.hid hitems
    have HFD := Lib.hid hFD
    have HVD := Lib.hid hVD
    have HKD := Lib.hid hKD
    have HITV := Lib.hid (show ItV w0 B ⟨i + m, o1, n1, t1, k1⟩ [.int .i64 o1, .int .i64 n1, .string t1, .slice a1 k1.len cap1, .int .i64 (i + m)] from ⟨a1, cap1, rfl, hkid⟩)
    have HNN := Lib.hid (show N + 1 = (kidsI r1 (i + m) ++ its).length + 1 by rw [hNN])
    have HNR := Lib.hid (show ∀ q, (Value.slice ar N cr).ownBlock = some q → q = w.heap.size + 1 → False from fun q hq e => h4 q hq e)
    have HBR := Lib.hid hbw3
    have HBR2 := Lib.hid HB.out.2
    have HBK2 := Lib.hid (show b ≠ Wp.heap.size by omega)
    have HSP := Lib.hid hsp
    have HLN := Lib.hid (show (F.cons o1 n1 t1 k1 r1).len = j + 1 by simp only [F.len]; omega)
    have HBD := Lib.hid (And.intro trivial (And.intro (hbY.trans (hYD.mono (by have := hbY.size; omega))) (keeps_of_ext hYD)))
    have HKP := Lib.hid (show ∀ w', Below B D w' → KeptBut [163] b D w' → Keep (fun c => c < B ∨ c = w3.heap.size) Y w' from fun w' hbl hkb => keep_of hYD hBY (by omega) hbl hkb)
    have HBOX := Lib.hid (show ∀ w', KeptBut [163] b D w' → Boxed w' w3.heap.size 27 (.slice a k.len cap) from fun w' hkb => hkb _ _ _ _ ((hYD.block _ hBY.lt).trans hBY) (by omega) (by decide))
    have HNQ := Lib.hid (show ∀ q, ((Value.slice ar N cr).ownBlock = some q ∨ D.heap.size ≤ q) → q ≠ w.heap.size + 1 from fun q hq e => by
      rcases hq with hq | hq
      · exact h4 q hq e
      · have := hYD.size; omega)
    have hx0 : IntKind.i64.wrap (i + m) = i + m := by rw [IntKind.wrap_i64]; omega
    refine wpIn_block ?_
    refine region_in (S := (fun w' => w'.cell? ⟨w.heap.size, 0, none⟩ = some (.pointer (some ⟨b, 0, none⟩)) ∧ w'.cell? ⟨w.heap.size + 1, 4, none⟩ = some (.int .i64 i) ∧ w'.cell? ⟨w.heap.size + 1 + 1, 1, none⟩ = some (.int .i64 m) ∧ (w'.cell? ⟨Wp.heap.size, 0, none⟩ = some (.int .i64 o1) ∧ w'.cell? ⟨Wp.heap.size, 1, none⟩ = some (.int .i64 n1) ∧ w'.cell? ⟨Wp.heap.size, 2, none⟩ = some (.string t1) ∧ w'.cell? ⟨Wp.heap.size, 3, none⟩ = some (.slice a1 k1.len cap1)))) (by kernel_rfl) (by simp) (fun h => by obtain ⟨_, _, h⟩ := h; exact h) ?_ (fun hHeld => ?_)
    · rw [hD]; exact hS0
    rw [hD] at hHeld ⊢
    clear hD hFY hVY hBY hbY hKY hYD hFD hVD hKD hS0 hown0 hitems hkid h1 h3 h4 h5 h6 h7 hE hT hA2 hsp hNN hlen1 hpl hq h2 hj
    refine wpAnyH_take (i := 0) (oi := { dst := some 44, op := Op.load 107 (Operand.tmp 2), type := 107, pos := "l4_greedy.go:80", after := #[], guard := none }) (v := ?_) rfl (by kernel_rfl) (by kernel_rfl) (by kernel_rfl) (fun _ _ _ h => h) (Or.inl ⟨by rfl, ?_⟩) (by assumption) ?_
    rotate_left
    · (intro w hSw; (try dsimp only at hSw); (go_simp <;> with_reducible rfl))
    try simp only [Act.put, List.setIfInBounds_toArray, List.set_cons_zero, List.set_cons_succ]
    refine wpAnyH_take (i := 1) (oi := { dst := some 45, op := Op.load 107 (Operand.tmp 2), type := 107, pos := "l4_greedy.go:80", after := #[], guard := none }) (v := ?_) rfl (by kernel_rfl) (by kernel_rfl) (by kernel_rfl) (fun _ _ _ h => h) (Or.inl ⟨by rfl, ?_⟩) (by assumption) ?_
    rotate_left
    · (intro w hSw; (try dsimp only at hSw); (go_simp <;> with_reducible rfl))
    try simp only [Act.put, List.setIfInBounds_toArray, List.set_cons_zero, List.set_cons_succ]
    refine wpAnyH_take (i := 2) (oi := { dst := some 46, op := Op.nilCheck (Operand.tmp 45), type := 0, pos := "l4_greedy.go:80", after := #[{ on := 1, ground := Ground.data }], guard := none }) (v := ?_) rfl (by kernel_rfl) (by kernel_rfl) (by kernel_rfl) (fun _ _ _ h => h) (Or.inl ⟨by rfl, ?_⟩) (by assumption) ?_
    rotate_left
    · (intro w hSw; (try dsimp only at hSw); (go_simp <;> with_reducible rfl))
    try simp only [Act.put, List.setIfInBounds_toArray, List.set_cons_zero, List.set_cons_succ]
    refine wpAnyH_take (i := 3) (oi := { dst := some 47, op := Op.fieldAddr 118 (Operand.tmp 46) 1, type := 0, pos := "l4_greedy.go:80", after := #[{ on := 2, ground := Ground.data }], guard := none }) (v := ?_) rfl (by kernel_rfl) (by kernel_rfl) (by kernel_rfl) (fun _ _ _ h => h) (Or.inl ⟨by rfl, ?_⟩) (by assumption) ?_
    rotate_left
    · (intro w hSw; (try dsimp only at hSw); (go_simp <;> with_reducible rfl))
    try simp only [Act.put, List.setIfInBounds_toArray, List.set_cons_zero, List.set_cons_succ]
    refine wpAnyH_take (i := 5) (oi := { dst := some 49, op := Op.load 29 (Operand.tmp 6), type := 29, pos := "l4_greedy.go:80", after := #[], guard := none }) (v := ?_) rfl (by kernel_rfl) (by kernel_rfl) (by kernel_rfl) (fun _ _ _ h => h) (Or.inl ⟨by rfl, ?_⟩) (by assumption) ?_
    rotate_left
    · (intro w hSw; (try dsimp only at hSw); (go_simp <;> with_reducible rfl))
    try simp only [Act.put, List.setIfInBounds_toArray, List.set_cons_zero, List.set_cons_succ]
    refine wpAnyH_take (i := 6) (oi := { dst := some 50, op := Op.fieldAddr 163 (Operand.tmp 3) 1, type := 0, pos := "l4_greedy.go:80", after := #[], guard := none }) (v := ?_) rfl (by kernel_rfl) (by kernel_rfl) (by kernel_rfl) (fun _ _ _ h => h) (Or.inl ⟨by rfl, ?_⟩) (by assumption) ?_
    rotate_left
    · (intro w hSw; (try dsimp only at hSw); (go_simp <;> with_reducible rfl))
    try simp only [Act.put, List.setIfInBounds_toArray, List.set_cons_zero, List.set_cons_succ]
    refine wpAnyH_take (i := 7) (oi := { dst := some 51, op := Op.load 3 (Operand.tmp 50), type := 3, pos := "l4_greedy.go:80", after := #[{ on := 6, ground := Ground.data }], guard := none }) (v := ?_) rfl (by kernel_rfl) (by kernel_rfl) (by kernel_rfl) (fun _ _ _ h => h) (Or.inl ⟨by rfl, ?_⟩) (by assumption) ?_
    rotate_left
    · (intro w hSw; (try dsimp only at hSw); (go_simp <;> with_reducible rfl))
    try simp only [Act.put, List.setIfInBounds_toArray, List.set_cons_zero, List.set_cons_succ]
    refine wpAnyH_take (i := 8) (oi := { dst := some 52, op := Op.fieldAddr 29 (Operand.tmp 4) 1, type := 0, pos := "l4_greedy.go:80", after := #[], guard := none }) (v := ?_) rfl (by kernel_rfl) (by kernel_rfl) (by kernel_rfl) (fun _ _ _ h => h) (Or.inl ⟨by rfl, ?_⟩) (by assumption) ?_
    rotate_left
    · (intro w hSw; (try dsimp only at hSw); (go_simp <;> with_reducible rfl))
    try simp only [Act.put, List.setIfInBounds_toArray, List.set_cons_zero, List.set_cons_succ]
    refine wpAnyH_take (i := 9) (oi := { dst := some 53, op := Op.load 3 (Operand.tmp 52), type := 3, pos := "l4_greedy.go:80", after := #[{ on := 8, ground := Ground.data }], guard := none }) (v := ?_) rfl (by kernel_rfl) (by kernel_rfl) (by kernel_rfl) (fun _ _ _ h => h) (Or.inl ⟨by rfl, ?_⟩) (by assumption) ?_
    rotate_left
    · (intro w hSw; (try dsimp only at hSw); (go_simp <;> with_reducible rfl))
    try simp only [Act.put, List.setIfInBounds_toArray, List.set_cons_zero, List.set_cons_succ]
    refine wpAnyH_take (i := 10) (oi := { dst := some 54, op := Op.binOp BinOp.add 3 (Operand.tmp 51) (Operand.tmp 53) 3, type := 3, pos := "l4_greedy.go:80", after := #[{ on := 7, ground := Ground.data }, { on := 9, ground := Ground.data }], guard := none }) (v := ?_) rfl (by kernel_rfl) (by kernel_rfl) (by kernel_rfl) (fun _ _ _ h => h) (Or.inl ⟨by rfl, ?_⟩) (by assumption) ?_
    rotate_left
    · (intro w hSw; (try dsimp only at hSw); (go_simp <;> with_reducible rfl))
    try simp only [Act.put, List.setIfInBounds_toArray, List.set_cons_zero, List.set_cons_succ]
    refine wpAnyH_take (i := 11) (oi := { dst := some 55, op := Op.build 163 #[(0, Operand.tmp 49), (1, Operand.tmp 54)], type := 163, pos := "l4_greedy.go:80", after := #[{ on := 5, ground := Ground.data }, { on := 10, ground := Ground.data }], guard := none }) (v := ?_) rfl (by kernel_rfl) (by kernel_rfl) (by kernel_rfl) (fun _ _ _ h => h) (Or.inl ⟨by rfl, ?_⟩) (by assumption) ?_
    rotate_left
    · (intro w hSw; (try dsimp only at hSw); (go_simp <;> with_reducible rfl))
    try simp only [Act.put, List.setIfInBounds_toArray, List.set_cons_zero, List.set_cons_succ]
    refine wpAnyH_ready (rs := [4, 12]) (by kernel_rfl) (by simp) ?_
    refine AllReadyH.cons (o := { dst := some 48, op := Op.load 115 (Operand.tmp 47), type := 115, pos := "l4_greedy.go:80", after := #[{ on := 3, ground := Ground.data }], guard := none }) rfl (fun K hK => ?_) ?_
    · go_simp
      refine hK.out _ _ ?_ (fun hHeld4 => ?_)
      · exact hHeld
      clear hK K hHeld
      try simp only [Act.put, List.setIfInBounds_toArray, List.set_cons_zero, List.set_cons_succ]
      refine wpAnyH_ready (rs := [12]) (by kernel_rfl) (by simp) ?_
      refine AllReadyH.cons (o := { dst := some 56, op := Op.buildSlice 115 1 #[(0, Operand.tmp 55)], type := 115, pos := "l4_greedy.go:80", after := #[{ on := 11, ground := Ground.data }], guard := none }) rfl (fun K hK => ?_) AllReadyH.nil
      have c1b := fun (ob : Obj) => (((Below.refl D.heap.size D).alloc (Nat.le_refl _) ob).cell (p := ⟨b, 5, none⟩) hbD).trans c1
      have hSb := fun (ob : Obj) => held_s (HVD.out.ext ((Below.refl D.heap.size D).alloc (Nat.le_refl _) ob)) (kid_alloc HKD.out ob)
      go_simp
      refine hK.out _ _ ?_ (fun hHeld12 => ?_)
      · exact hSb _
      clear hK K hHeld4
      try simp only [Act.put, List.setIfInBounds_toArray, List.set_cons_zero, List.set_cons_succ]
      refine wpAnyH_ready (rs := [13]) (by kernel_rfl) (by simp) ?_
      refine AllReadyH.cons (o := { dst := some 57, op := Op.call { callee := Callee.builtin Builtin.append, args := #[Operand.tmp 48, Operand.tmp 56], argTypes := #[115, 115] }, type := 115, pos := "l4_greedy.go:80", after := #[{ on := 4, ground := Ground.data }, { on := 12, ground := Ground.data }], guard := none }) rfl (fun K hK => ?_) AllReadyH.nil
      refine wp_append_lies _ (.tmp 48) (.tmp 56) 115 (by rfl) B 163 i0 z0 5 64 Try.underlying115 HI.out.1 HI.out.2.1 HI.out.2.2.1 HI.out.2.2.2.1 HI.out.2.2.2.2 (by omega) (.slice ar N cr) N xs (by rfl) (hownD.alloc _) ⟨D.heap.size, 0, none⟩ 1 1 [.int .i64 o1, .int .i64 n1, .string t1, .slice a1 k1.len cap1, .int .i64 (i + m)] (by rfl) rfl (five_news D o1 n1 (i + m) t1 _ _) (by simp [Value.oneCell']) (by omega) (by unfold maxLen; omega) (by omega) (Nat.le_trans hzD (by simp)) (D.heap.size + 1) (by simp) ?_
      intro g5 cap5 w5 hown5 hgrow5 hat5 hlt5
      obtain ⟨k5, kz, hset⟩ := HFD.out.append_item (y := ⟨i + m, o1, n1, t1, k1⟩) ⟨xs, rfl, HXS.out⟩ HITV.out hgrow5 HNN.out hown5
      have hrw5 := grown_rows hgrow5 (hownD.alloc _)
      have hV5 : Vars b ⟨i, o, m, t, k⟩ a cap w.heap.size w5 := (HVD.out.ext ((Below.refl D.heap.size D).alloc (Nat.le_refl _) _)).grown hgrow5 (own_block (hownD.alloc _)) (fun e => HNR.out _ e rfl)
      have hK5 := (kid_alloc HKD.out _).grown hgrow5 (own_block (hownD.alloc _))
      have hS5 := held_s hV5 hK5
      have HSET := Lib.hid hset
      have HV5 := Lib.hid (And.intro hV5 hK5)
      have H5 := Lib.hid (And.intro (below_append hgrow5 hownD hzD) (And.intro (kept_append (ts := [163]) (b := b) hgrow5 hownD (by decide)) (And.intro ((KeepsOthers.alloc D _).trans (KeepsOthers.of_grownBy hgrow5 hrw5)) (And.intro (own_new (N := N + 1) (cap5 := cap5) (hownD.alloc _) hgrow5 hat5) hlt5))))
      clear hset hgrow5 hown5 hat5 hV5 hK5 hrw5
      refine hK.out _ _ ?_ (fun hHeld13 => ?_)
      · exact hS5
      clear hK K hHeld12
      try simp only [Act.put, List.setIfInBounds_toArray, List.set_cons_zero, List.set_cons_succ]
      refine wpAnyH_take (i := 14) (oi := { dst := some 58, op := Op.nilCheck (Operand.tmp 44), type := 0, pos := "l4_greedy.go:80", after := #[{ on := 0, ground := Ground.data }, { on := 0, ground := Ground.phase }, { on := 1, ground := Ground.phase }, { on := 2, ground := Ground.phase }, { on := 3, ground := Ground.phase }, { on := 4, ground := Ground.phase }, { on := 5, ground := Ground.phase }, { on := 6, ground := Ground.phase }, { on := 7, ground := Ground.phase }, { on := 8, ground := Ground.phase }, { on := 9, ground := Ground.phase }, { on := 10, ground := Ground.phase }, { on := 11, ground := Ground.phase }, { on := 12, ground := Ground.phase }, { on := 13, ground := Ground.phase }], guard := none }) (v := ?_) rfl (by kernel_rfl) (by kernel_rfl) (by kernel_rfl) (fun _ _ _ h => h) (Or.inl ⟨by rfl, ?_⟩) (by assumption) ?_
      rotate_left
      · (intro w hSw; (try dsimp only at hSw); (go_simp <;> with_reducible rfl))
      try simp only [Act.put, List.setIfInBounds_toArray, List.set_cons_zero, List.set_cons_succ]
      refine wpAnyH_take (i := 15) (oi := { dst := some 59, op := Op.fieldAddr 118 (Operand.tmp 58) 1, type := 0, pos := "l4_greedy.go:80", after := #[{ on := 14, ground := Ground.data }, { on := 0, ground := Ground.phase }, { on := 1, ground := Ground.phase }, { on := 2, ground := Ground.phase }, { on := 3, ground := Ground.phase }, { on := 4, ground := Ground.phase }, { on := 5, ground := Ground.phase }, { on := 6, ground := Ground.phase }, { on := 7, ground := Ground.phase }, { on := 8, ground := Ground.phase }, { on := 9, ground := Ground.phase }, { on := 10, ground := Ground.phase }, { on := 11, ground := Ground.phase }, { on := 12, ground := Ground.phase }, { on := 13, ground := Ground.phase }], guard := none }) (v := ?_) rfl (by kernel_rfl) (by kernel_rfl) (by kernel_rfl) (fun _ _ _ h => h) (Or.inl ⟨by rfl, ?_⟩) (by assumption) ?_
      rotate_left
      · (intro w hSw; (try dsimp only at hSw); (go_simp <;> with_reducible rfl))
      try simp only [Act.put, List.setIfInBounds_toArray, List.set_cons_zero, List.set_cons_succ]
      refine wpAnyH_ready (rs := [16]) (by kernel_rfl) (by simp) ?_
      refine AllReadyH.cons (o := { dst := none, op := Op.store 115 (Operand.tmp 59) (Operand.tmp 57), type := 0, pos := "l4_greedy.go:80", after := #[{ on := 15, ground := Ground.data }, { on := 13, ground := Ground.data }, { on := 13, ground := Ground.chain }, { on := 0, ground := Ground.phase }, { on := 1, ground := Ground.phase }, { on := 2, ground := Ground.phase }, { on := 3, ground := Ground.phase }, { on := 4, ground := Ground.phase }, { on := 5, ground := Ground.phase }, { on := 6, ground := Ground.phase }, { on := 7, ground := Ground.phase }, { on := 8, ground := Ground.phase }, { on := 9, ground := Ground.phase }, { on := 10, ground := Ground.phase }, { on := 11, ground := Ground.phase }, { on := 12, ground := Ground.phase }, { on := 13, ground := Ground.phase }], guard := none }) rfl (fun K hK => ?_) AllReadyH.nil
      go_simp
      refine hK.out _ _ ?_ (fun hHeld16 => ?_)
      · exact held_s (HV5.out.1.set HBR.out 5 _) (HV5.out.2.set HBK2.out 5 _)
      clear hK K hHeld13
      try simp only [Act.put, List.setIfInBounds_toArray, List.set_cons_zero, List.set_cons_succ]
      refine wpAnyH_done (by kernel_rfl) ?_ _
      gi_wp2_with fail
      have hset := HSET.out
      have hbD5 := HBD.out.2.1.trans (H5.out.1.setCell (p := ⟨b, 5, none⟩) HBR2.out (.slice (some ⟨g5, 0, none⟩) (N + 1) cap5))
      refine ⟨(HBD.out.2.2.trans H5.out.2.2.1).trans (KeepsOthers.setCell _ _ _), ?_, ⟨⟨_, .cons o1 n1 t1 k1 r1, p', HSP.out, HLN.out, hset, fun q hq => ?_⟩, HV5.out.1.set HBR.out 5 _, HBOX.out _ (H5.out.2.1.trans (kept_set [163] b 5 _ _)), hbD5⟩⟩
      · exact HKP.out _ (H5.out.1.setCell (p := ⟨b, 5, none⟩) HBR2.out _) (H5.out.2.1.trans (kept_set [163] b 5 _ _))
      · exact HNQ.out q (H5.out.2.2.2.1 q hq)
    refine AllReadyH.cons (o := { dst := some 56, op := Op.buildSlice 115 1 #[(0, Operand.tmp 55)], type := 115, pos := "l4_greedy.go:80", after := #[{ on := 11, ground := Ground.data }], guard := none }) rfl (fun K hK => ?_) AllReadyH.nil
    have c1b := fun (ob : Obj) => (((Below.refl D.heap.size D).alloc (Nat.le_refl _) ob).cell (p := ⟨b, 5, none⟩) hbD).trans c1
    have hSb := fun (ob : Obj) => held_s (HVD.out.ext ((Below.refl D.heap.size D).alloc (Nat.le_refl _) ob)) (kid_alloc HKD.out ob)
    go_simp
    refine hK.out _ _ ?_ (fun hHeld12 => ?_)
    · exact hSb _
    clear hK K hHeld
    try simp only [Act.put, List.setIfInBounds_toArray, List.set_cons_zero, List.set_cons_succ]
    refine wpAnyH_ready (rs := [4]) (by kernel_rfl) (by simp) ?_
    refine AllReadyH.cons (o := { dst := some 48, op := Op.load 115 (Operand.tmp 47), type := 115, pos := "l4_greedy.go:80", after := #[{ on := 3, ground := Ground.data }], guard := none }) rfl (fun K hK => ?_) AllReadyH.nil
    go_simp
    refine hK.out _ _ ?_ (fun hHeld4 => ?_)
    · exact hSb _
    clear hK K hHeld12
    try simp only [Act.put, List.setIfInBounds_toArray, List.set_cons_zero, List.set_cons_succ]
    refine wpAnyH_ready (rs := [13]) (by kernel_rfl) (by simp) ?_
    refine AllReadyH.cons (o := { dst := some 57, op := Op.call { callee := Callee.builtin Builtin.append, args := #[Operand.tmp 48, Operand.tmp 56], argTypes := #[115, 115] }, type := 115, pos := "l4_greedy.go:80", after := #[{ on := 4, ground := Ground.data }, { on := 12, ground := Ground.data }], guard := none }) rfl (fun K hK => ?_) AllReadyH.nil
    refine wp_append_lies _ (.tmp 48) (.tmp 56) 115 (by rfl) B 163 i0 z0 5 64 Try.underlying115 HI.out.1 HI.out.2.1 HI.out.2.2.1 HI.out.2.2.2.1 HI.out.2.2.2.2 (by omega) (.slice ar N cr) N xs (by rfl) (hownD.alloc _) ⟨D.heap.size, 0, none⟩ 1 1 [.int .i64 o1, .int .i64 n1, .string t1, .slice a1 k1.len cap1, .int .i64 (i + m)] (by rfl) rfl (five_news D o1 n1 (i + m) t1 _ _) (by simp [Value.oneCell']) (by omega) (by unfold maxLen; omega) (by omega) (Nat.le_trans hzD (by simp)) (D.heap.size + 1) (by simp) ?_
    intro g5 cap5 w5 hown5 hgrow5 hat5 hlt5
    obtain ⟨k5, kz, hset⟩ := HFD.out.append_item (y := ⟨i + m, o1, n1, t1, k1⟩) ⟨xs, rfl, HXS.out⟩ HITV.out hgrow5 HNN.out hown5
    have hrw5 := grown_rows hgrow5 (hownD.alloc _)
    have hV5 : Vars b ⟨i, o, m, t, k⟩ a cap w.heap.size w5 := (HVD.out.ext ((Below.refl D.heap.size D).alloc (Nat.le_refl _) _)).grown hgrow5 (own_block (hownD.alloc _)) (fun e => HNR.out _ e rfl)
    have hK5 := (kid_alloc HKD.out _).grown hgrow5 (own_block (hownD.alloc _))
    have hS5 := held_s hV5 hK5
    have HSET := Lib.hid hset
    have HV5 := Lib.hid (And.intro hV5 hK5)
    have H5 := Lib.hid (And.intro (below_append hgrow5 hownD hzD) (And.intro (kept_append (ts := [163]) (b := b) hgrow5 hownD (by decide)) (And.intro ((KeepsOthers.alloc D _).trans (KeepsOthers.of_grownBy hgrow5 hrw5)) (And.intro (own_new (N := N + 1) (cap5 := cap5) (hownD.alloc _) hgrow5 hat5) hlt5))))
    clear hset hgrow5 hown5 hat5 hV5 hK5 hrw5
    refine hK.out _ _ ?_ (fun hHeld13 => ?_)
    · exact hS5
    clear hK K hHeld4
    try simp only [Act.put, List.setIfInBounds_toArray, List.set_cons_zero, List.set_cons_succ]
    refine wpAnyH_take (i := 14) (oi := { dst := some 58, op := Op.nilCheck (Operand.tmp 44), type := 0, pos := "l4_greedy.go:80", after := #[{ on := 0, ground := Ground.data }, { on := 0, ground := Ground.phase }, { on := 1, ground := Ground.phase }, { on := 2, ground := Ground.phase }, { on := 3, ground := Ground.phase }, { on := 4, ground := Ground.phase }, { on := 5, ground := Ground.phase }, { on := 6, ground := Ground.phase }, { on := 7, ground := Ground.phase }, { on := 8, ground := Ground.phase }, { on := 9, ground := Ground.phase }, { on := 10, ground := Ground.phase }, { on := 11, ground := Ground.phase }, { on := 12, ground := Ground.phase }, { on := 13, ground := Ground.phase }], guard := none }) (v := ?_) rfl (by kernel_rfl) (by kernel_rfl) (by kernel_rfl) (fun _ _ _ h => h) (Or.inl ⟨by rfl, ?_⟩) (by assumption) ?_
    rotate_left
    · (intro w hSw; (try dsimp only at hSw); (go_simp <;> with_reducible rfl))
    try simp only [Act.put, List.setIfInBounds_toArray, List.set_cons_zero, List.set_cons_succ]
    refine wpAnyH_take (i := 15) (oi := { dst := some 59, op := Op.fieldAddr 118 (Operand.tmp 58) 1, type := 0, pos := "l4_greedy.go:80", after := #[{ on := 14, ground := Ground.data }, { on := 0, ground := Ground.phase }, { on := 1, ground := Ground.phase }, { on := 2, ground := Ground.phase }, { on := 3, ground := Ground.phase }, { on := 4, ground := Ground.phase }, { on := 5, ground := Ground.phase }, { on := 6, ground := Ground.phase }, { on := 7, ground := Ground.phase }, { on := 8, ground := Ground.phase }, { on := 9, ground := Ground.phase }, { on := 10, ground := Ground.phase }, { on := 11, ground := Ground.phase }, { on := 12, ground := Ground.phase }, { on := 13, ground := Ground.phase }], guard := none }) (v := ?_) rfl (by kernel_rfl) (by kernel_rfl) (by kernel_rfl) (fun _ _ _ h => h) (Or.inl ⟨by rfl, ?_⟩) (by assumption) ?_
    rotate_left
    · (intro w hSw; (try dsimp only at hSw); (go_simp <;> with_reducible rfl))
    try simp only [Act.put, List.setIfInBounds_toArray, List.set_cons_zero, List.set_cons_succ]
    refine wpAnyH_ready (rs := [16]) (by kernel_rfl) (by simp) ?_
    refine AllReadyH.cons (o := { dst := none, op := Op.store 115 (Operand.tmp 59) (Operand.tmp 57), type := 0, pos := "l4_greedy.go:80", after := #[{ on := 15, ground := Ground.data }, { on := 13, ground := Ground.data }, { on := 13, ground := Ground.chain }, { on := 0, ground := Ground.phase }, { on := 1, ground := Ground.phase }, { on := 2, ground := Ground.phase }, { on := 3, ground := Ground.phase }, { on := 4, ground := Ground.phase }, { on := 5, ground := Ground.phase }, { on := 6, ground := Ground.phase }, { on := 7, ground := Ground.phase }, { on := 8, ground := Ground.phase }, { on := 9, ground := Ground.phase }, { on := 10, ground := Ground.phase }, { on := 11, ground := Ground.phase }, { on := 12, ground := Ground.phase }, { on := 13, ground := Ground.phase }], guard := none }) rfl (fun K hK => ?_) AllReadyH.nil
    go_simp
    refine hK.out _ _ ?_ (fun hHeld16 => ?_)
    · exact held_s (HV5.out.1.set HBR.out 5 _) (HV5.out.2.set HBK2.out 5 _)
    clear hK K hHeld13
    try simp only [Act.put, List.setIfInBounds_toArray, List.set_cons_zero, List.set_cons_succ]
    refine wpAnyH_done (by kernel_rfl) ?_ _
    gi_wp2_with fail
    have hset := HSET.out
    have hbD5 := HBD.out.2.1.trans (H5.out.1.setCell (p := ⟨b, 5, none⟩) HBR2.out (.slice (some ⟨g5, 0, none⟩) (N + 1) cap5))
    refine ⟨(HBD.out.2.2.trans H5.out.2.2.1).trans (KeepsOthers.setCell _ _ _), ?_, ⟨⟨_, .cons o1 n1 t1 k1 r1, p', HSP.out, HLN.out, hset, fun q hq => ?_⟩, HV5.out.1.set HBR.out 5 _, HBOX.out _ (H5.out.2.1.trans (kept_set [163] b 5 _ _)), hbD5⟩⟩
    · exact HKP.out _ (H5.out.1.setCell (p := ⟨b, 5, none⟩) HBR2.out _) (H5.out.2.1.trans (kept_set [163] b 5 _ _))
    · exact HNQ.out q (H5.out.2.2.2.1 q hq)
  case done =>
    rintro D A Y hD ⟨⟨Fz, g, p, h1, h2, h3, h4⟩, h5, h6, h7⟩ ⟨B', hE, hT⟩ hK
    replace h1 : k = p.app g := h1
    have hp : p = .nil := F.len_eq_zero (by have := congrArg F.len h1; rw [F.len_app] at this; omega)
    subst hp
    obtain rfl : k = g := h1
    have hFY := (h3.below hE).turn hT
    have hbY : Below B w Y := (h7.trans (hE.mono (by have := h7.size; omega))).trans (hT.below (by omega))
    have hT2 : Turn W0.heap.size Y (Y.putObj D (.deferred none)) := turn_put _ hK rfl hD
    have HFY := Lib.hid (And.intro (hFY.turn hT2) (hbY.trans (hT2.below (by omega))))
    clear hFY hbY hT2 h3 h4 h5 h6 h7 hE hT h2
    go_wp2_with fail
    exact leave_mark hK (results_none rfl _ _ _) ⟨rfl, ⟨_, HFY.out.1⟩, HFY.out.2⟩
  case stop =>
    rintro D c A Y _ h _ _
    exact h.elim

end Go.Proofs.Ytmkibpimjaofgaa.RnM


import Derived.Test.YtpiaiandjnpdfaaDrN
import Derived.Test.YtpiaiandjnpdfaaDrE
import Derived.Test.YtpiaiandjnpdfaaDocL
import Derived.Test.YtpiaiandjnpdfaaLyB
import Derived.Test.YtpiaiandjnpdfaaDrZ
import Derived.Deep.RegionHeld3
/-
  The model's draw of the arguments of HasLayout: a document and a layout, in memory of their own.
-/
set_option linter.unusedVariables false
set_option linter.unusedSimpArgs false
namespace Go.Proofs.Ytpiaiandjnpdfaa.DrW
open Go.RowKit P1 Copy Draw Draw2 Draw6 DrA DrD DrE DrI LayN LayC LawC

/-- a document and a layout that are drawn -/
def HasDraw (w : World) (e : Ending) (w' : World) : Prop := ∃ (o n : Int) (t : ByteArray) (k : F) (a : Option Addr) (cap : Nat) (fs : List Nat) (l : List (Int × ByteArray)) (al : Option Addr) (cl : Nat) (fl : List Nat),
  e = .returned (.tuple #[.agg #[.int .i64 o, .int .i64 n, .string t, .slice a k.len cap], .slice al l.length cl]) ∧ k.len ≤ cap ∧ t.size + k.size ≤ 1040 ∧ SubAt w' a k fs ∧ Fresh w.heap.size w' fs ∧ l.length ≤ cl ∧ l.length ≤ 200 ∧ LaySub w' al l fl ∧ Below w.heap.size w w'
theorem keep4 {w w' : World} {b B x : Nat} {u0 u1 u2 u3 : Value} (h : w.cell? ⟨b, 0, none⟩ = some u0 ∧ w.cell? ⟨b, 1, none⟩ = some u1 ∧ w.cell? ⟨b, 2, none⟩ = some u2 ∧ w.cell? ⟨b, 3, none⟩ = some u3) (k : But B x w w') (hb : b < B) (hx : b ≠ x) :
    w'.cell? ⟨b, 0, none⟩ = some u0 ∧ w'.cell? ⟨b, 1, none⟩ = some u1 ∧ w'.cell? ⟨b, 2, none⟩ = some u2 ∧ w'.cell? ⟨b, 3, none⟩ = some u3 :=
  ⟨(k.cell hb hx).trans h.1, (k.cell hb hx).trans h.2.1, (k.cell hb hx).trans h.2.2.1, (k.cell hb hx).trans h.2.2.2⟩
theorem keepSet {w : World} {b c : Nat} {u0 u1 u2 u3 v0 v1 v2 v3 : Value} (hne : c ≠ b) (h : w.cell? ⟨b, 0, none⟩ = some u0 ∧ w.cell? ⟨b, 1, none⟩ = some u1 ∧ w.cell? ⟨b, 2, none⟩ = some u2 ∧ w.cell? ⟨b, 3, none⟩ = some u3) :
    ((((w.setCell ⟨c, 0, none⟩ v0).setCell ⟨c, 1, none⟩ v1).setCell ⟨c, 2, none⟩ v2).setCell ⟨c, 3, none⟩ v3).cell? ⟨b, 0, none⟩ = some u0 ∧ ((((w.setCell ⟨c, 0, none⟩ v0).setCell ⟨c, 1, none⟩ v1).setCell ⟨c, 2, none⟩ v2).setCell ⟨c, 3, none⟩ v3).cell? ⟨b, 1, none⟩ = some u1 ∧
    ((((w.setCell ⟨c, 0, none⟩ v0).setCell ⟨c, 1, none⟩ v1).setCell ⟨c, 2, none⟩ v2).setCell ⟨c, 3, none⟩ v3).cell? ⟨b, 2, none⟩ = some u2 ∧ ((((w.setCell ⟨c, 0, none⟩ v0).setCell ⟨c, 1, none⟩ v1).setCell ⟨c, 2, none⟩ v2).setCell ⟨c, 3, none⟩ v3).cell? ⟨b, 3, none⟩ = some u3 := by
  obtain ⟨h0, h1, h2, h3⟩ := h
  refine ⟨?_, ?_, ?_, ?_⟩ <;> (rw [World.cell?_setCell_far _ _ _ _ hne, World.cell?_setCell_far _ _ _ _ hne, World.cell?_setCell_far _ _ _ _ hne, World.cell?_setCell_far _ _ _ _ hne]; assumption)

theorem append_op {P : Program} {c : Prop} [Decidable c] {o : Oper} {a : Act} {w w' : World} {K : Act → World → Prop} {Q : Exit → Act → World → Prop} {E : Prop} (hc : c) (s x : Operand) (t : TypeId)
    (hop : o.op = Op.call { callee := Callee.builtin Builtin.append, args := #[s, x], argTypes := #[t, t] }) {sv xv v' : Value} (hs : a.eval s = sv) (hx : a.eval x = xv)
    (hrun : (Builtin.append_ #[t, t] o.type #[sv, xv]).run P w = .ok v' w') (h : K (a.put o.dst v') w') : if c then Oper.wp P o a w K Q else E := by
  rw [if_pos hc]
  unfold Oper.wp execOp
  simp only [hop, resolve, invoke, builtin, Sem.run_bind, Sem.run_pure, Result.andThen_ok, List.map_toArray, List.map_cons, List.map_nil, hs, hx, hrun]
  exact h
theorem copy_rows {W : World} {g lo : Nat} (hO : LayC.Own W [] g 0 lo) (hlo : lo ≤ W.heap.size) {aa : Option Addr} {k : List (Int × ByteArray)} {f : List Nat} {nn cc : Nat} (hs : LaySub W aa k f) (hn : nn = k.length) (h1 : 1 ≤ k.length) (h2 : k.length ≤ 200) :
    ∃ g' cap' w', (Builtin.append_ #[33, 33] 33 #[.slice (some ⟨g, 0, none⟩) 0 0, .slice aa nn cc]).run Try.prog W = .ok (.slice (some ⟨g', 0, none⟩) nn cap') w' ∧ nn ≤ cap' ∧ LaySub w' (some ⟨g', 0, none⟩) k [g'] ∧ lo ≤ g' ∧ Below lo W w' := by
  subst hn
  have hne : k ≠ [] := fun e => by rw [e] at h1; simp at h1
  rcases hs with ⟨h, _⟩ | ⟨b, off, rfl, _, _, hr⟩
  · exact absurd h hne
  · obtain ⟨g', cap', w', hrun, hcap, hrow, hg, _, _, hbel⟩ := append_rows hO hlo 33 ⟨b, off, none⟩ cc (k := k) (fun j u hu => cells2_at hr j u hu) (by simp; omega)
    simp only [List.length_nil, Nat.zero_add, List.nil_append] at hrun hcap hrow
    exact ⟨g', cap', w', hrun, hcap, .inr ⟨g', 0, rfl, hne, rfl, hrow⟩, hg, hbel⟩
theorem keepP {w w' : World} {c b off M x : Nat} {u0 u1 u2 u3 : Value} {V : Nat → Value} (h : (w.cell? ⟨c, 0, none⟩ = some u0 ∧ w.cell? ⟨c, 1, none⟩ = some u1 ∧ w.cell? ⟨c, 2, none⟩ = some u2 ∧ w.cell? ⟨c, 3, none⟩ = some u3) ∧ (b < w.heap.size ∧ ∀ j, j < M → w.cell? ⟨b, off + j, none⟩ = some (V j))) (k : But w.heap.size x w w') (hx : c + 1 < w.heap.size) (hbx : b ≠ c + 1) (hxe : x = c + 1 := by rfl) :
    (w'.cell? ⟨c, 0, none⟩ = some u0 ∧ w'.cell? ⟨c, 1, none⟩ = some u1 ∧ w'.cell? ⟨c, 2, none⟩ = some u2 ∧ w'.cell? ⟨c, 3, none⟩ = some u3) ∧ (b < w'.heap.size ∧ ∀ j, j < M → w'.cell? ⟨b, off + j, none⟩ = some (V j)) := by
  subst hxe
  exact ⟨keep4 h.1 k (by omega) (by omega), Nat.lt_of_lt_of_le h.2.1 k.size, fun j hj => (k.cell h.2.1 hbx).trans (h.2.2 j hj)⟩
theorem keepPS {w : World} {c b off M d : Nat} {u0 u1 u2 u3 v0 v1 v2 v3 : Value} {V : Nat → Value} (hne : d ≠ c) (hnb : d ≠ b) (h : (w.cell? ⟨c, 0, none⟩ = some u0 ∧ w.cell? ⟨c, 1, none⟩ = some u1 ∧ w.cell? ⟨c, 2, none⟩ = some u2 ∧ w.cell? ⟨c, 3, none⟩ = some u3) ∧ (b < w.heap.size ∧ ∀ j, j < M → w.cell? ⟨b, off + j, none⟩ = some (V j))) :
    (((((w.setCell ⟨d, 0, none⟩ v0).setCell ⟨d, 1, none⟩ v1).setCell ⟨d, 2, none⟩ v2).setCell ⟨d, 3, none⟩ v3).cell? ⟨c, 0, none⟩ = some u0 ∧ ((((w.setCell ⟨d, 0, none⟩ v0).setCell ⟨d, 1, none⟩ v1).setCell ⟨d, 2, none⟩ v2).setCell ⟨d, 3, none⟩ v3).cell? ⟨c, 1, none⟩ = some u1 ∧
    ((((w.setCell ⟨d, 0, none⟩ v0).setCell ⟨d, 1, none⟩ v1).setCell ⟨d, 2, none⟩ v2).setCell ⟨d, 3, none⟩ v3).cell? ⟨c, 2, none⟩ = some u2 ∧ ((((w.setCell ⟨d, 0, none⟩ v0).setCell ⟨d, 1, none⟩ v1).setCell ⟨d, 2, none⟩ v2).setCell ⟨d, 3, none⟩ v3).cell? ⟨c, 3, none⟩ = some u3) ∧
    (b < ((((w.setCell ⟨d, 0, none⟩ v0).setCell ⟨d, 1, none⟩ v1).setCell ⟨d, 2, none⟩ v2).setCell ⟨d, 3, none⟩ v3).heap.size ∧ ∀ j, j < M → ((((w.setCell ⟨d, 0, none⟩ v0).setCell ⟨d, 1, none⟩ v1).setCell ⟨d, 2, none⟩ v2).setCell ⟨d, 3, none⟩ v3).cell? ⟨b, off + j, none⟩ = some (V j)) := by
  refine ⟨keepSet hne h.1, by simpa using h.2.1, fun j hj => ?_⟩
  rw [World.cell?_setCell_far _ _ _ _ hnb, World.cell?_setCell_far _ _ _ _ hnb, World.cell?_setCell_far _ _ _ _ hnb, World.cell?_setCell_far _ _ _ _ hnb]
  exact h.2.2 j hj

theorem fin {w w1 w5 : World} {o n : Int} {t : ByteArray} {k : F} {a : Option Addr} {cap : Nat} {fs : List Nat} {l : List (Int × ByteArray)} {al : Option Addr} {cl : Nat} {fl : List Nat}
    (H1 : k.len ≤ cap ∧ t.size + k.size ≤ 1040 ∧ SubAt w1 a k fs ∧ Fresh (w.heap.size + 1) w1 fs ∧ Below w.heap.size w w1 ∧ w.heap.size < w1.heap.size ∧ w1.there w.heap.size 0 4) (H : But w1.heap.size (w1.heap.size + 1) w1 w5) (hc : l.length ≤ cl) (hl : l.length ≤ 200) (hs : LaySub w5 al l fl) (hfl : ∀ c ∈ fl, w.heap.size < c) {u0 u1 u2 u3 : Value} :
    HasDraw w (.returned (.tuple #[.agg #[.int .i64 o, .int .i64 n, .string t, .slice a k.len cap], .slice al l.length cl])) ((((w5.setCell ⟨w.heap.size, 0, none⟩ u0).setCell ⟨w.heap.size, 1, none⟩ u1).setCell ⟨w.heap.size, 2, none⟩ u2).setCell ⟨w.heap.size, 3, none⟩ u3) := by
  obtain ⟨h1, h2, h3, h4, h5, h6, _⟩ := H1
  have htt : Touch w.heap.size (w.heap.size + 1) w5 ((((w5.setCell ⟨w.heap.size, 0, none⟩ u0).setCell ⟨w.heap.size, 1, none⟩ u1).setCell ⟨w.heap.size, 2, none⟩ u2).setCell ⟨w.heap.size, 3, none⟩ u3) := by
    refine Touch.setCell (Touch.setCell (Touch.setCell (Touch.setCell (Touch.refl _ _ _) ?_ ?_ _) ?_ ?_ _) ?_ ?_ _) ?_ ?_ _ <;> simp
  have hne : ∀ c ∈ fs, c < w1.heap.size ∧ c ≠ w1.heap.size + 1 := fun c hc => ⟨h4.lt c hc, by have := h4.lt c hc; omega⟩
  have hsub : SubAt w5 a k fs := H.sub h3 hne
  have hfr : Fresh (w.heap.size + 1) w5 fs := h4.alike H.size (fun c hc _ => H.frozen (hne c hc).1 (hne c hc).2)
  have hfo : ∀ c ∈ fs, c < w.heap.size ∨ w.heap.size + 1 ≤ c := fun c hc => by have := (h4.2 c hc).1; omega
  have hB : Below w.heap.size w w5 := h5.trans (H.below (by omega) (by omega))
  refine ⟨o, n, t, k, a, cap, fs, l, al, cl, fl, rfl, h1, h2, htt.sub hsub hfo, (htt.fresh hfr hfo).mono (by omega), hc, hl, hs.congr fun c hc o => ?_, htt.below hB (Nat.le_refl _)⟩
  have hcn : w.heap.size ≠ c := by have := hfl c hc; omega
  rw [World.cell?_setCell_far _ _ _ _ hcn, World.cell?_setCell_far _ _ _ _ hcn, World.cell?_setCell_far _ _ _ _ hcn, World.cell?_setCell_far _ _ _ _ hcn]

set_option maxRecDepth 100000 in
set_option maxHeartbeats 6400000 in
theorem drawHas (w : World) (a0 : Option Addr) (len cap0 : Nat) (hb : Bytes w a0 len) (hlc : len ≤ cap0) (hcm : cap0 ≤ maxLen) :
    Calls Try.prog 26 #[.slice a0 len cap0] w (HasDraw w) := by
  have HO := Lib.hid (fun ob => DrN.l3Case (w.alloc ob) a0 len cap0 (LawC.bytes_below hb ((Below.refl _ _).alloc (Nat.le_refl _) ob)) hlc hcm)
  have HP := Lib.hid (fun (w1 : World) (h : Below w.heap.size w w1) => l15Open w1 a0 len cap0 (LawC.bytes_below hb h) hlc hcm)
  clear hb hlc hcm
  go_enter Try.func26, Try.ntmps26
  go_wp2_with fail
  refine (HO.out _).mono ?_
  rintro e1 w1 ⟨o, n, t, k, a, cap, fs, rfl, hc, hsz, hsub, hfr, hb1⟩
  have hth1 := four_new hb1
  simp only [World.size_alloc] at hfr
  have hl1 : w.heap.size < w1.heap.size := by have := hb1.size; simp at this; omega
  have D1 := Lib.hid (show DocK.Doc0 w1 n t k a cap fs from ⟨hsub, fun c hc => (hfr.2 c hc).2, hc, by omega⟩)
  have H1 := Lib.hid (And.intro hc (And.intro hsz (And.intro hsub (And.intro hfr (And.intro (opened' hb1) (And.intro hl1 hth1))))))
  have HA1 := Lib.hid (fun ob => HP.out (w1.alloc ob) ((opened' hb1).alloc (opened' hb1).size ob))
  clear hc hsz hsub hfr hb1 hth1 hl1 HP
  go_wp2_with fail
  refine (HA1.out _).mono ?_
  rintro e2 w2 ⟨rfl, hrd2, hlt2, hb2⟩
  have x2 : w2.cell? ⟨w1.heap.size, 0, none⟩ = some (.int .i64 o) ∧ w2.cell? ⟨w1.heap.size, 1, none⟩ = some (.int .i64 n) ∧ w2.cell? ⟨w1.heap.size, 2, none⟩ = some (.string t) ∧ w2.cell? ⟨w1.heap.size, 3, none⟩ = some (.slice a k.len cap) := DocK.box4 (DocK.box_new w1 _ _ _ _ _) (by simp) hb2
  have e12 : Ext w1 w2 := ((Ext.refl w1).alloc _).trans hb2
  simp only [World.size_alloc] at hrd2 hlt2
  have HL := Lib.hid (It.specLayoutsOf w2 o n t k a cap fs (D1.out.ext e12).sub (D1.out.ext e12).lt (D1.out.ext e12).cap_le (by have := (D1.out.ext e12).size; omega) (D1.out.ext e12).fits (D1.out.ext e12).tfit)
  have H2 := Lib.hid (And.intro x2 (And.intro e12 (And.intro hrd2 hlt2)))
  clear hb2 e12 hrd2 hlt2
  simp only [World.size_alloc]
  obtain ⟨X, hX⟩ : ∃ X, It.laysD o n t k = X := ⟨_, rfl⟩
  obtain ⟨V, hV⟩ : ∃ V, It.toldD o n t k = V := ⟨_, rfl⟩
  have HPOS := Lib.hid (And.intro (show V = true → 0 < X.length from fun h => by rw [← hX]; exact It.lays_pos (hV.trans h)) (And.intro (show X.length ≤ 300 by rw [← hX]; exact It.lays_len o n t k) (show ∀ x ∈ X, lv x = true by rw [← hX]; exact It.lays_good)))
  rw [hX, hV] at HL
  clear hX hV
  obtain ⟨q0, q1, q2, q3⟩ := x2
  go_wp2_with fail
  refine HL.out.mono ?_
  rintro e3 w3 ⟨ax, cx, fx, rfl, hcx, hlist, hfx, hb3⟩
  clear q0 q1 q2 q3
  have x3 := DocK.box4 H2.out.1 (by have := H2.out.2.2.2; omega) hb3
  have e13 : Ext w1 w3 := H2.out.2.1.trans hb3
  have hx3 : w1.heap.size + 1 < w3.heap.size := Nat.lt_of_lt_of_le H2.out.2.2.2 hb3.size
  have hrd3 := rdBelow H2.out.2.2.1 H2.out.2.2.2 hb3
  obtain ⟨b, off, AA, CC, gg, hfam, _⟩ := hlist.fam hfx.1
  obtain ⟨N, hN⟩ : ∃ N : Nat → Nat, N = fun j => (X[j]?.getD []).length := ⟨_, rfl⟩
  have KL := Lib.hid (show ∀ j, (h : j < X.length) → ax = some ⟨b, off, none⟩ ∧ (w2.heap.size ≤ b ∧ b < w3.heap.size) ∧ w3.cell? ⟨b, off + j, none⟩ = some (.slice (AA j) (N j) (CC j)) ∧ N j = X[j].length ∧ LaySub w3 (AA j) X[j] (gg j) ∧ (∀ q ∈ gg j, w2.heap.size ≤ q) from fun j h => by
    obtain ⟨g1, g2, g3, g4, g5, g6, _⟩ := hfam j h
    have e : N j = X[j].length := by rw [hN]; simp [List.getElem?_eq_getElem h]
    exact ⟨g1, ⟨(hfx.2 b g2).1, hlist.lt b g2⟩, by rw [e]; exact g3, e, g5, fun q hq => (hfx.2 q (g6 q hq)).1⟩)
  have H3 := Lib.hid (And.intro x3 (And.intro e13 (And.intro hrd3 hx3)))
  clear x3 e13 hx3 hrd3 hb3 hlist hfam hfx hN
  obtain ⟨M, hM⟩ : ∃ M, X.length = M := ⟨_, rfl⟩
  rw [hM] at hcx ⊢
  have HM := Lib.hid hM
  clear hM
  cases V with
  | false =>
    have BW := Lib.hid (show But w1.heap.size (w1.heap.size + 1) w1 w3 from But.of_below H3.out.2.1)
    have HD5 := Lib.hid (l2Draw w3.drew (w1.heap.size + 1) _ 0 (rdBelow H3.out.2.2.1 H3.out.2.2.2 ((Below.refl _ _).drew)) (by omega) H3.out.2.2.2)
    go_wp2_with fail
    refine wp_region_held_drew (S := (fun w' => w'.cell? ⟨w1.heap.size, 0, none⟩ = some (.int .i64 o) ∧ w'.cell? ⟨w1.heap.size, 1, none⟩ = some (.int .i64 n) ∧ w'.cell? ⟨w1.heap.size, 2, none⟩ = some (.string t) ∧ w'.cell? ⟨w1.heap.size, 3, none⟩ = some (.slice a k.len cap))) (by kernel_rfl) ?_ (fun hHeld => ?_)
    · exact keep4 (x := w1.heap.size + 1) H3.out.1 (But.of_below ((Below.refl w3.heap.size w3).drew)) (by have := H3.out.2.2.2; omega) (by omega)
    refine wpAnyH_take (i := 0) (oi := { dst := some 24, op := Op.load 25 (Operand.tmp 4), type := 25, pos := "l3_choices.go:178", after := #[], guard := none }) (v := ?_) rfl (by kernel_rfl) (by kernel_rfl) (by kernel_rfl) (fun _ _ _ h => h) (Or.inl ⟨by rfl, ?_⟩) (by assumption) ?_
    rotate_left
    · (intro w hSw; (try dsimp only at hSw); (go_simp <;> with_reducible rfl))
    try simp only [Act.put, List.setIfInBounds_toArray, List.set_cons_zero, List.set_cons_succ]
    refine wpAnyH_take (i := 1) (oi := { dst := some 25, op := Op.move (Operand.tmp 5), type := 76, pos := "l3_choices.go:178", after := #[], guard := none }) (v := ?_) rfl (by kernel_rfl) (by kernel_rfl) (by kernel_rfl) (fun _ _ _ h => h) (Or.inl ⟨by rfl, ?_⟩) (by assumption) ?_
    rotate_left
    · (intro w hSw; (try dsimp only at hSw); (go_simp <;> with_reducible rfl))
    try simp only [Act.put, List.setIfInBounds_toArray, List.set_cons_zero, List.set_cons_succ]
    refine wpAnyH_ready (rs := [2]) (by kernel_rfl) (by simp) ?_
    refine AllReadyH.cons (o := { dst := some 26, op := Op.call { callee := Callee.value (Operand.func 61), args := #[Operand.tmp 25], argTypes := #[76] }, type := 33, pos := "l3_choices.go:178", after := #[{ on := 1, ground := Ground.data }], guard := none }) rfl (fun K hK => ?_) AllReadyH.nil
    go_simp
    go_at_call 61
    refine HD5.out.mono ?_
    rintro e5 w5 ⟨l, al, cl, fl, q5, rfl, hcl, hsl, hlsub, hlf, hrd5, hq5, hbut5⟩
    have B5 := Lib.hid (show But w3.heap.size (w1.heap.size + 1) w3 w5 from (But.of_below ((Below.refl w3.heap.size w3).drew)).trans hbut5)
    have HLY := Lib.hid (And.intro hcl (And.intro hsl.1 (And.intro hlsub (show ∀ c ∈ fl, w.heap.size < c from fun c hc => by have := (hlf.2 c hc).1; have := H1.out.2.2.2.2.2.1; have := H3.out.2.2.2; have h9 : w3.drew.heap.size = w3.heap.size := rfl; omega))))
    have h15 : But w1.heap.size (w1.heap.size + 1) w1 w5 := BW.out.trans (B5.out.mono BW.out.size)
    have H15 := Lib.hid h15
    have hth := there_but H1.out.2.2.2.2.2.2 h15 H1.out.2.2.2.2.2.1 (by have := H1.out.2.2.2.2.2.1; omega)
    obtain ⟨⟨u0, u1, u2, u3, y0, y1, y2, y3⟩, z0, z1, z2, z3⟩ := there_at hth
    have hl5 : w.heap.size < w5.heap.size := Nat.lt_of_lt_of_le H1.out.2.2.2.2.2.1 h15.size
    have ne1 : ¬ (w1.heap.size = w.heap.size) := by have := H1.out.2.2.2.2.2.1; omega
    clear hcl hsl hlsub hlf hrd5 hbut5 h15 hth
    try go_wp2_with fail
    refine hK.out _ _ ?_ (fun hHeld2 => ?_)
    · exact keep4 H3.out.1 B5.out (by have := H3.out.2.2.2; omega) (by omega)
    clear hK K hHeld
    try simp only [Act.put, List.setIfInBounds_toArray, List.set_cons_zero, List.set_cons_succ]
    refine wpAnyH_ready (rs := [3]) (by kernel_rfl) (by simp) ?_
    refine AllReadyH.cons (o := { dst := none, op := Op.store 25 (Operand.tmp 2) (Operand.tmp 24), type := 0, pos := "l3_choices.go:178", after := #[{ on := 0, ground := Ground.data }, { on := 2, ground := Ground.chain }, { on := 0, ground := Ground.phase }, { on := 1, ground := Ground.textOnly Departure.lateStores }, { on := 2, ground := Ground.textOnly Departure.lateStoresUnsure }], guard := none }) rfl (fun K hK => ?_) AllReadyH.nil
    go_simp
    refine hK.out _ _ ?_ (fun hHeld3 => ?_)
    · exact keepSet (c := w.heap.size) (by have := H1.out.2.2.2.2.2.1; omega) hHeld2
    clear hK K hHeld2
    try simp only [Act.put, List.setIfInBounds_toArray, List.set_cons_zero, List.set_cons_succ]
    refine wpAnyH_take (i := 4) (oi := { dst := some 3, op := Op.assign (Operand.tmp 26), type := 33, pos := "l3_choices.go:178", after := #[{ on := 2, ground := Ground.data }, { on := 3, ground := Ground.chain }, { on := 0, ground := Ground.phase }, { on := 1, ground := Ground.phase }, { on := 2, ground := Ground.phase }, { on := 3, ground := Ground.phase }], guard := none }) (v := ?_) rfl (by kernel_rfl) (by kernel_rfl) (by kernel_rfl) (fun _ _ _ h => h) (Or.inl ⟨by rfl, ?_⟩) (by assumption) ?_
    rotate_left
    · (intro w hSw; (try dsimp only at hSw); (go_simp <;> with_reducible rfl))
    try simp only [Act.put, List.setIfInBounds_toArray, List.set_cons_zero, List.set_cons_succ]
    refine wpAnyH_done (by kernel_rfl) ?_ _
    go_wp2_with fail
    refine bodyPost_ret (v := .tuple #[.agg #[.int .i64 o, .int .i64 n, .string t, .slice a k.len cap], .slice al l.length cl]) (by simp [results, Try.results26, go_sem, y0, y1, y2, y3, hl5]) rfl ?_
    exact fin H1.out H15.out HLY.out.1 HLY.out.2.1 HLY.out.2.2.1 HLY.out.2.2.2
  | true =>
    have HPK := Lib.hid (pick w3 (w1.heap.size + 1) _ 0 4 H3.out.2.2.1 (by omega))
    go_wp2_with fail
    refine HPK.out.mono ?_
    rintro e4 w4 ⟨r, rfl, hr0, hr4, hrd4, hbut4⟩
    have x4 := keep4 H3.out.1 hbut4 (by have := H3.out.2.2.2; omega) (by omega)
    have hx4 : w1.heap.size + 1 < w4.heap.size := Nat.lt_of_lt_of_le H3.out.2.2.2 hbut4.size
    have H4 := Lib.hid (And.intro x4 (And.intro hbut4 (And.intro hrd4 hx4)))
    have BW := Lib.hid (show But w1.heap.size (w1.heap.size + 1) w1 w4 from (But.of_below H3.out.2.1).trans (hbut4.mono (show w1.heap.size ≤ w3.heap.size from H3.out.2.1.size)))
    clear x4 hx4 hrd4 hbut4
    by_cases hr : r = 0
    · subst hr
      have HD5 := Lib.hid (l2Draw w4.drew (w1.heap.size + 1) _ (0 + 1) (rdBelow H4.out.2.2.1 H4.out.2.2.2 ((Below.refl _ _).drew)) (by omega) H4.out.2.2.2)
      go_wp2_with fail
      refine wp_region_held_drew (S := (fun w' => w'.cell? ⟨w1.heap.size, 0, none⟩ = some (.int .i64 o) ∧ w'.cell? ⟨w1.heap.size, 1, none⟩ = some (.int .i64 n) ∧ w'.cell? ⟨w1.heap.size, 2, none⟩ = some (.string t) ∧ w'.cell? ⟨w1.heap.size, 3, none⟩ = some (.slice a k.len cap))) (by kernel_rfl) ?_ (fun hHeld => ?_)
      · exact keep4 (x := w1.heap.size + 1) H4.out.1 (But.of_below ((Below.refl w4.heap.size w4).drew)) (by have := H4.out.2.2.2; omega) (by omega)
      refine wpAnyH_take (i := 0) (oi := { dst := some 24, op := Op.load 25 (Operand.tmp 4), type := 25, pos := "l3_choices.go:178", after := #[], guard := none }) (v := ?_) rfl (by kernel_rfl) (by kernel_rfl) (by kernel_rfl) (fun _ _ _ h => h) (Or.inl ⟨by rfl, ?_⟩) (by assumption) ?_
      rotate_left
      · (intro w hSw; (try dsimp only at hSw); (go_simp <;> with_reducible rfl))
      try simp only [Act.put, List.setIfInBounds_toArray, List.set_cons_zero, List.set_cons_succ]
      refine wpAnyH_take (i := 1) (oi := { dst := some 25, op := Op.move (Operand.tmp 5), type := 76, pos := "l3_choices.go:178", after := #[], guard := none }) (v := ?_) rfl (by kernel_rfl) (by kernel_rfl) (by kernel_rfl) (fun _ _ _ h => h) (Or.inl ⟨by rfl, ?_⟩) (by assumption) ?_
      rotate_left
      · (intro w hSw; (try dsimp only at hSw); (go_simp <;> with_reducible rfl))
      try simp only [Act.put, List.setIfInBounds_toArray, List.set_cons_zero, List.set_cons_succ]
      refine wpAnyH_ready (rs := [2]) (by kernel_rfl) (by simp) ?_
      refine AllReadyH.cons (o := { dst := some 26, op := Op.call { callee := Callee.value (Operand.func 61), args := #[Operand.tmp 25], argTypes := #[76] }, type := 33, pos := "l3_choices.go:178", after := #[{ on := 1, ground := Ground.data }], guard := none }) rfl (fun K hK => ?_) AllReadyH.nil
      go_simp
      go_at_call 61
      refine HD5.out.mono ?_
      rintro e5 w5 ⟨l, al, cl, fl, q5, rfl, hcl, hsl, hlsub, hlf, hrd5, hq5, hbut5⟩
      have B5 := Lib.hid (show But w4.heap.size (w1.heap.size + 1) w4 w5 from (But.of_below ((Below.refl w4.heap.size w4).drew)).trans hbut5)
      have HLY := Lib.hid (And.intro hcl (And.intro hsl.1 (And.intro hlsub (show ∀ c ∈ fl, w.heap.size < c from fun c hc => by have := (hlf.2 c hc).1; have := H1.out.2.2.2.2.2.1; have := H4.out.2.2.2; have h9 : w4.drew.heap.size = w4.heap.size := rfl; omega))))
      have h15 : But w1.heap.size (w1.heap.size + 1) w1 w5 := BW.out.trans (B5.out.mono BW.out.size)
      have H15 := Lib.hid h15
      have hth := there_but H1.out.2.2.2.2.2.2 h15 H1.out.2.2.2.2.2.1 (by have := H1.out.2.2.2.2.2.1; omega)
      obtain ⟨⟨u0, u1, u2, u3, y0, y1, y2, y3⟩, z0, z1, z2, z3⟩ := there_at hth
      have hl5 : w.heap.size < w5.heap.size := Nat.lt_of_lt_of_le H1.out.2.2.2.2.2.1 h15.size
      have ne1 : ¬ (w1.heap.size = w.heap.size) := by have := H1.out.2.2.2.2.2.1; omega
      clear hcl hsl hlsub hlf hrd5 hbut5 h15 hth
      try go_wp2_with fail
      refine hK.out _ _ ?_ (fun hHeld2 => ?_)
      · exact keep4 H4.out.1 B5.out (by have := H4.out.2.2.2; omega) (by omega)
      clear hK K hHeld
      try simp only [Act.put, List.setIfInBounds_toArray, List.set_cons_zero, List.set_cons_succ]
      refine wpAnyH_ready (rs := [3]) (by kernel_rfl) (by simp) ?_
      refine AllReadyH.cons (o := { dst := none, op := Op.store 25 (Operand.tmp 2) (Operand.tmp 24), type := 0, pos := "l3_choices.go:178", after := #[{ on := 0, ground := Ground.data }, { on := 2, ground := Ground.chain }, { on := 0, ground := Ground.phase }, { on := 1, ground := Ground.textOnly Departure.lateStores }, { on := 2, ground := Ground.textOnly Departure.lateStoresUnsure }], guard := none }) rfl (fun K hK => ?_) AllReadyH.nil
      go_simp
      refine hK.out _ _ ?_ (fun hHeld3 => ?_)
      · exact keepSet (c := w.heap.size) (by have := H1.out.2.2.2.2.2.1; omega) hHeld2
      clear hK K hHeld2
      try simp only [Act.put, List.setIfInBounds_toArray, List.set_cons_zero, List.set_cons_succ]
      refine wpAnyH_take (i := 4) (oi := { dst := some 3, op := Op.assign (Operand.tmp 26), type := 33, pos := "l3_choices.go:178", after := #[{ on := 2, ground := Ground.data }, { on := 3, ground := Ground.chain }, { on := 0, ground := Ground.phase }, { on := 1, ground := Ground.phase }, { on := 2, ground := Ground.phase }, { on := 3, ground := Ground.phase }], guard := none }) (v := ?_) rfl (by kernel_rfl) (by kernel_rfl) (by kernel_rfl) (fun _ _ _ h => h) (Or.inl ⟨by rfl, ?_⟩) (by assumption) ?_
      rotate_left
      · (intro w hSw; (try dsimp only at hSw); (go_simp <;> with_reducible rfl))
      try simp only [Act.put, List.setIfInBounds_toArray, List.set_cons_zero, List.set_cons_succ]
      refine wpAnyH_done (by kernel_rfl) ?_ _
      go_wp2_with fail
      refine bodyPost_ret (v := .tuple #[.agg #[.int .i64 o, .int .i64 n, .string t, .slice a k.len cap], .slice al l.length cl]) (by simp [results, Try.results26, go_sem, y0, y1, y2, y3, hl5]) rfl ?_
      exact fin H1.out H15.out HLY.out.1 HLY.out.2.1 HLY.out.2.2.1 HLY.out.2.2.2
    · have hrb : (r == 0) = false := beq_eq_false_iff_ne.2 hr
      have hM0 : 0 < X.length := (by first | exact HPOS.out.1 rfl | exact HPOS.out.1 trivial)
      have hMi : 0 < M := by rw [← HM.out]; exact hM0
      obtain ⟨rfl, ⟨hbw2, hbw3⟩, _⟩ := KL.out 0 hM0
      have hbx : b ≠ w1.heap.size + 1 := by have := H2.out.2.2.2; omega
      have hbw : b ≠ w.heap.size := by have := H2.out.2.2.2; have := H1.out.2.2.2.2.2.1; omega
      have KC := Lib.hid (show ∀ j, j < M → w4.cell? ⟨b, off + j, none⟩ = some (.slice (AA j) (N j) (CC j)) from fun j h => by
        obtain ⟨_, _, h3, _⟩ := KL.out j (by rw [HM.out]; exact h)
        exact (H4.out.2.1.cell hbw3 hbx).trans h3)
      have SB := Lib.hid (And.intro H4.out.1 (And.intro (Nat.lt_of_lt_of_le hbw3 H4.out.2.1.size) KC.out))
      have HX := Lib.hid hbx
      have HPA := Lib.hid (fun ob => pick (w4.alloc ob).drew (w1.heap.size + 1) _ (0 + 1) (M : Int) (rdBelow H4.out.2.2.1 H4.out.2.2.2 (((Below.refl w4.heap.size w4).alloc (Nat.le_refl _) ob).drew)) (by omega))
      have HPB := Lib.hid (pick w4.drew (w1.heap.size + 1) _ (0 + 1) (M : Int) (rdBelow H4.out.2.2.1 H4.out.2.2.2 ((Below.refl w4.heap.size w4).drew)) (by omega))
      have ne1 : ¬ (w1.heap.size = w.heap.size) := by have := H1.out.2.2.2.2.2.1; omega
      have ne2 : ¬ (b = w.heap.size) := hbw
      clear hbx hbw hbw2 hbw3
      go_wp2_with fail
      refine wp_region_held_drew (S := (fun w' => (w'.cell? ⟨w1.heap.size, 0, none⟩ = some (.int .i64 o) ∧ w'.cell? ⟨w1.heap.size, 1, none⟩ = some (.int .i64 n) ∧ w'.cell? ⟨w1.heap.size, 2, none⟩ = some (.string t) ∧ w'.cell? ⟨w1.heap.size, 3, none⟩ = some (.slice a k.len cap)) ∧ (b < w'.heap.size ∧ ∀ j, j < M → w'.cell? ⟨b, off + j, none⟩ = some (.slice (AA j) (N j) (CC j))))) (by kernel_rfl) ?_ (fun hHeld => ?_)
      · exact keepP (x := w1.heap.size + 1) SB.out (But.of_below ((Below.refl w4.heap.size w4).drew)) H4.out.2.2.2 HX.out
      refine wpAnyH_take (i := 0) (oi := { dst := some 27, op := Op.load 25 (Operand.tmp 4), type := 25, pos := "l3_choices.go:180", after := #[], guard := none }) (v := ?_) rfl (by kernel_rfl) (by kernel_rfl) (by kernel_rfl) (fun _ _ _ h => h) (Or.inl ⟨by rfl, ?_⟩) (by assumption) ?_
      rotate_left
      · (intro w hSw; (try dsimp only at hSw); (go_simp <;> with_reducible rfl))
      try simp only [Act.put, List.setIfInBounds_toArray, List.set_cons_zero, List.set_cons_succ]
      refine wpAnyH_take (i := 2) (oi := { dst := some 29, op := Op.move (Operand.tmp 6), type := 27, pos := "l3_choices.go:180", after := #[], guard := none }) (v := ?_) rfl (by kernel_rfl) (by kernel_rfl) (by kernel_rfl) (fun _ _ _ h => h) (Or.inl ⟨by rfl, ?_⟩) (by assumption) ?_
      rotate_left
      · (intro w hSw; (try dsimp only at hSw); (go_simp <;> with_reducible rfl))
      try simp only [Act.put, List.setIfInBounds_toArray, List.set_cons_zero, List.set_cons_succ]
      refine wpAnyH_take (i := 3) (oi := { dst := some 30, op := Op.move (Operand.tmp 5), type := 76, pos := "l3_choices.go:180", after := #[], guard := none }) (v := ?_) rfl (by kernel_rfl) (by kernel_rfl) (by kernel_rfl) (fun _ _ _ h => h) (Or.inl ⟨by rfl, ?_⟩) (by assumption) ?_
      rotate_left
      · (intro w hSw; (try dsimp only at hSw); (go_simp <;> with_reducible rfl))
      try simp only [Act.put, List.setIfInBounds_toArray, List.set_cons_zero, List.set_cons_succ]
      refine wpAnyH_take (i := 4) (oi := { dst := some 31, op := Op.move (Operand.tmp 6), type := 27, pos := "l3_choices.go:180", after := #[], guard := none }) (v := ?_) rfl (by kernel_rfl) (by kernel_rfl) (by kernel_rfl) (fun _ _ _ h => h) (Or.inl ⟨by rfl, ?_⟩) (by assumption) ?_
      rotate_left
      · (intro w hSw; (try dsimp only at hSw); (go_simp <;> with_reducible rfl))
      try simp only [Act.put, List.setIfInBounds_toArray, List.set_cons_zero, List.set_cons_succ]
      refine wpAnyH_take (i := 5) (oi := { dst := some 32, op := Op.call { callee := Callee.builtin Builtin.len, args := #[Operand.tmp 31], argTypes := #[27] }, type := 3, pos := "l3_choices.go:180", after := #[{ on := 4, ground := Ground.data }], guard := none }) (v := ?_) rfl (by kernel_rfl) (by kernel_rfl) (by kernel_rfl) (fun _ _ _ h => h) (Or.inl ⟨by rfl, ?_⟩) (by assumption) ?_
      rotate_left
      · (intro w hSw; (try dsimp only at hSw); (go_simp <;> with_reducible rfl))
      try simp only [Act.put, List.setIfInBounds_toArray, List.set_cons_zero, List.set_cons_succ]
      refine wpAnyH_ready (rs := [1, 6]) (by kernel_rfl) (by simp) ?_
      refine AllReadyH.cons (o := { dst := some 28, op := Op.buildSlice 33 0 #[], type := 33, pos := "l3_choices.go:180", after := #[], guard := none }) rfl (fun K hK => ?_) ?_
      · go_simp
        have BA := Lib.hid (show But w4.heap.size (w1.heap.size + 1) w4 (w4.alloc (.cells #[] 47)).drew from But.of_below (((Below.refl w4.heap.size w4).alloc (Nat.le_refl _) _).drew))
        refine hK.out _ _ ?_ (fun hHeld1 => ?_)
        · exact keepP SB.out BA.out H4.out.2.2.2 HX.out
        clear hK K hHeld
        try simp only [Act.put, List.setIfInBounds_toArray, List.set_cons_zero, List.set_cons_succ]
        refine wpAnyH_ready (rs := [6]) (by kernel_rfl) (by simp) ?_
        refine AllReadyH.cons (o := { dst := some 33, op := Op.call { callee := Callee.value (Operand.func 60), args := #[Operand.tmp 30, Operand.tmp 32], argTypes := #[76, 3] }, type := 3, pos := "l3_choices.go:180", after := #[{ on := 3, ground := Ground.data }, { on := 5, ground := Ground.data }], guard := none }) rfl (fun K hK => ?_) AllReadyH.nil
        go_simp
        go_at_call 60
        refine (HPA.out _).mono ?_
        rintro e5 w5 ⟨r5, rfl, hp0, hp1, hrd5, hbut5⟩
        obtain ⟨p, rfl⟩ : ∃ p : Nat, r5 = (p : Int) := ⟨r5.toNat, by omega⟩
        have hpM : p < M := by omega
        have hpi : (p : Int) < (M : Int) := by omega
        have hpn : (0 : Int) ≤ (p : Int) := Int.natCast_nonneg _
        have B6 := Lib.hid (show But w4.heap.size (w1.heap.size + 1) w4 w5 from BA.out.trans (hbut5.mono BA.out.size))
        have HB5 := Lib.hid hbut5
        clear hp0 hp1 hrd5 hbut5
        try go_wp2_with fail
        refine hK.out _ _ ?_ (fun hHeld6 => ?_)
        · exact keepP SB.out B6.out H4.out.2.2.2 HX.out
        clear hK K hHeld1
        try simp only [Act.put, List.setIfInBounds_toArray, List.set_cons_zero, List.set_cons_succ]
        refine wpAnyH_take (i := 7) (oi := { dst := some 34, op := Op.indexAddr 27 (Operand.tmp 29) (Operand.tmp 33), type := 0, pos := "l3_choices.go:180", after := #[{ on := 2, ground := Ground.data }, { on := 6, ground := Ground.data }], guard := none }) (v := ?_) rfl (by kernel_rfl) (by kernel_rfl) (by kernel_rfl) (fun _ _ _ h => h) (Or.inl ⟨by rfl, ?_⟩) (by assumption) ?_
        rotate_left
        · (intro w hSw; (try dsimp only at hSw); (go_simp <;> with_reducible rfl))
        try simp only [Act.put, List.setIfInBounds_toArray, List.set_cons_zero, List.set_cons_succ]
        refine wpAnyH_take (i := 8) (oi := { dst := some 35, op := Op.load 33 (Operand.tmp 34), type := 33, pos := "l3_choices.go:180", after := #[{ on := 7, ground := Ground.data }], guard := none }) (v := ?_) rfl (by kernel_rfl) (by kernel_rfl) (by kernel_rfl) (fun _ _ _ h => h) (Or.inl ⟨by rfl, ?_⟩) (by assumption) ?_
        rotate_left
        · (intro w hSw; (try dsimp only at hSw); have hcl := hSw.2.2 p hpM; have hbl := hSw.2.1; (go_simp <;> with_reducible rfl))
        try simp only [Act.put, List.setIfInBounds_toArray, List.set_cons_zero, List.set_cons_succ]
        refine wpAnyH_ready (rs := [9]) (by kernel_rfl) (by simp) ?_
        refine AllReadyH.cons (o := { dst := some 36, op := Op.call { callee := Callee.builtin Builtin.append, args := #[Operand.tmp 28, Operand.tmp 35], argTypes := #[33, 33] }, type := 33, pos := "l3_choices.go:180", after := #[{ on := 1, ground := Ground.data }, { on := 8, ground := Ground.data }, { on := 6, ground := Ground.chain }], guard := none }) rfl (fun K hK => ?_) AllReadyH.nil
        have hpX : p < X.length := by rw [HM.out]; exact hpM
        obtain ⟨_, _, _, hNp, hLp, hGp⟩ := KL.out p hpX
        have hlvp := lv_len (HPOS.out.2.2 _ (List.getElem_mem hpX))
        have hown : LayC.Own w5 [] w4.heap.size 0 w4.heap.size := ⟨LayAt.nil _ _ _, fun j hj => by omega, Nat.le_refl _, Nat.le_refl _, Nat.lt_of_lt_of_le (by show w4.heap.size < (w4.alloc _).heap.size; simp) HB5.out.size, fun o => (HB5.out.frozen (by show w4.heap.size < (w4.alloc _).heap.size; simp) (by have := H4.out.2.2.2; omega)).trans (World.frozen?_alloc_new _ _ _ _)⟩
        have h3W : But w3.heap.size (w1.heap.size + 1) w3 w5 := H4.out.2.1.trans (B6.out.mono H4.out.2.1.size)
        have hLW : LaySub w5 (AA p) X[p] (gg p) := hLp.congr fun c hc o => h3W.cell (hLp.lt c hc) (by have := hGp c hc; have := H2.out.2.2.2; omega)
        obtain ⟨g', cap', w9, hrun, hcap, hrow, hg, hbel⟩ := copy_rows hown B6.out.size (cc := CC p) hLW hNp hlvp.1 hlvp.2
        have B9 := Lib.hid (show But w4.heap.size (w1.heap.size + 1) w4 w9 from B6.out.trans (But.of_below hbel))
        have h19 : But w1.heap.size (w1.heap.size + 1) w1 w9 := BW.out.trans (B9.out.mono BW.out.size)
        have H19 := Lib.hid h19
        have hth := there_but H1.out.2.2.2.2.2.2 h19 H1.out.2.2.2.2.2.1 (by have := H1.out.2.2.2.2.2.1; omega)
        obtain ⟨⟨u0, u1, u2, u3, y0, y1, y2, y3⟩, z0, z1, z2, z3⟩ := there_at hth
        have hl9 : w.heap.size < w9.heap.size := Nat.lt_of_lt_of_le H1.out.2.2.2.2.2.1 h19.size
        have HLY := Lib.hid (And.intro hcap (And.intro hNp (And.intro hlvp.2 (And.intro hrow (show ∀ c ∈ [g'], w.heap.size < c from fun c hc => by rw [List.mem_singleton] at hc; subst hc; have := H1.out.2.2.2.2.2.1; have := H4.out.2.2.2; omega)))))
        refine append_op (by kernel_rfl) (.tmp 28) (.tmp 35) 33 rfl rfl rfl hrun ?_
        clear hrun hown h3W hLW hLp hGp hlvp hcap hrow hg hbel h19 hth hNp
        refine hK.out _ _ ?_ (fun hHeld9 => ?_)
        · exact keepP SB.out B9.out H4.out.2.2.2 HX.out
        clear hK K hHeld6
        try simp only [Act.put, List.setIfInBounds_toArray, List.set_cons_zero, List.set_cons_succ]
        refine wpAnyH_ready (rs := [10]) (by kernel_rfl) (by simp) ?_
        refine AllReadyH.cons (o := { dst := none, op := Op.store 25 (Operand.tmp 2) (Operand.tmp 27), type := 0, pos := "l3_choices.go:180", after := #[{ on := 0, ground := Ground.data }, { on := 9, ground := Ground.chain }, { on := 0, ground := Ground.phase }, { on := 1, ground := Ground.textOnly Departure.lateStores }, { on := 2, ground := Ground.textOnly Departure.lateStores }, { on := 3, ground := Ground.textOnly Departure.lateStores }, { on := 4, ground := Ground.textOnly Departure.lateStores }, { on := 5, ground := Ground.textOnly Departure.lateStoresUnsure }, { on := 6, ground := Ground.textOnly Departure.lateStoresUnsure }, { on := 7, ground := Ground.textOnly Departure.lateStores }, { on := 8, ground := Ground.textOnly Departure.lateStores }, { on := 9, ground := Ground.textOnly Departure.lateStoresUnsure }], guard := none }) rfl (fun K hK => ?_) AllReadyH.nil
        go_simp
        refine hK.out _ _ ?_ (fun hHeld10 => ?_)
        · exact keepPS (d := w.heap.size) (by omega) (by omega) hHeld9
        clear hK K hHeld9
        try simp only [Act.put, List.setIfInBounds_toArray, List.set_cons_zero, List.set_cons_succ]
        refine wpAnyH_take (i := 11) (oi := { dst := some 3, op := Op.assign (Operand.tmp 36), type := 33, pos := "l3_choices.go:180", after := #[{ on := 9, ground := Ground.data }, { on := 10, ground := Ground.chain }, { on := 0, ground := Ground.phase }, { on := 1, ground := Ground.phase }, { on := 2, ground := Ground.phase }, { on := 3, ground := Ground.phase }, { on := 4, ground := Ground.phase }, { on := 5, ground := Ground.phase }, { on := 6, ground := Ground.phase }, { on := 7, ground := Ground.phase }, { on := 8, ground := Ground.phase }, { on := 9, ground := Ground.phase }, { on := 10, ground := Ground.phase }], guard := none }) (v := ?_) rfl (by kernel_rfl) (by kernel_rfl) (by kernel_rfl) (fun _ _ _ h => h) (Or.inl ⟨by rfl, ?_⟩) (by assumption) ?_
        rotate_left
        · (intro w hSw; (try dsimp only at hSw); (go_simp <;> with_reducible rfl))
        try simp only [Act.put, List.setIfInBounds_toArray, List.set_cons_zero, List.set_cons_succ]
        refine wpAnyH_done (by kernel_rfl) ?_ _
        go_wp2_with fail
        refine bodyPost_ret (v := .tuple #[.agg #[.int .i64 o, .int .i64 n, .string t, .slice a k.len cap], .slice (some ⟨g', 0, none⟩) (N p) cap']) (by simp [results, Try.results26, go_sem, y0, y1, y2, y3, hl9]) rfl ?_
        obtain ⟨hcap, hNp, hl200, hrow, hgo⟩ := HLY.out
        rw [hNp] at hcap ⊢
        exact fin H1.out H19.out hcap hl200 hrow hgo
      refine AllReadyH.cons (o := { dst := some 33, op := Op.call { callee := Callee.value (Operand.func 60), args := #[Operand.tmp 30, Operand.tmp 32], argTypes := #[76, 3] }, type := 3, pos := "l3_choices.go:180", after := #[{ on := 3, ground := Ground.data }, { on := 5, ground := Ground.data }], guard := none }) rfl (fun K hK => ?_) AllReadyH.nil
      go_simp
      go_at_call 60
      refine HPB.out.mono ?_
      rintro e5 w5 ⟨r5, rfl, hp0, hp1, hrd5, hbut5⟩
      obtain ⟨p, rfl⟩ : ∃ p : Nat, r5 = (p : Int) := ⟨r5.toNat, by omega⟩
      have hpM : p < M := by omega
      have hpi : (p : Int) < (M : Int) := by omega
      have hpn : (0 : Int) ≤ (p : Int) := Int.natCast_nonneg _
      have B6 := Lib.hid (show But w4.heap.size (w1.heap.size + 1) w4 w5 from (But.of_below ((Below.refl w4.heap.size w4).drew)).trans hbut5)
      have HB5 := Lib.hid hbut5
      clear hp0 hp1 hrd5 hbut5
      try go_wp2_with fail
      refine hK.out _ _ ?_ (fun hHeld6 => ?_)
      · exact keepP SB.out B6.out H4.out.2.2.2 HX.out
      clear hK K hHeld
      try simp only [Act.put, List.setIfInBounds_toArray, List.set_cons_zero, List.set_cons_succ]
      refine wpAnyH_take (i := 7) (oi := { dst := some 34, op := Op.indexAddr 27 (Operand.tmp 29) (Operand.tmp 33), type := 0, pos := "l3_choices.go:180", after := #[{ on := 2, ground := Ground.data }, { on := 6, ground := Ground.data }], guard := none }) (v := ?_) rfl (by kernel_rfl) (by kernel_rfl) (by kernel_rfl) (fun _ _ _ h => h) (Or.inl ⟨by rfl, ?_⟩) (by assumption) ?_
      rotate_left
      · (intro w hSw; (try dsimp only at hSw); (go_simp <;> with_reducible rfl))
      try simp only [Act.put, List.setIfInBounds_toArray, List.set_cons_zero, List.set_cons_succ]
      refine wpAnyH_take (i := 8) (oi := { dst := some 35, op := Op.load 33 (Operand.tmp 34), type := 33, pos := "l3_choices.go:180", after := #[{ on := 7, ground := Ground.data }], guard := none }) (v := ?_) rfl (by kernel_rfl) (by kernel_rfl) (by kernel_rfl) (fun _ _ _ h => h) (Or.inl ⟨by rfl, ?_⟩) (by assumption) ?_
      rotate_left
      · (intro w hSw; (try dsimp only at hSw); have hcl := hSw.2.2 p hpM; have hbl := hSw.2.1; (go_simp <;> with_reducible rfl))
      try simp only [Act.put, List.setIfInBounds_toArray, List.set_cons_zero, List.set_cons_succ]
      refine wpAnyH_ready (rs := [1]) (by kernel_rfl) (by simp) ?_
      refine AllReadyH.cons (o := { dst := some 28, op := Op.buildSlice 33 0 #[], type := 33, pos := "l3_choices.go:180", after := #[], guard := none }) rfl (fun K hK => ?_) AllReadyH.nil
      go_simp
      have BA := Lib.hid (show But w4.heap.size (w1.heap.size + 1) w4 (w5.alloc (.cells #[] 47)) from B6.out.trans (But.of_below ((Below.refl _ w5).alloc B6.out.size _)))
      refine hK.out _ _ ?_ (fun hHeld1 => ?_)
      · exact keepP SB.out BA.out H4.out.2.2.2 HX.out
      clear hK K hHeld6
      try simp only [Act.put, List.setIfInBounds_toArray, List.set_cons_zero, List.set_cons_succ]
      refine wpAnyH_ready (rs := [9]) (by kernel_rfl) (by simp) ?_
      refine AllReadyH.cons (o := { dst := some 36, op := Op.call { callee := Callee.builtin Builtin.append, args := #[Operand.tmp 28, Operand.tmp 35], argTypes := #[33, 33] }, type := 33, pos := "l3_choices.go:180", after := #[{ on := 1, ground := Ground.data }, { on := 8, ground := Ground.data }, { on := 6, ground := Ground.chain }], guard := none }) rfl (fun K hK => ?_) AllReadyH.nil
      have hpX : p < X.length := by rw [HM.out]; exact hpM
      obtain ⟨_, _, _, hNp, hLp, hGp⟩ := KL.out p hpX
      have hlvp := lv_len (HPOS.out.2.2 _ (List.getElem_mem hpX))
      have hown : LayC.Own (w5.alloc (.cells #[] 47)) [] w5.heap.size 0 w4.heap.size := ⟨LayAt.nil _ _ _, fun j hj => by omega, Nat.le_refl _, B6.out.size, by simp, fun o => World.frozen?_alloc_new _ _ _ _⟩
      have h3W : But w3.heap.size (w1.heap.size + 1) w3 (w5.alloc (.cells #[] 47)) := H4.out.2.1.trans (BA.out.mono H4.out.2.1.size)
      have hLW : LaySub (w5.alloc (.cells #[] 47)) (AA p) X[p] (gg p) := hLp.congr fun c hc o => h3W.cell (hLp.lt c hc) (by have := hGp c hc; have := H2.out.2.2.2; omega)
      obtain ⟨g', cap', w9, hrun, hcap, hrow, hg, hbel⟩ := copy_rows hown BA.out.size (cc := CC p) hLW hNp hlvp.1 hlvp.2
      have B9 := Lib.hid (show But w4.heap.size (w1.heap.size + 1) w4 w9 from BA.out.trans (But.of_below hbel))
      have h19 : But w1.heap.size (w1.heap.size + 1) w1 w9 := BW.out.trans (B9.out.mono BW.out.size)
      have H19 := Lib.hid h19
      have hth := there_but H1.out.2.2.2.2.2.2 h19 H1.out.2.2.2.2.2.1 (by have := H1.out.2.2.2.2.2.1; omega)
      obtain ⟨⟨u0, u1, u2, u3, y0, y1, y2, y3⟩, z0, z1, z2, z3⟩ := there_at hth
      have hl9 : w.heap.size < w9.heap.size := Nat.lt_of_lt_of_le H1.out.2.2.2.2.2.1 h19.size
      have HLY := Lib.hid (And.intro hcap (And.intro hNp (And.intro hlvp.2 (And.intro hrow (show ∀ c ∈ [g'], w.heap.size < c from fun c hc => by rw [List.mem_singleton] at hc; subst hc; have := H1.out.2.2.2.2.2.1; have := H4.out.2.2.2; omega)))))
      refine append_op (by kernel_rfl) (.tmp 28) (.tmp 35) 33 rfl rfl rfl hrun ?_
      clear hrun hown h3W hLW hLp hGp hlvp hcap hrow hg hbel h19 hth hNp
      refine hK.out _ _ ?_ (fun hHeld9 => ?_)
      · exact keepP SB.out B9.out H4.out.2.2.2 HX.out
      clear hK K hHeld1
      try simp only [Act.put, List.setIfInBounds_toArray, List.set_cons_zero, List.set_cons_succ]
      refine wpAnyH_ready (rs := [10]) (by kernel_rfl) (by simp) ?_
      refine AllReadyH.cons (o := { dst := none, op := Op.store 25 (Operand.tmp 2) (Operand.tmp 27), type := 0, pos := "l3_choices.go:180", after := #[{ on := 0, ground := Ground.data }, { on := 9, ground := Ground.chain }, { on := 0, ground := Ground.phase }, { on := 1, ground := Ground.textOnly Departure.lateStores }, { on := 2, ground := Ground.textOnly Departure.lateStores }, { on := 3, ground := Ground.textOnly Departure.lateStores }, { on := 4, ground := Ground.textOnly Departure.lateStores }, { on := 5, ground := Ground.textOnly Departure.lateStoresUnsure }, { on := 6, ground := Ground.textOnly Departure.lateStoresUnsure }, { on := 7, ground := Ground.textOnly Departure.lateStores }, { on := 8, ground := Ground.textOnly Departure.lateStores }, { on := 9, ground := Ground.textOnly Departure.lateStoresUnsure }], guard := none }) rfl (fun K hK => ?_) AllReadyH.nil
      go_simp
      refine hK.out _ _ ?_ (fun hHeld10 => ?_)
      · exact keepPS (d := w.heap.size) (by omega) (by omega) hHeld9
      clear hK K hHeld9
      try simp only [Act.put, List.setIfInBounds_toArray, List.set_cons_zero, List.set_cons_succ]
      refine wpAnyH_take (i := 11) (oi := { dst := some 3, op := Op.assign (Operand.tmp 36), type := 33, pos := "l3_choices.go:180", after := #[{ on := 9, ground := Ground.data }, { on := 10, ground := Ground.chain }, { on := 0, ground := Ground.phase }, { on := 1, ground := Ground.phase }, { on := 2, ground := Ground.phase }, { on := 3, ground := Ground.phase }, { on := 4, ground := Ground.phase }, { on := 5, ground := Ground.phase }, { on := 6, ground := Ground.phase }, { on := 7, ground := Ground.phase }, { on := 8, ground := Ground.phase }, { on := 9, ground := Ground.phase }, { on := 10, ground := Ground.phase }], guard := none }) (v := ?_) rfl (by kernel_rfl) (by kernel_rfl) (by kernel_rfl) (fun _ _ _ h => h) (Or.inl ⟨by rfl, ?_⟩) (by assumption) ?_
      rotate_left
      · (intro w hSw; (try dsimp only at hSw); (go_simp <;> with_reducible rfl))
      try simp only [Act.put, List.setIfInBounds_toArray, List.set_cons_zero, List.set_cons_succ]
      refine wpAnyH_done (by kernel_rfl) ?_ _
      go_wp2_with fail
      refine bodyPost_ret (v := .tuple #[.agg #[.int .i64 o, .int .i64 n, .string t, .slice a k.len cap], .slice (some ⟨g', 0, none⟩) (N p) cap']) (by simp [results, Try.results26, go_sem, y0, y1, y2, y3, hl9]) rfl ?_
      obtain ⟨hcap, hNp, hl200, hrow, hgo⟩ := HLY.out
      rw [hNp] at hcap ⊢
      exact fin H1.out H19.out hcap hl200 hrow hgo

end Go.Proofs.Ytpiaiandjnpdfaa.DrW


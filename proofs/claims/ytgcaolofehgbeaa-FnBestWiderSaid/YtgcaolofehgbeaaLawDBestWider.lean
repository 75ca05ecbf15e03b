import Derived.Test.YtgcaolofehgbeaaDr5
import Derived.Test.YtgcaolofehgbeaaBeI
import Derived.Test.YtgcaolofehgbeaaBeQ
import Derived.Test.YtgcaolofehgbeaaDcK
import Derived.Test.YtgcaolofehgbeaaDrZ
import Derived.IntWalk
import Derived.Test.YtgcaolofehgbeaaFacts
import Derived.Test.YtgcaolofehgbeaaRows
import Derived.Deep.RegionHeld3
/-
  In a wider page the best layout costs no more: the law FnBestWider returns true for whatever draws, and its argument reads as it did. No condition of ours.
-/
set_option linter.unusedVariables false
set_option linter.unusedSimpArgs false
namespace Go.Proofs.Ytgcaolofehgbeaa.lawBestWiderD
open Go.ChangeShapes Go.WideShapes Go.ChangeAt Go.RowKit P1 Draw6 LawC Cst Be

/-- the two cells of a cost in a variable -/
def Cb (W : World) (b : Nat) (u v : Int) : Prop := (W.cell? ⟨b, 0, none⟩ = some (.int .i64 u) ∧ W.cell? ⟨b, 1, none⟩ = some (.int .i64 v)) ∧ b < W.heap.size
theorem Cb.ext {W W' : World} {b : Nat} {u v : Int} (h : Cb W b u v) (k : Ext W W') : Cb W' b u v := ⟨⟨(k.cell h.2).trans h.1.1, (k.cell h.2).trans h.1.2⟩, Nat.lt_of_lt_of_le h.2 k.size⟩
theorem Cb.new (W : World) (u v : Int) (T : TypeId) : Cb (W.alloc (.cells #[.int .i64 u, .int .i64 v] T)) W.heap.size u v := ⟨⟨by rw [World.cell?_alloc_new]; rfl, by rw [World.cell?_alloc_new]; rfl⟩, by simp⟩
/-- the four cells of a document in a variable -/
def Db (W : World) (b : Nat) (u0 u1 u2 u3 : Value) : Prop := (W.cell? ⟨b, 0, none⟩ = some u0 ∧ W.cell? ⟨b, 1, none⟩ = some u1 ∧ W.cell? ⟨b, 2, none⟩ = some u2 ∧ W.cell? ⟨b, 3, none⟩ = some u3) ∧ b < W.heap.size
theorem Db.ext {W W' : World} {b : Nat} {u0 u1 u2 u3 : Value} (h : Db W b u0 u1 u2 u3) (k : Ext W W') : Db W' b u0 u1 u2 u3 := ⟨⟨(k.cell h.2).trans h.1.1, (k.cell h.2).trans h.1.2.1, (k.cell h.2).trans h.1.2.2.1, (k.cell h.2).trans h.1.2.2.2⟩, Nat.lt_of_lt_of_le h.2 k.size⟩
theorem Db.new (W : World) (u0 u1 u2 u3 : Value) (T : TypeId) : Db (W.alloc (.cells #[u0, u1, u2, u3] T)) W.heap.size u0 u1 u2 u3 := ⟨⟨by rw [World.cell?_alloc_new]; rfl, by rw [World.cell?_alloc_new]; rfl, by rw [World.cell?_alloc_new]; rfl, by rw [World.cell?_alloc_new]; rfl⟩, by simp⟩
theorem cost_refl (u v : Int) (w : World) : (Op.equalIn 10000 36 (.agg #[.int .i64 u, .int .i64 v]) (.agg #[.int .i64 u, .int .i64 v])).run Try.prog w = .ok true w := by rw [cost_eq]; simp

set_option maxRecDepth 100000 in
set_option maxHeartbeats 6400000 in
theorem walk_good (w : World) (a0 : Option Addr) (len0 cap0 : Nat) (hb0 : Bytes w a0 len0) (hlc0 : len0 ≤ cap0) (hcm0 : cap0 ≤ maxLen) (hl0 : len0 ≤ 1048576) :
    Calls Try.prog 4 #[.slice a0 len0 cap0] w fun e w' => e = .returned (.bool true) ∧ Ext w w' := by
  have HD0 := Lib.hid (Dr5.drawBestCost w a0 len0 cap0 hb0 hlc0 hcm0)
  clear hb0
  unfold maxLen at hcm0
  go_enter Try.func4, Try.ntmps4
  go_wp2_with fail
  refine HD0.out.mono ?_
  rintro e1 w1 ⟨o, n, t, k, a, cap, fs, i, rfl, hi, hc, hsz, hsub, hfr, hb1⟩
  have DD := Lib.hid (show DocK.Doc0 w1 n t k a cap fs from ⟨hsub, fun c hc => (hfr.2 c hc).2, hc, by omega⟩)
  have E1 := Lib.hid (show Ext w w1 from hb1)
  have hxw : IntKind.i64.wrap (i + 1) = i + 1 := IntWalk.i64_in _ ⟨by omega, by omega⟩
  obtain ⟨⟨C1, C2, ok⟩, hr⟩ : ∃ r, bcR i o n t k = r := ⟨_, rfl⟩
  obtain ⟨⟨D1, D2, fine⟩, hr2⟩ : ∃ r, bcR (i + 1) o n t k = r := ⟨_, rfl⟩
  have HCI := Lib.hid (show ∀ (x : Int) (W : World), Ext w1 W → Calls Try.prog 16 #[.agg #[.int .i64 o, .int .i64 n, .string t, .slice a k.len cap], .int .i64 x] W (CoOut W (bcR x o n t k)) from fun x W e => implBestCost x W o n t k a cap fs (DD.out.ext e).sub (DD.out.ext e).ok hc (by have := DD.out.size; omega) DD.out.fits DD.out.tfit)
  have HCS := Lib.hid (show ∀ (x : Int) (W : World), Ext w1 W → Calls Try.prog 17 #[.agg #[.int .i64 o, .int .i64 n, .string t, .slice a k.len cap], .int .i64 x] W (CoOut W (bcR x o n t k)) from fun x W e => specBestCost x W o n t k a cap fs (DD.out.ext e).sub (fun c h => ((DD.out.ext e).ok c h).1) hc (by have := DD.out.size; omega) DD.out.fits DD.out.tfit)
  have HC1 := Lib.hid (show ∀ (W : World), Ext w1 W → Calls Try.prog 16 #[.agg #[.int .i64 o, .int .i64 n, .string t, .slice a k.len cap], .int .i64 i] W fun e w' => e = .returned (.tuple #[.agg #[.int .i64 C1, .int .i64 C2], .bool ok]) ∧ Ext W w' from fun W e => by have h := HCI.out i W e; rw [hr] at h; exact h)
  have HC2 := Lib.hid (show ∀ (W : World), Ext w1 W → Calls Try.prog 17 #[.agg #[.int .i64 o, .int .i64 n, .string t, .slice a k.len cap], .int .i64 i] W fun e w' => e = .returned (.tuple #[.agg #[.int .i64 C1, .int .i64 C2], .bool ok]) ∧ Ext W w' from fun W e => by have h := HCS.out i W e; rw [hr] at h; exact h)
  have HC3 := Lib.hid (show ∀ (W : World), Ext w1 W → Calls Try.prog 16 #[.agg #[.int .i64 o, .int .i64 n, .string t, .slice a k.len cap], .int .i64 (i + 1)] W fun e w' => e = .returned (.tuple #[.agg #[.int .i64 D1, .int .i64 D2], .bool fine]) ∧ Ext W w' from fun W e => by have h := HCI.out (i + 1) W e; rw [hr2] at h; exact h)
  have HWD := Lib.hid (show ok = true → fine = true → D1 ≤ C1 ∧ cmpC D1 D2 C1 C2 ≤ 0 from fun h h' => by subst h h'; exact bc_wider hr hr2)
  have heq := cost_refl C1 C2
  have hoo : (ok != ok) = false := by simp
  have hoe : (ok == ok) = true := by simp
  clear hsub hfr hb1 hr hr2 hc hsz HCI HCS
  go_wp2_with fail
  refine (HC1.out _ ((Ext.refl _).alloc _)).mono ?_
  rintro e2 w2 ⟨rfl, hb⟩
  have X2 := Lib.hid ((Db.new w1 (.int .i64 o) (.int .i64 n) (.string t) (.slice a k.len cap) 25).ext hb)
  have E2 := Lib.hid (show Ext w1 w2 from ((Ext.refl _).alloc _).trans hb)
  obtain ⟨b0, hb0⟩ : ∃ b, w1.heap.size = b := ⟨_, rfl⟩
  rw [hb0] at X2 ⊢
  clear hb hb0
  have N2 := Lib.hid (Cb.new w2 C1 C2 36)
  have hE3 := (Ext.refl w2).alloc (.cells #[.int .i64 C1, .int .i64 C2] 36)
  have Y2 := Lib.hid (X2.out.ext hE3)
  obtain ⟨⟨x0, x1, x2, x3⟩, xl⟩ := X2.out
  go_wp2_with fail
  refine (HC2.out _ (E2.out.trans hE3)).mono ?_
  rintro e3 w3 ⟨rfl, hb⟩
  obtain ⟨b1, hb1⟩ : ∃ b, w2.heap.size = b := ⟨_, rfl⟩
  rw [hb1] at N2 ⊢
  have X3 := Lib.hid (Y2.out.ext hb)
  have K3 := Lib.hid (N2.out.ext hb)
  have E3 := Lib.hid ((E2.out.trans hE3).trans hb)
  clear hb hb1 hE3 N2 Y2 x0 x1 x2 x3 xl
  have hE4 := (Ext.refl w3).alloc (.cells #[.int .i64 C1, .int .i64 C2] 36)
  obtain ⟨⟨y0, y1⟩, yl⟩ := K3.out
  cases ok with
  | false =>
    go_wp2_with fail
    go_ret
    exact ⟨by first | rfl | simp, E1.out.trans (E3.out.trans hE4)⟩
  | true =>
    obtain ⟨⟨x0, x1, x2, x3⟩, xl⟩ := X3.out
    go_wp2_with fail
    refine (HC3.out _ (E3.out.trans hE4)).mono ?_
    rintro e5 w5 ⟨rfl, hb⟩
    have K5 := Lib.hid ((K3.out.ext hE4).ext hb)
    have E5 := Lib.hid (E1.out.trans ((E3.out.trans hE4).trans hb))
    clear hb hE4 x0 x1 x2 x3 xl y0 y1 yl
    cases fine with
    | false =>
      have hE6 := (Ext.refl w5).alloc (.cells #[.int .i64 D1, .int .i64 D2] 36)
      go_wp2_with fail
      go_ret
      exact ⟨by first | rfl | simp, E5.out.trans hE6⟩
    | true =>
      obtain ⟨hle, hcmp⟩ : D1 ≤ C1 ∧ cmpC D1 D2 C1 C2 ≤ 0 := by first | exact HWD.out rfl rfl | exact HWD.out trivial rfl | exact HWD.out trivial trivial
      have hleb : decide (D1 ≤ C1) = true := decide_eq_true hle
      obtain ⟨z, hz⟩ : ∃ z, cmpC D1 D2 C1 C2 = z := ⟨_, rfl⟩
      have HQ := Lib.hid (fun (W : World) => implCompareCosts D1 D2 C1 C2 W)
      rw [hz] at HQ hcmp
      have hzb : decide (z ≤ 0) = true := decide_eq_true hcmp
      have hE6 := (Ext.refl w5).alloc (.cells #[.int .i64 D1, .int .i64 D2] 36)
      obtain ⟨⟨y0, y1⟩, yl⟩ := K5.out
      clear hz
      go_wp2_with fail
      refine (HQ.out _).mono ?_
      rintro e7 w7 ⟨rfl, hb⟩
      have E7 := Lib.hid (E5.out.trans (hE6.trans hb))
      clear hb hE6 y0 y1 yl
      go_wp2_with fail
      go_ret
      exact ⟨by first | rfl | simp, E7.out⟩

set_option maxHeartbeats 400000 in
theorem walk_big (w : World) (a0 : Option Addr) (len0 cap0 : Nat) (hl0 : 1048576 < len0) :
    Calls Try.prog 4 #[.slice a0 len0 cap0] w fun e w' => e = .returned (.bool true) ∧ Ext w w' := by
  have h1 : (1048576 : Int) < (len0 : Int) := by omega
  go_enter Try.func4, Try.ntmps4
  go_wp2_with fail
  go_ret
  exact ⟨rfl, Ext.refl w⟩

theorem walk (w : World) (a0 : Option Addr) (len0 cap0 : Nat) (hb0 : Bytes w a0 len0) (hlc0 : len0 ≤ cap0) (hcm0 : cap0 ≤ maxLen) :
    Calls Try.prog 4 #[.slice a0 len0 cap0] w fun e w' => e = .returned (.bool true) ∧ Below w.heap.size w w' := by
  by_cases h : 1048576 < len0
  · exact walk_big w a0 len0 cap0 h
  · exact walk_good w a0 len0 cap0 hb0 hlc0 hcm0 (by omega)

set_option maxRecDepth 100000 in
theorem lifted (os : Os) (started : os.Started) (H : Type) (enc : TypeId × Value → H) :
    ReturnsInHanded {} Try.checked os 4 .any (Rows.fnBestWiderSpec.pre6 enc Try.prog Try.f4 Rows.fnBestWiderRow.domain false) (Rows.fnBestWiderSpec.post enc Try.prog Try.f4 false true false false) := by
  refine returnsInHanded_of_change (C := Try.checked) Facts.own started (by kernel_rfl) Try.func4
    (ChangeSpec.witness6 (enc := enc) (C := Try.checked) false ⟨#[], #[.slice none 0 0], []⟩ 8 (by kernel_rfl) (by kernel_rfl) (by kernel_rfl) (by kernel_rfl)) ?_
  intro W base args ds gs before hval0 hW hcnd0 _
  clear hcnd0
  have hval : ∀ (j : Nat) t v, Try.f4.params[j]? = some t → args[j]? = some v → Value.okWide Try.prog W .any base t v := hval0
  have hW' := hW
  obtain ⟨p, q, hA0, hV, rfl, hfz, hnd⟩ := hW
  have hA : DataW.TrodAll enc Try.prog W 0 (fun _ => true) true Try.f4.params.toList args.toList ds p := hA0
  rw [Try.params4] at hA hval
  obtain ⟨v0, d0, rfl, rfl, h0⟩ := trodAll_one hA
  obtain ⟨rfl, rfl⟩ := trodVars_none hV
  obtain ⟨a0, len0, cap0, rfl⟩ := okWide_slice Try.underlying22 (hval 0 22 v0 rfl rfl)
  clear hA0 hval0
  simp only [List.append_nil] at hW'
  have hlt : ∀ x ∈ p, x.block < W.heap.size := fun x hx => by simpa using hW'.lt x hx
  obtain ⟨hb0, hlc0, hcm0⟩ := opened h0
  refine (walk W a0 len0 cap0 hb0 hlc0 hcm0).mono fun e W' ⟨he, hb⟩ => ?_
  subst he
  refine ⟨_, rfl, [_], [], p, [], p, [], hW', trodAll_mk1 (shut_bool Try.underlying4 _), ?_, rfl, hb.frame _, fun h => by cases h⟩
  exact trodAll_mk1 (Below.trod Facts.laidOut (by kernel_rfl) (of_decide_eq_true (by kernel_rfl)) h0 hb hlt)

theorem named : Try.prog.funcNamed Rows.fnBestWiderRow.func = some 4 := by kernel_rfl
theorem closed : joinedFacts Try.prog 4 Try.f4 Rows.fnBestWiderSpec Rows.fnBestWiderRow = true :=
  Facts.closed_of rfl rfl rfl rfl (h28b := rfl) (by kernel_rfl) (by kernel_rfl) (by kernel_rfl) (by kernel_rfl) (by kernel_rfl) (by kernel_rfl) (by kernel_rfl) (by kernel_rfl) (by kernel_rfl) (by kernel_rfl) (by kernel_rfl) (by kernel_rfl) (by kernel_rfl) (by kernel_rfl) (by kernel_rfl) (by kernel_rfl) (by kernel_rfl) (by kernel_rfl) (by kernel_rfl) (by kernel_rfl) (by kernel_rfl) (by kernel_rfl) (by kernel_rfl) (by kernel_rfl)
theorem instanced : Try.f4.isInstance Try.prog Rows.fnBestWiderRow.origin Rows.fnBestWiderRow.targs := of_decide_eq_true (by kernel_rfl)
theorem wrapped : Try.f4.isWrapper Try.prog Rows.fnBestWiderRow.wrapper Rows.fnBestWiderRow.mainSum := by
  unfold Func.isWrapper
  rw [if_neg (of_decide_eq_false (by kernel_rfl))]
  exact ⟨rfl, rfl⟩

theorem holds : Rows.FnBestWiderSaid :=
  OpenClaim.holds_of_wide 4 Try.f4 rfl rfl rfl rfl rfl rfl rfl ⟨rfl, rfl, rfl, rfl, rfl⟩ rfl rfl rfl rfl rfl named Try.func4 closed instanced wrapped
    (fun os started H enc _ => lifted os started H enc)

end Go.Proofs.Ytgcaolofehgbeaa.lawBestWiderD


import Derived.Test.YtlhdoifjhoocfaaDrP
import Derived.Test.YtlhdoifjhoocfaaParseI
import Derived.Test.YtlhdoifjhoocfaaPsP
import Derived.Test.YtlhdoifjhoocfaaDocK
import Derived.Test.YtlhdoifjhoocfaaDrZ
import Derived.Test.YtlhdoifjhoocfaaFacts
import Derived.Test.YtlhdoifjhoocfaaRows
import Derived.HandedShaped
import Derived.Deep.RegionHeld3
import Derived.Deep.DeepCutAuto
/-
  A parsed text is whole: the law FnParseSize returns true for whatever draws, and its argument reads as it did. No condition of ours.
-/
set_option linter.unusedVariables false
set_option linter.unusedSimpArgs false
namespace Go.Proofs.Ytlhdoifjhoocfaa.lawParseSize
open Go.ChangeShapes Go.WideShapes Go.ChangeAt Go.RowKit P1 Draw6 LawC CntC DocK ReadDocs ParseD CatD

/-- a document's variable -/
def Bx (w : World) (b : Nat) (u0 u1 u2 u3 : Value) : Prop := (w.cell? ⟨b, 0, none⟩ = some u0 ∧ w.cell? ⟨b, 1, none⟩ = some u1 ∧ w.cell? ⟨b, 2, none⟩ = some u2 ∧ w.cell? ⟨b, 3, none⟩ = some u3) ∧ b < w.heap.size
theorem Bx.ext {w w' : World} {b : Nat} {u0 u1 u2 u3 : Value} (h : Bx w b u0 u1 u2 u3) (k : Ext w w') : Bx w' b u0 u1 u2 u3 := ⟨box4 h.1 h.2 k, Nat.lt_of_lt_of_le h.2 k.size⟩
theorem bx_one (w : World) {w' : World} {u0 u1 u2 u3 : Value} {T : TypeId} (k : Ext (w.alloc (.cells #[u0, u1, u2, u3] T)) w') : Bx w' w.heap.size u0 u1 u2 u3 :=
  Bx.ext ⟨box_new w _ _ _ _ _, by simp⟩ k
theorem bx_first (w : World) {w' : World} {u0 u1 u2 u3 : Value} {T : TypeId} {o : Obj} (k : Ext ((w.alloc (.cells #[u0, u1, u2, u3] T)).alloc o) w') : Bx w' w.heap.size u0 u1 u2 u3 :=
  bx_one w (((Ext.refl _).alloc o).trans k)
theorem bx_next (w : World) {w' : World} {u0 u1 u2 u3 : Value} {T : TypeId} {o : Obj} (k : Ext ((w.alloc o).alloc (.cells #[u0, u1, u2, u3] T)) w') : Bx w' (w.heap.size + 1) u0 u1 u2 u3 := by
  have h := bx_one (w.alloc o) k
  simpa using h

theorem G0.ext {w w' : World} (h : G0 w) (e : Ext w w') : G0 w' := by
  have h0 := h.lt
  obtain ⟨m, h⟩ := h
  exact ⟨m, (e.cell h0).trans h⟩
theorem bytes_list (r : ByteArray) : ∃ l : List UInt8, r = ⟨l.toArray⟩ ∧ r.size = l.length := by
  refine ⟨r.data.toList, by cases r; simp, ?_⟩
  cases r; simp [ByteArray.size]
theorem parR_of_none {chk : Bool} {l : List UInt8} (h : parse chk l = none) : parR chk l = (false, zeroD) := by unfold parR; rw [h]
theorem parR_of_some {chk : Bool} {l : List UInt8} {x : D} (h : parse chk l = some x) : parR chk l = (true, x) := by unfold parR; rw [h]
theorem parse_valid {chk : Bool} {l : List UInt8} {o n : Int} {t : ByteArray} {k : F} (h : parse chk l = some (o, n, t, k)) : validD o n t k = true ∧ t.size + k.size ≤ l.length := parR_true (chk := chk) (by rw [parR_of_some h])

set_option maxRecDepth 100000 in
set_option maxHeartbeats 6400000 in
theorem walk_good (w : World) (a0 : Option Addr) (len0 cap0 : Nat) (hb0 : Bytes w a0 len0) (hlc0 : len0 ≤ cap0) (hcm0 : cap0 ≤ maxLen) (hl0 : len0 ≤ 1048576) (hg : G0 w) :
    Calls Try.prog 3 #[.slice a0 len0 cap0] w fun e w' => e = .returned (.bool true) ∧ Ext w w' := by
  have HD0 := Lib.hid (DrP.drawParseDoc w a0 len0 cap0 hb0 hlc0 hcm0)
  have HG := Lib.hid hg
  clear hb0 hg
  unfold maxLen at hcm0
  go_enter Try.func3, Try.ntmps3
  go_wp2_with fail
  refine HD0.out.mono ?_
  rintro e1 w1 ⟨r, rfl, hr, hb1⟩
  have E1 := Lib.hid (show Ext w w1 from hb1)
  have HG1 := Lib.hid (show ∀ W, Ext w1 W → G0 W from fun W e => G0.ext HG.out (E1.out.trans e))
  obtain ⟨l, hrl, hsz⟩ := bytes_list r
  have hll : l.length ≤ 4000 := by omega
  have HCI := Lib.hid (show ∀ W, Ext w1 W → Calls Try.prog 5 #[.string r] W (DocRes W (parR true l)) from fun W e => by rw [hrl]; exact implParseDoc W l (by omega) (HG1.out W e))
  have HCS := Lib.hid (show ∀ W, Ext w1 W → Calls Try.prog 6 #[.string r] W (DocRes W (parR true l)) from fun W e => by rw [hrl, parR_same]; exact specParseDoc W l (by omega))
  clear hb1
  cases hp : parse true l with
  | none =>
    rw [parR_of_none hp] at HCI HCS
    clear hp hrl hsz hll
    go_wp2_with fail
    refine (HCI.out _ (Ext.refl w1)).mono ?_
    rintro e2 w2 ⟨pa, pc, pf, rfl, hcp, hsp, hfp, hb2⟩
    simp only [zeroD] at hcp hsp
    have E2 := Lib.hid (show Ext w1 w2 from hb2)
    have P2 := Lib.hid (show DocK.Doc0 w2 0 ⟨#[]⟩ F.nil pa pc pf from ⟨hsp, fun c hc => (hfp.2 c hc).2, hcp, by decide⟩)
    clear hcp hsp hfp hb2
    simp only [zeroD]
    go_wp2_with fail
    refine (HCS.out _ (E2.out.alloc _)).mono ?_
    rintro e3 w3 ⟨qa, qc, qf, rfl, hcp, hsp, hfp, hb3⟩
    simp only [zeroD] at hcp hsp
    have B3 := Lib.hid (show Ext w2 w3 from ((Ext.refl w2).alloc _).trans hb3)
    have P3 := Lib.hid (show DocK.Doc0 w3 0 ⟨#[]⟩ F.nil qa qc qf from ⟨hsp, fun c hc => (hfp.2 c hc).2, hcp, by decide⟩)
    have XX3 := Lib.hid (bx_one w2 hb3)
    have E3 := Lib.hid (E2.out.trans B3.out)
    clear hcp hsp hfp hb3
    obtain ⟨⟨x0, x1, x2, x3⟩, lx⟩ := XX3.out
    have HS := Lib.hid (show ∀ (W : World), Ext w3 W → Calls Try.prog 7 #[.agg #[.int .i64 0, .int .i64 0, .string ⟨#[]⟩, .slice pa F.nil.len pc], .agg #[.int .i64 0, .int .i64 0, .string ⟨#[]⟩, .slice qa F.nil.len qc]] W (fun e w' => e = .returned (.bool true) ∧ Ext W w') from fun W e => by
      have h := ((P2.out.ext B3.out).ext e).implDocSame (o' := 0) (P3.out.ext e) 0
      rw [show sameD 0 0 ⟨#[]⟩ F.nil 0 0 ⟨#[]⟩ F.nil = true from by rw [sameD_yes, F.same_self]] at h; exact h)
    try simp only [zeroD]
    go_wp2_with fail
    refine (HS.out _ ((Ext.refl _).alloc _)).mono ?_
    rintro e4 w4 ⟨rfl, hb4⟩
    have B4 := Lib.hid (show Ext w3 w4 from ((Ext.refl w3).alloc _).trans hb4)
    have XW4 := Lib.hid (bx_one w3 hb4)
    have XX4 := Lib.hid (XX3.out.ext B4.out)
    have E4 := Lib.hid (E3.out.trans B4.out)
    clear hb4 x0 x1 x2 x3 lx
    obtain ⟨⟨x0, x1, x2, x3⟩, lx⟩ := XX4.out
    obtain ⟨⟨y0, y1, y2, y3⟩, ly⟩ := XW4.out
    go_wp2_with fail
    refine (HS.out _ B4.out).mono ?_
    rintro e5 w5 ⟨rfl, hb5⟩
    have B5 := Lib.hid hb5
    clear hb5 x0 x1 x2 x3 y0 y1 y2 y3 lx ly
    go_wp2_with fail
    go_ret
    exact ⟨by first | rfl | simp, E1.out.trans (E4.out.trans B5.out)⟩
  | some x =>
    obtain ⟨o, n, t, k⟩ := x
    rw [parR_of_some hp] at HCI HCS
    have HVAL := Lib.hid (And.intro (parse_valid hp).1 (show t.size + k.size ≤ 4000 from Nat.le_trans (parse_valid hp).2 hll))
    obtain ⟨m, hm⟩ : ∃ m : Nat, r.size = m + 1 := by
      have := PsP.parse_ne hp
      have h0 : 0 < l.length := List.length_pos_iff.2 this
      exact ⟨r.size - 1, by omega⟩
    have HMO := Lib.hid (show ∀ W, Ext w1 W → Calls Try.prog 5 #[.string (r ++ ⟨#[126]⟩)] W (DocRes W (false, zeroD)) from fun W e => by
      have h := implParseDoc W (l ++ [126]) (by simp; omega) (HG1.out W e)
      rw [parR_of_none (PsP.parse_more hp 126)] at h
      rw [hrl, show ((⟨l.toArray⟩ : ByteArray) ++ ⟨#[126]⟩) = ⟨(l ++ [126]).toArray⟩ from by apply ByteArray.ext; simp]
      exact h)
    have HLE := Lib.hid (show ∀ W, Ext w1 W → Calls Try.prog 5 #[.string (r.extract 0 m)] W (DocRes W (false, zeroD)) from fun W e => by
      obtain ⟨l', c, rfl⟩ : ∃ l' c, l = l' ++ [c] := ⟨l.dropLast, l.getLast (PsP.parse_ne hp), (List.dropLast_concat_getLast (PsP.parse_ne hp)).symm⟩
      have hl' : l'.length = m := by simp at hsz; omega
      have h := implParseDoc W l' (by omega) (HG1.out W e)
      rw [parR_of_none (PsP.parse_less hp)] at h
      rw [hrl, show (⟨(l' ++ [c]).toArray⟩ : ByteArray).extract 0 m = ⟨l'.toArray⟩ from by apply ByteArray.ext; rw [ByteArray.data_extract]; simp [← hl']]
      exact h)
    have q1 : ¬ (9223372036854775807 < r.size + 1) := by omega
    have q2 : IntKind.i64.wrap ((r.size : Int) - 1) = (m : Int) := by rw [show (r.size : Int) - 1 = (m : Int) by omega]; exact IntWalk.i64_in _ ⟨by omega, by omega⟩
    have q3 : (0 : Int) ≤ (m : Int) := by omega
    have q4 : (m : Int) ≤ (r.size : Int) := by omega
    have q5 : m ≤ r.size := by omega
    clear hp hrl hm hsz hll
    go_wp2_with fail
    refine (HCI.out _ (Ext.refl w1)).mono ?_
    rintro e2 w2 ⟨pa, pc, pf, rfl, hcp, hsp, hfp, hb2⟩
    have E2 := Lib.hid (show Ext w1 w2 from hb2)
    have P2 := Lib.hid (show DocK.Doc0 w2 n t k pa pc pf from ⟨hsp, fun c hc => (hfp.2 c hc).2, hcp, by have := HVAL.out.2; omega⟩)
    clear hcp hsp hfp hb2
    go_wp2_with fail
    refine (HCS.out _ (E2.out.alloc _)).mono ?_
    rintro e3 w3 ⟨qa, qc, qf, rfl, hcp, hsp, hfp, hb3⟩
    have B3 := Lib.hid (show Ext w2 w3 from ((Ext.refl w2).alloc _).trans hb3)
    have P3 := Lib.hid (show DocK.Doc0 w3 n t k qa qc qf from ⟨hsp, fun c hc => (hfp.2 c hc).2, hcp, by have := HVAL.out.2; omega⟩)
    have XX3 := Lib.hid (bx_one w2 hb3)
    have E3 := Lib.hid (E2.out.trans B3.out)
    clear hcp hsp hfp hb3
    obtain ⟨⟨x0, x1, x2, x3⟩, lx⟩ := XX3.out
    have HS := Lib.hid (show ∀ (W : World), Ext w3 W → Calls Try.prog 7 #[.agg #[.int .i64 o, .int .i64 n, .string t, .slice pa k.len pc], .agg #[.int .i64 o, .int .i64 n, .string t, .slice qa k.len qc]] W (fun e w' => e = .returned (.bool true) ∧ Ext W w') from fun W e => by
      have h := ((P2.out.ext B3.out).ext e).implDocSame (o' := o) (P3.out.ext e) o
      rw [show sameD o n t k o n t k = true from by rw [sameD_yes, F.same_self]] at h; exact h)
    go_wp2_with fail
    refine (HS.out _ ((Ext.refl _).alloc _)).mono ?_
    rintro e4 w4 ⟨rfl, hb4⟩
    have B4 := Lib.hid (show Ext w3 w4 from ((Ext.refl w3).alloc _).trans hb4)
    have XW4 := Lib.hid (bx_one w3 hb4)
    have XX4 := Lib.hid (XX3.out.ext B4.out)
    have E4 := Lib.hid (E3.out.trans B4.out)
    clear hb4 x0 x1 x2 x3 lx
    go_wp2_with fail
    refine (HMO.out _ E4.out).mono ?_
    rintro e5 w5 ⟨ya, yc, yf, rfl, hcp, hsp, hfp, hb5⟩
    have B5 := Lib.hid (show Ext w4 w5 from hb5)
    clear hcp hsp hfp hb5
    simp only [zeroD]
    go_wp2_with fail
    refine (HLE.out _ ((E4.out.trans B5.out).alloc _)).mono ?_
    rintro e6 w6 ⟨za, zc, zf, rfl, hcp, hsp, hfp, hb6⟩
    have B6 := Lib.hid (show Ext w5 w6 from ((Ext.refl w5).alloc _).trans hb6)
    have XX6 := Lib.hid ((XX4.out.ext B5.out).ext B6.out)
    have HV := Lib.hid (show ∀ W, Ext w6 W → Calls Try.prog 8 #[.agg #[.int .i64 o, .int .i64 n, .string t, .slice pa k.len pc]] W (fun e w' => e = .returned (.bool true) ∧ Ext W w') from fun W e => by
      have h := (P2.out.ext (B3.out.trans (B4.out.trans (B5.out.trans (B6.out.trans e))))).implDocValid o
      rw [HVAL.out.1] at h; exact h)
    clear hcp hsp hfp hb6
    obtain ⟨⟨x0, x1, x2, x3⟩, lx⟩ := XX6.out
    simp only [zeroD]
    go_wp2_with fail
    refine (HV.out _ ((Ext.refl _).alloc _)).mono ?_
    rintro e7 w7 ⟨rfl, hb7⟩
    have B7 := Lib.hid (show Ext w6 w7 from ((Ext.refl w6).alloc _).trans hb7)
    clear hb7 x0 x1 x2 x3 lx
    go_wp2_with fail
    go_ret
    exact ⟨by first | rfl | simp, E1.out.trans (E4.out.trans (B5.out.trans (B6.out.trans B7.out)))⟩

set_option maxHeartbeats 400000 in
theorem walk_big (w : World) (a0 : Option Addr) (len0 cap0 : Nat) (hl0 : 1048576 < len0) :
    Calls Try.prog 3 #[.slice a0 len0 cap0] w fun e w' => e = .returned (.bool true) ∧ Ext w w' := by
  have h1 : (1048576 : Int) < (len0 : Int) := by omega
  go_enter Try.func3, Try.ntmps3
  go_wp2_with fail
  go_ret
  exact ⟨rfl, Ext.refl w⟩

theorem walk (w : World) (a0 : Option Addr) (len0 cap0 : Nat) (hb0 : Bytes w a0 len0) (hlc0 : len0 ≤ cap0) (hcm0 : cap0 ≤ maxLen) (hg : G0 w) :
    Calls Try.prog 3 #[.slice a0 len0 cap0] w fun e w' => e = .returned (.bool true) ∧ Below w.heap.size w w' := by
  by_cases h : 1048576 < len0
  · exact walk_big w a0 len0 cap0 h
  · exact walk_good w a0 len0 cap0 hb0 hlc0 hcm0 (by omega) hg

set_option maxRecDepth 100000 in
theorem lifted (os : Os) (started : os.Started) (H : Type) (enc : TypeId × Value → H) :
    ReturnsInHanded {} Try.checked os 3 .any (Rows.fnParseSizeSpec.pre6 enc Try.prog Try.f3 Rows.fnParseSizeRow.domain false) (Rows.fnParseSizeSpec.post enc Try.prog Try.f3 false true false false) := by
  refine returnsInHanded_of_change_shaped (C := Try.checked) Facts.own started (by kernel_rfl) Try.func3
    (ChangeSpec.witness6 (enc := enc) (C := Try.checked) false ⟨#[], #[.slice none 0 0], []⟩ 8 (by kernel_rfl) (by kernel_rfl) (by kernel_rfl) (by kernel_rfl)) ?_
  intro W base args ds gs before hval0 hW hcnd0 _ hsh _
  clear hcnd0
  have hval : ∀ (j : Nat) t v, Try.f3.params[j]? = some t → args[j]? = some v → Value.okWide Try.prog W .any base t v := hval0
  have hW' := hW
  obtain ⟨p, q, hA0, hV, rfl, hfz, hnd⟩ := hW
  have hA : DataW.TrodAll enc Try.prog W 0 (fun _ => true) true Try.f3.params.toList args.toList ds p := hA0
  rw [Try.params3] at hA hval
  obtain ⟨v0, d0, rfl, rfl, h0⟩ := trodAll_one hA
  obtain ⟨rfl, rfl⟩ := trodVars_none hV
  obtain ⟨a0, len0, cap0, rfl⟩ := okWide_slice Try.underlying22 (hval 0 22 v0 rfl rfl)
  clear hA0 hval0
  simp only [List.append_nil] at hW'
  have hlt : ∀ x ∈ p, x.block < W.heap.size := fun x hx => by simpa using hW'.lt x hx
  obtain ⟨hb0, hlc0, hcm0⟩ := opened h0
  refine (walk W a0 len0 cap0 hb0 hlc0 hcm0 (Try.laysM219.s1_3 W hsh)).mono fun e W' ⟨he, hb⟩ => ?_
  subst he
  refine ⟨_, rfl, [_], [], p, [], p, [], hW', trodAll_mk1 (shut_bool Try.underlying4 _), ?_, rfl, hb.frame _, fun h => by cases h⟩
  exact trodAll_mk1 (Below.trod Facts.laidOut (by kernel_rfl) (of_decide_eq_true (by kernel_rfl)) h0 hb hlt)

theorem named : Try.prog.funcNamed Rows.fnParseSizeRow.func = some 3 := by kernel_rfl
theorem closed : joinedFacts Try.prog 3 Try.f3 Rows.fnParseSizeSpec Rows.fnParseSizeRow = true :=
  Facts.closed_of rfl rfl rfl rfl (h28b := rfl) (by kernel_rfl) (by kernel_rfl) (by kernel_rfl) (by kernel_rfl) (by kernel_rfl) (by kernel_rfl) (by kernel_rfl) (by kernel_rfl) (by kernel_rfl) (by kernel_rfl) (by kernel_rfl) (by kernel_rfl) (by kernel_rfl) (by kernel_rfl) (by kernel_rfl) (by kernel_rfl) (by kernel_rfl) (by kernel_rfl) (by kernel_rfl) (by kernel_rfl) (by kernel_rfl) (by kernel_rfl) (by kernel_rfl) (by kernel_rfl)
theorem instanced : Try.f3.isInstance Try.prog Rows.fnParseSizeRow.origin Rows.fnParseSizeRow.targs := of_decide_eq_true (by kernel_rfl)
theorem wrapped : Try.f3.isWrapper Try.prog Rows.fnParseSizeRow.wrapper Rows.fnParseSizeRow.mainSum := by
  unfold Func.isWrapper
  rw [if_neg (of_decide_eq_false (by kernel_rfl))]
  exact ⟨rfl, rfl⟩

theorem holds : Rows.FnParseSizeSaid :=
  OpenClaim.holds_of_wide 3 Try.f3 rfl rfl rfl rfl rfl rfl rfl ⟨rfl, rfl, rfl, rfl, rfl⟩ rfl rfl rfl rfl rfl named Try.func3 closed instanced wrapped
    (fun os started H enc _ => lifted os started H enc)

end Go.Proofs.Ytlhdoifjhoocfaa.lawParseSize


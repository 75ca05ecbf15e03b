import Derived.Test.YtgcaolofehgbeaaDr5
import Derived.Test.YtgcaolofehgbeaaBeF
import Derived.Test.YtgcaolofehgbeaaDocG
import Derived.Test.YtgcaolofehgbeaaDrZ
import Derived.Test.YtgcaolofehgbeaaFacts
import Derived.Test.YtgcaolofehgbeaaRows
import Derived.Deep.RegionHeld3
import Derived.Deep.DeepCutAuto
import Derived.Deep.RegionWith
/-
  One line is best: the law FnBestFlat returns true for whatever draws, and its argument reads as it did. No condition of ours.
-/
set_option linter.unusedVariables false
set_option linter.unusedSimpArgs false
namespace Go.Proofs.Ytgcaolofehgbeaa.lawBestFlat
open Go.ChangeShapes Go.WideShapes Go.ChangeAt Go.RowKit P1 Draw6 LawC CntC DocK OpenR LayN ChP 

set_option maxRecDepth 100000 in
set_option maxHeartbeats 6400000 in
theorem walk_good (w : World) (a0 : Option Addr) (len0 cap0 : Nat) (hb0 : Bytes w a0 len0) (hlc0 : len0 ≤ cap0) (hcm0 : cap0 ≤ maxLen) (hl0 : len0 ≤ 1048576) :
    Calls Try.prog 6 #[.slice a0 len0 cap0] w fun e w' => e = .returned (.bool true) ∧ Ext w w' := by
  have HD0 := Lib.hid (Dr5.drawBestLayout w a0 len0 cap0 hb0 hlc0 hcm0)
  clear hb0
  unfold maxLen at hcm0
  go_enter Try.func6, Try.ntmps6
  go_wp2_with fail
  refine HD0.out.mono ?_
  rintro e1 w1 ⟨o, n, t, k, a, cap, fs, i, rfl, hi, hc, hsz, hsub, hfr, hb1⟩
  have D1 := Lib.hid (show DocK.Doc0 w1 n t k a cap fs from ⟨hsub, fun c hc => (hfr.2 c hc).2, hc, by omega⟩)
  have E1 := Lib.hid (show Ext w w1 from hb1)
  have hkl : k.len ≤ 100000 := D1.out.len
  clear hsub hfr hb1
  obtain ⟨⟨X, V⟩, hr⟩ : ∃ r, Be.beR i 8 0 ⟨#[]⟩ (.cons o n t k .nil) = r := ⟨_, rfl⟩
  obtain ⟨C, hC⟩ : ∃ C, CntC.canD 8 0 ⟨#[]⟩ (.cons o n t k .nil) = C := ⟨_, rfl⟩
  obtain ⟨S, hS⟩ : ∃ S, Flat.ftD 8 0 ⟨#[]⟩ (.cons o n t k .nil) = S := ⟨_, rfl⟩
  obtain ⟨N, hN⟩ : ∃ N : Nat, (Flat.flD 8 ⟨#[]⟩ (.cons o n t k .nil)).size = N := ⟨_, rfl⟩
  have hN1 : N ≤ 200000 := by rw [← hN, DocR.fl_grp]; have := Flat.flD_size o t k; omega
  have HSZ := Lib.hid hsz
  have hyes : V = true → C = true → (N : Int) ≤ i → X = [(0, S)] := fun h1 h2 h3 => by
    subst h1
    have h := Be.be_flat (x := i) (n := 0) (t := ⟨#[]⟩) (k := .cons o n t k .nil) (by rw [hr]) (by rw [hC, h2]) (by rw [hN]; exact h3)
    rw [hr, hS] at h
    exact h
  have HYN := Lib.hid hyes
  have HGI := Lib.hid (show ∀ (W : World) (z : Nat), Ext w1 W → W.heap.size = z → ∀ (T : TypeId) (W' : World), Ext (W.alloc (.cells #[.int .i64 o, .int .i64 n, .string t, .slice a k.len cap] T)) W' → Calls Try.prog 27 #[.agg #[.int .i64 8, .int .i64 0, .string ⟨#[]⟩, .slice (some ⟨z, 0, none⟩) 1 1], .int .i64 i] W' (DocO.Out W' X V) from fun W z e hz T W' e' => by
    subst hz
    have hd := DocR.around (D1.out.ext e) (by have := HSZ.out; omega) o 0 T W' e'
    have h := Be.implBest hd 8 i; rw [hr] at h; exact h)
  have HGS := Lib.hid (show ∀ (W : World) (z : Nat), Ext w1 W → W.heap.size = z → ∀ (T : TypeId) (W' : World), Ext (W.alloc (.cells #[.int .i64 o, .int .i64 n, .string t, .slice a k.len cap] T)) W' → Calls Try.prog 28 #[.agg #[.int .i64 8, .int .i64 0, .string ⟨#[]⟩, .slice (some ⟨z, 0, none⟩) 1 1], .int .i64 i] W' (DocO.Out W' X V) from fun W z e hz T W' e' => by
    subst hz
    have hd := DocR.around (D1.out.ext e) (by have := HSZ.out; omega) o 0 T W' e'
    have h := Be.specBest hd 8 i; rw [hr] at h; exact h)
  have HGW := Lib.hid (show ∀ (W : World) (z : Nat), Ext w1 W → W.heap.size = z → ∀ (T : TypeId) (W' : World), Ext (W.alloc (.cells #[.int .i64 o, .int .i64 n, .string t, .slice a k.len cap] T)) W' → Calls Try.prog 29 #[.agg #[.int .i64 8, .int .i64 0, .string ⟨#[]⟩, .slice (some ⟨z, 0, none⟩) 1 1]] W' (fun e w' => e = .returned (.tuple #[.int .i64 (Wid.orZ C N), .bool C]) ∧ Ext W' w') from fun W z e hz T W' e' => by
    subst hz
    have hd := DocR.around (D1.out.ext e) (by have := HSZ.out; omega) o 0 T W' e'
    have h := DocW.implFlatWidth hd 8; rw [hC, hN] at h; exact h)
  have HGT := Lib.hid (show ∀ (W : World) (z : Nat), Ext w1 W → W.heap.size = z → ∀ (T : TypeId) (W' : World), Ext (W.alloc (.cells #[.int .i64 o, .int .i64 n, .string t, .slice a k.len cap] T)) W' → Calls Try.prog 30 #[.agg #[.int .i64 8, .int .i64 0, .string ⟨#[]⟩, .slice (some ⟨z, 0, none⟩) 1 1]] W' (fun e w' => e = .returned (.tuple #[.string S, .bool C]) ∧ Ext W' w') from fun W z e hz T W' e' => by
    subst hz
    have hd := DocR.around (D1.out.ext e) (by have := HSZ.out; omega) o 0 T W' e'
    have h := hd.implFlatText 8; rw [hC, hS] at h; exact h)
  clear hc hsz hr hC hS hN hyes
  go_wp2_with fail
  refine (HGI.out (w1.alloc _) (w1.heap.size + 1) ((Ext.refl w1).alloc _) (by simp) _ _ ((Ext.refl _).alloc _)).mono ?_
  rintro e2 w2 ⟨pa, ca, rfl, hlay, hb⟩
  obtain ⟨hx, hg, h12, hga, hlt⟩ := DocR.one_group hb
  have X2 := Lib.hid hx
  have GB := Lib.hid (And.intro hg hlt)
  have E2 := Lib.hid h12
  have L2 := Lib.hid (show w1.heap.size < w2.heap.size by omega)
  have GE := Lib.hid hga
  have RG := Lib.hid (Ext.refl w2)
  have Ka := Lib.hid hlay
  clear hlay
  clear hx hg h12 hga hlt hb
  obtain ⟨x0, x1, x2, x3⟩ := X2.out
  have l := L2.out
  obtain ⟨g0, g1, g2, g3⟩ := box4 GB.out.1 GB.out.2 RG.out
  have gl := Nat.lt_of_lt_of_le GB.out.2 RG.out.size
  go_wp2_with fail
  refine (HGS.out (w1.alloc _) (w1.heap.size + 1) ((Ext.refl w1).alloc _) (by simp) _ _ GE.out).mono ?_
  rintro e3 w3 ⟨pb, cb, rfl, hlay, hb⟩
  have X3 := Lib.hid (box4 X2.out L2.out hb)
  have E3 := Lib.hid (E2.out.trans hb)
  have L3 := Lib.hid (Nat.lt_of_lt_of_le L2.out hb.size)
  try clear x0 x1 x2 x3 l
  replace Ka := Lib.hid (Ka.out.ext hb)
  replace RG := Lib.hid (RG.out.trans hb)
  replace GE := Lib.hid (GE.out.trans hb)
  have Kb := Lib.hid hlay
  clear hlay
  clear hb
  try clear g0 g1 g2 g3 gl
  obtain ⟨x0, x1, x2, x3⟩ := X3.out
  have l := L3.out
  obtain ⟨g0, g1, g2, g3⟩ := box4 GB.out.1 GB.out.2 RG.out
  have gl := Nat.lt_of_lt_of_le GB.out.2 RG.out.size
  cases V with
  | false =>
    go_wp2_with fail
    refine (DocO.LayIs.same Ka.out Kb.out).mono ?_
    rintro e4 w4 ⟨rfl, hb⟩
    have X4 := Lib.hid (box4 X3.out L3.out hb)
    have E4 := Lib.hid (E3.out.trans hb)
    have L4 := Lib.hid (Nat.lt_of_lt_of_le L3.out hb.size)
    try clear x0 x1 x2 x3 l
    replace Ka := Lib.hid (Ka.out.ext hb)
    replace Kb := Lib.hid (Kb.out.ext hb)
    replace RG := Lib.hid (RG.out.trans hb)
    replace GE := Lib.hid (GE.out.trans hb)
    clear hb
    try clear g0 g1 g2 g3 gl
    obtain ⟨x0, x1, x2, x3⟩ := X4.out
    have l := L4.out
    obtain ⟨g0, g1, g2, g3⟩ := box4 GB.out.1 GB.out.2 RG.out
    have gl := Nat.lt_of_lt_of_le GB.out.2 RG.out.size
    go_wp2_with fail
    refine (DocO.LayIs.same Ka.out Kb.out).mono ?_
    rintro e5 w5 ⟨rfl, hb⟩
    have X5 := Lib.hid (box4 X4.out L4.out hb)
    have E5 := Lib.hid (E4.out.trans hb)
    have L5 := Lib.hid (Nat.lt_of_lt_of_le L4.out hb.size)
    try clear x0 x1 x2 x3 l
    replace Ka := Lib.hid (Ka.out.ext hb)
    replace Kb := Lib.hid (Kb.out.ext hb)
    replace RG := Lib.hid (RG.out.trans hb)
    replace GE := Lib.hid (GE.out.trans hb)
    clear hb
    try clear g0 g1 g2 g3 gl
    obtain ⟨x0, x1, x2, x3⟩ := X5.out
    have l := L5.out
    obtain ⟨g0, g1, g2, g3⟩ := box4 GB.out.1 GB.out.2 RG.out
    have gl := Nat.lt_of_lt_of_le GB.out.2 RG.out.size
    go_wp2_with fail
    go_ret
    exact ⟨by first | rfl | simp, E1.out.trans E5.out⟩
  | true =>
    go_wp2_with fail
    refine (DocO.LayIs.same Ka.out Kb.out).mono ?_
    rintro e4 w4 ⟨rfl, hb⟩
    have X4 := Lib.hid (box4 X3.out L3.out hb)
    have E4 := Lib.hid (E3.out.trans hb)
    have L4 := Lib.hid (Nat.lt_of_lt_of_le L3.out hb.size)
    try clear x0 x1 x2 x3 l
    replace Ka := Lib.hid (Ka.out.ext hb)
    replace Kb := Lib.hid (Kb.out.ext hb)
    replace RG := Lib.hid (RG.out.trans hb)
    replace GE := Lib.hid (GE.out.trans hb)
    clear hb
    try clear g0 g1 g2 g3 gl
    obtain ⟨x0, x1, x2, x3⟩ := X4.out
    have l := L4.out
    obtain ⟨g0, g1, g2, g3⟩ := box4 GB.out.1 GB.out.2 RG.out
    have gl := Nat.lt_of_lt_of_le GB.out.2 RG.out.size
    go_wp2_with fail
    refine (HGW.out (w1.alloc _) (w1.heap.size + 1) ((Ext.refl w1).alloc _) (by simp) _ _ GE.out).mono ?_
    rintro e5 w5 ⟨rfl, hb⟩
    have X5 := Lib.hid (box4 X4.out L4.out hb)
    have E5 := Lib.hid (E4.out.trans hb)
    have L5 := Lib.hid (Nat.lt_of_lt_of_le L4.out hb.size)
    try clear x0 x1 x2 x3 l
    replace Ka := Lib.hid (Ka.out.ext hb)
    replace Kb := Lib.hid (Kb.out.ext hb)
    replace RG := Lib.hid (RG.out.trans hb)
    replace GE := Lib.hid (GE.out.trans hb)
    clear hb
    try clear g0 g1 g2 g3 gl
    obtain ⟨x0, x1, x2, x3⟩ := X5.out
    have l := L5.out
    obtain ⟨g0, g1, g2, g3⟩ := box4 GB.out.1 GB.out.2 RG.out
    have gl := Nat.lt_of_lt_of_le GB.out.2 RG.out.size
    go_wp2_with fail
    refine (HGT.out (w1.alloc _) (w1.heap.size + 1) ((Ext.refl w1).alloc _) (by simp) _ _ GE.out).mono ?_
    rintro e6 w6 ⟨rfl, hb⟩
    have X6 := Lib.hid (box4 X5.out L5.out hb)
    have E6 := Lib.hid (E5.out.trans hb)
    have L6 := Lib.hid (Nat.lt_of_lt_of_le L5.out hb.size)
    try clear x0 x1 x2 x3 l
    replace Ka := Lib.hid (Ka.out.ext hb)
    replace Kb := Lib.hid (Kb.out.ext hb)
    replace RG := Lib.hid (RG.out.trans hb)
    replace GE := Lib.hid (GE.out.trans hb)
    clear hb
    try clear g0 g1 g2 g3 gl
    obtain ⟨x0, x1, x2, x3⟩ := X6.out
    have l := L6.out
    obtain ⟨g0, g1, g2, g3⟩ := box4 GB.out.1 GB.out.2 RG.out
    have gl := Nat.lt_of_lt_of_le GB.out.2 RG.out.size
    cases C with
    | false =>
      go_wp2_with fail
      go_ret
      exact ⟨by first | rfl | simp, E1.out.trans E6.out⟩
    | true =>
      have hNz : Wid.orZ true N = (N : Int) := rfl
      try simp only [hNz]
      by_cases hNi : (N : Int) ≤ i
      · have hni : ¬ i < (N : Int) := by omega
        have hnb : decide (i < (N : Int)) = false := decide_eq_false hni
        obtain rfl : X = [(0, S)] := by first | exact HYN.out rfl rfl hNi | exact HYN.out trivial rfl hNi | exact HYN.out rfl trivial hNi | exact HYN.out trivial trivial hNi
        obtain ⟨b, off, rfl, hbl, z0, z1⟩ := DocW.lay_first Ka.out rfl
        go_wp2_with fail
        go_ret
        exact ⟨by first | rfl | simp, E1.out.trans E6.out⟩
      · have hnb : i < (N : Int) := by omega
        go_wp2_with fail
        go_ret
        exact ⟨by first | rfl | simp, E1.out.trans E6.out⟩

set_option maxHeartbeats 400000 in
theorem walk_big (w : World) (a0 : Option Addr) (len0 cap0 : Nat) (hl0 : 1048576 < len0) :
    Calls Try.prog 6 #[.slice a0 len0 cap0] w fun e w' => e = .returned (.bool true) ∧ Ext w w' := by
  have h1 : (1048576 : Int) < (len0 : Int) := by omega
  go_enter Try.func6, Try.ntmps6
  go_wp2_with fail
  go_ret
  exact ⟨rfl, Ext.refl w⟩

theorem walk (w : World) (a0 : Option Addr) (len0 cap0 : Nat) (hb0 : Bytes w a0 len0) (hlc0 : len0 ≤ cap0) (hcm0 : cap0 ≤ maxLen) :
    Calls Try.prog 6 #[.slice a0 len0 cap0] w fun e w' => e = .returned (.bool true) ∧ Below w.heap.size w w' := by
  by_cases h : 1048576 < len0
  · exact walk_big w a0 len0 cap0 h
  · exact walk_good w a0 len0 cap0 hb0 hlc0 hcm0 (by omega)

set_option maxRecDepth 100000 in
theorem lifted (os : Os) (started : os.Started) (H : Type) (enc : TypeId × Value → H) :
    ReturnsInHanded {} Try.checked os 6 .any (Rows.fnBestFlatSpec.pre6 enc Try.prog Try.f6 Rows.fnBestFlatRow.domain false) (Rows.fnBestFlatSpec.post enc Try.prog Try.f6 false true false false) := by
  refine returnsInHanded_of_change (C := Try.checked) Facts.own started (by kernel_rfl) Try.func6
    (ChangeSpec.witness6 (enc := enc) (C := Try.checked) false ⟨#[], #[.slice none 0 0], []⟩ 8 (by kernel_rfl) (by kernel_rfl) (by kernel_rfl) (by kernel_rfl)) ?_
  intro W base args ds gs before hval0 hW hcnd0 _
  clear hcnd0
  have hval : ∀ (j : Nat) t v, Try.f6.params[j]? = some t → args[j]? = some v → Value.okWide Try.prog W .any base t v := hval0
  have hW' := hW
  obtain ⟨p, q, hA0, hV, rfl, hfz, hnd⟩ := hW
  have hA : DataW.TrodAll enc Try.prog W 0 (fun _ => true) true Try.f6.params.toList args.toList ds p := hA0
  rw [Try.params6] at hA hval
  obtain ⟨v0, d0, rfl, rfl, h0⟩ := trodAll_one hA
  obtain ⟨rfl, rfl⟩ := trodVars_none hV
  obtain ⟨a0, len0, cap0, rfl⟩ := okWide_slice Try.underlying22 (hval 0 22 v0 rfl rfl)
  clear hA0 hval0
  simp only [List.append_nil] at hW'
  have hlt : ∀ x ∈ p, x.block < W.heap.size := fun x hx => by simpa using hW'.lt x hx
  obtain ⟨hb0, hlc0, hcm0⟩ := opened h0
  refine (walk W a0 len0 cap0 hb0 hlc0 hcm0).mono fun e W' ⟨he, hb⟩ => ?_
  subst he
  refine ⟨_, rfl, [_], [], p, [], p, [], hW', trodAll_mk1 (shut_bool Try.underlying4 _), ?_, rfl, hb.frame _, fun h => by cases h⟩
  exact trodAll_mk1 (Below.trod Facts.laidOut (by kernel_rfl) (of_decide_eq_true (by kernel_rfl)) h0 hb hlt)

theorem named : Try.prog.funcNamed Rows.fnBestFlatRow.func = some 6 := by kernel_rfl
theorem closed : joinedFacts Try.prog 6 Try.f6 Rows.fnBestFlatSpec Rows.fnBestFlatRow = true :=
  Facts.closed_of rfl rfl rfl rfl (h28b := rfl) (by kernel_rfl) (by kernel_rfl) (by kernel_rfl) (by kernel_rfl) (by kernel_rfl) (by kernel_rfl) (by kernel_rfl) (by kernel_rfl) (by kernel_rfl) (by kernel_rfl) (by kernel_rfl) (by kernel_rfl) (by kernel_rfl) (by kernel_rfl) (by kernel_rfl) (by kernel_rfl) (by kernel_rfl) (by kernel_rfl) (by kernel_rfl) (by kernel_rfl) (by kernel_rfl) (by kernel_rfl) (by kernel_rfl) (by kernel_rfl)
theorem instanced : Try.f6.isInstance Try.prog Rows.fnBestFlatRow.origin Rows.fnBestFlatRow.targs := of_decide_eq_true (by kernel_rfl)
theorem wrapped : Try.f6.isWrapper Try.prog Rows.fnBestFlatRow.wrapper Rows.fnBestFlatRow.mainSum := by
  unfold Func.isWrapper
  rw [if_neg (of_decide_eq_false (by kernel_rfl))]
  exact ⟨rfl, rfl⟩

theorem holds : Rows.FnBestFlatSaid :=
  OpenClaim.holds_of_wide 6 Try.f6 rfl rfl rfl rfl rfl rfl rfl ⟨rfl, rfl, rfl, rfl, rfl⟩ rfl rfl rfl rfl rfl named Try.func6 closed instanced wrapped
    (fun os started H enc _ => lifted os started H enc)

end Go.Proofs.Ytgcaolofehgbeaa.lawBestFlat


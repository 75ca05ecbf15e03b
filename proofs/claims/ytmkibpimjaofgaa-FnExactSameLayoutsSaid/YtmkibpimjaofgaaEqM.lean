import Derived.Test.YtmkibpimjaofgaaEqL
/-
  OnlyLayout and SameLayouts of the model.
-/
set_option linter.unusedVariables false
set_option linter.unusedSimpArgs false
namespace Go.Proofs.Ytmkibpimjaofgaa.Eqd
open Go.RowKit P1 LayL LayV LayM LayN It
open Ls hiding Lay


set_option maxRecDepth 100000 in
set_option maxHeartbeats 3200000 in
theorem specOnlyLayout (w : World) (o0 n0 : Int) (t0 : ByteArray) (k0 : F) (a0 : Option Addr) (c0 : Nat) (f0 : List Nat) (h0 : DocIn w t0 k0 a0 c0 f0) (o1 n1 : Int) (t1 : ByteArray) (k1 : F) (a1 : Option Addr) (c1 : Nat) (f1 : List Nat) (h1 : DocIn w t1 k1 a1 c1 f1) :
    Calls Try.prog 25 #[.agg #[.int .i64 o0, .int .i64 n0, .string t0, .slice a0 k0.len c0], .agg #[.int .i64 o1, .int .i64 n1, .string t1, .slice a1 k1.len c1]] w (LayRes w (onlyLay o0 n0 t0 k0 o1 n1 t1 k1)) := by
  have hA := fun (W : World) (e : Ext w W) => It.specLayoutsOf W o0 n0 t0 k0 a0 c0 f0 (h0.ext e).sub (h0.ext e).lt (h0.ext e).cap_le (h0.ext e).size (h0.ext e).fits (h0.ext e).tfit
  have hB := fun (W : World) (e : Ext w W) => It.specLayoutsOf W o1 n1 t1 k1 a1 c1 f1 (h1.ext e).sub (h1.ext e).lt (h1.ext e).cap_le (h1.ext e).size (h1.ext e).fits (h1.ext e).tfit
  have hgx := good_len (lays_good (o := o0) (n := n0) (t := t0) (k := k0))
  have hgy := good_len (lays_good (o := o1) (n := n1) (t := t1) (k := k1))
  have hnx := lays_len o0 n0 t0 k0
  have hny := lays_len o1 n1 t1 k1
  unfold onlyLay
  obtain ⟨X, hX⟩ : ∃ X, laysD o0 n0 t0 k0 = X := ⟨_, rfl⟩
  obtain ⟨Y, hY⟩ : ∃ Y, laysD o1 n1 t1 k1 = Y := ⟨_, rfl⟩
  obtain ⟨p0, hp0⟩ : ∃ p, toldD o0 n0 t0 k0 = p := ⟨_, rfl⟩
  obtain ⟨p1, hp1⟩ : ∃ p, toldD o1 n1 t1 k1 = p := ⟨_, rfl⟩
  rw [hX] at hA hgx hnx
  rw [hY] at hB hgy hny
  rw [hp0] at hA
  rw [hp1] at hB
  rw [hX, hY, hp0, hp1]
  have HT := Lib.hid (fun (w' : World) => two_new w (.int .i64 o0) (.int .i64 n0) (.string t0) (.slice a0 k0.len c0) (.int .i64 o1) (.int .i64 n1) (.string t1) (.slice a1 k1.len c1) 29 (w' := w'))
  have HE := Lib.hid (show ∀ x y, Ext w ((w.alloc x).alloc y) from fun x y => ((Ext.refl w).alloc x).alloc y)
  obtain ⟨L0, hL0⟩ : ∃ L, k0.len = L := ⟨_, rfl⟩
  obtain ⟨L1, hL1⟩ : ∃ L, k1.len = L := ⟨_, rfl⟩
  rw [hL0] at hA
  rw [hL1] at hB
  rw [hL0, hL1] at HT ⊢
  have hXe : p0 = false → X = [] := fun hh => by rw [← hX]; exact lays_no (hp0.trans hh)
  have HXE := Lib.hid hXe
  have HA := Lib.hid hA
  have HB := Lib.hid hB
  have HGX := Lib.hid (And.intro hgx hnx)
  have HGY := Lib.hid (And.intro hgy hny)
  clear hXe hA hB hgx hgy hnx hny h0 h1 hX hY hp0 hp1 hL0 hL1
  by_cases hp : (p0 && p1) = true
  · obtain ⟨rfl, rfl⟩ : p0 = true ∧ p1 = true := by simpa using hp
    clear hp
    rw [if_pos (by rfl : (true && true) = true)]
    go_enter Try.func25, Try.ntmps25
    go_wp2_with fail
    refine (HA.out _ (HE.out _ _)).mono ?_
    rintro e1 w1 ⟨x1, y1, g1, rfl, hc1', hs1, hF1, hb1⟩
    have H1 := Lib.hid (And.intro hs1 hF1)
    have K1 := Lib.hid (And.intro hb1 hc1')
    obtain ⟨⟨u0, u1, u2, u3⟩, ⟨v0, v1, v2, v3⟩, e1⟩ := HT.out _ hb1
    have E1 := Lib.hid e1
    clear hb1 hs1 hF1 hc1' e1
    obtain ⟨m, hm⟩ : ∃ m, X.length = m := ⟨_, rfl⟩
    rw [hm]
    go_wp2_with fail
    refine (HB.out _ E1.out).mono ?_
    rintro e2 w2 ⟨x2, y2, g2, rfl, hc2', hs2, hF2, hb2⟩
    have H2 := Lib.hid (And.intro hs2 (And.intro hF2 hc2'))
    have E2 := Lib.hid (Ext.trans E1.out hb2)
    have HS1 := Lib.hid (And.intro (H1.out.1.below H1.out.1.lt hb2) (H1.out.2.below H1.out.1.lt hb2))
    clear hb2 hs2 hF2 hc2' u0 u1 u2 u3 v0 v1 v2 v3
    obtain ⟨m2, hm2⟩ : ∃ m, Y.length = m := ⟨_, rfl⟩
    rw [hm2]
    have hin : ∀ (W : World), Ext w2 W → ∀ (l : Ls.Lay) (ln : Nat), l.length = ln → l.length ≤ maxLen → ∀ (al : Option Addr) (cl : Nat) (fl : List Nat), LaySub W al l fl → l.length ≤ cl → Calls Try.prog 71 #[.slice x2 Y.length y2, .slice al ln cl] W fun e w' => e = .returned (.bool (inL Y l)) ∧ Below W.heap.size W w' := by
      intro W e l ln hq hl al cl fl h1 h2
      subst hq
      exact l3In Y l HGY.out.1 W x2 y2 g2 (H2.out.1.ext e) H2.out.2.2 (by have := HGY.out.2; omega) al cl fl h1 h2 hl
    have hgt : ∀ (W : World), Ext w2 W → ∀ (j : Nat) (h : j < X.length) (l : Ls.Lay) (ln : Nat), X[j] = l → l.length = ln → ∃ (b off : Nat) (a1 : Option Addr) (c1 : Nat) (f1 : List Nat), x1 = some ⟨b, off, none⟩ ∧ b < W.heap.size ∧ W.cell? ⟨b, off + j, none⟩ = some (.slice a1 ln c1) ∧ l.length ≤ c1 ∧ LaySub W a1 l f1 ∧ (∀ c ∈ f1, c ∈ g1) ∧ l.length ≤ maxLen := by
      intro W e j h l ln hl hq
      subst hq
      subst hl
      obtain ⟨b, off, a1, c1, f1, h1, h2, h3, h4, h5, h6⟩ := (HS1.out.1.ext e).get h
      exact ⟨b, off, a1, c1, f1, h1, h2, h3, h4, h5, h6, HGX.out.1 _ (List.getElem_mem h)⟩
    have hyes : ∀ (j : Nat) (h : j < X.length) (l : Ls.Lay), X[j] = l → (∀ q, (hq : q < X.length) → q < j → inL Y X[q] = true) → inL Y l = false → onlyR X Y = (l, true) := fun j h l hl h1 h2 => by subst hl; exact only_yes h h1 h2
    have hstep : ∀ (j : Nat) (h : j < X.length) (l : Ls.Lay), X[j] = l → (∀ q, (hq : q < X.length) → q < j → inL Y X[q] = true) → inL Y l = true → ∀ q, (hq : q < X.length) → q < j + 1 → inL Y X[q] = true := fun j h l hl h1 h2 q hq hqj => by
      by_cases hh : q < j
      · exact h1 q hq hh
      · obtain rfl : j = q := by omega
        rw [hl]; exact h2
    have HYES := Lib.hid hyes
    have HSTEP := Lib.hid hstep
    clear hyes hstep
    rw [hm2] at hin
    have HIN := Lib.hid hin
    have HGT := Lib.hid hgt
    have HM := Lib.hid hm
    have hms : m ≤ 300 := by have := HGX.out.2; omega
    clear hin hgt hm hm2
    go_wp2_with fail
    go_loopw [10] (fun i wr => ∃ (j : Nat), j ≤ m ∧ i = .int .i64 (j : Int) ∧ Hid (∀ q, (hq : q < X.length) → q < j → inL Y X[q] = true) ∧ Hid (Ext w2 wr)) (fun i _ => m - (intOf i).toNat)
    case atStart => exact ⟨0, Nat.zero_le _, rfl, Lib.hid (fun q _ hq => absurd hq (Nat.not_lt_zero q)), Lib.hid (Ext.refl _)⟩
    case round =>
      obtain ⟨j, hj, rfl, HQ, HR⟩ := hrel
      have i0 : (0 : Int) ≤ (j : Int) := Int.natCast_nonneg _
      by_cases hjm : j < m
      · have hjX : j < X.length := by have := HM.out; omega
        obtain ⟨lj, hlj⟩ : ∃ l : Ls.Lay, X[j] = l := ⟨_, rfl⟩
        obtain ⟨ln, hln⟩ : ∃ q, lj.length = q := ⟨_, rfl⟩
        obtain ⟨bb, off, al, cl, fl, rfl, hbb, hcell, hcl, hsl, hml, hlm⟩ := HGT.out wr HR.out j hjX lj ln hlj hln
        have hc := HIN.out wr HR.out lj ln hln hlm al cl fl hsl hcl
        have HY0 := Lib.hid (HYES.out j hjX lj hlj HQ.out)
        have HS0 := Lib.hid (HSTEP.out j hjX lj hlj HQ.out)
        clear hlj hlm
        have HL := Lib.hid (And.intro hcl (And.intro hsl hml))
        have HJX := Lib.hid hjX
        have i1 : (j : Int) < (m : Int) := by omega
        have HLN := Lib.hid hln
        have HBB := Lib.hid hbb
        cases hin : inL Y lj with
        | false =>
          rw [hin] at hc
          have HC := Lib.hid hc
          have HY := Lib.hid (HY0.out hin)
          clear hc hln hin hcl hsl hml hjX
          go_wp2_with fail
          refine HC.out.mono ?_
          rintro e3 w3 ⟨rfl, hb3⟩
          have E3 := Lib.hid (show Ext wr w3 from hb3)
          have hcell3 := (hb3.cell (p := ⟨bb, off + j, none⟩) hbb).trans hcell
          have hbb3 : bb < w3.heap.size := Nat.lt_of_lt_of_le hbb hb3.size
          clear hb3 hcell hbb
          go_wp2_with fail
          go_ret2
          obtain ⟨hcl, hsl, hml⟩ := HL.out
          rw [HY.out, ← HLN.out]
          refine ⟨al, cl, fl, rfl, hcl, hsl.below hsl.lt E3.out, lay_fresh (hsl.below hsl.lt E3.out) hml ((HS1.out.2.mono ?_).below HS1.out.1.lt (Ext.trans HR.out E3.out)), Ext.trans E2.out (Ext.trans HR.out E3.out)⟩
          simp; omega
        | true =>
          rw [hin] at hc
          have HC := Lib.hid hc
          have HE1 := Lib.hid hin
          clear hc hln hin hcl hsl hml hjX
          go_wp2_with fail
          refine HC.out.mono ?_
          rintro e3 w3 ⟨rfl, hb3⟩
          have E3 := Lib.hid (show Ext wr w3 from hb3)
          clear hb3 hcell hbb
          go_wp2_with fail
          go_roundw
          case rel => exact ⟨j + 1, by omega, by go_num, Lib.hid (HS0.out HE1.out), Lib.hid (Ext.trans HR.out E3.out)⟩
          case measure => simp [intOf]; omega
      · obtain rfl : m = j := by omega
        have HN := Lib.hid (only_no (fun q hq => HQ.out q hq (by have := HM.out; omega)))
        go_wp2_with fail
        go_ret2
        rw [HN.out]
        exact ⟨_, _, [], rfl, Nat.le_refl _, .inl ⟨rfl, rfl⟩, Fresh.nil _ _, Ext.trans E2.out (Ext.trans HR.out ((Ext.refl _).alloc _))⟩
  · have hq : (p0 && p1) = false := by simpa using hp
    rw [if_neg hp]
    clear hp
    cases p0 <;> cases p1 <;> first | (exact absurd hq (by decide)) | skip
    all_goals
      clear hq
      go_enter Try.func25, Try.ntmps25
      go_wp2_with fail
      refine (HA.out _ (HE.out _ _)).mono ?_
      rintro e1 w1 ⟨x1, y1, g1, rfl, hc1', hs1, hF1, hb1⟩
      have H1 := Lib.hid (And.intro hs1 hF1)
      have K1 := Lib.hid (And.intro hb1 hc1')
      obtain ⟨⟨u0, u1, u2, u3⟩, ⟨v0, v1, v2, v3⟩, e1⟩ := HT.out _ hb1
      have E1 := Lib.hid e1
      clear hb1 hs1 hF1 hc1' e1
      obtain ⟨m, hm⟩ : ∃ m, X.length = m := ⟨_, rfl⟩
      rw [hm]
      go_wp2_with fail
      refine (HB.out _ E1.out).mono ?_
      rintro e2 w2 ⟨x2, y2, g2, rfl, hc2', hs2, hF2, hb2⟩
      have H2 := Lib.hid (And.intro hs2 (And.intro hF2 hc2'))
      have E2 := Lib.hid (Ext.trans E1.out hb2)
      have HS1 := Lib.hid (And.intro (H1.out.1.below H1.out.1.lt hb2) (H1.out.2.below H1.out.1.lt hb2))
      clear hb2 hs2 hF2 hc2' u0 u1 u2 u3 v0 v1 v2 v3
      obtain ⟨m2, hm2⟩ : ∃ m, Y.length = m := ⟨_, rfl⟩
      rw [hm2]
      go_wp2_with fail
      go_loopw [10] (fun i wr => i = .int .i64 0 ∧ wr = w2) (fun _ _ => 0)
      case atStart => exact ⟨rfl, rfl⟩
      case round =>
        obtain ⟨rfl, rfl⟩ := hrel
        by_cases hz : 0 < m
        · have i1 : (0 : Int) < (m : Int) := by omega
          first
            | (have h0 := HXE.out rfl; rw [h0] at hm; simp at hm; omega)
            | (clear hm hm2 hz
               go_wp2_with fail
               go_ret2
               exact ⟨_, _, [], rfl, Nat.le_refl _, .inl ⟨rfl, rfl⟩, Fresh.nil _ _, Ext.trans E2.out ((Ext.refl _).alloc _)⟩)
        · obtain rfl : 0 = m := by omega
          clear hm hm2 hz
          go_wp2_with fail
          go_ret2
          exact ⟨_, _, [], rfl, Nat.le_refl _, .inl ⟨rfl, rfl⟩, Fresh.nil _ _, Ext.trans E2.out ((Ext.refl _).alloc _)⟩


set_option maxRecDepth 100000 in
set_option maxHeartbeats 3200000 in
theorem specSameLayouts (w : World) (o0 n0 : Int) (t0 : ByteArray) (k0 : F) (a0 : Option Addr) (c0 : Nat) (f0 : List Nat) (h0 : DocIn w t0 k0 a0 c0 f0) (o1 n1 : Int) (t1 : ByteArray) (k1 : F) (a1 : Option Addr) (c1 : Nat) (f1 : List Nat) (h1 : DocIn w t1 k1 a1 c1 f1) :
    Calls Try.prog 30 #[.agg #[.int .i64 o0, .int .i64 n0, .string t0, .slice a0 k0.len c0], .agg #[.int .i64 o1, .int .i64 n1, .string t1, .slice a1 k1.len c1]] w fun e w' => e = .returned (.bool (sameLay o0 n0 t0 k0 o1 n1 t1 k1)) ∧ Below w.heap.size w w' := by
  have hA := fun (W : World) (e : Ext w W) => It.specLayoutsOf W o0 n0 t0 k0 a0 c0 f0 (h0.ext e).sub (h0.ext e).lt (h0.ext e).cap_le (h0.ext e).size (h0.ext e).fits (h0.ext e).tfit
  have hB := fun (W : World) (e : Ext w W) => It.specLayoutsOf W o1 n1 t1 k1 a1 c1 f1 (h1.ext e).sub (h1.ext e).lt (h1.ext e).cap_le (h1.ext e).size (h1.ext e).fits (h1.ext e).tfit
  have hO := fun (W : World) (e : Ext w W) => (specOnlyLayout W o0 n0 t0 k0 a0 c0 f0 (h0.ext e) o1 n1 t1 k1 a1 c1 f1 (h1.ext e)).mono fun e w' g => (show LayOut W (onlyLay o0 n0 t0 k0 o1 n1 t1 k1).1 (onlyLay o0 n0 t0 k0 o1 n1 t1 k1).2 e w' from g)
  have hP := fun (W : World) (e : Ext w W) => (specOnlyLayout W o1 n1 t1 k1 a1 c1 f1 (h1.ext e) o0 n0 t0 k0 a0 c0 f0 (h0.ext e)).mono fun e w' g => (show LayOut W (onlyLay o1 n1 t1 k1 o0 n0 t0 k0).1 (onlyLay o1 n1 t1 k1 o0 n0 t0 k0).2 e w' from g)
  unfold onlyLay at hO hP
  have hgx := good_len (lays_good (o := o0) (n := n0) (t := t0) (k := k0))
  have hgy := good_len (lays_good (o := o1) (n := n1) (t := t1) (k := k1))
  have hnx := lays_len o0 n0 t0 k0
  have hny := lays_len o1 n1 t1 k1
  unfold sameLay
  obtain ⟨X, hX⟩ : ∃ X, laysD o0 n0 t0 k0 = X := ⟨_, rfl⟩
  obtain ⟨Y, hY⟩ : ∃ Y, laysD o1 n1 t1 k1 = Y := ⟨_, rfl⟩
  obtain ⟨p0, hp0⟩ : ∃ p, toldD o0 n0 t0 k0 = p := ⟨_, rfl⟩
  obtain ⟨p1, hp1⟩ : ∃ p, toldD o1 n1 t1 k1 = p := ⟨_, rfl⟩
  rw [hX] at hA hgx hnx
  rw [hY] at hB hgy hny
  rw [hp0] at hA
  rw [hp1] at hB
  rw [hX, hY, hp0, hp1] at hO
  rw [hX, hY, hp0, hp1] at hP
  rw [hX, hY, hp0, hp1]
  obtain ⟨⟨R0, r0⟩, hr0⟩ : ∃ r : Ls.Lay × Bool, (if (p0 && p1) = true then onlyR X Y else ([], false)) = r := ⟨_, rfl⟩
  obtain ⟨⟨R1, r1⟩, hr1⟩ : ∃ r : Ls.Lay × Bool, (if (p1 && p0) = true then onlyR Y X else ([], false)) = r := ⟨_, rfl⟩
  rw [hr0] at hO
  rw [hr1] at hP
  have HT := Lib.hid (fun (w' : World) => two_new w (.int .i64 o0) (.int .i64 n0) (.string t0) (.slice a0 k0.len c0) (.int .i64 o1) (.int .i64 n1) (.string t1) (.slice a1 k1.len c1) 29 (w' := w'))
  have HE := Lib.hid (show ∀ x y, Ext w ((w.alloc x).alloc y) from fun x y => ((Ext.refl w).alloc x).alloc y)
  obtain ⟨L0, hL0⟩ : ∃ L, k0.len = L := ⟨_, rfl⟩
  obtain ⟨L1, hL1⟩ : ∃ L, k1.len = L := ⟨_, rfl⟩
  rw [hL0] at hA
  rw [hL1] at hB
  rw [hL0, hL1] at hO hP
  rw [hL0, hL1] at HT ⊢
  have HA := Lib.hid hA
  have HB := Lib.hid hB
  have hr : (p0 && p1 && (!(onlyR X Y).2 && !(onlyR Y X).2)) = (p0 && (p1 && (!r0 && !r1))) := by
    cases p0 <;> cases p1 <;> simp_all
  rw [hr]
  have HO := Lib.hid hO
  have HP := Lib.hid hP
  clear hA hB hO hP hgx hgy hnx hny h0 h1 hX hY hp0 hp1 hL0 hL1 hr hr0 hr1
  cases p0 <;> cases p1 <;> cases r0 <;> cases r1
  all_goals
    go_enter Try.func30, Try.ntmps30
    go_wp2_with fail
    refine (HA.out _ (HE.out _ _)).mono ?_
    rintro e1 w1 ⟨x1, y1, g1, rfl, hc1', hs1, hF1, hb1⟩
    have H1 := Lib.hid (And.intro hs1 hF1)
    have K1 := Lib.hid (And.intro hb1 hc1')
    obtain ⟨⟨u0, u1, u2, u3⟩, ⟨v0, v1, v2, v3⟩, e1⟩ := HT.out _ hb1
    have E1 := Lib.hid e1
    clear hb1 hs1 hF1 hc1' e1
    obtain ⟨m, hm⟩ : ∃ m, X.length = m := ⟨_, rfl⟩
    rw [hm]
    go_wp2_with fail
    refine (HB.out _ E1.out).mono ?_
    rintro e2 w2 ⟨x2, y2, g2, rfl, hc2', hs2, hF2, hb2⟩
    have H2 := Lib.hid (And.intro hs2 (And.intro hF2 hc2'))
    have E2 := Lib.hid (Ext.trans E1.out hb2)
    have HS1 := Lib.hid (And.intro (H1.out.1.below H1.out.1.lt hb2) (H1.out.2.below H1.out.1.lt hb2))
    have HB2 := Lib.hid hb2
    clear hb2 hs2 hF2 hc2' u0 u1 u2 u3 v0 v1 v2 v3
    obtain ⟨m2, hm2⟩ : ∃ m, Y.length = m := ⟨_, rfl⟩
    rw [hm2]
    have K2 := Lib.hid (show Ext _ w2 from Ext.trans K1.out.1 HB2.out)
    clear hm hm2
    obtain ⟨⟨u0, u1, u2, u3⟩, ⟨v0, v1, v2, v3⟩, e3⟩ := HT.out _ K2.out
    clear e3
    go_wp2_with fail
    refine (HO.out _ E2.out).mono ?_
    rintro e3 w3 ⟨x3, y3, g3, rfl, hc3, hs3, hF3, hb3⟩
    have K3 := Lib.hid (show Ext _ w3 from Ext.trans K2.out hb3)
    have E3 := Lib.hid (Ext.trans E2.out hb3)
    clear hc3 hs3 hF3 hb3 u0 u1 u2 u3 v0 v1 v2 v3
    obtain ⟨⟨u0, u1, u2, u3⟩, ⟨v0, v1, v2, v3⟩, e3⟩ := HT.out _ K3.out
    clear e3
    obtain ⟨m3, hm3⟩ : ∃ m, R0.length = m := ⟨_, rfl⟩
    rw [hm3]
    clear hm3
    go_wp2_with fail
    refine (HP.out _ E3.out).mono ?_
    rintro e4 w4 ⟨x4, y4, g4, rfl, hc4, hs4, hF4, hb4⟩
    have E4 := Lib.hid (Ext.trans E3.out hb4)
    clear hc4 hs4 hF4 hb4 u0 u1 u2 u3 v0 v1 v2 v3
    obtain ⟨m4, hm4⟩ : ∃ m, R1.length = m := ⟨_, rfl⟩
    rw [hm4]
    clear hm4
    go_wp2_with fail
    go_ret
    exact ⟨rfl, E4.out⟩


end Go.Proofs.Ytmkibpimjaofgaa.Eqd


/-
  What NestLayout of the program and of the model come to: the model's, and the results.
-/
import Derived.Test.YtgnpcfafdjebeaaLayN
import Derived.Test.YtgnpcfafdjebeaaGrow
set_option linter.unusedVariables false
set_option linter.unusedSimpArgs false
namespace Go.Proofs.Ytgnpcfafdjebeaa.LayN
open Go.RowKit P1 TextV LayL LayV LayM

theorem LayRes.none' {w w' : World} {a : Option Addr} {cap : Nat} (hb : Below w.heap.size w w') : LayRes w ([], false) (.returned (.tuple #[.slice a 0 cap, .bool false])) w' :=
  ⟨a, cap, [], rfl, by simp, .inl ⟨rfl, rfl⟩, Fresh.nil _ _, hb⟩

set_option maxRecDepth 100000 in
set_option maxHeartbeats 1600000 in
theorem implNestLayout (n : Int) (l : List (Int × ByteArray)) (w : World) (a : Option Addr) (cap : Nat) (fs : List Nat) (hs : LaySub w a l fs) (hc : l.length ≤ cap) (hl : l.length ≤ maxLen) (hft : L.Fits l) (hn : -9223372036854775808 ≤ n ∧ n ≤ 9223372036854775807) :
    Calls Try.prog 30 #[.int .i64 n, .slice a l.length cap] w (LayRes w (nestR n l)) := by
  have hv := implLayoutValid l w a cap fs hs hc hl hft
  obtain ⟨hna, hnb⟩ := hn
  by_cases h0 : n < 0
  · rw [nestR_no2 l (Or.inl h0)]
    clear hv
    go_enter Try.func30, Try.ntmps30
    go_wp2_with fail
    go_ret2
    exact LayRes.none' (Below.refl _ _)
  · by_cases h1 : 200 < n
    · rw [nestR_no2 l (Or.inr h1)]
      clear hv
      go_enter Try.func30, Try.ntmps30
      go_wp2_with fail
      go_ret2
      exact LayRes.none' (Below.refl _ _)
    · cases hlv : lv l with
      | false =>
        rw [nestR_no1 hlv]
        rw [hlv] at hv
        have HV := Lib.hid hv
        clear hv hlv hs hft
        go_enter Try.func30, Try.ntmps30
        go_wp2_with fail
        refine HV.out.mono ?_
        rintro e1 w1 ⟨rfl, hb1⟩
        have HB := Lib.hid hb1
        clear hb1
        go_wp2_with fail
        go_ret2
        exact LayRes.none' HB.out
      | true =>
        rw [hlv] at hv
        have hnest := fun (W : World) (hW : Below w.heap.size w W) => nestRows n (by omega) (by omega) l hlv W a cap fs (hs.below hs.lt hW) hc
        have hval2 := fun (W : World) (a2 : Option Addr) (c2 : Nat) (f2 : List Nat) (h2 : LaySub W a2 (nestL n l) f2) (h3 : (nestL n l).length ≤ c2) => implLayoutValid (nestL n l) W a2 c2 f2 h2 h3 (by rw [nestL_length]; exact hl) (by
          have := lv_small hlv
          intro r hr
          obtain ⟨k, hk, rfl⟩ := List.getElem_of_mem hr
          rw [nestL_length] at hk
          unfold maxLen
          by_cases hk0 : k = 0
          · subst hk0; rw [nestL_zero]; have := this 0 hk; omega
          · rw [nestL_get n hk (by omega)]; have := this k hk; show l[k].2.size ≤ _; omega)
        have HV := Lib.hid hv
        have HN := Lib.hid hnest
        have HV2 := Lib.hid hval2
        have HLV := Lib.hid hlv
        clear hv hnest hval2 hlv hs hft
        go_enter Try.func30, Try.ntmps30
        go_wp2_with fail
        refine HV.out.mono ?_
        rintro e1 w1 ⟨rfl, hb1⟩
        have HB := Lib.hid hb1
        clear hb1
        go_wp2_with fail
        refine (HN.out _ HB.out).mono ?_
        rintro e1 w2 ⟨a2, c2, f2, rfl, hc2, hs2, hf2, hb2⟩
        have H2 := Lib.hid (And.intro hc2 (And.intro hs2 (And.intro hf2 (HB.out.trans (hb2.mono HB.out.size)))))
        have HLE := Lib.hid HB.out.size
        clear hc2 hs2 hf2 hb2
        go_wp2_with fail
        refine (HV2.out _ a2 c2 f2 H2.out.2.1 H2.out.1).mono ?_
        rintro e1 w3 ⟨rfl, hb3⟩
        have H3 := Lib.hid hb3
        clear hb3
        cases hv3 : lv (nestL n l) with
        | false =>
          have NO := Lib.hid (nestR_no3 hv3)
          clear hv3
          go_wp2_with fail
          go_ret2
          rw [NO.out]
          exact LayRes.none' (H2.out.2.2.2.trans (H3.out.mono H2.out.2.2.2.size))
        | true =>
          have YES := Lib.hid (nestR_yes HLV.out (by omega) (by omega) hv3)
          clear hv3
          go_wp2_with fail
          go_ret2
          rw [YES.out]
          obtain ⟨hc2, hs2, hf2, hb2⟩ := H2.out
          exact ⟨a2, c2, f2, rfl, hc2, hs2.below hs2.lt H3.out, (hf2.below hf2.lt H3.out).mono HLE.out, hb2.trans (H3.out.mono hb2.size)⟩

/-- the cells of lines -/
def cells2 : List (Int × ByteArray) → List Value
  | [] => []
  | r :: l => .int .i64 r.1 :: .string r.2 :: cells2 l
theorem cells2_len (l : List (Int × ByteArray)) : (cells2 l).length = l.length * 2 := by
  induction l with
  | nil => rfl
  | cons r l ih => simp [cells2, ih]; omega
theorem cells2_one (l : List (Int × ByteArray)) : ∀ u ∈ cells2 l, u.oneCell' = true := by
  induction l with
  | nil => simp [cells2]
  | cons r l ih => simp [cells2, Value.oneCell']; exact ih
theorem cells2_at {w : World} {l : List (Int × ByteArray)} : ∀ {b off : Nat}, LayAt w l b off → ∀ j u, (cells2 l)[j]? = some u → w.cell? ((⟨b, off, none⟩ : Addr).add j) = some u := by
  induction l with
  | nil => intro b off _ j u hu; simp [cells2] at hu
  | cons r l ih =>
    intro b off h j u hu
    rw [add_at]
    match j, hu with
    | 0, hu => simp [cells2] at hu; rw [← hu]; have := (h 0 (by simp)).1; simpa using this
    | 1, hu => simp [cells2] at hu; rw [← hu]; have := (h 0 (by simp)).2; simpa using this
    | j + 2, hu =>
      simp only [cells2, List.getElem?_cons_succ] at hu
      have hd := h.drop 1
      rw [show (r :: l).drop 1 = l from rfl] at hd
      have := ih hd j u hu
      rw [add_at] at this
      rw [show off + (j + 2) = off + 1 * 2 + j by omega]
      exact this
theorem at_cells2 {w : World} {l : List (Int × ByteArray)} : ∀ {b off : Nat}, (∀ j u, (cells2 l)[j]? = some u → w.cell? ((⟨b, off, none⟩ : Addr).add j) = some u) → LayAt w l b off := by
  induction l with
  | nil => intro b off _; exact LayAt.nil _ _ _
  | cons r l ih =>
    intro b off h
    have h0 := h 0 _ rfl
    have h1 := h 1 _ rfl
    rw [add_at] at h0 h1
    have hr : LayAt w [r] b off := fun i hi => by
      obtain rfl : i = 0 := by simpa using hi
      exact ⟨by simpa using h0, by simpa using h1⟩
    refine hr.app (k := l) (ih fun j u hu => ?_)
    have := h (j + 2) u (by simpa [cells2] using hu)
    rw [add_at] at this ⊢
    rw [show off + [r].length * 2 + j = off + (j + 2) by simp; omega]
    exact this

/-- what a copy by append comes to -/
theorem grown_new {w w1 : World} {ob : Obj} {T : TypeId} {g cp m k : Nat} {l : List (Int × ByteArray)} (hown : w1.ownsRow w.heap.size T 2 (.slice (some ⟨g, 0, none⟩) k cp) k ([] ++ cells2 l)) (hk : k = m) (hgr : (w.alloc ob).grownBy w1 (some w.heap.size)) :
    Below w.heap.size w w1 ∧ Fresh w.heap.size w1 [g] ∧ m ≤ cp ∧ LayAt w1 l g 0 := by
  subst hk
  have hc := hown.cells (g := g) rfl
  rw [List.nil_append] at hc
  rcases hown.2 with ⟨e, _⟩ | ⟨g', cap', cur, e, hb, hg, hcap, _⟩
  · cases e
  · injection e with e1 e2 e3
    injection e1 with e4
    injection e4 with e5
    subst e5 e3
    refine ⟨((Below.refl w.heap.size w).alloc (Nat.le_refl _) ob).trans ⟨hgr.os, hgr.tape, hgr.output, hgr.size, fun q hq => hgr.block q (by simp; omega) (fun e => by simp at e; omega)⟩, ?_, hcap, at_cells2 hc⟩
    exact Fresh.cons (hi := g + 1) hb (Array.getElem?_eq_some_iff.1 hg).1 (fun o => frozen_of_row w1 _ _ _ _ hg) (Fresh.nil _ _) (by omega)

set_option maxRecDepth 100000 in
set_option maxHeartbeats 3200000 in
theorem l2Nest (n : Int) (h0 : 0 ≤ n) (h1 : n ≤ 200) (l : List (Int × ByteArray)) (hlv : lv l = true) (w : World) (a : Option Addr) (cap : Nat) (fs : List Nat) (hs : LaySub w a l fs) (hc : l.length ≤ cap) :
    Calls Try.prog 66 #[.int .i64 n, .slice a l.length cap] w (RowsNew w (nestL n l)) := by
  obtain ⟨i0, hi, hz0, hz1, hz2⟩ := info_parts info
  have HI := Lib.hid (And.intro hi (And.intro hz0 (And.intro hz1 hz2)))
  have hll := lv_len hlv
  have hsl : ∃ b off, a = some ⟨b, off, none⟩ ∧ b < w.heap.size ∧ LayAt w l b off := by
    rcases hs with ⟨rfl, _⟩ | ⟨b, off, ha, hn, hf, hr⟩
    · simp at hll
    · exact ⟨b, off, ha, hr.lt hn, hr⟩
  obtain ⟨b0, off0, rfl, hb0, hrow0⟩ := hsl
  obtain ⟨X, hX⟩ : ∃ X, nestL n l = X := ⟨_, rfl⟩
  have hXl : X.length = l.length := by rw [← hX, nestL_length]
  have hXg : ∀ k, (h0 : 0 < k) → (hk : k < l.length) → (hk' : k < X.length) → X[k] = (l[k].1 + n, l[k].2) := by
    intro k hk0 hk hk'
    subst hX
    exact nestL_get n hk hk0 _
  have hX1 : X.take 1 ++ l.drop 1 = l := by
    subst hX
    cases l with
    | nil => rfl
    | cons r l => simp [nestL]
  rw [hX]
  have HX := Lib.hid (And.intro hXl (And.intro hXg hX1))
  have HLV := Lib.hid hlv
  have HNEW := Lib.hid (show ∀ ob j u, (cells2 l)[j]? = some u → (w.alloc ob).cell? ((⟨b0, off0, none⟩ : Addr).add j) = some u from fun ob => cells2_at (hrow0.below hb0 ((Below.refl _ _).alloc (Nat.le_refl _) _)))
  have HC2 := Lib.hid (And.intro (cells2_len l) (cells2_one l))
  unfold RowsNew
  rw [hXl]
  obtain ⟨m, hm⟩ : ∃ m, l.length = m := ⟨_, rfl⟩
  have HM := Lib.hid hm
  rw [hm] at hc hll ⊢
  have HL2 := Lib.hid (show (cells2 l).length = m * 2 by rw [cells2_len, hm])
  obtain ⟨hll1, hll2⟩ := hll
  clear hX hXl hXg hX1 hlv hs hm hi hz0 hz1 hz2 hrow0
  go_enter Try.func66, Try.ntmps66
  go_wp2_with (refine wpList_append_lies _ rfl (.tmp 7) (.tmp 8) 23 rfl w.heap.size 31 i0 _ 2 24 Try.underlying23 HI.out.1 HI.out.2.1 HI.out.2.2.1 HI.out.2.2.2 rfl (by omega) (.slice (some ⟨w.heap.size, 0, none⟩) 0 0) 0 [] rfl (World.ownsRow_made w #[] 0 (Nat.le_refl _) (by simp [maxLen]) rfl) ⟨b0, off0, none⟩ m cap (cells2 l) rfl HL2.out (HNEW.out _) HC2.out.2 (by omega) (by unfold maxLen; omega) (by omega) (by simp) _ rfl ?_; intro g cp w1 hown hgr hat hlt)
  obtain ⟨hb1, hf1, hc1, hr1⟩ := grown_new (m := m) hown (by omega) hgr
  have H1 := Lib.hid (And.intro hf1 hb1)
  have HR := Lib.hid hr1
  clear hb1 hf1 hr1 hown hgr hat hlt
  go_loopw [6] (fun i wr => ∃ j : Nat, 1 ≤ j ∧ j ≤ m ∧ i = .int .i64 j ∧ LayAt wr (X.take j ++ l.drop j) g 0 ∧ Only [g] w1 wr) (fun i _ => m - (intOf i).toNat)
  case atStart => exact ⟨1, by omega, by omega, rfl, by rw [HX.out.2.2]; exact HR.out, Only.refl _ _⟩
  case round =>
    obtain ⟨j, hj1, hjm, rfl, hrw, hO⟩ := hrel
    by_cases hlt : j < m
    · have hjl : j < l.length := by rw [HM.out]; exact hlt
      obtain ⟨⟨n0, t0⟩, hnt⟩ : ∃ r, l[j] = r := ⟨_, rfl⟩
      have hpl := part_len HX.out.1 (Nat.le_of_lt hjl)
      have c0 := (hrw j (by omega)).1
      rw [part_get HX.out.1 hjl (by omega), hnt, Nat.zero_add] at c0
      have hn0 := rv_len (lv_get HLV.out hjl)
      rw [hnt] at hn0
      obtain ⟨hn1, hn2, _⟩ := hn0
      simp only at hn1 hn2
      have hF := hO.fresh H1.out.1
      have z0 := (hF.2 g (by simp)).2.2 (j * 2)
      have hput := nest_put HX.out.1 hjl hrw hnt (by rw [HX.out.2.1 j (by omega) hjl (by rw [HX.out.1]; exact hjl), hnt])
      rw [Nat.zero_add] at hput
      have H := Lib.hid (And.intro hput (hO.setCell (p := ⟨g, j * 2, none⟩) (by simp) (.int .i64 (n0 + n))))
      clear hrw hO hnt hpl hF hput
      go_wp2_with fail
      go_roundw
      case rel => exact ⟨j + 1, by omega, by omega, by go_num, H.out.1, H.out.2⟩
      case measure => simp [intOf]; omega
    · have H := Lib.hid (And.intro hrw hO)
      clear hrw hO
      obtain rfl : j = m := by omega
      go_wp2_with fail
      go_ret
      obtain ⟨hrw, hO⟩ := H.out
      rw [List.take_of_length_le (by rw [HX.out.1, HM.out]; exact Nat.le_refl _), List.drop_eq_nil_of_le (by rw [HM.out]; exact Nat.le_refl _), List.append_nil] at hrw
      have hne : X ≠ [] := by intro e; have := HX.out.1; rw [e, HM.out] at this; simp at this; omega
      exact ⟨_, cp, [g], rfl, hc1, .inr ⟨g, 0, rfl, hne, rfl, hrw⟩, hO.fresh H1.out.1, H1.out.2.trans (hO.below H1.out.2.size (by simpa using (H1.out.1.2 g (by simp)).1))⟩

set_option maxRecDepth 100000 in
set_option maxHeartbeats 1600000 in
theorem specNestLayout (n : Int) (l : List (Int × ByteArray)) (w : World) (a : Option Addr) (cap : Nat) (fs : List Nat) (hs : LaySub w a l fs) (hc : l.length ≤ cap) (hl : l.length ≤ maxLen) (hft : L.Fits l) (hn : -9223372036854775808 ≤ n ∧ n ≤ 9223372036854775807) :
    Calls Try.prog 31 #[.int .i64 n, .slice a l.length cap] w (LayRes w (nestR n l)) := by
  have hv := specLayoutValid l w a cap fs hs hc hl hft
  obtain ⟨hna, hnb⟩ := hn
  have HA := Lib.hid (show ∀ (W : World) ob, Below w.heap.size w W → Below w.heap.size w (W.alloc ob) from fun W ob h => h.alloc h.size ob)
  cases hlv : lv l with
  | false =>
    rw [nestR_no1 hlv]
    rw [hlv] at hv
    have HV := Lib.hid hv
    clear hv hlv hs hft
    go_enter Try.func31, Try.ntmps31
    go_wp2_with fail
    refine HV.out.mono ?_
    rintro e1 w1 ⟨rfl, hb1⟩
    have HB := Lib.hid hb1
    clear hb1
    go_wp2_with fail
    go_ret2
    exact LayRes.none' (HA.out _ _ HB.out)
  | true =>
    rw [hlv] at hv
    by_cases h0 : n < 0
    · rw [nestR_no2 l (Or.inl h0)]
      have HV := Lib.hid hv
      clear hv hlv hs hft
      go_enter Try.func31, Try.ntmps31
      go_wp2_with fail
      refine HV.out.mono ?_
      rintro e1 w1 ⟨rfl, hb1⟩
      have HB := Lib.hid hb1
      clear hb1
      go_wp2_with fail
      go_ret2
      exact LayRes.none' (HA.out _ _ HB.out)
    · by_cases h1 : 200 < n
      · rw [nestR_no2 l (Or.inr h1)]
        have HV := Lib.hid hv
        clear hv hlv hs hft
        go_enter Try.func31, Try.ntmps31
        go_wp2_with fail
        refine HV.out.mono ?_
        rintro e1 w1 ⟨rfl, hb1⟩
        have HB := Lib.hid hb1
        clear hb1
        go_wp2_with fail
        go_ret2
        exact LayRes.none' (HA.out _ _ HB.out)
      · have hnest := fun (W : World) (hW : Below w.heap.size w W) => l2Nest n (by omega) (by omega) l hlv W a cap fs (hs.below hs.lt hW) hc
        have hval2 := fun (W : World) (a2 : Option Addr) (c2 : Nat) (f2 : List Nat) (h2 : LaySub W a2 (nestL n l) f2) (h3 : (nestL n l).length ≤ c2) => specLayoutValid (nestL n l) W a2 c2 f2 h2 h3 (by rw [nestL_length]; exact hl) (by
          have := lv_small hlv
          intro r hr
          obtain ⟨k, hk, rfl⟩ := List.getElem_of_mem hr
          rw [nestL_length] at hk
          unfold maxLen
          by_cases hk0 : k = 0
          · subst hk0; rw [nestL_zero]; have := this 0 hk; omega
          · rw [nestL_get n hk (by omega)]; have := this k hk; show l[k].2.size ≤ _; omega)
        have HV := Lib.hid hv
        have HN := Lib.hid hnest
        have HV2 := Lib.hid hval2
        have HLV := Lib.hid hlv
        clear hv hnest hval2 hlv hs hft
        go_enter Try.func31, Try.ntmps31
        go_wp2_with fail
        refine HV.out.mono ?_
        rintro e1 w1 ⟨rfl, hb1⟩
        have HB := Lib.hid hb1
        clear hb1
        go_wp2_with fail
        refine (HN.out _ HB.out).mono ?_
        rintro e1 w2 ⟨a2, c2, f2, rfl, hc2, hs2, hf2, hb2⟩
        have H2 := Lib.hid (And.intro hc2 (And.intro hs2 (And.intro hf2 (HB.out.trans (hb2.mono HB.out.size)))))
        have HLE := Lib.hid HB.out.size
        clear hc2 hs2 hf2 hb2
        go_wp2_with fail
        refine (HV2.out _ a2 c2 f2 H2.out.2.1 H2.out.1).mono ?_
        rintro e1 w3 ⟨rfl, hb3⟩
        have H3 := Lib.hid hb3
        clear hb3
        cases hv3 : lv (nestL n l) with
        | false =>
          have NO := Lib.hid (nestR_no3 hv3)
          clear hv3
          go_wp2_with fail
          go_ret2
          rw [NO.out]
          exact LayRes.none' (HA.out _ _ (H2.out.2.2.2.trans (H3.out.mono H2.out.2.2.2.size)))
        | true =>
          have YES := Lib.hid (nestR_yes HLV.out (by omega) (by omega) hv3)
          clear hv3
          go_wp2_with fail
          go_ret2
          rw [YES.out]
          obtain ⟨hc2, hs2, hf2, hb2⟩ := H2.out
          exact ⟨a2, c2, f2, rfl, hc2, hs2.below hs2.lt H3.out, (hf2.below hf2.lt H3.out).mono HLE.out, hb2.trans (H3.out.mono hb2.size)⟩

theorem nestR_len (n : Int) (l : List (Int × ByteArray)) : (nestR n l).1.length ≤ 1048576 := by
  unfold nestR
  split
  · rename_i h; have := lv_len h.2.2.2; show (nestL n l).length ≤ _; omega
  · simp
/-- .. in the order in which the law's text names them -/
theorem specNestAt (n : Int) (l : List (Int × ByteArray)) (w : World) (a : Option Addr) (cap : Nat) (fs : List Nat) (hs : LaySub w a l fs) (hc : l.length ≤ cap) (hl : l.length ≤ maxLen) (hft : L.Fits l) (hn : -9223372036854775808 ≤ n ∧ n ≤ 9223372036854775807) :
    Calls Try.prog 31 #[.int .i64 n, .slice a l.length cap] w (LayRes w (nestR n l)) := specNestLayout n l w a cap fs hs hc hl hft hn

end Go.Proofs.Ytgnpcfafdjebeaa.LayN

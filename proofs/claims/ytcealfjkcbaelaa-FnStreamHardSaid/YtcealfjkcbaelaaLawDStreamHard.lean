import Derived.Test.YtcealfjkcbaelaaTkEf
import Derived.Test.YtcealfjkcbaelaaTkY
import Derived.Test.YtcealfjkcbaelaaStH
import Derived.Test.YtcealfjkcbaelaaAppZ
import Derived.Test.YtcealfjkcbaelaaDrZ
import Derived.Test.YtcealfjkcbaelaaFacts
import Derived.Test.YtcealfjkcbaelaaRows
import Derived.Deep.RegionHeld3
/-
  Streams fall apart at newlines that have to stay: the law FnStreamHard returns true for whatever draws, and its argument reads as it did. No condition of ours.
-/
set_option linter.unusedVariables false
set_option linter.unusedSimpArgs false
namespace Go.Proofs.Ytcealfjkcbaelaa.lawStreamHardD
open Go.ChangeShapes Go.WideShapes Go.ChangeAt Go.RowKit P1 Draw6 LawC Tk

theorem at_cells {w : World} {X : List (Int × Int × ByteArray)} {b off : Nat} (h : TkAt w X b off) : ∀ j u, (cells3 X)[j]? = some u → w.cell? ((⟨b, off, none⟩ : Addr).add j) = some u := fun j u hu => by
  have hj : j < X.length * 3 := by rw [← cells3_len]; exact (List.getElem?_eq_some_iff.1 hu).1
  obtain ⟨i, r, hr, rfl⟩ : ∃ i r, r < 3 ∧ j = i * 3 + r := ⟨j / 3, j % 3, by omega, by omega⟩
  have hi : i < X.length := by omega
  have h1 := h i hi
  have h2 := cells3_get X i hi
  rw [at_add]
  rcases (show r = 0 ∨ r = 1 ∨ r = 2 by omega) with rfl | rfl | rfl
  · rw [Nat.add_zero, h2.1] at hu; injection hu with hu; rw [← hu]; exact h1.1
  · rw [h2.2.1] at hu; injection hu with hu; rw [← hu]; exact h1.2.1
  · rw [h2.2.2] at hu; injection hu with hu; rw [← hu]; exact h1.2.2
theorem cells3_one : ∀ (X : List (Int × Int × ByteArray)), ∀ u ∈ cells3 X, u.oneCell' = true
  | [], u, h => by simp [cells3] at h
  | r :: l, u, h => by
    simp only [cells3, List.mem_cons] at h
    rcases h with rfl | rfl | rfl | h
    · rfl
    · rfl
    · rfl
    · exact cells3_one l u h
theorem own_three (w : World) (k n : Int) (t : ByteArray) (T : TypeId) : (w.alloc (.cells #[.int .i64 k, .int .i64 n, .string t] T)).ownsRow w.heap.size T 3 (.slice (some ⟨w.heap.size, 0, none⟩) 1 1) 1 [.int .i64 k, .int .i64 n, .string t] :=
  ⟨rfl, .inr ⟨w.heap.size, 1, _, rfl, Nat.le_refl _, (show (w.heap.push _)[w.heap.size]? = _ from Array.getElem?_push_size), by omega, by unfold maxLen; omega, rfl, rfl⟩⟩
theorem own_none (w : World) (T : TypeId) : (w.alloc (.cells #[] T)).ownsRow w.heap.size T 3 (.slice (some ⟨w.heap.size, 0, none⟩) 0 0) 0 [] := own_empty (show (w.heap.push _)[w.heap.size]? = _ from Array.getElem?_push_size)
theorem own_sub {w : World} {B g n cap : Nat} {X : List (Int × Int × ByteArray)} (h : w.ownsRow B 55 3 (.slice (some ⟨g, 0, none⟩) n cap) X.length (cells3 X)) (h0 : 0 < X.length) : TkSub w (some ⟨g, 0, none⟩) X [g] := by
  obtain ⟨g', e, _, _, hat, _⟩ := own_tk h h0
  injection e with e; injection e with e; subst e
  exact .inr ⟨g, 0, rfl, by intro e; rw [e] at h0; simp at h0, rfl, hat⟩

theorem own_sub0 {w : World} {B g n cap : Nat} {X : List (Int × Int × ByteArray)} (h : w.ownsRow B 55 3 (.slice (some ⟨g, 0, none⟩) n cap) X.length (cells3 X)) : ∃ fs, TkSub w (some ⟨g, 0, none⟩) X fs := by
  by_cases h0 : 0 < X.length
  · exact ⟨_, own_sub h h0⟩
  · exact ⟨[], .inl ⟨List.length_eq_zero_iff.1 (by omega), rfl⟩⟩
structure Stop (p : Prop) : Prop where
  out : p

theorem tks_ext {W W' : World} {a : Option Addr} {X : List (Int × Int × ByteArray)} {fs : List Nat} (h : TkSub W a X fs) (e : Ext W W') : TkSub W' a X fs := h.below h.lt e


/-- a layout in memory -/
def LQ (w : World) (X : List (Int × ByteArray)) (a : Option Addr) (c : Nat) : Prop := (∃ fs, LaySub w a X fs) ∧ X.length ≤ c
theorem LQ.ext {w w' : World} {X : List (Int × ByteArray)} {a : Option Addr} {c : Nat} (h : LQ w X a c) (e : Ext w w') : LQ w' X a c := by
  obtain ⟨⟨fs, hs⟩, hc⟩ := h
  exact ⟨⟨fs, hs.below hs.lt e⟩, hc⟩
theorem LQ.same {w : World} {X : List (Int × ByteArray)} {a a' : Option Addr} {c c' M : Nat} (h : LQ w X a c) (h' : LQ w X a' c') (hM : X.length = M) (hl : M ≤ 2000000) : Calls Try.prog 22 #[.slice a M c, .slice a' M c'] w fun e w' => e = .returned (.bool true) ∧ Ext w w' := by
  subst hM
  obtain ⟨⟨f, hs⟩, hc⟩ := h
  obtain ⟨⟨f', hs'⟩, hc'⟩ := h'
  have H := LaySm.implLayoutSame X X w a c f hs a' c' f' hs' hc hc' (by unfold maxLen; omega) (by unfold maxLen; omega)
  rw [decide_eq_true rfl] at H
  exact H
theorem LQ.two {w : World} {X Y : List (Int × ByteArray)} {a : Option Addr} {c : Nat} (h : LQ w (X ++ Y) a c) (hx : 0 < X.length) : ∃ b o, a = some ⟨b, o, none⟩ ∧ LQ w X (some ⟨b, o, none⟩) c ∧ LQ w Y (some ⟨b, o + X.length * 2, none⟩) (c - X.length) := by
  obtain ⟨⟨f, hs⟩, hc⟩ := h
  rw [List.length_append] at hc
  rcases hs with ⟨e, _⟩ | ⟨b, o, rfl, hne, rfl, hat⟩
  · have := congrArg List.length e; simp only [List.length_append, List.length_nil] at this; omega
  · refine ⟨b, o, rfl, ⟨⟨[b], .inr ⟨b, o, rfl, by intro e; rw [e] at hx; simp at hx, rfl, fun i hi => ?_⟩⟩, by omega⟩, ?_, by omega⟩
    · have h1 := hat i (by rw [List.length_append]; omega)
      rw [List.getElem_append_left hi] at h1
      exact h1
    · by_cases hy : Y = []
      · exact ⟨[], .inl ⟨hy, rfl⟩⟩
      · refine ⟨[b], .inr ⟨b, _, rfl, hy, rfl, fun i hi => ?_⟩⟩
        have h1 := hat (X.length + i) (by rw [List.length_append]; omega)
        rw [List.getElem_append_right (by omega)] at h1
        simp only [Nat.add_sub_cancel_left] at h1
        rw [show o + X.length * 2 + i * 2 = o + (X.length + i) * 2 by omega]
        exact h1
/-- a layout, and whether there is one -/
def LOut (W : World) (L : List (Int × ByteArray)) (V : Bool) (M : Nat) (e : Ending) (w' : World) : Prop := ∃ (a : Option Addr) (c : Nat), e = .returned (.tuple #[.slice a M c, .bool V]) ∧ LQ w' L a c ∧ Ext W w'
theorem lout {W w' : World} {r : List (Int × ByteArray) × Bool} {L : List (Int × ByteArray)} {V : Bool} {M : Nat} {e : Ending} (h : LayN.LayRes W r e w') (hr : r = (L, V)) (hM : L.length = M) : LOut W L V M e w' := by
  subst hr; subst hM
  obtain ⟨a, c, fs, rfl, h1, h2, _, h4⟩ := h
  exact ⟨a, c, rfl, ⟨⟨fs, h2⟩, h1⟩, h4⟩
theorem own_sr {W : World} {B g n cap : Nat} {X : List (Int × Int × ByteArray)} {op : Int} {L : List (Int × ByteArray)} {V : Bool} {M : Nat} (h : W.ownsRow B 55 3 (.slice (some ⟨g, 0, none⟩) n cap) n (cells3 X)) (hn : n = X.length) (hl : X.length ≤ 1000) (ht : ∀ r ∈ X, r.2.2.size ≤ 2000) (hv : srR op X = (L, V)) (hM : L.length = M) :
    Calls Try.prog 20 #[.slice (some ⟨g, 0, none⟩) n cap, .int .i64 op] W (LOut W L V M) := by
  subst hn
  obtain ⟨a, c, e, hc⟩ := own_slice h
  injection e with e1 e2 e3
  subst e3
  obtain ⟨fs, hsb⟩ := own_sub0 h
  exact (StM.implStreamRows X op W _ cap fs hsb hc (by unfold maxLen; omega) (fun r hr => by have := ht r hr; unfold maxLen; omega)).mono fun _ _ g => lout g hv hM
theorem sr_pos {W : Int} {X : List Tok} {L : List (Int × ByteArray)} (h : srR W X = (L, true)) : 0 < L.length := by
  unfold srR at h
  split at h
  · injection h with h _; rw [← h]; simp [Rn.St.fin]
  · injection h with _ h; cases h

set_option maxRecDepth 100000 in
set_option maxHeartbeats 6400000 in
theorem walk_good (w : World) (a0 : Option Addr) (len0 cap0 : Nat) (hb0 : Bytes w a0 len0) (hlc0 : len0 ≤ cap0) (hcm0 : cap0 ≤ maxLen) (hl0 : len0 ≤ 1048576) :
    Calls Try.prog 12 #[.slice a0 len0 cap0] w fun e w' => e = .returned (.bool true) ∧ Ext w w' := by
  have HD0 := Lib.hid (Tk.drawStreamRows w a0 len0 cap0 hb0 hlc0 hcm0)
  clear hb0
  unfold maxLen at hcm0
  go_enter Try.func12, Try.ntmps12
  go_wp2_with fail
  refine HD0.out.mono ?_
  rintro e1 w1 ⟨X, a, cap, fs, op, rfl, hop, hc, hl, ht, hs, hf, hb1⟩
  have hft : TL.Fits X := fun r hr => by have := ht r hr; unfold maxLen; omega
  obtain ⟨N, hN⟩ : ∃ N, X.length = N := ⟨_, rfl⟩
  obtain ⟨⟨L, V⟩, hR⟩ : ∃ R, srR op X = R := ⟨_, rfl⟩
  obtain ⟨M, hM⟩ : ∃ M, L.length = M := ⟨_, rfl⟩
  have hMl : M ≤ 1048576 := by have h := StM.sr_len op X; rw [hR] at h; rw [← hM]; exact h
  have HSI := Lib.hid (show ∀ W : World, Ext w1 W → Calls Try.prog 20 #[.slice a N cap, .int .i64 op] W (LOut W L V M) from fun W e => by have h := StM.implStreamRows X op W a cap fs (hs.below hs.lt e) hc (by unfold maxLen; omega) hft; rw [hN] at h; exact h.mono fun _ _ g => lout g hR hM)
  have HSS := Lib.hid (show ∀ W : World, Ext w1 W → Calls Try.prog 21 #[.slice a N cap, .int .i64 op] W (LOut W L V M) from fun W e => by have h := Sq.specStreamRows X op W a cap fs (hs.below hs.lt e) hc (by unfold maxLen; omega) hft; rw [hN] at h; exact h.mono fun _ _ g => lout g hR hM)
  have HX := Lib.hid (And.intro hN (And.intro hR (And.intro hs hM)))
  have HT := Lib.hid ht
  have E1 := Lib.hid (show Ext w w1 from hb1)
  rw [hN] at hc hl ⊢
  clear hN hR hs hf hb1 ht hft hM
  go_wp2_with fail
  refine (HSI.out _ (Ext.refl _)).mono ?_
  rintro e2 w2 ⟨pa, ca, rfl, hla, hb2⟩
  have E2 := Lib.hid (show Ext w1 w2 from hb2)
  have KA := Lib.hid hla
  clear hb2 hla
  go_wp2_with fail
  refine (HSS.out _ E2.out).mono ?_
  rintro e3 w3 ⟨pb, cb, rfl, hlb, hb3⟩
  have E3 := Lib.hid (show Ext w1 w3 from E2.out.trans hb3)
  have KA3 := Lib.hid (KA.out.ext hb3)
  have HLS := Lib.hid (KA3.out.same hlb HX.out.2.2.2 (by omega))
  have KB := Lib.hid hlb
  clear hb3 hlb
  go_wp2_with fail
  refine HLS.out.mono ?_
  rintro e4 w4 ⟨rfl, hb4⟩
  have E4 := Lib.hid (show Ext w1 w4 from E3.out.trans hb4)
  have KA4 := Lib.hid (KA3.out.ext hb4)
  have HLS4 := Lib.hid (KA4.out.same (KB.out.ext hb4) HX.out.2.2.2 (by omega))
  clear hb4
  have v0 : (V != V) = false := by simp
  have v1 : (V == V) = true := by simp
  cases V with
  | false =>
    go_wp2_with fail
    refine HLS4.out.mono ?_
    rintro e5 w5 ⟨rfl, hb5⟩
    have E5 := Lib.hid (E4.out.trans hb5)
    clear hb5
    go_wp2_with fail
    go_ret
    exact ⟨by first | rfl | simp, E1.out.trans E5.out⟩
  | true =>
    by_cases h90 : 90 < N
    · have h1 : (90 : Int) < (N : Int) := by omega
      go_wp2_with fail
      refine HLS4.out.mono ?_
      rintro e5 w5 ⟨rfl, hb5⟩
      have E5 := Lib.hid (E4.out.trans hb5)
      clear hb5
      go_wp2_with fail
      go_ret
      exact ⟨by first | rfl | simp, E1.out.trans E5.out⟩
    · have h1 : ¬ (90 : Int) < (N : Int) := by omega
      have hM0 := sr_pos HX.out.2.1
      rw [HX.out.2.2.2] at hM0
      have hmul : IntKind.i64.wrap (2 * (M : Int)) = 2 * (M : Int) := by rw [IntKind.wrap_i64]; omega
      have hm2 : ((M : Int) + (M : Int) == 2 * (M : Int)) = true := beq_iff_eq.2 (by omega)
      have hm3 : ((M : Int) + (M : Int)) = 2 * (M : Int) := by omega
      have HHD := Lib.hid (sr_hard HX.out.2.1 (by have := HX.out.1; omega))
      obtain ⟨i0, z0, hi, hz, hz1, hz2, hz3⟩ := info_some infoT3
      have HI := Lib.hid (And.intro hi (And.intro hz (And.intro hz1 (And.intro hz2 hz3))))
      clear hi hz hz1 hz2 hz3
      have HATC := Lib.hid (show ∀ ad, a = some ad → ∀ W, Below w4.heap.size w4 W → ∀ j u, (cells3 X)[j]? = some u → W.cell? (ad.add j) = some u from fun ad ea W hW j u hu => by
        rcases tks_ext HX.out.2.2.1 E4.out with ⟨e, _⟩ | ⟨b, off, e, hne, _, h⟩
        · rw [e] at hu; simp [cells3] at hu
        · rw [ea] at e; injection e with e; subst e
          exact at_cells (h.below (h.lt hne) hW) j u hu)
      rcases Nat.eq_zero_or_pos N with hN0 | hN0
      · have HX0 := Lib.hid (show X = [] from List.length_eq_zero_iff.1 (by have := HX.out.1; omega))
        subst hN0
        go_wp2_with (at_builtin; refine Stop.out ?_)
        refine ⟨?_⟩
        refine AppZ.wpList_append_zero rfl (.tmp 58) (.tmp 59) 28 rfl 55 i0 Try.underlying28 HI.out.1 (some ⟨w4.heap.size, 0, none⟩) 0 0 (Nat.le_refl _) a cap rfl rfl ?_
        go_wp2_with (at_builtin; refine Stop.out ?_)
        refine ⟨?_⟩
        refine wpList_append_lies _ rfl (.tmp 60) (.tmp 62) 28 rfl w4.heap.size 55 i0 z0 3 32 Try.underlying28 HI.out.1 HI.out.2.1 HI.out.2.2.1 HI.out.2.2.2.1 HI.out.2.2.2.2 (by omega) (.slice (some ⟨w4.heap.size, 0, none⟩) 0 0) 0 [] rfl ((own_none w4 _).alloc _) ⟨w4.heap.size + 1, 0, none⟩ 1 1 [.int .i64 4, .int .i64 0, .string ⟨#[]⟩] rfl rfl (three_at (w4.alloc (.cells #[] 55)) (w4.heap.size + 1) (by simp) _ _ _ _) (by simp [Value.oneCell']) (by omega) (by unfold maxLen; omega) (by omega) (by first | omega | (simp; done) | (simp; omega)) (w4.heap.size + 2) (by first | rfl | (simp; done)) ?_
        intro g6 cap6 w6 hown6 hgrow6 hat6 hlt6
        have hb6 := (((Below.refl w4.heap.size w4).alloc (Nat.le_refl _) _).alloc (by simp) _).grown hgrow6 (by simp; omega) (fun k e => ((own_none w4 55).lt k e).1)
        have H6 := Lib.hid (show w6.ownsRow w4.heap.size 55 3 (.slice (some ⟨g6, 0, none⟩) (0 + 1) cap6) (0 + 1) ([] ++ [.int .i64 4, .int .i64 0, .string ⟨#[]⟩]) from hown6)
        have EW := Lib.hid (show Ext w4 w6 from hb6)
        clear hown6 hgrow6 hat6 hlt6 hb6
        go_wp2_with (at_builtin; refine Stop.out ?_)
        refine ⟨?_⟩
        refine AppZ.wpList_append_zero rfl (.tmp 63) (.tmp 64) 28 rfl 55 i0 Try.underlying28 HI.out.1 (some ⟨g6, 0, none⟩) 1 cap6 (by obtain ⟨_, _, e, h⟩ := own_slice H6.out; injection e with _ _ e; omega) a cap rfl rfl ?_
        go_wp2_with fail
        have HC7 := Lib.hid (own_sr (X := X ++ (4, 0, ⟨#[]⟩) :: X) (W := w6) (B := w4.heap.size) (g := g6) (n := 0 + 1) (cap := cap6) (op := op) (by rw [HX0.out]; exact H6.out) (by have := HX.out.1; simp; omega) (by have := HX.out.1; simp; omega) (fun r hr => by
          simp only [List.mem_append, List.mem_cons] at hr
          rcases hr with hr | rfl | hr
          · exact HT.out r hr
          · decide
          · exact HT.out r hr) HHD.out (show (L ++ L).length = M + M by rw [List.length_append, HX.out.2.2.2]))
        refine HC7.out.mono ?_
        rintro e8 w8 ⟨px, cx, rfl, hlx, hb8⟩
        obtain ⟨bx, ox, rfl, hq1, hq2⟩ := hlx.two (by rw [HX.out.2.2.2]; exact hM0)
        rw [HX.out.2.2.2] at hq2
        have hcx : M + M ≤ cx := by have h := hlx.2; rw [List.length_append, HX.out.2.2.2] at h; exact h
        have hcx1 : (M : Int) ≤ (cx : Int) := by omega
        have hcx2 : ¬ cx = M := by omega
        have hcx3 : (M : Int) ≤ (M : Int) + (M : Int) := by omega
        have hcx4 : (M : Int) + (M : Int) ≤ (cx : Int) := by omega
        have hcx5 : M + M - M = M := by omega
        have n0 : (0 : Int) ≤ (M : Int) := Int.natCast_nonneg _
        have EX := Lib.hid (show Ext w4 w8 from EW.out.trans hb8)
        have KQ1 := Lib.hid (hq1.same (KA4.out.ext EX.out) HX.out.2.2.2 (by omega))
        have KQ2 := Lib.hid (fun (W : World) (e : Ext w8 W) => (hq2.ext e).same (KA4.out.ext (EX.out.trans e)) HX.out.2.2.2 (by omega))
        clear hlx hb8 hq1 hq2
        go_wp2_with fail
        refine KQ1.out.mono ?_
        rintro e9 w9 ⟨rfl, hb9⟩
        have HQ2 := Lib.hid (KQ2.out _ hb9)
        have E9 := Lib.hid (show Ext w4 w9 from EX.out.trans hb9)
        clear hb9
        go_wp2_with fail
        try simp only [hcx5]
        refine HQ2.out.mono ?_
        rintro e10 w10 ⟨rfl, hb10⟩
        have E10 := Lib.hid (E9.out.trans hb10)
        clear hb10
        go_wp2_with fail
        go_ret
        exact ⟨by first | rfl | simp, (E1.out.trans E4.out).trans E10.out⟩
      · obtain ⟨ad, rfl⟩ : ∃ ad, a = some ad := by
          rcases tks_ext HX.out.2.2.1 E4.out with ⟨e, _⟩ | ⟨b, off, e, hne, _, h⟩
          · have := HX.out.1; rw [e] at this; simp at this; omega
          · exact ⟨_, e⟩
        have HAT := Lib.hid (HATC.out ad rfl)
        go_wp2_with (at_builtin; refine Stop.out ?_)
        refine ⟨?_⟩
        refine wpList_append_lies _ rfl (.tmp 58) (.tmp 59) 28 rfl w4.heap.size 55 i0 z0 3 32 Try.underlying28 HI.out.1 HI.out.2.1 HI.out.2.2.1 HI.out.2.2.2.1 HI.out.2.2.2.2 (by omega) (.slice (some ⟨w4.heap.size, 0, none⟩) 0 0) 0 [] rfl (own_none w4 _) ad N cap (cells3 X) rfl (by rw [cells3_len, HX.out.1]) (HAT.out _ ((Below.refl _ _).alloc (Nat.le_refl _) _)) (cells3_one X) (by omega) (by unfold maxLen; omega) (by omega) (by first | omega | (simp; done) | (simp; omega)) (w4.heap.size + 1) (by first | rfl | (simp; done)) ?_
        intro g5 cap5 w5 hown5 hgrow5 hat5 hlt5
        have hb5 := ((Below.refl w4.heap.size w4).alloc (Nat.le_refl _) _).grown hgrow5 (by simp) (fun k e => ((own_none w4 55).lt k e).1)
        have H5 := Lib.hid (And.intro (show w5.ownsRow w4.heap.size 55 3 (.slice (some ⟨g5, 0, none⟩) N cap5) N (cells3 X) from by have := hown5; rw [Nat.zero_add] at this; exact this) hb5)
        have hs5 := hb5.size
        clear hown5 hgrow5 hat5 hlt5 hb5
        go_wp2_with (at_builtin; refine Stop.out ?_)
        refine ⟨?_⟩
        refine wpList_append_lies _ rfl (.tmp 60) (.tmp 62) 28 rfl w4.heap.size 55 i0 z0 3 32 Try.underlying28 HI.out.1 HI.out.2.1 HI.out.2.2.1 HI.out.2.2.2.1 HI.out.2.2.2.2 (by omega) (.slice (some ⟨g5, 0, none⟩) N cap5) N (cells3 X) rfl (H5.out.1.alloc _) ⟨w5.heap.size, 0, none⟩ 1 1 [.int .i64 4, .int .i64 0, .string ⟨#[]⟩] rfl rfl (three_at w5 w5.heap.size rfl _ _ _ _) (by simp [Value.oneCell']) (by omega) (by unfold maxLen; omega) (by omega) (by first | omega | (simp; done) | (simp; omega)) (w5.heap.size + 1) (by first | rfl | (simp; done)) ?_
        intro g6 cap6 w6 hown6 hgrow6 hat6 hlt6
        have hb6 := H5.out.2.trans (below_append hgrow6 H5.out.1 hs5)
        have H6 := Lib.hid (And.intro hown6 hb6)
        have hs6 := hb6.size
        clear hown6 hgrow6 hat6 hlt6 hb6
        go_wp2_with (at_builtin; refine Stop.out ?_)
        refine ⟨?_⟩
        refine wpList_append_lies _ rfl (.tmp 63) (.tmp 64) 28 rfl w4.heap.size 55 i0 z0 3 32 Try.underlying28 HI.out.1 HI.out.2.1 HI.out.2.2.1 HI.out.2.2.2.1 HI.out.2.2.2.2 (by omega) (.slice (some ⟨g6, 0, none⟩) (N + 1) cap6) (N + 1) (cells3 X ++ [.int .i64 4, .int .i64 0, .string ⟨#[]⟩]) rfl H6.out.1 ad N cap (cells3 X) rfl (by rw [cells3_len, HX.out.1]) (HAT.out _ H6.out.2) (cells3_one X) (by omega) (by unfold maxLen; omega) (by omega) (by first | omega | (simp; done) | (simp; omega)) (w6.heap.size) (by first | rfl | (simp; done)) ?_
        intro g7 cap7 w7 hown7 hgrow7 hat7 hlt7
        have hb7 := H6.out.2.grown hgrow7 hs6 (fun k e => (H6.out.1.lt k e).1)
        have H7 := Lib.hid hown7
        have EW := Lib.hid (show Ext w4 w7 from hb7)
        clear hown7 hgrow7 hat7 hlt7 hb7
        go_wp2_with fail
        have HC7 := Lib.hid (own_sr (X := X ++ (4, 0, ⟨#[]⟩) :: X) (W := w7) (B := w4.heap.size) (g := g7) (n := N + 1 + N) (cap := cap7) (op := op) (by rw [cells3_app]; have h := H7.out; rw [List.append_assoc] at h; exact h) (by have := HX.out.1; simp; omega) (by have := HX.out.1; simp; omega) (fun r hr => by
          simp only [List.mem_append, List.mem_cons] at hr
          rcases hr with hr | rfl | hr
          · exact HT.out r hr
          · decide
          · exact HT.out r hr) HHD.out (show (L ++ L).length = M + M by rw [List.length_append, HX.out.2.2.2]))
        refine HC7.out.mono ?_
        rintro e8 w8 ⟨px, cx, rfl, hlx, hb8⟩
        obtain ⟨bx, ox, rfl, hq1, hq2⟩ := hlx.two (by rw [HX.out.2.2.2]; exact hM0)
        rw [HX.out.2.2.2] at hq2
        have hcx : M + M ≤ cx := by have h := hlx.2; rw [List.length_append, HX.out.2.2.2] at h; exact h
        have hcx1 : (M : Int) ≤ (cx : Int) := by omega
        have hcx2 : ¬ cx = M := by omega
        have hcx3 : (M : Int) ≤ (M : Int) + (M : Int) := by omega
        have hcx4 : (M : Int) + (M : Int) ≤ (cx : Int) := by omega
        have hcx5 : M + M - M = M := by omega
        have n0 : (0 : Int) ≤ (M : Int) := Int.natCast_nonneg _
        have EX := Lib.hid (show Ext w4 w8 from EW.out.trans hb8)
        have KQ1 := Lib.hid (hq1.same (KA4.out.ext EX.out) HX.out.2.2.2 (by omega))
        have KQ2 := Lib.hid (fun (W : World) (e : Ext w8 W) => (hq2.ext e).same (KA4.out.ext (EX.out.trans e)) HX.out.2.2.2 (by omega))
        clear hlx hb8 hq1 hq2
        go_wp2_with fail
        refine KQ1.out.mono ?_
        rintro e9 w9 ⟨rfl, hb9⟩
        have HQ2 := Lib.hid (KQ2.out _ hb9)
        have E9 := Lib.hid (show Ext w4 w9 from EX.out.trans hb9)
        clear hb9
        go_wp2_with fail
        try simp only [hcx5]
        refine HQ2.out.mono ?_
        rintro e10 w10 ⟨rfl, hb10⟩
        have E10 := Lib.hid (E9.out.trans hb10)
        clear hb10
        go_wp2_with fail
        go_ret
        exact ⟨by first | rfl | simp, (E1.out.trans E4.out).trans E10.out⟩

set_option maxHeartbeats 400000 in
theorem walk_big (w : World) (a0 : Option Addr) (len0 cap0 : Nat) (hl0 : 1048576 < len0) :
    Calls Try.prog 12 #[.slice a0 len0 cap0] w fun e w' => e = .returned (.bool true) ∧ Ext w w' := by
  have h1 : (1048576 : Int) < (len0 : Int) := by omega
  go_enter Try.func12, Try.ntmps12
  go_wp2_with fail
  go_ret
  exact ⟨rfl, Ext.refl w⟩

theorem walk (w : World) (a0 : Option Addr) (len0 cap0 : Nat) (hb0 : Bytes w a0 len0) (hlc0 : len0 ≤ cap0) (hcm0 : cap0 ≤ maxLen) :
    Calls Try.prog 12 #[.slice a0 len0 cap0] w fun e w' => e = .returned (.bool true) ∧ Below w.heap.size w w' := by
  by_cases h : 1048576 < len0
  · exact walk_big w a0 len0 cap0 h
  · exact walk_good w a0 len0 cap0 hb0 hlc0 hcm0 (by omega)

set_option maxRecDepth 100000 in
theorem lifted (os : Os) (started : os.Started) (H : Type) (enc : TypeId × Value → H) :
    ReturnsInHanded {} Try.checked os 12 .any (Rows.fnStreamHardSpec.pre6 enc Try.prog Try.f12 Rows.fnStreamHardRow.domain false) (Rows.fnStreamHardSpec.post enc Try.prog Try.f12 false true false false) := by
  refine returnsInHanded_of_change (C := Try.checked) Facts.own started (by kernel_rfl) Try.func12
    (ChangeSpec.witness6 (enc := enc) (C := Try.checked) false ⟨#[], #[.slice none 0 0], []⟩ 8 (by kernel_rfl) (by kernel_rfl) (by kernel_rfl) (by kernel_rfl)) ?_
  intro W base args ds gs before hval0 hW hcnd0 _
  clear hcnd0
  have hval : ∀ (j : Nat) t v, Try.f12.params[j]? = some t → args[j]? = some v → Value.okWide Try.prog W .any base t v := hval0
  have hW' := hW
  obtain ⟨p, q, hA0, hV, rfl, hfz, hnd⟩ := hW
  have hA : DataW.TrodAll enc Try.prog W 0 (fun _ => true) true Try.f12.params.toList args.toList ds p := hA0
  rw [Try.params12] at hA hval
  obtain ⟨v0, d0, rfl, rfl, h0⟩ := trodAll_one hA
  obtain ⟨rfl, rfl⟩ := trodVars_none hV
  obtain ⟨a0, len0, cap0, rfl⟩ := okWide_slice Try.underlying22 (hval 0 22 v0 rfl rfl)
  clear hA0 hval0
  simp only [List.append_nil] at hW'
  have hlt : ∀ x ∈ p, x.block < W.heap.size := fun x hx => by simpa using hW'.lt x hx
  obtain ⟨hb0, hlc0, hcm0⟩ := opened h0
  refine (walk W a0 len0 cap0 hb0 hlc0 hcm0).mono fun e W' ⟨he, hb⟩ => ?_
  subst he
  refine ⟨_, rfl, [_], [], p, [], p, [], hW', trodAll_mk1 (shut_bool Try.underlying4 _), ?_, rfl, hb.frame _, fun h => by cases h⟩
  exact trodAll_mk1 (Below.trod Facts.laidOut (by kernel_rfl) (of_decide_eq_true (by kernel_rfl)) h0 hb hlt)

theorem named : Try.prog.funcNamed Rows.fnStreamHardRow.func = some 12 := by kernel_rfl
theorem closed : joinedFacts Try.prog 12 Try.f12 Rows.fnStreamHardSpec Rows.fnStreamHardRow = true :=
  Facts.closed_of rfl rfl rfl rfl (h28b := rfl) (by kernel_rfl) (by kernel_rfl) (by kernel_rfl) (by kernel_rfl) (by kernel_rfl) (by kernel_rfl) (by kernel_rfl) (by kernel_rfl) (by kernel_rfl) (by kernel_rfl) (by kernel_rfl) (by kernel_rfl) (by kernel_rfl) (by kernel_rfl) (by kernel_rfl) (by kernel_rfl) (by kernel_rfl) (by kernel_rfl) (by kernel_rfl) (by kernel_rfl) (by kernel_rfl) (by kernel_rfl) (by kernel_rfl) (by kernel_rfl)
theorem instanced : Try.f12.isInstance Try.prog Rows.fnStreamHardRow.origin Rows.fnStreamHardRow.targs := of_decide_eq_true (by kernel_rfl)
theorem wrapped : Try.f12.isWrapper Try.prog Rows.fnStreamHardRow.wrapper Rows.fnStreamHardRow.mainSum := by
  unfold Func.isWrapper
  rw [if_neg (of_decide_eq_false (by kernel_rfl))]
  exact ⟨rfl, rfl⟩

theorem holds : Rows.FnStreamHardSaid :=
  OpenClaim.holds_of_wide 12 Try.f12 rfl rfl rfl rfl rfl rfl rfl ⟨rfl, rfl, rfl, rfl, rfl⟩ rfl rfl rfl rfl rfl named Try.func12 closed instanced wrapped
    (fun os started H enc _ => lifted os started H enc)

end Go.Proofs.Ytcealfjkcbaelaa.lawStreamHardD


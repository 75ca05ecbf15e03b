import Derived.Test.YtcealfjkcbaelaaTkE
import Derived.Test.YtcealfjkcbaelaaTkO
import Derived.Test.YtcealfjkcbaelaaAppZ
import Derived.Test.YtcealfjkcbaelaaDrZ
import Derived.Test.YtcealfjkcbaelaaFacts
import Derived.Test.YtcealfjkcbaelaaRows
import Derived.Deep.RegionHeld3
import Derived.Deep.DeepCutAuto
import Derived.Deep.RegionWith
/-
  Tokens can be put in a group: the law FnTokensValid returns true for whatever draws, and its argument reads as it did. No condition of ours.
-/
set_option linter.unusedVariables false
set_option linter.unusedSimpArgs false
namespace Go.Proofs.Ytcealfjkcbaelaa.lawTokensValidD
open Go.ChangeShapes Go.WideShapes Go.ChangeAt Go.RowKit P1 Draw6 LawC Tk

theorem at_cells {w : World} {X : List (Int × Int × ByteArray)} {b off : Nat} (h : TkAt w X b off) : ∀ j u, (cells3 X)[j]? = some u → w.cell? ((⟨b, off, none⟩ : Addr).add j) = some u := fun j u hu => by
  have hj : j < X.length * 3 := by rw [← cells3_len]; exact (List.getElem?_eq_some_iff.1 hu).1
  obtain ⟨i, r, hr, rfl⟩ : ∃ i r, r < 3 ∧ j = i * 3 + r := ⟨j / 3, j % 3, by omega, by omega⟩
  have hi : i < X.length := by omega
  have h1 := h i hi
  have h2 := cells3_get X i hi
  rw [at_add]
  rcases (show r = 0 ∨ r = 1 ∨ r = 2 by omega) with rfl | rfl | rfl
  · rw [Nat.add_zero, h2.1] at hu; injection hu with hu; rw [← hu]; exact h1.1
  · rw [h2.2.1] at hu; injection hu with hu; rw [← hu]; exact h1.2.1
  · rw [h2.2.2] at hu; injection hu with hu; rw [← hu]; exact h1.2.2
theorem cells3_one : ∀ (X : List (Int × Int × ByteArray)), ∀ u ∈ cells3 X, u.oneCell' = true
  | [], u, h => by simp [cells3] at h
  | r :: l, u, h => by
    simp only [cells3, List.mem_cons] at h
    rcases h with rfl | rfl | rfl | h
    · rfl
    · rfl
    · rfl
    · exact cells3_one l u h
theorem own_three (w : World) (k n : Int) (t : ByteArray) (T : TypeId) : (w.alloc (.cells #[.int .i64 k, .int .i64 n, .string t] T)).ownsRow w.heap.size T 3 (.slice (some ⟨w.heap.size, 0, none⟩) 1 1) 1 [.int .i64 k, .int .i64 n, .string t] :=
  ⟨rfl, .inr ⟨w.heap.size, 1, _, rfl, Nat.le_refl _, (show (w.heap.push _)[w.heap.size]? = _ from Array.getElem?_push_size), by omega, by unfold maxLen; omega, rfl, rfl⟩⟩
theorem own_none (w : World) (T : TypeId) : (w.alloc (.cells #[] T)).ownsRow w.heap.size T 3 (.slice (some ⟨w.heap.size, 0, none⟩) 0 0) 0 [] := own_empty (show (w.heap.push _)[w.heap.size]? = _ from Array.getElem?_push_size)
theorem own_sub {w : World} {B g n cap : Nat} {X : List (Int × Int × ByteArray)} (h : w.ownsRow B 55 3 (.slice (some ⟨g, 0, none⟩) n cap) X.length (cells3 X)) (h0 : 0 < X.length) : TkSub w (some ⟨g, 0, none⟩) X [g] := by
  obtain ⟨g', e, _, _, hat, _⟩ := own_tk h h0
  injection e with e; injection e with e; subst e
  exact .inr ⟨g, 0, rfl, by intro e; rw [e] at h0; simp at h0, rfl, hat⟩

theorem own_sub0 {w : World} {B g n cap : Nat} {X : List (Int × Int × ByteArray)} (h : w.ownsRow B 55 3 (.slice (some ⟨g, 0, none⟩) n cap) X.length (cells3 X)) : ∃ fs, TkSub w (some ⟨g, 0, none⟩) X fs := by
  by_cases h0 : 0 < X.length
  · exact ⟨_, own_sub h h0⟩
  · exact ⟨[], .inl ⟨List.length_eq_zero_iff.1 (by omega), rfl⟩⟩
theorem own_calls {W : World} {B g n cap : Nat} {X : List (Int × Int × ByteArray)} (h : W.ownsRow B 55 3 (.slice (some ⟨g, 0, none⟩) n cap) n (cells3 X)) (hn : n = X.length) (hl : X.length ≤ 1000) (ht : ∀ r ∈ X, r.2.2.size ≤ 2000) (hv : tkv X = true) :
    Calls Try.prog 33 #[.slice (some ⟨g, 0, none⟩) n cap] W fun e w' => e = .returned (.bool true) ∧ Ext W w' := by
  subst hn
  obtain ⟨a, c, e, hc⟩ := own_slice h
  injection e with e1 e2 e3
  subst e3
  obtain ⟨fs, hsb⟩ := own_sub0 h
  have := implTokensValid X W _ cap fs hsb hc (by unfold maxLen; omega) (fun r hr => by have := ht r hr; unfold maxLen; omega)
  rw [hv] at this
  exact this

structure Stop (p : Prop) : Prop where
  out : p

def Tks (W : World) (a : Option Addr) (X : List (Int × Int × ByteArray)) (fs : List Nat) : Prop := TkSub W a X fs
theorem tks_ext {W W' : World} {a : Option Addr} {X : List (Int × Int × ByteArray)} {fs : List Nat} (h : TkSub W a X fs) (e : Ext W W') : TkSub W' a X fs := h.below h.lt e

set_option maxRecDepth 100000 in
set_option maxHeartbeats 6400000 in
theorem walk_good (w : World) (a0 : Option Addr) (len0 cap0 : Nat) (hb0 : Bytes w a0 len0) (hlc0 : len0 ≤ cap0) (hcm0 : cap0 ≤ maxLen) (hl0 : len0 ≤ 1048576) :
    Calls Try.prog 8 #[.slice a0 len0 cap0] w fun e w' => e = .returned (.bool true) ∧ Ext w w' := by
  have HD0 := Lib.hid (Tk.drawTokensValid w a0 len0 cap0 hb0 hlc0 hcm0)
  clear hb0
  unfold maxLen at hcm0
  go_enter Try.func8, Try.ntmps8
  go_wp2_with fail
  refine HD0.out.mono ?_
  rintro e1 w1 ⟨X, a, cap, fs, rfl, hc, hl, ht, hs, hf, hb1⟩
  have hft : TL.Fits X := fun r hr => by have := ht r hr; unfold maxLen; omega
  obtain ⟨N, hN⟩ : ∃ N, X.length = N := ⟨_, rfl⟩
  obtain ⟨V, hV⟩ : ∃ V, tkv X = V := ⟨_, rfl⟩
  have HVI := Lib.hid (show ∀ W : World, Ext w1 W → Calls Try.prog 33 #[.slice a N cap] W fun e w' => e = .returned (.bool V) ∧ Ext W w' from fun W e => by rw [← hN, ← hV]; exact implTokensValid X W a cap fs (tks_ext hs e) hc (by unfold maxLen; omega) hft)
  have HVS := Lib.hid (show ∀ W : World, Ext w1 W → Calls Try.prog 42 #[.slice a N cap] W fun e w' => e = .returned (.bool V) ∧ Ext W w' from fun W e => by rw [← hN, ← hV]; exact specTokensValid X W a cap fs (tks_ext hs e) hc (by unfold maxLen; omega) hft)
  have HX := Lib.hid (And.intro hN (And.intro hV (And.intro hs hft)))
  have E1 := Lib.hid (show Ext w w1 from hb1)
  rw [hN] at hc hl ⊢
  have HT := Lib.hid ht
  clear hN hV hs hf hb1 ht hft
  go_wp2_with fail
  refine (HVI.out _ (Ext.refl _)).mono ?_
  rintro e2 w2 ⟨rfl, hb2⟩
  have E2 := Lib.hid hb2
  clear hb2
  have v0 : (V != V) = false := by simp
  have v1 : (V == V) = true := by simp
  cases V with
  | false =>
    go_wp2_with fail
    refine (HVS.out _ E2.out).mono ?_
    rintro e3 w3 ⟨rfl, hb3⟩
    have E3 := Lib.hid (E2.out.trans hb3)
    clear hb3
    go_wp2_with fail
    refine (HVS.out _ E3.out).mono ?_
    rintro e4 w4 ⟨rfl, hb4⟩
    have E4 := Lib.hid (E3.out.trans hb4)
    clear hb4
    go_wp2_with fail
    go_ret
    exact ⟨by first | rfl | simp, E1.out.trans E4.out⟩
  | true =>
    by_cases h150 : 150 < N
    · have h1 : (150 : Int) < (N : Int) := by omega
      go_wp2_with fail
      refine (HVS.out _ E2.out).mono ?_
      rintro e3 w3 ⟨rfl, hb3⟩
      have E3 := Lib.hid (E2.out.trans hb3)
      clear hb3
      go_wp2_with fail
      refine (HVS.out _ E3.out).mono ?_
      rintro e4 w4 ⟨rfl, hb4⟩
      have E4 := Lib.hid (E3.out.trans hb4)
      clear hb4
      go_wp2_with fail
      go_ret
      exact ⟨by first | rfl | simp, E1.out.trans E4.out⟩
    · have h1 : ¬ (150 : Int) < (N : Int) := by omega
      go_wp2_with fail
      refine (HVS.out _ E2.out).mono ?_
      rintro e3 w3 ⟨rfl, hb3⟩
      have E3 := Lib.hid (E2.out.trans hb3)
      clear hb3
      go_wp2_with fail
      go_loopw [5, 6] (fun d i wr => ∃ (j : Nat), j ≤ N ∧ i = .int .i64 (j : Int) ∧ d = .int .i64 (Tk.opens (X.take j) : Int) ∧ wr = w3) (fun _ i _ => N - (intOf i).toNat)
      case atStart => exact ⟨0, by omega, rfl, rfl, rfl⟩
      case round =>
        obtain ⟨j, hj, rfl, rfl, rfl⟩ := hrel
        obtain ⟨q, hq⟩ : ∃ q, Tk.opens (X.take j) = q := ⟨_, rfl⟩
        rw [hq]
        have hqj : q ≤ j := by have := Tk.opens_le (X.take j); rw [List.length_take] at this; omega
        by_cases hjN : j < N
        · have hjX : j < X.length := by have := HX.out.1; omega
          obtain ⟨b, off, rfl, hbl, hat⟩ : ∃ b off, a = some ⟨b, off, none⟩ ∧ b < wr.heap.size ∧ TkAt wr X b off := by
            rcases tks_ext HX.out.2.2.1 E3.out with ⟨e, _⟩ | ⟨b, off, e, hne, _, h⟩
            · rw [e] at hjX; simp at hjX
            · exact ⟨b, off, e, h.lt hne, h⟩
          have c0 := (hat j hjX).1
          obtain ⟨k, hk⟩ : ∃ k, X[j].1 = k := ⟨_, rfl⟩
          have HQ := Lib.hid (show Tk.opens (X.take (j + 1)) = q + (if k = 5 ∨ k = 7 then 1 else 0) from by
            rw [List.take_succ_eq_append_getElem hjX, Tk.opens_app, hq, ← hk]; simp [Tk.opens])
          rw [hk] at c0
          have j0 : (0 : Int) ≤ (j : Int) := Int.natCast_nonneg _
          have j1 : (j : Int) < (N : Int) := by omega
          clear hat hk hq
          rcases (show k = 5 ∨ k = 7 ∨ (k ≠ 5 ∧ k ≠ 7) by omega) with hk | hk | ⟨hk5, hk7⟩
          · subst hk
            go_wp2_with fail
            go_roundw
            case rel => exact ⟨j + 1, by omega, by go_num, by rw [HQ.out]; go_num, by first | trivial | rfl⟩
            case measure => simp [intOf]; omega
          · subst hk
            go_wp2_with fail
            go_roundw
            case rel => exact ⟨j + 1, by omega, by go_num, by rw [HQ.out]; go_num, by first | trivial | rfl⟩
            case measure => simp [intOf]; omega
          · have b5 : (k == 5) = false := beq_eq_false_iff_ne.2 hk5
            have b7 : (k == 7) = false := beq_eq_false_iff_ne.2 hk7
            have HQ' := Lib.hid (show Tk.opens (X.take (j + 1)) = q from by rw [HQ.out, if_neg (by omega)]; rfl)
            clear hk5 hk7
            go_wp2_with fail
            go_roundw
            case rel => exact ⟨j + 1, by omega, by go_num, by rw [HQ'.out], by first | trivial | rfl⟩
            case measure => simp [intOf]; omega
        · obtain rfl : N = j := by omega
          have HO := Lib.hid (show Tk.opens X = q from by rw [← hq, List.take_of_length_le (by have := HX.out.1; omega)])
          clear hq
          by_cases hq50 : 50 ≤ q
          · have q50 : (50 : Int) ≤ (q : Int) := by omega
            go_wp2_with fail
            go_ret
            exact ⟨by first | rfl | simp, E1.out.trans E3.out⟩
          · have q50 : ¬ (50 : Int) ≤ (q : Int) := by omega
            have HATC := Lib.hid (show ∀ ad, a = some ad → ∀ W, Below wr.heap.size wr W → ∀ j u, (cells3 X)[j]? = some u → W.cell? (ad.add j) = some u from fun ad ea W hW j u hu => by
              rcases tks_ext HX.out.2.2.1 E3.out with ⟨e, _⟩ | ⟨b, off, e, hne, _, h⟩
              · rw [e] at hu; simp [cells3] at hu
              · rw [ea] at e; injection e with e; subst e
                exact at_cells (h.below (h.lt hne) hW) j u hu)
            rcases Nat.eq_zero_or_pos N with hN0 | hN0
            · have hX0 : X = [] := List.length_eq_zero_iff.1 (by have := HX.out.1; omega)
              subst hN0
              obtain ⟨i0, z0, hi, hz, hz1, hz2, hz3⟩ := info_some infoT3
              have HI := Lib.hid (And.intro hi (And.intro hz (And.intro hz1 (And.intro hz2 hz3))))
              clear hi hz hz1 hz2 hz3
              have HX0 := Lib.hid hX0
              clear hX0
              go_wp2_with (at_builtin; refine Stop.out ?_)
              refine ⟨?_⟩
              refine AppZ.wpList_append_zero rfl (.tmp 58) (.tmp 59) 28 rfl 55 i0 Try.underlying28 HI.out.1 (some ⟨wr.heap.size, 0, none⟩) 1 1 (Nat.le_refl _) a cap rfl rfl ?_
              go_wp2_with (at_builtin; refine Stop.out ?_)
              refine ⟨?_⟩
              refine wpList_append_lies _ rfl (.tmp 60) (.tmp 62) 28 rfl wr.heap.size 55 i0 z0 3 32 Try.underlying28 HI.out.1 HI.out.2.1 HI.out.2.2.1 HI.out.2.2.2.1 HI.out.2.2.2.2 (by omega) (.slice (some ⟨wr.heap.size, 0, none⟩) 1 1) 1 [.int .i64 5, .int .i64 0, .string ⟨#[]⟩] rfl ((own_three wr 5 0 ⟨#[]⟩ _).alloc _) ⟨wr.heap.size + 1, 0, none⟩ 1 1 [.int .i64 6, .int .i64 0, .string ⟨#[]⟩] rfl rfl (three_at (wr.alloc (.cells #[.int .i64 5, .int .i64 0, .string ⟨#[]⟩] 55)) (wr.heap.size + 1) (by simp) _ _ _ _) (by simp [Value.oneCell']) (by omega) (by unfold maxLen; omega) (by omega) (by first | omega | (simp; done) | (simp; omega)) (wr.heap.size + 2) (by first | rfl | (simp; done)) ?_
              intro g7 cap7 w7 hown7 hgrow7 hat7 hlt7
              have hb7 := (((Below.refl wr.heap.size wr).alloc (Nat.le_refl _) _).alloc (by simp) _).grown hgrow7 (by simp; omega) (fun k e => ((own_three wr 5 0 ⟨#[]⟩ 55).lt k e).1)
              have H7 := Lib.hid (And.intro hown7 hb7)
              have hs7 := hb7.size
              clear hown7 hgrow7 hat7 hlt7 hb7
              go_wp2_with (at_builtin; refine Stop.out ?_)
              refine ⟨?_⟩
              refine AppZ.wpList_append_zero rfl (.tmp 64) (.tmp 65) 28 rfl 55 i0 Try.underlying28 HI.out.1 (some ⟨w7.heap.size, 0, none⟩) 0 0 (Nat.le_refl _) a cap rfl rfl ?_
              go_wp2_with (at_builtin; refine Stop.out ?_)
              refine ⟨?_⟩
              refine AppZ.wpList_append_zero rfl (.tmp 66) (.tmp 67) 28 rfl 55 i0 Try.underlying28 HI.out.1 (some ⟨w7.heap.size, 0, none⟩) 0 0 (Nat.le_refl _) a cap rfl rfl ?_
              have HE9 := Lib.hid (show ∀ T, Ext w7 (w7.alloc (.cells #[] T)) from fun T => (Ext.refl _).alloc _)
              have HO9 := Lib.hid (own_none w7 55)
              go_wp2_with fail
              have HC7 := Lib.hid (own_calls (X := [(5, 0, ⟨#[]⟩)] ++ [(6, 0, ⟨#[]⟩)]) (W := w7.alloc (.cells #[] 55)) (B := wr.heap.size) (g := g7) (n := 1 + 1) (cap := cap7) (by rw [cells3_app]; exact own_ext H7.out.1 (HE9.out _)) rfl (by simp) (fun r hr => by
                simp only [List.mem_append, List.mem_singleton] at hr
                rcases hr with rfl | rfl
                · decide
                · decide) (by decide))
              refine HC7.out.mono ?_
              rintro e10 w10 ⟨rfl, hb10⟩
              have H10 := Lib.hid hb10
              have HF := Lib.hid (show Ext wr w10 from (H7.out.2.trans ((HE9.out _).mono hs7)).trans (hb10.mono (by have := (HE9.out 55).size; omega)))
              have HC9 := Lib.hid (own_calls (X := []) (W := w10) (B := w7.heap.size) (g := w7.heap.size) (n := 0) (cap := 0) (own_ext HO9.out hb10) rfl (by simp) (fun r hr => by simp at hr) (by decide))
              clear hb10
              go_wp2_with fail
              refine HC9.out.mono ?_
              rintro e11 w11 ⟨rfl, hb11⟩
              have H11 := Lib.hid hb11
              clear hb11
              go_wp2_with fail
              go_ret
              exact ⟨by first | rfl | simp, ((E1.out.trans E3.out).trans HF.out).trans H11.out⟩
            · obtain ⟨ad, rfl⟩ : ∃ ad, a = some ad := by
                rcases tks_ext HX.out.2.2.1 E3.out with ⟨e, _⟩ | ⟨b, off, e, hne, _, h⟩
                · have := HX.out.1; rw [e] at this; simp at this; omega
                · exact ⟨_, e⟩
              have HAT := Lib.hid (HATC.out ad rfl)
              obtain ⟨i0, z0, hi, hz, hz1, hz2, hz3⟩ := info_some infoT3
              have HI := Lib.hid (And.intro hi (And.intro hz (And.intro hz1 (And.intro hz2 hz3))))
              clear hi hz hz1 hz2 hz3
              go_wp2_with (at_builtin; refine Stop.out ?_)
              refine ⟨?_⟩
              refine wpList_append_lies _ rfl (.tmp 58) (.tmp 59) 28 rfl wr.heap.size 55 i0 z0 3 32 Try.underlying28 HI.out.1 HI.out.2.1 HI.out.2.2.1 HI.out.2.2.2.1 HI.out.2.2.2.2 (by omega) (.slice (some ⟨wr.heap.size, 0, none⟩) 1 1) 1 [.int .i64 5, .int .i64 0, .string ⟨#[]⟩] rfl (own_three wr _ _ _ _) ad N cap (cells3 X) rfl (by rw [cells3_len, HX.out.1]) (HAT.out _ ((Below.refl _ _).alloc (Nat.le_refl _) _)) (cells3_one X) (by omega) (by unfold maxLen; omega) (by omega) (by first | omega | (simp; done) | (simp; omega)) (wr.heap.size + 1) (by first | rfl | (simp; done)) ?_
              intro g5 cap5 w5 hown5 hgrow5 hat5 hlt5
              have hb5 := ((Below.refl wr.heap.size wr).alloc (Nat.le_refl _) _).grown hgrow5 (by simp) (fun k e => ((own_three wr 5 0 ⟨#[]⟩ 55).lt k e).1)
              have H5 := Lib.hid (And.intro hown5 hb5)
              have hs5 := hb5.size
              clear hown5 hgrow5 hat5 hlt5 hb5
              go_wp2_with (at_builtin; refine Stop.out ?_)
              refine ⟨?_⟩
              refine wpList_append_lies _ rfl (.tmp 60) (.tmp 62) 28 rfl wr.heap.size 55 i0 z0 3 32 Try.underlying28 HI.out.1 HI.out.2.1 HI.out.2.2.1 HI.out.2.2.2.1 HI.out.2.2.2.2 (by omega) (.slice (some ⟨g5, 0, none⟩) (1 + N) cap5) (1 + N) ([.int .i64 5, .int .i64 0, .string ⟨#[]⟩] ++ cells3 X) rfl (H5.out.1.alloc _) ⟨w5.heap.size, 0, none⟩ 1 1 [.int .i64 6, .int .i64 0, .string ⟨#[]⟩] rfl rfl (three_at w5 w5.heap.size rfl _ _ _ _) (by simp [Value.oneCell']) (by omega) (by unfold maxLen; omega) (by omega) (by first | omega | (simp; done) | (simp; omega)) (w5.heap.size + 1) (by first | rfl | (simp; done)) ?_
              intro g7 cap7 w7 hown7 hgrow7 hat7 hlt7
              have hb7 := H5.out.2.trans (below_append hgrow7 H5.out.1 hs5)
              have H7 := Lib.hid (And.intro hown7 hb7)
              have hs7 := hb7.size
              clear hown7 hgrow7 hat7 hlt7 hb7
              go_wp2_with (at_builtin; refine Stop.out ?_)
              refine ⟨?_⟩
              refine wpList_append_lies _ rfl (.tmp 64) (.tmp 65) 28 rfl w7.heap.size 55 i0 z0 3 32 Try.underlying28 HI.out.1 HI.out.2.1 HI.out.2.2.1 HI.out.2.2.2.1 HI.out.2.2.2.2 (by omega) (.slice (some ⟨w7.heap.size, 0, none⟩) 0 0) 0 [] rfl (own_none w7 _) ad N cap (cells3 X) rfl (by rw [cells3_len, HX.out.1]) (HAT.out _ (H7.out.2.alloc hs7 _)) (cells3_one X) (by omega) (by unfold maxLen; omega) (by omega) (by first | omega | (simp; done) | (simp; omega)) (w7.heap.size + 1) (by first | rfl | (simp; done)) ?_
              intro g8 cap8 w8 hown8 hgrow8 hat8 hlt8
              have hb8 := ((Below.refl w7.heap.size w7).alloc (Nat.le_refl _) _).grown hgrow8 (by simp) (fun k e => ((own_none w7 55).lt k e).1)
              have H8 := Lib.hid (And.intro (show w8.ownsRow w7.heap.size 55 3 (.slice (some ⟨g8, 0, none⟩) N cap8) N (cells3 X) from by have := hown8; rw [Nat.zero_add] at this; exact this) hb8)
              have hs8 := hb8.size
              clear hown8 hgrow8 hat8 hlt8 hb8
              go_wp2_with (at_builtin; refine Stop.out ?_)
              refine ⟨?_⟩
              refine wpList_append_lies _ rfl (.tmp 66) (.tmp 67) 28 rfl w7.heap.size 55 i0 z0 3 32 Try.underlying28 HI.out.1 HI.out.2.1 HI.out.2.2.1 HI.out.2.2.2.1 HI.out.2.2.2.2 (by omega) (.slice (some ⟨g8, 0, none⟩) N cap8) N (cells3 X) rfl H8.out.1 ad N cap (cells3 X) rfl (by rw [cells3_len, HX.out.1]) (HAT.out _ (H7.out.2.trans (H8.out.2.mono hs7))) (cells3_one X) (by omega) (by unfold maxLen; omega) (by omega) (by first | omega | (simp; done) | (simp; omega)) (w8.heap.size) (by first | rfl | (simp; done)) ?_
              intro g9 cap9 w9 hown9 hgrow9 hat9 hlt9
              have hb9 := H8.out.2.grown hgrow9 hs8 (fun k e => (H8.out.1.lt k e).1)
              have H9 := Lib.hid (And.intro hown9 hb9)
              clear hown9 hgrow9 hat9 hlt9 hb9
              go_wp2_with fail
              have HC7 := Lib.hid (own_calls (X := [(5, 0, ⟨#[]⟩)] ++ X ++ [(6, 0, ⟨#[]⟩)]) (W := w9) (B := wr.heap.size) (g := g7) (n := 1 + N + 1) (cap := cap7) (by rw [cells3_app, cells3_app]; exact own_ext H7.out.1 H9.out.2) (by have := HX.out.1; simp; omega) (by have := HX.out.1; simp; omega) (fun r hr => by
                simp only [List.mem_append, List.mem_singleton] at hr
                rcases hr with (rfl | hr) | rfl
                · decide
                · exact HT.out r hr
                · decide) (tkv_wide HX.out.2.1 (by have := HX.out.1; omega) (by have := HO.out; omega)))
              refine HC7.out.mono ?_
              rintro e10 w10 ⟨rfl, hb10⟩
              have H10 := Lib.hid hb10
              have HF := Lib.hid (show Ext wr w10 from (H7.out.2.trans (H9.out.2.mono hs7)).trans (hb10.mono (by have := H9.out.2.size; omega)))
              clear hb10
              obtain ⟨M, hM⟩ : ∃ M, N + N = M := ⟨_, rfl⟩
              rw [hM]
              have HM := Lib.hid hM
              clear hM
              by_cases h200 : 200 ≤ M
              · have g200 : (200 : Int) ≤ (M : Int) := by omega
                go_wp2_with fail
                go_ret
                exact ⟨by first | rfl | simp, (E1.out.trans E3.out).trans HF.out⟩
              · have g200 : ¬ (200 : Int) ≤ (M : Int) := by omega
                have HC9 := Lib.hid (own_calls (X := X ++ X) (W := w10) (B := w7.heap.size) (g := g9) (n := M) (cap := cap9) (by rw [cells3_app, ← HM.out]; exact own_ext H9.out.1 H10.out) (by have := HX.out.1; have := HM.out; rw [List.length_append]; omega) (by have := HX.out.1; rw [List.length_append]; omega) (fun r hr => by
                  rcases List.mem_append.1 hr with hr | hr <;> exact HT.out r hr) (tkv_twice HX.out.2.1 (by have := HX.out.1; have := HM.out; omega)))
                go_wp2_with fail
                refine HC9.out.mono ?_
                rintro e11 w11 ⟨rfl, hb11⟩
                have H11 := Lib.hid hb11
                clear hb11
                go_wp2_with fail
                go_ret
                exact ⟨by first | rfl | simp, ((E1.out.trans E3.out).trans HF.out).trans H11.out⟩

set_option maxHeartbeats 400000 in
theorem walk_big (w : World) (a0 : Option Addr) (len0 cap0 : Nat) (hl0 : 1048576 < len0) :
    Calls Try.prog 8 #[.slice a0 len0 cap0] w fun e w' => e = .returned (.bool true) ∧ Ext w w' := by
  have h1 : (1048576 : Int) < (len0 : Int) := by omega
  go_enter Try.func8, Try.ntmps8
  go_wp2_with fail
  go_ret
  exact ⟨rfl, Ext.refl w⟩

theorem walk (w : World) (a0 : Option Addr) (len0 cap0 : Nat) (hb0 : Bytes w a0 len0) (hlc0 : len0 ≤ cap0) (hcm0 : cap0 ≤ maxLen) :
    Calls Try.prog 8 #[.slice a0 len0 cap0] w fun e w' => e = .returned (.bool true) ∧ Below w.heap.size w w' := by
  by_cases h : 1048576 < len0
  · exact walk_big w a0 len0 cap0 h
  · exact walk_good w a0 len0 cap0 hb0 hlc0 hcm0 (by omega)

set_option maxRecDepth 100000 in
theorem lifted (os : Os) (started : os.Started) (H : Type) (enc : TypeId × Value → H) :
    ReturnsInHanded {} Try.checked os 8 .any (Rows.fnTokensValidSpec.pre6 enc Try.prog Try.f8 Rows.fnTokensValidRow.domain false) (Rows.fnTokensValidSpec.post enc Try.prog Try.f8 false true false false) := by
  refine returnsInHanded_of_change (C := Try.checked) Facts.own started (by kernel_rfl) Try.func8
    (ChangeSpec.witness6 (enc := enc) (C := Try.checked) false ⟨#[], #[.slice none 0 0], []⟩ 8 (by kernel_rfl) (by kernel_rfl) (by kernel_rfl) (by kernel_rfl)) ?_
  intro W base args ds gs before hval0 hW hcnd0 _
  clear hcnd0
  have hval : ∀ (j : Nat) t v, Try.f8.params[j]? = some t → args[j]? = some v → Value.okWide Try.prog W .any base t v := hval0
  have hW' := hW
  obtain ⟨p, q, hA0, hV, rfl, hfz, hnd⟩ := hW
  have hA : DataW.TrodAll enc Try.prog W 0 (fun _ => true) true Try.f8.params.toList args.toList ds p := hA0
  rw [Try.params8] at hA hval
  obtain ⟨v0, d0, rfl, rfl, h0⟩ := trodAll_one hA
  obtain ⟨rfl, rfl⟩ := trodVars_none hV
  obtain ⟨a0, len0, cap0, rfl⟩ := okWide_slice Try.underlying22 (hval 0 22 v0 rfl rfl)
  clear hA0 hval0
  simp only [List.append_nil] at hW'
  have hlt : ∀ x ∈ p, x.block < W.heap.size := fun x hx => by simpa using hW'.lt x hx
  obtain ⟨hb0, hlc0, hcm0⟩ := opened h0
  refine (walk W a0 len0 cap0 hb0 hlc0 hcm0).mono fun e W' ⟨he, hb⟩ => ?_
  subst he
  refine ⟨_, rfl, [_], [], p, [], p, [], hW', trodAll_mk1 (shut_bool Try.underlying4 _), ?_, rfl, hb.frame _, fun h => by cases h⟩
  exact trodAll_mk1 (Below.trod Facts.laidOut (by kernel_rfl) (of_decide_eq_true (by kernel_rfl)) h0 hb hlt)

theorem named : Try.prog.funcNamed Rows.fnTokensValidRow.func = some 8 := by kernel_rfl
theorem closed : joinedFacts Try.prog 8 Try.f8 Rows.fnTokensValidSpec Rows.fnTokensValidRow = true :=
  Facts.closed_of rfl rfl rfl rfl (h28b := rfl) (by kernel_rfl) (by kernel_rfl) (by kernel_rfl) (by kernel_rfl) (by kernel_rfl) (by kernel_rfl) (by kernel_rfl) (by kernel_rfl) (by kernel_rfl) (by kernel_rfl) (by kernel_rfl) (by kernel_rfl) (by kernel_rfl) (by kernel_rfl) (by kernel_rfl) (by kernel_rfl) (by kernel_rfl) (by kernel_rfl) (by kernel_rfl) (by kernel_rfl) (by kernel_rfl) (by kernel_rfl) (by kernel_rfl) (by kernel_rfl)
theorem instanced : Try.f8.isInstance Try.prog Rows.fnTokensValidRow.origin Rows.fnTokensValidRow.targs := of_decide_eq_true (by kernel_rfl)
theorem wrapped : Try.f8.isWrapper Try.prog Rows.fnTokensValidRow.wrapper Rows.fnTokensValidRow.mainSum := by
  unfold Func.isWrapper
  rw [if_neg (of_decide_eq_false (by kernel_rfl))]
  exact ⟨rfl, rfl⟩

theorem holds : Rows.FnTokensValidSaid :=
  OpenClaim.holds_of_wide 8 Try.f8 rfl rfl rfl rfl rfl rfl rfl ⟨rfl, rfl, rfl, rfl, rfl⟩ rfl rfl rfl rfl rfl named Try.func8 closed instanced wrapped
    (fun os started H enc _ => lifted os started H enc)

end Go.Proofs.Ytcealfjkcbaelaa.lawTokensValidD


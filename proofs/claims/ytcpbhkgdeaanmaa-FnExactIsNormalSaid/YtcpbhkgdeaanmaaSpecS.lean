import Derived.Test.YtcpbhkgdeaanmaaPl
import Derived.Test.YtcpbhkgdeaanmaaChecked
import Derived.Outline
import Derived.StillTailTactics
/-
  What the model's DocSame comes to.
-/
set_option linter.unusedVariables false
set_option linter.unusedSimpArgs false
namespace Go.Proofs.Ytcpbhkgdeaanmaa.SpecS
open Go.RowKit

theorem ret_bool {a b : Bool} (h : a = b) : Ending.returned (.bool a) = .returned (.bool b) := by rw [h]

def SC (k : F) : Prop := ∀ (k' : F) (o n o' n' : Int) (t t' : ByteArray) (w : World) (a a' : Option Addr) (cap cap' : Nat) (fs fs' : List Nat), SubAt w a k fs → SubAt w a' k' fs' → (∀ c ∈ fs, c < w.heap.size) → (∀ c ∈ fs', c < w.heap.size) → k.len ≤ cap → k'.len ≤ cap' → k.len ≤ maxLen → k'.len ≤ maxLen → k.Fits → k'.Fits →
  Calls Try.prog 52 #[.agg #[.int .i64 o, .int .i64 n, .string t, .slice a k.len cap], .agg #[.int .i64 o', .int .i64 n', .string t', .slice a' k'.len cap']] w fun e w' => e = .returned (.bool (sameD o n t k o' n' t' k')) ∧ Below w.heap.size w w'

theorem sameD_no4 {o n : Int} {t : ByteArray} {k k' : F} (h : k.len ≠ k'.len) : sameD o n t k o n t k' = false := by rw [sameD_yes, F.same_len h]

def Boxes (w wr : World) (a a' : Option Addr) (L cap cap' : Nat) : Prop := wr.cell? ⟨w.heap.size, 3, none⟩ = some (.slice a L cap) ∧ wr.cell? ⟨w.heap.size + 1, 3, none⟩ = some (.slice a' L cap') ∧ w.heap.size + 1 < wr.heap.size ∧ Below w.heap.size w wr

theorem Boxes.step {w wr w1 : World} {a a' : Option Addr} {L cap cap' : Nat} (h : Boxes w wr a a' L cap cap') (k : Below wr.heap.size wr w1) : Boxes w w1 a a' L cap cap' := by
  obtain ⟨h1, h2, h3, h4⟩ := h
  exact ⟨(k.cell (p := ⟨w.heap.size, 3, none⟩) (by simp; omega)).trans h1, (k.cell (p := ⟨w.heap.size + 1, 3, none⟩) h3).trans h2, Nat.lt_of_lt_of_le h3 k.size, h4.trans (k.mono h4.size)⟩

theorem Boxes.start (w : World) {T : TypeId} {o n o' n' : Int} {t t' : ByteArray} {a a' : Option Addr} {L cap cap' : Nat} : Boxes w ((w.alloc (.cells #[.int .i64 o, .int .i64 n, .string t, .slice a L cap] T)).alloc (.cells #[.int .i64 o', .int .i64 n', .string t', .slice a' L cap'] T)) a a' L cap cap' := by
  refine ⟨?_, ?_, by simp, ((Below.refl _ _).alloc (Nat.le_refl _) _).alloc (by simp) _⟩
  · rw [World.cell?_alloc_lt _ _ ⟨w.heap.size, 3, none⟩ (by simp), World.cell?_alloc_new]; rfl
  · have e : w.heap.size + 1 = (w.alloc (.cells #[.int .i64 o, .int .i64 n, .string t, .slice a L cap] T)).heap.size := by simp
    rw [e, World.cell?_alloc_new]; rfl

set_option maxRecDepth 100000 in
set_option maxHeartbeats 1600000 in
theorem step (k : F) (ih : ∀ o n t k1 p r, k = F.app p (.cons o n t k1 r) → SC k1) : SC k := by
  intro k' o n o' n' t t' w a a' cap cap' fs fs' hs hs' hfs hfs' hc hc' hl hl' hft hft'
  have B2 : ∀ (o1 o2 : Obj), Below w.heap.size w ((w.alloc o1).alloc o2) := fun o1 o2 => ((Below.refl _ _).alloc (Nat.le_refl _) _).alloc (by simp) _
  have HIH := Lib.hid ih
  clear ih
  by_cases h1 : o = o'
  · subst h1
    by_cases h2 : n = n'
    · subst h2
      by_cases h3 : t = t'
      · subst h3
        by_cases h4 : k.len = k'.len
        · have hrows : 0 < k.len → ∃ b off f1 b' off' f2, a = some ⟨b, off, none⟩ ∧ a' = some ⟨b', off', none⟩ ∧ RowAt w k b off f1 ∧ RowAt w k' b' off' f2 ∧ b < w.heap.size ∧ b' < w.heap.size ∧ (∀ c ∈ f1, c < w.heap.size) ∧ ∀ c ∈ f2, c < w.heap.size := by
            intro h0
            rcases hs with ⟨rfl, rfl⟩ | ⟨b, off, f1, rfl, _, rfl, hrow⟩
            · simp [F.len] at h0
            · rcases hs' with ⟨rfl, rfl⟩ | ⟨b', off', f2, rfl, _, rfl, hrow'⟩
              · simp only [F.len] at h4; omega
              · exact ⟨b, off, f1, b', off', f2, rfl, rfl, hrow, hrow', hfs b (by simp), hfs' b' (by simp), fun c hc => hfs c (by simp [hc]), fun c hc => hfs' c (by simp [hc])⟩
          rw [← h4] at hc' ⊢
          obtain ⟨L, hL⟩ : ∃ L, k.len = L := ⟨_, rfl⟩
          rw [hL] at hc hc' hl hrows ⊢
          have HL := Lib.hid (And.intro hL (And.intro h4 (And.intro hft hft')))
          have HR := Lib.hid hrows
          clear hL h4 hs hs' hfs hfs' hl' hrows hft hft'
          unfold maxLen at hl
          go_enter Try.func52, Try.ntmps52
          go_wp2_with fail
          go_loopw [5] (fun i wr => ∃ (p x y : F) (j : Nat), Hid (k = p.app x ∧ k' = p.app y ∧ p.len = j) ∧ j ≤ L ∧ i = .int .i64 j ∧ Boxes w wr a a' L cap cap') (fun i _ => L - (intOf i).toNat)
          case atStart => exact ⟨.nil, k, k', 0, Lib.hid ⟨rfl, rfl, rfl⟩, by omega, rfl, Boxes.start w⟩
          case round =>
            obtain ⟨p, x, y, j, HE, hj, rfl, hbx⟩ := hrel
            obtain ⟨h3, h4, h5⟩ := HE.out
            obtain ⟨h6, h7, hft, hft'⟩ := HL.out
            have h8 : x.len = L - j ∧ y.len = L - j := by
              rw [h3, F.len_app] at h6 h7; rw [h4, F.len_app] at h7; omega
            have HBX := Lib.hid hbx
            obtain ⟨x0, x1, x2, x3⟩ := hbx
            cases x with
            | nil =>
              have hjL : L ≤ j := by have := h8.1; simp only [F.len] at this; omega
              have hy : y = .nil := F.len_eq_zero (by omega)
              subst hy
              have HF := Lib.hid (show k.same k' = true by rw [h3, h4]; exact F.same_self _)
              clear h3 h4 h5 h6 h7 h8 hft hft' x3
              go_wp2_with fail
              go_ret
              exact ⟨ret_bool (by rw [sameD_yes, HF.out]), HBX.out.2.2.2⟩
            | cons o1 n1 t1 k1 r1 =>
              cases y with
              | nil => exfalso; have := h8; simp only [F.len] at this; omega
              | cons o2 n2 t2 k2 r2 =>
                have hjL : j < L := by have := h8.1; simp only [F.len] at this; omega
                obtain ⟨b, off, f1, b', off', f2, rfl, rfl, hrow, hrow', hb, hb', hf1, hf2⟩ := HR.out (by omega)
                rw [h3] at hrow
                rw [h4] at hrow'
                obtain ⟨a1, cap1, g1, c0, c1, c2, c3, hc1, hsub, hin⟩ := row_at hrow
                obtain ⟨a2, cap2, g2, d0, d1, d2, d3, hc2, hsub', hin'⟩ := row_at hrow'
                rw [h5] at c0 c1 c2 c3 d0 d1 d2 d3
                rw [← x3.cell (p := ⟨_, _, _⟩) hb] at c0 c1 c2 c3
                rw [← x3.cell (p := ⟨_, _, _⟩) hb'] at d0 d1 d2 d3
                rw [h3] at hft
                rw [h4] at hft'
                have hx := (F.Fits.app_iff.1 hft).2
                have hx' := (F.Fits.app_iff.1 hft').2
                have hd := fun (w1 : World) (hw1 : Below wr.heap.size wr w1) => HIH.out o1 n1 t1 k1 p r1 h3 k2 o1 n1 o2 n2 t1 t2 w1 a1 a2 cap1 cap2 g1 g2 (hsub.below (fun c hc => hf1 c (hin c hc)) (x3.trans (hw1.mono x3.size))) (hsub'.below (fun c hc => hf2 c (hin' c hc)) (x3.trans (hw1.mono x3.size)))
                  (fun c hc => Nat.lt_of_lt_of_le (hf1 c (hin c hc)) (Nat.le_trans x3.size hw1.size)) (fun c hc => Nat.lt_of_lt_of_le (hf2 c (hin' c hc)) (Nat.le_trans x3.size hw1.size)) hc1 hc2 hx.2.1 hx'.2.1 hx.2.2.1 hx'.2.2.1
                have hfin : k.same k' = (sameD o1 n1 t1 k1 o2 n2 t2 k2 && r1.same r2) := by rw [h3, h4, F.same_app, same_cons]
                have HF := Lib.hid hfin
                have HD := Lib.hid hd
                clear hd hx hx' hft hft' h3 h4 h5 h6 h7 h8 hrow hrow' hfin x3
                have i0 : (0 : Int) ≤ (j : Int) := Int.natCast_nonneg _
                have i1 : (j : Int) < (L : Int) := by omega
                cases hsd : sameD o1 n1 t1 k1 o2 n2 t2 k2 with
                | true =>
                  have HSD := Lib.hid hsd
                  clear hsd
                  go_wp2_with fail
                  go_still_tail 10, (by kernel_rfl)
                  go_wp2_with (go_at_call 52; refine (HD.out _ (by first | exact Below.refl _ _ | exact (Below.refl _ _).drew)).mono ?_; rw [HSD.out]; rintro e w' ⟨rfl, hb1⟩)
                  go_roundw
                  case rel =>
                    obtain ⟨e1, e2, e3, e4⟩ := sameD_iff.1 HSD.out
                    subst e1 e2 e3 e4
                    obtain ⟨h3, h4, h5⟩ := HE.out
                    exact ⟨p.app (.cons o1 n1 t1 k1 .nil), r1, r2, j + 1, Lib.hid ⟨by rw [h3, F.app_assoc]; rfl, by rw [h4, F.app_assoc]; rfl, by rw [F.len_app, h5]; rfl⟩, by omega, by go_num, HBX.out.step ((Below.refl _ _).drew.trans hb1)⟩
                  case measure => simp [intOf]; omega
                | false =>
                  have HSD := Lib.hid hsd
                  clear hsd
                  go_wp2_with fail
                  go_still_tail 10, (by kernel_rfl)
                  go_wp2_with (go_at_call 52; refine (HD.out _ (by first | exact Below.refl _ _ | exact (Below.refl _ _).drew)).mono ?_; rw [HSD.out]; rintro e w' ⟨rfl, hb1⟩)
                  go_ret
                  exact ⟨ret_bool (by rw [sameD_yes, HF.out, HSD.out]; rfl), (HBX.out.step ((Below.refl _ _).drew.trans hb1)).2.2.2⟩
        · have h5 : ((k.len : Int) != (k'.len : Int)) = true := by rw [bne_iff_ne]; omega
          have HS := Lib.hid (sameD_no4 (o := o) (n := n) (t := t) h4)
          clear h4
          unfold maxLen at hl hl'
          go_enter Try.func52, Try.ntmps52
          go_wp2_with fail
          go_ret
          exact ⟨ret_bool HS.out.symm, B2 _ _⟩
      · have h4 := bytes_ne h3
        go_enter Try.func52, Try.ntmps52
        go_wp2_with fail
        go_ret
        exact ⟨ret_bool (by rw [sameD_no3 h3]), B2 _ _⟩
    · go_enter Try.func52, Try.ntmps52
      go_wp2_with fail
      go_ret
      exact ⟨ret_bool (by rw [sameD_no2 h2]), B2 _ _⟩
  · go_enter Try.func52, Try.ntmps52
    go_wp2_with fail
    go_ret
    exact ⟨ret_bool (by rw [sameD_no1 h1]), B2 _ _⟩

theorem docSame (m : Nat) : ∀ k : F, k.deep ≤ m → SC k := by
  induction m with
  | zero =>
    intro k hk
    refine step k fun o n t k1 p r he => ?_
    rw [he, F.deep_app] at hk; simp only [F.deep] at hk; omega
  | succ m ih =>
    intro k hk
    refine step k fun o n t k1 p r he => ih k1 ?_
    rw [he, F.deep_app] at hk; simp only [F.deep] at hk; omega

theorem docSame_any (k : F) : SC k := docSame k.deep k (Nat.le_refl _)

end Go.Proofs.Ytcpbhkgdeaanmaa.SpecS


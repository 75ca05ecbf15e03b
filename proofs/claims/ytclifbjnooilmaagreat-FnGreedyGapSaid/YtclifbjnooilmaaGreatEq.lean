import Derived.Test.YtclifbjnooilmaaGreatPl
import Derived.Test.YtclifbjnooilmaaGreatChecked
import Derived.Outline
import Derived.StillTailTactics
/-
 What the law's own helper for equality comes to.
-/
set_option linter.unusedVariables false
set_option linter.unusedSimpArgs false
set_option maxRecDepth 100000
set_option maxHeartbeats 800000
namespace Go.Proofs.YtclifbjnooilmaaGreat.Eq
open Go.RowKit
theorem ret_bool {a b : Bool} (h : a = b) : Ending.returned (.bool a) = .returned (.bool b) := by rw [h]
def EqS (f g : F) : Prop := ∀ (w : World) (a a' : Option Addr) (cap cap' : Nat) (fs fs' : List Nat), SubAt w a f fs → SubAt w a' g fs' → (∀ c ∈ fs, c < w.heap.size) → (∀ c ∈ fs', c < w.heap.size) → f.len ≤ cap → g.len ≤ cap' → f.len ≤ maxLen → g.len ≤ maxLen → f.Fits → g.Fits →
 Calls Tryz.prog 71 #[.slice a f.len cap, .slice a' g.len cap'] w fun e w' => e = .returned (.bool (f.same g)) ∧ Below w.heap.size w w'
set_option maxHeartbeats 400000 in
theorem eqDoc {ks ks' : F} (hk : EqS ks ks') (op n op' n' : Int) (tx tx' : ByteArray) (w : World) (a a' : Option Addr) (cap cap' : Nat) (fs fs' : List Nat) (hs : SubAt w a ks fs) (hs' : SubAt w a' ks' fs') (hfs : ∀ c ∈ fs, c < w.heap.size) (hfs' : ∀ c ∈ fs', c < w.heap.size)
  (hc : ks.len ≤ cap) (hc' : ks'.len ≤ cap') (hl : ks.len ≤ maxLen) (hl' : ks'.len ≤ maxLen) (hft : ks.Fits) (hft' : ks'.Fits) :
  Calls Tryz.prog 37 #[.agg #[.int .i64 op, .int .i64 n, .string tx, .slice a ks.len cap], .agg #[.int .i64 op', .int .i64 n', .string tx', .slice a' ks'.len cap']] w fun e w' => e = .returned (.bool (sameD op n tx ks op' n' tx' ks')) ∧ Below w.heap.size w w' := by
 have B2 : ∀ (o1 o2 : Obj), Below w.heap.size w ((w.alloc o1).alloc o2) := fun o1 o2 => ((Below.refl _ _).alloc (Nat.le_refl _) _).alloc (by simp) _
 by_cases h1 : op = op'
 ·subst h1
  by_cases h2 : n = n'
  ·subst h2
   by_cases h3 : tx = tx'
   ·subst h3
    go_enter Tryz.func37, Tryz.ntmps37
    go_wp2_with (go_at_call 71; refine (hk _ _ _ _ _ fs fs' (hs.below hfs (B2 _ _)) (hs'.below hfs' (B2 _ _)) (fun c hc => by have := hfs c hc; simp; omega) (fun c hc => by have := hfs' c hc; simp; omega) hc hc' hl hl' hft hft').mono ?_; rintro e w' ⟨rfl, hb⟩)
    all_goals
     go_ret
     exact ⟨ret_bool (by rw [sameD_yes]; simp_all), (B2 _ _).trans (hb.mono (by simp; omega))⟩
   ·have h4 := bytes_ne h3
    go_enter Tryz.func37, Tryz.ntmps37
    go_wp2_with fail
    go_ret
    exact ⟨ret_bool (by rw [sameD_no3 h3]), B2 _ _⟩
  ·go_enter Tryz.func37, Tryz.ntmps37
   go_wp2_with fail
   go_ret
   exact ⟨ret_bool (by rw [sameD_no2 h2]), B2 _ _⟩
 ·go_enter Tryz.func37, Tryz.ntmps37
  go_wp2_with fail
  go_ret
  exact ⟨ret_bool (by rw [sameD_no1 h1]), B2 _ _⟩
set_option maxHeartbeats 400000 in
theorem eqS_len {f g : F} (w : World) (a a' : Option Addr) (cap cap' : Nat) (hl : f.len ≤ maxLen) (hl' : g.len ≤ maxLen) (h : f.len ≠ g.len) :
  Calls Tryz.prog 71 #[.slice a f.len cap, .slice a' g.len cap'] w fun e w' => e = .returned (.bool (f.same g)) ∧ Below w.heap.size w w' := by
 have HS := Lib.hid (F.same_len h)
 have hb : ((f.len : Int) == (g.len : Int)) = false := by rw [beq_eq_false_iff_ne]; omega
 unfold maxLen at hl hl'
 go_enter Tryz.func71, Tryz.ntmps71
 go_wp2_with fail
 go_ret
 exact ⟨ret_bool HS.out.symm, Below.refl _ _⟩
set_option maxHeartbeats 400000 in
theorem eqS_nil (w : World) (a a' : Option Addr) (cap cap' : Nat) :
  Calls Tryz.prog 71 #[.slice a 0 cap, .slice a' 0 cap'] w fun e w' => e = .returned (.bool true) ∧ Below w.heap.size w w' := by
 go_enter Tryz.func71, Tryz.ntmps71
 go_wp2_with fail
 go_loop [5] (fun i => i = .int .i64 0) (fun _ => 0)
 case atStart => rfl
 case round =>
  obtain rfl := hrel
  go_wp2
  go_ret
  exact ⟨rfl, Below.refl _ _⟩
theorem eqS_row (f g : F) (ih : ∀ o n t k r p o' n' t' k' r' p', f = F.app p (.cons o n t k r) → g = F.app p' (.cons o' n' t' k' r') → EqS k k') (w : World) (b off cap b' off' cap' : Nat) (fs fs' : List Nat) (hrow : RowAt w f b off fs) (hrow' : RowAt w g b' off' fs') (hb : b < w.heap.size) (hb' : b' < w.heap.size) (hfs : ∀ c ∈ fs, c < w.heap.size) (hfs' : ∀ c ∈ fs', c < w.heap.size)
  (hcap : f.len ≤ cap) (hcap' : g.len ≤ cap') (hl : f.len ≤ maxLen) (hft : f.Fits) (hft' : g.Fits) (he : f.len = g.len) :
  Calls Tryz.prog 71 #[.slice (some ⟨b, off, none⟩) f.len cap, .slice (some ⟨b', off', none⟩) g.len cap'] w fun e w' => e = .returned (.bool (f.same g)) ∧ Below w.heap.size w w' := by
 rw [← he] at hcap' ⊢
 obtain ⟨L, hL⟩ : ∃ L, f.len = L := ⟨_, rfl⟩
 rw [hL] at hcap hcap' hl he ⊢
 have HL := Lib.hid (And.intro hL he)
 clear hL he
 unfold maxLen at hl
 go_enter Tryz.func71, Tryz.ntmps71
 go_wp2_with fail
 go_loopw [5] (fun i wr => ∃ (p x y : F) (k : Nat), Hid (f = p.app x ∧ g = p.app y ∧ p.len = k) ∧ k ≤ L ∧ i = .int .i64 k ∧ Below w.heap.size w wr) (fun i _ => L - (intOf i).toNat)
 case atStart => exact ⟨.nil, f, g, 0, Lib.hid ⟨rfl, rfl, rfl⟩, by omega, rfl, Below.refl _ _⟩
 case round =>
  obtain ⟨p, x, y, k, HE, hk, rfl, hbw⟩ := hrel
  obtain ⟨h3, h4, h5⟩ := HE.out
  obtain ⟨h6, h7⟩ := HL.out
  have h8 : x.len = L - k ∧ y.len = L - k := by
   rw [h3, F.len_app] at h6; rw [h4, F.len_app] at h7; omega
  cases x with
  | nil =>
    have hkL : L ≤ k := by have := h8.1; simp only [F.len] at this; omega
    have hy : y = .nil := F.len_eq_zero (by omega)
    subst hy
    have hfin : f.same g = true := by rw [h3, h4]; exact F.same_self _
    have HF := Lib.hid hfin
    clear h3 h4 h5 h6 h7 h8 hrow hrow' ih hft hft' hfin
    go_wp2_with fail
    go_ret
    exact ⟨ret_bool HF.out.symm, hbw⟩
  | cons o n t ks r =>
    cases y with
    | nil => exfalso; have := h8; simp only [F.len] at this; omega
    | cons o' n' t' ks' r' =>
      have hkL : k < L := by have := h8.1; simp only [F.len] at this; omega
      subst h3 h4
      obtain ⟨a1, cap1, f1, c0, c1, c2, c3, hc1, hsub, hin⟩ := row_at hrow
      obtain ⟨a2, cap2, f2, d0, d1, d2, d3, hc2, hsub', hin'⟩ := row_at hrow'
      rw [h5] at c0 c1 c2 c3 d0 d1 d2 d3
      rw [← hbw.cell (p := ⟨_, _, _⟩) hb] at c0 c1 c2 c3
      rw [← hbw.cell (p := ⟨_, _, _⟩) hb'] at d0 d1 d2 d3
      have hx := (F.Fits.app_iff.1 hft).2
      have hx' := (F.Fits.app_iff.1 hft').2
      have hd := fun (w1 : World) (hw1 : Below wr.heap.size wr w1) => eqDoc (ih _ _ _ _ _ _ _ _ _ _ _ _ rfl rfl) o n o' n' t t' w1 a1 a2 cap1 cap2 f1 f2 (hsub.below (fun c hc => hfs c (hin c hc)) (hbw.trans (hw1.mono hbw.size))) (hsub'.below (fun c hc => hfs' c (hin' c hc)) (hbw.trans (hw1.mono hbw.size)))
       (fun c hc => Nat.lt_of_lt_of_le (hfs c (hin c hc)) (Nat.le_trans hbw.size hw1.size)) (fun c hc => Nat.lt_of_lt_of_le (hfs' c (hin' c hc)) (Nat.le_trans hbw.size hw1.size)) hc1 hc2 hx.2.1 hx'.2.1 hx.2.2.1 hx'.2.2.1
      have hfin : (p.app (.cons o n t ks r)).same (p.app (.cons o' n' t' ks' r')) = (sameD o n t ks o' n' t' ks' && r.same r') := by rw [F.same_app, same_cons]
      have HF := Lib.hid hfin
      have HD := Lib.hid hd
      clear hd hx hx' hft hft' h5 h6 h7 h8 hrow hrow' ih hfin
      have i0 : (0 : Int) ≤ (k : Int) := Int.natCast_nonneg _
      have i1 : (k : Int) < (L : Int) := by omega
      cases hsd : sameD o n t ks o' n' t' ks' with
      | true =>
        have HSD := Lib.hid hsd
        clear hsd
        go_wp2_with fail
        go_still_tail 8, (by kernel_rfl)
        go_wp2_with (go_at_call 37; refine (HD.out _ (by first | exact Below.refl _ _ | exact (Below.refl _ _).drew)).mono ?_; rw [HSD.out]; rintro e w' ⟨rfl, hb1⟩)
        go_roundw
        case rel =>
         obtain ⟨e1, e2, e3, e4⟩ := sameD_iff.1 HSD.out
         subst e1 e2 e3 e4
         refine ⟨p.app (.cons o n t ks .nil), r, r', k + 1, Lib.hid ⟨by rw [F.app_assoc]; rfl, by rw [F.app_assoc]; rfl, by rw [F.len_app, HE.out.2.2]; rfl⟩, by omega, by go_num, hbw.trans (((Below.refl _ _).drew.trans hb1).mono hbw.size)⟩
        case measure => simp [intOf]; omega
      | false =>
        have HSD := Lib.hid hsd
        clear hsd
        go_wp2_with fail
        go_still_tail 8, (by kernel_rfl)
        go_wp2_with (go_at_call 37; refine (HD.out _ (by first | exact Below.refl _ _ | exact (Below.refl _ _).drew)).mono ?_; rw [HSD.out]; rintro e w' ⟨rfl, hb1⟩)
        go_ret
        exact ⟨ret_bool (by rw [HF.out, HSD.out]; rfl), hbw.trans (((Below.refl _ _).drew.trans hb1).mono hbw.size)⟩
theorem eqS (m : Nat) : ∀ f g : F, f.deep ≤ m → EqS f g := by
 induction m with
 | zero =>
   intro f g hf w a a' cap cap' fs fs' hs hs' hfs hfs' hcap hcap' hl hl' hft hft'
   cases f with
   | nil =>
     by_cases h : g.len = 0
     ·have := F.len_eq_zero h
      subst this
      exact eqS_nil w a a' cap cap'
     ·exact eqS_len w a a' cap cap' hl hl' (fun e => h e.symm)
   | cons o n t k r => simp [F.deep] at hf
 | succ m ih =>
   intro f g hf w a a' cap cap' fs fs' hs hs' hfs hfs' hcap hcap' hl hl' hft hft'
   by_cases he : f.len = g.len
   ·rcases hs with ⟨rfl, rfl⟩ | ⟨b, off, f1, rfl, hnil, rfl, hrow⟩
    ·have := F.len_eq_zero (f := g) (by rw [← he]; rfl)
     subst this
     exact eqS_nil w a a' cap cap'
    ·rcases hs' with ⟨rfl, rfl⟩ | ⟨b', off', f2, rfl, hnil', rfl, hrow'⟩
     ·exact absurd (F.len_eq_zero (f := f) he) hnil
     ·exact eqS_row f g (fun o n t k r p o' n' t' k' r' p' e e' => ih k k' (by rw [e, F.deep_app] at hf; simp only [F.deep] at hf; omega)) w b off cap b' off' cap' f1 f2 hrow hrow' (hfs b (by simp)) (hfs' b' (by simp)) (fun c hc => hfs c (by simp [hc])) (fun c hc => hfs' c (by simp [hc])) hcap hcap' hl hft hft' he
   ·exact eqS_len w a a' cap cap' hl hl' he
theorem eqS_any (f g : F) : EqS f g := eqS f.deep f g (Nat.le_refl _)
end Go.Proofs.YtclifbjnooilmaaGreat.Eq

import Derived.Test.YtclifbjnooilmaaGreatPl
import Derived.Test.YtclifbjnooilmaaGreatChecked
import Derived.Outline
/-
 What the law's own helpers come to: sizes.
-/
set_option linter.unusedVariables false
set_option linter.unusedSimpArgs false
set_option maxHeartbeats 800000
namespace Go.Proofs.YtclifbjnooilmaaGreat.Sz
open Go.RowKit
def szR (s : Nat) (left : Int) : Int := if (s : Int) ≤ left then left - s else -1
theorem szR_yes {s : Nat} {left : Int} (h : (s : Int) ≤ left) : szR s left = left - s := if_pos h
theorem szR_no {s : Nat} {left : Int} (h : left < s) : szR s left = -1 := if_neg (by omega)
theorem ret_int {k : IntKind} {a b : Int} (h : a = b) : Ending.returned (.int k a) = .returned (.int k b) := by rw [h]
def SzS (f : F) : Prop := ∀ (w : World) (a : Option Addr) (cap : Nat) (fs : List Nat) (left : Int), SubAt w a f fs → (∀ c ∈ fs, c < w.heap.size) → f.len ≤ cap → f.len ≤ maxLen → f.Fits → 0 ≤ left → left ≤ 1048576 →
 Calls Tryz.prog 69 #[.slice a f.len cap, .int .i64 left] w fun e w' => e = .returned (.int .i64 (szR f.size left)) ∧ Below w.heap.size w w'
set_option maxHeartbeats 400000 in
theorem szDoc {ks : F} (hk : SzS ks) (op n : Int) (tx : ByteArray) (w : World) (a : Option Addr) (cap : Nat) (fs : List Nat) (left : Int) (hs : SubAt w a ks fs) (hfs : ∀ c ∈ fs, c < w.heap.size) (hc : ks.len ≤ cap) (hl : ks.len ≤ maxLen) (hft : ks.Fits) (htx : tx.size ≤ maxLen) (h0 : 0 ≤ left) (h1 : left ≤ 1048576) :
  Calls Tryz.prog 34 #[.agg #[.int .i64 op, .int .i64 n, .string tx, .slice a ks.len cap], .int .i64 left] w fun e w' => e = .returned (.int .i64 (szR (tx.size + ks.size) left)) ∧ Below w.heap.size w w' := by
 unfold maxLen at htx
 by_cases h2 : left - (tx.size : Int) < 0
 ·go_enter Tryz.func34, Tryz.ntmps34
  go_wp2
  go_ret
  exact ⟨ret_int (by rw [szR_no (by omega)]), (Below.refl _ _).alloc (Nat.le_refl _) _⟩
 ·by_cases h3 : left - (tx.size : Int) < ks.size
  ·have HS := Lib.hid (szR_no h3)
   go_enter Tryz.func34, Tryz.ntmps34
   go_wp2_with (go_at_call 69; refine (hk _ _ _ fs _ (hs.below hfs ((Below.refl _ _).alloc (Nat.le_refl _) _)) (fun c hc => by have := hfs c hc; simp; omega) hc hl hft (by omega) (by omega)).mono ?_; rw [HS.out]; rintro e w' ⟨rfl, hb⟩)
   go_ret
   exact ⟨ret_int (by rw [szR_no (by omega)]), ((Below.refl _ _).alloc (Nat.le_refl _) _).trans (hb.mono (by simp))⟩
  ·have HS := Lib.hid (szR_yes (Int.not_lt.1 h3))
   go_enter Tryz.func34, Tryz.ntmps34
   go_wp2_with (go_at_call 69; refine (hk _ _ _ fs _ (hs.below hfs ((Below.refl _ _).alloc (Nat.le_refl _) _)) (fun c hc => by have := hfs c hc; simp; omega) hc hl hft (by omega) (by omega)).mono ?_; rw [HS.out]; rintro e w' ⟨rfl, hb⟩)
   go_ret
   exact ⟨ret_int (by rw [szR_yes (by omega)]; omega), ((Below.refl _ _).alloc (Nat.le_refl _) _).trans (hb.mono (by simp))⟩
set_option maxHeartbeats 400000 in
theorem szS_short {f : F} (w : World) (a : Option Addr) (cap : Nat) (left : Int) (hl : f.len ≤ maxLen) (h0 : 0 ≤ left) (h1 : left ≤ 1048576) (h2 : left - (f.len : Int) < 0) :
  Calls Tryz.prog 69 #[.slice a f.len cap, .int .i64 left] w fun e w' => e = .returned (.int .i64 (szR f.size left)) ∧ Below w.heap.size w w' := by
 have hle := F.len_le_size f
 unfold maxLen at hl
 go_enter Tryz.func69, Tryz.ntmps69
 go_wp2
 go_ret
 exact ⟨ret_int (by rw [szR_no (by omega)]), Below.refl _ _⟩
set_option maxHeartbeats 400000 in
theorem szS_nil (w : World) (a : Option Addr) (cap : Nat) (left : Int) (h0 : 0 ≤ left) (h1 : left ≤ 1048576) :
  Calls Tryz.prog 69 #[.slice a 0 cap, .int .i64 left] w fun e w' => e = .returned (.int .i64 (szR 0 left)) ∧ Below w.heap.size w w' := by
 go_enter Tryz.func69, Tryz.ntmps69
 go_wp2
 go_loop [5, 1] (fun i l => i = .int .i64 0 ∧ l = .int .i64 left) (fun _ _ => 0)
 case atStart => exact ⟨rfl, rfl⟩
 case round =>
  obtain ⟨rfl, rfl⟩ := hrel
  go_wp2
  go_ret
  exact ⟨ret_int (by rw [szR_yes (by omega)]; omega), Below.refl _ _⟩
theorem szS_row (f : F) (ih : ∀ o n t k r p, f = F.app p (.cons o n t k r) → SzS k) (w : World) (b off cap : Nat) (fs : List Nat) (left : Int) (hrow : RowAt w f b off fs) (hb : b < w.heap.size) (hfs : ∀ c ∈ fs, c < w.heap.size) (hcap : f.len ≤ cap) (hl : f.len ≤ maxLen) (hft : f.Fits) (h0 : 0 ≤ left) (h1 : left ≤ 1048576) (h2 : 0 ≤ left - (f.len : Int)) :
  Calls Tryz.prog 69 #[.slice (some ⟨b, off, none⟩) f.len cap, .int .i64 left] w fun e w' => e = .returned (.int .i64 (szR f.size left)) ∧ Below w.heap.size w w' := by
 obtain ⟨L, hL⟩ : ∃ L, f.len = L := ⟨_, rfl⟩
 rw [hL] at hcap hl h2 ⊢
 have HL := Lib.hid hL
 clear hL
 unfold maxLen at hl
 go_enter Tryz.func69, Tryz.ntmps69
 go_wp2
 go_loopw [5, 1] (fun i l wr => ∃ (p g : F) (k : Nat) (c : Int), Hid (f = p.app g ∧ p.len = k ∧ c = left - L - p.size + p.len) ∧ k ≤ L ∧ i = .int .i64 k ∧ l = .int .i64 c ∧ 0 ≤ c ∧ c ≤ left ∧ Below w.heap.size w wr) (fun i _ _ => L - (intOf i).toNat)
 case atStart => exact ⟨.nil, f, 0, left - L, Lib.hid ⟨rfl, rfl, by simp [F.size, F.len]⟩, by omega, rfl, rfl, by omega, by omega, Below.refl _ _⟩
 case round =>
  obtain ⟨p, g, k, c, HE, hk, rfl, rfl, hc0, hc1, hbw⟩ := hrel
  cases g with
  | nil =>
    have hkL : L ≤ k := by have := HE.out; rw [← HL.out, this.1, F.len_app, this.2.1]; simp [F.len]
    go_wp2
    go_ret
    exact ⟨ret_int (by obtain ⟨h3, h4, h5⟩ := HE.out; rw [F.app_nil] at h3; subst h3; have := HL.out; rw [szR_yes (by omega)]; omega), hbw⟩
  | cons o n t ks r =>
    obtain ⟨h3, h4, h5⟩ := HE.out
    have hkL : k < L := by rw [← HL.out, h3, F.len_app, h4]; simp [F.len]
    subst h3
    obtain ⟨a', cap', f1, c0, c1, c2, c3, hc', hsub, hin⟩ := row_at hrow
    rw [h4] at c0 c1 c2 c3
    rw [← hbw.cell (p := ⟨_, _, _⟩) hb] at c0 c1 c2 c3
    have hft' := (F.Fits.app_iff.1 hft).2
    have hd := szDoc (ih _ _ _ _ _ _ rfl) o n t wr a' cap' f1 c (hsub.below (fun c hc => hfs c (hin c hc)) hbw) (fun c hc => Nat.lt_of_lt_of_le (hfs c (hin c hc)) hbw.size) hc' hft'.2.1 hft'.2.2.1 hft'.1 hc0 (by omega)
    have HF := Lib.hid hft'
    have HD := Lib.hid hd
    have hz : (p.app (.cons o n t ks r)).size = p.size + (1 + t.size + ks.size + r.size) := by rw [F.size_app]; rfl
    have HZ := Lib.hid hz
    have hlen : (p.app (.cons o n t ks r)).len = p.len + (r.len + 1) := by rw [F.len_app]; rfl
    have HN := Lib.hid hlen
    have HE5 := Lib.hid h5
    have HE4 := Lib.hid h4
    have hrs := F.len_le_size r
    by_cases hs : c < ((t.size + ks.size : Nat) : Int)
    ·have HS := Lib.hid (szR_no hs)
     have hfin : left < ((p.app (.cons o n t ks r)).size : Int) := by
      have := HL.out; rw [hz]; rw [hlen] at this; omega
     clear hd hft' hft h4 h5 hrow ih hz hlen hs
     go_wp2_with (go_at_call 34; refine HD.out.mono ?_; rw [HS.out]; rintro e w' ⟨rfl, hb1⟩)
     go_ret
     exact ⟨ret_int (by rw [szR_no hfin]), hbw.trans (hb1.mono hbw.size)⟩
    ·have HS := Lib.hid (szR_yes (Int.not_lt.1 hs))
     have hs' : ((t.size + ks.size : Nat) : Int) ≤ c := by omega
     clear hd hft' hft h4 h5 hrow ih hz hlen hs
     obtain ⟨z, hzz⟩ : ∃ z : Int, c - ((t.size + ks.size : Nat) : Int) = z := ⟨_, rfl⟩
     have hz0 : 0 ≤ z := by omega
     have hz1 : z ≤ c := by omega
     have HZZ := Lib.hid hzz
     clear hzz hs'
     go_wp2_with (go_at_call 34; refine HD.out.mono ?_; rw [HS.out, HZZ.out]; rintro e w' ⟨rfl, hb1⟩)
     go_roundw
     case rel =>
      refine ⟨p.app (.cons o n t ks .nil), r, k + 1, z, Lib.hid ⟨by rw [F.app_assoc]; rfl, by rw [F.len_app, HE4.out]; rfl, ?_⟩, by omega, by go_num, rfl, hz0, by omega, hbw.trans (hb1.mono hbw.size)⟩
      have e1 := HZZ.out
      have e2 := HE5.out
      rw [← e1, e2, F.size_app, F.len_app]
      simp only [F.size, F.len]
      omega
     case measure => simp [intOf]; omega
theorem szS (m : Nat) : ∀ f : F, f.deep ≤ m → SzS f := by
 induction m with
 | zero =>
   intro f hf w a cap fs left hs hfs hcap hl hft h0 h1
   cases f with
   | nil => exact szS_nil w a cap left h0 h1
   | cons o n t k r => simp [F.deep] at hf
 | succ m ih =>
   intro f hf w a cap fs left hs hfs hcap hl hft h0 h1
   rcases hs with ⟨rfl, rfl⟩ | ⟨b, off, f', rfl, hnil, rfl, hrow⟩
   ·exact szS_nil w a cap left h0 h1
   ·by_cases h2 : left - (f.len : Int) < 0
    ·exact szS_short w _ cap left hl h0 h1 h2
    ·exact szS_row f (fun o n t k r p e => ih k (by rw [e, F.deep_app] at hf; simp only [F.deep] at hf; omega)) w b off cap f' left hrow (hfs b (by simp)) (fun c hc => hfs c (by simp [hc])) hcap hl hft h0 h1 (by omega)
theorem szS_any (f : F) : SzS f := szS f.deep f (Nat.le_refl _)
end Go.Proofs.YtclifbjnooilmaaGreat.Sz

import Derived.Test.YtclifbjnooilmaaGreatLdX
import Derived.Test.YtclifbjnooilmaaGreatLzX
/-
 The first layout with the least cost, as a plain function; nothing here speaks of the program.
-/
set_option linter.unusedVariables false
set_option linter.unusedSimpArgs false
set_option maxRecDepth 100000
set_option maxHeartbeats 6400000
namespace Go.Proofs.YtclifbjnooilmaaGreat.Be
theorem zpgBeX {α : Type} : (∀ (l : List α) (i : Nat) (h : i < l.toArray.size), l.toArray[i]'h = l[i]'(by simpa using h)) ∧ (∀ (x : α) (l : List α) (h : 0 < (x :: l).length), (x :: l)[0]'h = x) ∧ (∀ (x : α) (l : List α) (i : Nat) (h : i + 1 < (x :: l).length), (x :: l)[i + 1]'h = l[i]'(by simpa using h)) := ⟨fun _ _ _ => rfl, fun _ _ _ => rfl, fun _ _ _ _ => rfl⟩
open Go.RowKit P1 Cnt ChP It Cst
open Ls hiding Lay
def kc (x : Int) (l : Lay) : Int := ov x l * 1000 + (l.length : Int)
theorem cmp_kc {x : Int} {a b : Lay} (ha : lv a = true) (hb : lv b = true) : cmpC (ov x a) (a.length : Int) (ov x b) (b.length : Int) < 0 ↔ kc x a < kc x b := by
 have h1 := (lv_len ha).2
 have h2 := (lv_len hb).2
 unfold cmpC sg kc
 repeat' split
 all_goals omega
def beR (x o n : Int) (t : ByteArray) (k : F) : Lay × Bool := if wv x then (least (kc x) (laysD o n t k), toldD o n t k) else ([], false)
theorem be_no {x o n : Int} {t : ByteArray} {k : F} (h : wv x = false) : beR x o n t k = ([], false) := by simp [beR, h]
theorem be_yes {x o n : Int} {t : ByteArray} {k : F} (h : wv x = true) : beR x o n t k = (least (kc x) (laysD o n t k), toldD o n t k) := by simp [beR, h]
theorem be_none {x o n : Int} {t : ByteArray} {k : F} (h : toldD o n t k = false) : beR x o n t k = ([], false) := by
 unfold beR; rw [lays_no h, h]; split <;> rfl
theorem be_told {x o n : Int} {t : ByteArray} {k : F} (h : toldD o n t k = true) (hw : wv x = true) : beR x o n t k = (least (kc x) (laysD o n t k), true) := by rw [be_yes hw, h]
theorem be_lv {x o n : Int} {t : ByteArray} {k : F} (h : (beR x o n t k).2 = true) : lv (beR x o n t k).1 = true ∧ wv x = true ∧ toldD o n t k = true := by
 cases hw : wv x with
 | false => rw [be_no hw] at h; cases h
 | true =>
   rw [be_yes hw] at h ⊢
   have hp := lays_pos (o := o) (n := n) (t := t) (k := k) h
   refine ⟨?_, rfl, h⟩
   cases hl : laysD o n t k with
   | nil => rw [hl] at hp; simp at hp
   | cons y ys =>
     refine lays_good (o := o) (n := n) (t := t) (k := k) _ ?_
     rw [hl]
     exact least_mem _ _ _
def bcR (x o n : Int) (t : ByteArray) (k : F) : Int × Int × Bool := if (beR x o n t k).2 then (ov x (beR x o n t k).1, ((beR x o n t k).1.length : Int), true) else (0, 0, false)
theorem bc_no {x o n : Int} {t : ByteArray} {k : F} (h : (beR x o n t k).2 = false) : bcR x o n t k = (0, 0, false) := by simp [bcR, h]
theorem bc_yes {x o n : Int} {t : ByteArray} {k : F} (h : (beR x o n t k).2 = true) : bcR x o n t k = (ov x (beR x o n t k).1, ((beR x o n t k).1.length : Int), true) := by simp [bcR, h]
end Go.Proofs.YtclifbjnooilmaaGreat.Be
namespace Go.Proofs.YtclifbjnooilmaaGreat.Be
open Go.RowKit P1 Cnt ChP It Cst
open Ls hiding Lay
theorem be_parts {x o n : Int} {t : ByteArray} {k : F} (h : (beR x o n t k).2 = true) : wv x = true ∧ toldD o n t k = true ∧ (beR x o n t k).1 = least (kc x) (laysD o n t k) ∧ (beR x o n t k).1 ∈ laysD o n t k ∧ ∀ l ∈ laysD o n t k, kc x (beR x o n t k).1 ≤ kc x l := by
 obtain ⟨_, hw, hto⟩ := be_lv h
 have hp := lays_pos (o := o) (n := n) (t := t) (k := k) hto
 have he : (beR x o n t k).1 = least (kc x) (laysD o n t k) := by rw [be_told hto hw]
 refine ⟨hw, hto, he, ?_, ?_⟩
 ·rw [he]
  cases hl : laysD o n t k with
  | nil => rw [hl] at hp; simp at hp
  | cons y ys => exact least_mem _ _ _
 ·rw [he]
  cases hl : laysD o n t k with
  | nil => rw [hl] at hp; simp at hp
  | cons y ys => exact least_le _ _ _
end Go.Proofs.YtclifbjnooilmaaGreat.Be
namespace Go.Proofs.YtclifbjnooilmaaGreat.Be
open Go.RowKit Go.Shelf P1 LayL LayV LayM LayN LayC Cnt CntC Wid ChP Tr ChT ChC Rf It Cst
open Ls hiding Lay
section
variable (x : Int) (w : World) (o n : Int) (t : ByteArray) (k : F) (a : Option Addr) (cap : Nat) (fs : List Nat)
theorem l5Best (hs : SubAt w a k fs) (hfs : ∀ c ∈ fs, c < w.heap.size) (hc : k.len ≤ cap) (hsz : t.size + k.size ≤ 2000000) (hft : k.Fits) (ht : t.size ≤ maxLen) :
  Calls Tryz.prog 41 #[.agg #[.int .i64 o, .int .i64 n, .string t, .slice a k.len cap], .int .i64 x] w (LayRes w (beR x o n t k)) := by
 have B1 := Lib.hid (show ∀ ob, Ext w (w.alloc ob) from fun ob => (Ext.refl w).alloc _)
 have HA := Lib.hid (show ∀ (W : World) ob, Below w.heap.size w W → Below w.heap.size w (W.alloc ob) from fun W ob h => h.alloc h.size ob)
 have HS := Lib.hid (fun (w1 : World) (hw1 : Ext w w1) => specLayoutsOf w1 o n t k a cap fs (hs.below hfs hw1) (fun c hc => Nat.lt_of_lt_of_le (hfs c hc) hw1.size) hc hsz hft ht)
 have HG := Lib.hid (lays_good (o := o) (n := n) (t := t) (k := k))
 have HLN := Lib.hid (lays_len o n t k)
 have HNO := Lib.hid (fun h : toldD o n t k = false => And.intro (lays_no h) (be_none (x := x) h))
 have HPO := Lib.hid (fun h : toldD o n t k = true => And.intro (lays_pos h) (fun hw => be_told (x := x) h hw))
 have HBN := Lib.hid (fun h : wv x = false => be_no (x := x) (o := o) (n := n) (t := t) (k := k) h)
 obtain ⟨R, hR⟩ : ∃ R, beR x o n t k = R := ⟨_, rfl⟩
 rw [hR] at HNO HPO HBN ⊢
 obtain ⟨ls, hls⟩ : ∃ ls, laysD o n t k = ls := ⟨_, rfl⟩
 obtain ⟨ok, hok⟩ : ∃ ok, toldD o n t k = ok := ⟨_, rfl⟩
 rw [hls, hok] at HS HNO HPO
 rw [hls] at HG HLN
 clear hs hfs hls hok hR
 cases ok with
 | false =>
   obtain ⟨rfl, rfl⟩ := HNO.out rfl
   go_enter Tryz.func41, Tryz.ntmps41
   go_wp2_with fail
   refine (HS.out _ (B1.out _)).mono ?_
   rintro e2 w2 ⟨a2, c2, f2, rfl, hc2, hs2, hf2, hb2⟩
   have HB := Lib.hid ((B1.out _).trans hb2)
   clear hb2 hs2 hf2 hc2
   go_wp2_with fail
   go_ret2
   exact LayRes.none' (HA.out _ _ HB.out)
 | true =>
   by_cases hx0 : x < 0
   ·obtain rfl := HBN.out (by simp [wv]; omega)
    go_enter Tryz.func41, Tryz.ntmps41
    go_wp2_with fail
    refine (HS.out _ (B1.out _)).mono ?_
    rintro e2 w2 ⟨a2, c2, f2, rfl, hc2, hs2, hf2, hb2⟩
    have HB := Lib.hid ((B1.out _).trans hb2)
    clear hb2 hs2 hf2 hc2
    go_wp2_with fail
    go_ret2
    exact LayRes.none' (HA.out _ _ HB.out)
   by_cases hx1 : 200 < x
   ·obtain rfl := HBN.out (by simp [wv]; omega)
    go_enter Tryz.func41, Tryz.ntmps41
    go_wp2_with fail
    refine (HS.out _ (B1.out _)).mono ?_
    rintro e2 w2 ⟨a2, c2, f2, rfl, hc2, hs2, hf2, hb2⟩
    have HB := Lib.hid ((B1.out _).trans hb2)
    clear hb2 hs2 hf2 hc2
    go_wp2_with fail
    go_ret2
    exact LayRes.none' (HA.out _ _ HB.out)
   have hwx : wv x = true := by simp [wv]; omega
   obtain ⟨hpos, hbe⟩ := HPO.out rfl
   obtain rfl := hbe hwx
   clear hbe hwx
   go_enter Tryz.func41, Tryz.ntmps41
   go_wp2_with fail
   refine (HS.out _ (B1.out _)).mono ?_
   rintro e2 w2 ⟨a2, c2, f2, rfl, hc2, hs2, hf2, hb2⟩
   obtain ⟨b, off, AA, CC, gg, hfam, hdis⟩ := hs2.fam hf2.1
   have HFAM := Lib.hid (And.intro hfam hdis)
   obtain ⟨M, hM⟩ : ∃ M, ls.length = M := ⟨_, rfl⟩
   have HM := Lib.hid hM
   have hM3 : M ≤ 300 := by have := HLN.out; omega
   rw [hM] at hc2 hpos
   have HB := Lib.hid ((B1.out _).trans hb2)
   have HF2 := Lib.hid (And.intro (hf2.mono (by simp : w.heap.size ≤ _)) hs2)
   have hb0 := (hfam 0 (by omega)).1
   subst hb0
   clear hb2 hfam hdis hf2 hs2 hM
   have HL := Lib.hid (show ∀ W, Ext w2 W → ∀ j, (hj : j < ls.length) → (W.cell? ⟨b, off + j, none⟩ = some (.slice (AA j) ls[j].length (CC j)) ∧ ls[j].length ≤ CC j) ∧ LaySub W (AA j) ls[j] (gg j) from fun W hW j hj => by
    obtain ⟨_, hbm, h1, h2, h3, h4, h5⟩ := HFAM.out.1 j hj
    exact ⟨⟨(hW.cell (HF2.out.1.lt b hbm)).trans h1, h2⟩, h3.below h3.lt hW⟩)
   have HFR := Lib.hid (show ∀ W, Ext w2 W → ∀ j, (hj : j < ls.length) → Fresh w.heap.size W (gg j) from fun W hW j hj => by
    obtain ⟨_, hbm, h1, h2, h3, h4, h5⟩ := HFAM.out.1 j hj
    exact ⟨h5, fun q hq => ⟨(HF2.out.1.2 q (h4 q hq)).1, Nat.lt_of_lt_of_le (HF2.out.1.lt q (h4 q hq)) hW.size, fun o => (hW.frozen (HF2.out.1.lt q (h4 q hq))).trans ((HF2.out.1.2 q (h4 q hq)).2.2 o)⟩⟩)
   go_wp2_with fail
   go_loopw [9, 8] (fun i bv wr => ∃ (j c : Nat), 1 ≤ j ∧ j ≤ M ∧ c < M ∧ i = .int .i64 j ∧ bv = .int .i64 c ∧ Hid (∃ hc : c < ls.length, ls[c] = least (kc x) (ls.take j)) ∧ Ext w2 wr) (fun i _ _ => M - (intOf i).toNat)
   case atStart => exact ⟨1, 0, by omega, by omega, by omega, rfl, rfl, Lib.hid ⟨by have := HM.out; omega, (least_one (by have := HM.out; omega)).symm⟩, Ext.refl _⟩
   case round =>
    obtain ⟨j, c, hj1, hj, hcM, rfl, rfl, HBEST, hW⟩ := hrel
    obtain ⟨hcl, hce⟩ := HBEST.out
    by_cases hjM : j < M
    ·have hjl : j < ls.length := by rw [HM.out]; exact hjM
     have hlt := least_take (f := kc x) hj1 hjl
     obtain ⟨⟨x1, x2⟩, x3⟩ := HL.out wr hW j hjl
     obtain ⟨⟨y1, y2⟩, y3⟩ := HL.out wr hW c hcl
     have hvj := HG.out _ (List.getElem_mem hjl)
     have hvc := HG.out _ (List.getElem_mem hcl)
     rw [← hce] at hlt
     have HLT := Lib.hid hlt
     have hq1 := fun (W : World) (h : LaySub W (AA j) ls[j] (gg j)) => l5Cost ls[j] x W (AA j) (CC j) (gg j) h x2 hvj (by omega) (by omega)
     have hq2 := fun (W : World) (h : LaySub W (AA c) ls[c] (gg c)) => l5Cost ls[c] x W (AA c) (CC c) (gg c) h y2 hvc (by omega) (by omega)
     have hcmp := fun (W : World) => specCompareCosts (ov x ls[j]) (ls[j].length : Int) (ov x ls[c]) (ls[c].length : Int) W
     have hkc := cmp_kc (x := x) hvj hvc
     obtain ⟨lj, hlj⟩ : ∃ x, ls[j].length = x := ⟨_, rfl⟩
     obtain ⟨lc, hlc⟩ : ∃ x, ls[c].length = x := ⟨_, rfl⟩
     obtain ⟨vj, hvj'⟩ : ∃ y, ov x ls[j] = y := ⟨_, rfl⟩
     obtain ⟨vc, hvc'⟩ : ∃ y, ov x ls[c] = y := ⟨_, rfl⟩
     rw [hvj', hlj, hvc', hlc] at hcmp hkc
     rw [hvj', hlj] at hq1
     rw [hvc', hlc] at hq2
     rw [hlj] at x1 x2
     rw [hlc] at y1 y2
     obtain ⟨z, hz⟩ : ∃ z, cmpC vj (lj : Int) vc (lc : Int) = z := ⟨_, rfl⟩
     rw [hz] at hcmp hkc
     have HKC := Lib.hid hkc
     have HQ1 := Lib.hid hq1
     have HQ2 := Lib.hid hq2
     have HQ3 := Lib.hid hcmp
     have HS0 := Lib.hid (show ((wr.cell? ⟨b, off + j, none⟩ = some (.slice (AA j) lj (CC j)) ∧ wr.cell? ⟨b, off + c, none⟩ = some (.slice (AA c) lc (CC c))) ∧ b < wr.heap.size) ∧ (LaySub wr (AA j) ls[j] (gg j) ∧ LaySub wr (AA c) ls[c] (gg c)) ∧ Ext w2 wr from ⟨⟨⟨x1, y1⟩, World.block_lt_of_cell? wr _ x1⟩, ⟨x3, y3⟩, hW⟩)
     clear hlt x3 y3 hce hlj hlc hvj hvc hvj' hvc' hq1 hq2 hW hcmp hkc hz
     go_wp2_with fail
     by_cases hll : z < 0
     ·have hd : decide (z < 0) = true := decide_eq_true hll
      have HR := Lib.hid (HLT.out.trans (if_pos (HKC.out.1 hll)))
      refine wp_region_held_drew (S := (fun w' => ((w'.cell? ⟨b, off + j, none⟩ = some (.slice (AA j) lj (CC j)) ∧ w'.cell? ⟨b, off + c, none⟩ = some (.slice (AA c) lc (CC c))) ∧ b < w'.heap.size) ∧ (LaySub w' (AA j) ls[j] (gg j) ∧ LaySub w' (AA c) ls[c] (gg c)) ∧ Ext w2 w')) (by kernel_rfl) ?_ (fun hHeld => ?_)
      ·exact keepB HS0.out (Ext.drew (Ext.refl _))
      refine wpAnyH_take (i := 0) (v := ?_) rfl (by kernel_rfl) (by kernel_rfl) (by kernel_rfl) (fun _ _ _ h => h) (Or.inl ⟨by rfl, ?_⟩) (by assumption) ?_
      rotate_left
      ·(intro w hSw; (try dsimp only at hSw); (go_simp <;> with_reducible rfl))
      try simp only [Act.put, zpu, zpgBeX]
      refine wpAnyH_take (i := 1) (v := ?_) rfl (by kernel_rfl) (by kernel_rfl) (by kernel_rfl) (fun _ _ _ h => h) (Or.inl ⟨by rfl, ?_⟩) (by assumption) ?_
      rotate_left
      ·(intro w hSw; (try dsimp only at hSw); (go_simp <;> with_reducible rfl))
      try simp only [Act.put, zpu, zpgBeX]
      refine wpAnyH_take (i := 2) (v := ?_) rfl (by kernel_rfl) (by kernel_rfl) (by kernel_rfl) (fun _ _ _ h => h) (Or.inl ⟨by rfl, ?_⟩) (by assumption) ?_
      rotate_left
      ·(intro w hSw; (try dsimp only at hSw); (go_simp <;> with_reducible rfl))
      try simp only [Act.put, zpu, zpgBeX]
      refine wpAnyH_take (i := 3) (v := ?_) rfl (by kernel_rfl) (by kernel_rfl) (by kernel_rfl) (fun _ _ _ h => h) (Or.inl ⟨by rfl, ?_⟩) (by assumption) ?_
      rotate_left
      ·(intro w hSw; (try dsimp only at hSw); (go_simp <;> with_reducible rfl))
      try simp only [Act.put, zpu, zpgBeX]
      refine wpAnyH_take (i := 4) (v := ?_) rfl (by kernel_rfl) (by kernel_rfl) (by kernel_rfl) (fun _ _ _ h => h) (Or.inl ⟨by rfl, ?_⟩) (by assumption) ?_
      rotate_left
      ·(intro w hSw; (try dsimp only at hSw); (go_simp <;> with_reducible rfl))
      try simp only [Act.put, zpu, zpgBeX]
      refine wpAnyH_take (i := 6) (v := ?_) rfl (by kernel_rfl) (by kernel_rfl) (by kernel_rfl) (fun _ _ _ h => h) (Or.inl ⟨by rfl, ?_⟩) (by assumption) ?_
      rotate_left
      ·(intro w hSw; (try dsimp only at hSw); (go_simp <;> with_reducible rfl))
      try simp only [Act.put, zpu, zpgBeX]
      refine wpAnyH_take (i := 7) (v := ?_) rfl (by kernel_rfl) (by kernel_rfl) (by kernel_rfl) (fun _ _ _ h => h) (Or.inl ⟨by rfl, ?_⟩) (by assumption) ?_
      rotate_left
      ·(intro w hSw; (try dsimp only at hSw); (go_simp <;> with_reducible rfl))
      try simp only [Act.put, zpu, zpgBeX]
      refine wpAnyH_take (i := 8) (v := ?_) rfl (by kernel_rfl) (by kernel_rfl) (by kernel_rfl) (fun _ _ _ h => h) (Or.inl ⟨by rfl, ?_⟩) (by assumption) ?_
      rotate_left
      ·(intro w hSw; (try dsimp only at hSw); (go_simp <;> with_reducible rfl))
      try simp only [Act.put, zpu, zpgBeX]
      refine wpAnyH_take (i := 9) (v := ?_) rfl (by kernel_rfl) (by kernel_rfl) (by kernel_rfl) (fun _ _ _ h => h) (Or.inl ⟨by rfl, ?_⟩) (by assumption) ?_
      rotate_left
      ·(intro w hSw; (try dsimp only at hSw); (go_simp <;> with_reducible rfl))
      try simp only [Act.put, zpu, zpgBeX]
      refine wpAnyH_take (i := 10) (v := ?_) rfl (by kernel_rfl) (by kernel_rfl) (by kernel_rfl) (fun _ _ _ h => h) (Or.inl ⟨by rfl, ?_⟩) (by assumption) ?_
      rotate_left
      ·(intro w hSw; (try dsimp only at hSw); (go_simp <;> with_reducible rfl))
      try simp only [Act.put, zpu, zpgBeX]
      refine wpAnyH_ready (rs := [5]) (by kernel_rfl) (by simp) ?_
      refine AllReadyH.cons rfl (fun K hK => ?_) AllReadyH.nil
      go_simp
      go_at_call 52
      refine (HQ1.out _ hHeld.2.1.1).mono ?_
      rintro e3 w3 ⟨rfl, hb3⟩
      have K3 := Lib.hid (keepB hHeld hb3)
      clear hb3
      try go_wp2_with fail
      refine hK.out _ _ ?_ (fun hHeld5 => ?_)
      ·exact K3.out
      clear hK K hHeld
      try simp only [Act.put, zpu, zpgBeX]
      refine wpAnyH_ready (rs := [11]) (by kernel_rfl) (by simp) ?_
      refine AllReadyH.cons rfl (fun K hK => ?_) AllReadyH.nil
      go_simp
      go_at_call 52
      refine (HQ2.out _ hHeld5.2.1.2).mono ?_
      rintro e4 w4 ⟨rfl, hb4⟩
      have K4 := Lib.hid (keepB hHeld5 hb4)
      clear hb4
      try go_wp2_with fail
      refine hK.out _ _ ?_ (fun hHeld11 => ?_)
      ·exact K4.out
      clear hK K hHeld5
      try simp only [Act.put, zpu, zpgBeX]
      refine wpAnyH_ready (rs := [12]) (by kernel_rfl) (by simp) ?_
      refine AllReadyH.cons rfl (fun K hK => ?_) AllReadyH.nil
      go_simp
      go_at_call 77
      refine (HQ3.out _).mono ?_
      rintro e5 w5 ⟨rfl, hb5⟩
      have K5 := Lib.hid (keepB hHeld11 hb5)
      clear hb5
      try go_wp2_with fail
      refine hK.out _ _ ?_ (fun hHeld12 => ?_)
      ·exact K5.out
      clear hK K hHeld11
      try simp only [Act.put, zpu, zpgBeX]
      refine wpAnyH_take (i := 13) (v := ?_) rfl (by kernel_rfl) (by kernel_rfl) (by kernel_rfl) (fun _ _ _ h => h) (Or.inl ⟨by rfl, ?_⟩) (by assumption) ?_
      rotate_left
      ·(intro w hSw; (try dsimp only at hSw); (go_simp <;> with_reducible rfl))
      try simp only [Act.put, zpu, zpgBeX]
      refine wpAnyH_done (by kernel_rfl) ?_ _
      go_wp2_with fail
      go_roundw
      case rel => exact ⟨j + 1, j, by omega, by omega, by omega, by go_num, rfl, Lib.hid ⟨hjl, HR.out.symm⟩, K5.out.2.2⟩
      case measure => simp [intOf]; omega
     ·have hd : decide (z < 0) = false := decide_eq_false hll
      have HR := Lib.hid (HLT.out.trans (if_neg (fun e => hll (HKC.out.2 e))))
      refine wp_region_held_drew (S := (fun w' => ((w'.cell? ⟨b, off + j, none⟩ = some (.slice (AA j) lj (CC j)) ∧ w'.cell? ⟨b, off + c, none⟩ = some (.slice (AA c) lc (CC c))) ∧ b < w'.heap.size) ∧ (LaySub w' (AA j) ls[j] (gg j) ∧ LaySub w' (AA c) ls[c] (gg c)) ∧ Ext w2 w')) (by kernel_rfl) ?_ (fun hHeld => ?_)
      ·exact keepB HS0.out (Ext.drew (Ext.refl _))
      refine wpAnyH_take (i := 0) (v := ?_) rfl (by kernel_rfl) (by kernel_rfl) (by kernel_rfl) (fun _ _ _ h => h) (Or.inl ⟨by rfl, ?_⟩) (by assumption) ?_
      rotate_left
      ·(intro w hSw; (try dsimp only at hSw); (go_simp <;> with_reducible rfl))
      try simp only [Act.put, zpu, zpgBeX]
      refine wpAnyH_take (i := 1) (v := ?_) rfl (by kernel_rfl) (by kernel_rfl) (by kernel_rfl) (fun _ _ _ h => h) (Or.inl ⟨by rfl, ?_⟩) (by assumption) ?_
      rotate_left
      ·(intro w hSw; (try dsimp only at hSw); (go_simp <;> with_reducible rfl))
      try simp only [Act.put, zpu, zpgBeX]
      refine wpAnyH_take (i := 2) (v := ?_) rfl (by kernel_rfl) (by kernel_rfl) (by kernel_rfl) (fun _ _ _ h => h) (Or.inl ⟨by rfl, ?_⟩) (by assumption) ?_
      rotate_left
      ·(intro w hSw; (try dsimp only at hSw); (go_simp <;> with_reducible rfl))
      try simp only [Act.put, zpu, zpgBeX]
      refine wpAnyH_take (i := 3) (v := ?_) rfl (by kernel_rfl) (by kernel_rfl) (by kernel_rfl) (fun _ _ _ h => h) (Or.inl ⟨by rfl, ?_⟩) (by assumption) ?_
      rotate_left
      ·(intro w hSw; (try dsimp only at hSw); (go_simp <;> with_reducible rfl))
      try simp only [Act.put, zpu, zpgBeX]
      refine wpAnyH_take (i := 4) (v := ?_) rfl (by kernel_rfl) (by kernel_rfl) (by kernel_rfl) (fun _ _ _ h => h) (Or.inl ⟨by rfl, ?_⟩) (by assumption) ?_
      rotate_left
      ·(intro w hSw; (try dsimp only at hSw); (go_simp <;> with_reducible rfl))
      try simp only [Act.put, zpu, zpgBeX]
      refine wpAnyH_take (i := 6) (v := ?_) rfl (by kernel_rfl) (by kernel_rfl) (by kernel_rfl) (fun _ _ _ h => h) (Or.inl ⟨by rfl, ?_⟩) (by assumption) ?_
      rotate_left
      ·(intro w hSw; (try dsimp only at hSw); (go_simp <;> with_reducible rfl))
      try simp only [Act.put, zpu, zpgBeX]
      refine wpAnyH_take (i := 7) (v := ?_) rfl (by kernel_rfl) (by kernel_rfl) (by kernel_rfl) (fun _ _ _ h => h) (Or.inl ⟨by rfl, ?_⟩) (by assumption) ?_
      rotate_left
      ·(intro w hSw; (try dsimp only at hSw); (go_simp <;> with_reducible rfl))
      try simp only [Act.put, zpu, zpgBeX]
      refine wpAnyH_take (i := 8) (v := ?_) rfl (by kernel_rfl) (by kernel_rfl) (by kernel_rfl) (fun _ _ _ h => h) (Or.inl ⟨by rfl, ?_⟩) (by assumption) ?_
      rotate_left
      ·(intro w hSw; (try dsimp only at hSw); (go_simp <;> with_reducible rfl))
      try simp only [Act.put, zpu, zpgBeX]
      refine wpAnyH_take (i := 9) (v := ?_) rfl (by kernel_rfl) (by kernel_rfl) (by kernel_rfl) (fun _ _ _ h => h) (Or.inl ⟨by rfl, ?_⟩) (by assumption) ?_
      rotate_left
      ·(intro w hSw; (try dsimp only at hSw); (go_simp <;> with_reducible rfl))
      try simp only [Act.put, zpu, zpgBeX]
      refine wpAnyH_take (i := 10) (v := ?_) rfl (by kernel_rfl) (by kernel_rfl) (by kernel_rfl) (fun _ _ _ h => h) (Or.inl ⟨by rfl, ?_⟩) (by assumption) ?_
      rotate_left
      ·(intro w hSw; (try dsimp only at hSw); (go_simp <;> with_reducible rfl))
      try simp only [Act.put, zpu, zpgBeX]
      refine wpAnyH_ready (rs := [5]) (by kernel_rfl) (by simp) ?_
      refine AllReadyH.cons rfl (fun K hK => ?_) AllReadyH.nil
      go_simp
      go_at_call 52
      refine (HQ1.out _ hHeld.2.1.1).mono ?_
      rintro e3 w3 ⟨rfl, hb3⟩
      have K3 := Lib.hid (keepB hHeld hb3)
      clear hb3
      try go_wp2_with fail
      refine hK.out _ _ ?_ (fun hHeld5 => ?_)
      ·exact K3.out
      clear hK K hHeld
      try simp only [Act.put, zpu, zpgBeX]
      refine wpAnyH_ready (rs := [11]) (by kernel_rfl) (by simp) ?_
      refine AllReadyH.cons rfl (fun K hK => ?_) AllReadyH.nil
      go_simp
      go_at_call 52
      refine (HQ2.out _ hHeld5.2.1.2).mono ?_
      rintro e4 w4 ⟨rfl, hb4⟩
      have K4 := Lib.hid (keepB hHeld5 hb4)
      clear hb4
      try go_wp2_with fail
      refine hK.out _ _ ?_ (fun hHeld11 => ?_)
      ·exact K4.out
      clear hK K hHeld5
      try simp only [Act.put, zpu, zpgBeX]
      refine wpAnyH_ready (rs := [12]) (by kernel_rfl) (by simp) ?_
      refine AllReadyH.cons rfl (fun K hK => ?_) AllReadyH.nil
      go_simp
      go_at_call 77
      refine (HQ3.out _).mono ?_
      rintro e5 w5 ⟨rfl, hb5⟩
      have K5 := Lib.hid (keepB hHeld11 hb5)
      clear hb5
      try go_wp2_with fail
      refine hK.out _ _ ?_ (fun hHeld12 => ?_)
      ·exact K5.out
      clear hK K hHeld11
      try simp only [Act.put, zpu, zpgBeX]
      refine wpAnyH_take (i := 13) (v := ?_) rfl (by kernel_rfl) (by kernel_rfl) (by kernel_rfl) (fun _ _ _ h => h) (Or.inl ⟨by rfl, ?_⟩) (by assumption) ?_
      rotate_left
      ·(intro w hSw; (try dsimp only at hSw); (go_simp <;> with_reducible rfl))
      try simp only [Act.put, zpu, zpgBeX]
      refine wpAnyH_done (by kernel_rfl) ?_ _
      go_wp2_with fail
      go_roundw
      case rel => exact ⟨j + 1, c, by omega, by omega, by omega, by go_num, rfl, Lib.hid ⟨hcl, HR.out.symm⟩, K5.out.2.2⟩
      case measure => simp [intOf]; omega
    ·obtain rfl : j = M := by omega
     have htk : ls.take j = ls := List.take_of_length_le (by have := HM.out; omega)
     rw [htk] at hce
     obtain ⟨⟨x1, x2⟩, x3⟩ := HL.out wr hW c hcl
     have hfr := HFR.out wr hW c hcl
     have HR := Lib.hid (And.intro x2 (And.intro x3 (And.intro hfr (HB.out.trans hW))))
     rw [hce] at HR x1
     have hnl : ¬ (j < ls.length) := by have := HM.out; omega
     clear x2 x3 hfr hW HBEST hce
     go_wp2_with fail
     go_ret2
     exact ⟨AA c, CC c, gg c, rfl, HR.out.1, HR.out.2.1, HR.out.2.2.1, HR.out.2.2.2⟩
def CoOut (w : World) (R : Int × Int × Bool) (e : Ending) (w' : World) : Prop := e = .returned (.tuple #[.agg #[.int .i64 R.1, .int .i64 R.2.1], .bool R.2.2]) ∧ Below w.heap.size w w'
theorem specBestCost (hs : SubAt w a k fs) (hfs : ∀ c ∈ fs, c < w.heap.size) (hc : k.len ≤ cap) (hsz : t.size + k.size ≤ 2000000) (hft : k.Fits) (ht : t.size ≤ maxLen) :
  Calls Tryz.prog 32 #[.agg #[.int .i64 o, .int .i64 n, .string t, .slice a k.len cap], .int .i64 x] w (CoOut w (bcR x o n t k)) := by
 have B1 := Lib.hid (show ∀ ob ob', Ext w ((w.alloc ob).alloc ob') from fun ob ob' => ((Ext.refl w).alloc _).alloc _)
 have HS := Lib.hid (fun (w1 : World) (hw1 : Ext w w1) => l5Best x w1 o n t k a cap fs (hs.below hfs hw1) (fun c hc => Nat.lt_of_lt_of_le (hfs c hc) hw1.size) hc hsz hft ht)
 have HBN := Lib.hid (fun h => bc_no (x := x) (o := o) (n := n) (t := t) (k := k) h)
 have HBY := Lib.hid (fun h => And.intro (bc_yes (x := x) (o := o) (n := n) (t := t) (k := k) h) (be_lv (x := x) (o := o) (n := n) (t := t) (k := k) h))
 obtain ⟨Q, hQ⟩ : ∃ Q, bcR x o n t k = Q := ⟨_, rfl⟩
 rw [hQ] at HBN HBY ⊢
 obtain ⟨⟨l, ok⟩, hR⟩ : ∃ R, beR x o n t k = R := ⟨_, rfl⟩
 rw [hR] at HS HBN HBY
 clear hs hfs hR hQ
 unfold CoOut
 go_enter Tryz.func32, Tryz.ntmps32
 go_wp2_with fail
 refine (HS.out _ (B1.out _ _)).mono ?_
 rintro e2 w2 ⟨a2, c2, f2, rfl, hc2, hs2, hf2, hb2⟩
 cases ok with
 | false =>
   obtain rfl := HBN.out rfl
   have HB := Lib.hid ((B1.out _ _).trans hb2)
   have hcx := cell0 (w := w.alloc (.cells #[.int .i64 o, .int .i64 n, .string t, .slice a k.len cap] 25)) (o := .cells #[] 0) hb2
   simp only [World.size_alloc] at hcx
   obtain ⟨c0, c1, z0, z1, cl⟩ := hcx
   clear hb2 hs2 hf2 hc2
   go_wp2_with fail
   obtain ⟨r0, r1, rl⟩ := pair_set (u := .int .i64 0) (u' := .int .i64 0) c0 c1 cl
   refine bodyPost_ret (v := .tuple #[.agg #[.int .i64 0, .int .i64 0], .bool false]) (by simp [results, Tryz.results32, go_sem, r0, r1, rl]) rfl ?_
   exact ⟨rfl, (HB.out.setNew (Nat.le_succ _) _).setNew (Nat.le_succ _) _⟩
 | true =>
   obtain ⟨hqe, hlv, hwx, _⟩ := HBY.out rfl
   have hbx := wv_bd hwx
   have HC := Lib.hid (fun (W : World) (h : Ext w2 W) => l5Cost l x W a2 c2 f2 (hs2.below hs2.lt h) hc2 hlv hbx.1 (by omega))
   have HB := Lib.hid (And.intro hb2 ((B1.out _ _).trans hb2))
   have hl200 := (lv_len hlv).2
   obtain ⟨m, hm⟩ : ∃ m, l.length = m := ⟨_, rfl⟩
   obtain ⟨v, hv⟩ : ∃ v, ov x l = v := ⟨_, rfl⟩
   rw [hm, hv] at HC
   rw [hm, hv] at hqe
   rw [hm] at hc2 hl200 ⊢
   have HQE := Lib.hid hqe
   clear hs2 hf2 hm hv hlv hwx hb2 hqe
   go_wp2_with fail
   refine (HC.out _ (Ext.refl _)).mono ?_
   rintro e3 w3 ⟨rfl, hb3⟩
   have hcx := cell0 (w := w.alloc (.cells #[.int .i64 o, .int .i64 n, .string t, .slice a k.len cap] 25)) (o := .cells #[] 0) (HB.out.1.trans (hb3.mono HB.out.1.size))
   simp only [World.size_alloc] at hcx
   obtain ⟨c0, c1, z0, z1, cl⟩ := hcx
   have H3 := Lib.hid (HB.out.2.trans hb3)
   clear hb3
   go_wp2_with fail
   obtain ⟨r0, r1, rl⟩ := pair_set (u := .int .i64 v) (u' := .int .i64 (m : Int)) c0 c1 cl
   refine bodyPost_ret (v := .tuple #[.agg #[.int .i64 v, .int .i64 (m : Int)], .bool true]) (by simp [results, Tryz.results32, go_sem, r0, r1, rl]) rfl ?_
   exact ⟨by rw [HQE.out], (H3.out.setNew (Nat.le_succ _) _).setNew (Nat.le_succ _) _⟩
end
end Go.Proofs.YtclifbjnooilmaaGreat.Be
namespace Go.Proofs.YtclifbjnooilmaaGreat.Be
open Go.RowKit Go.Shelf P1 LayL LayV LayM LayN LayC Cnt CntC Wid ChP Tr ChT ChC Rf It Cst
open Ls hiding Lay
theorem keepC {w2 w' w'' : World} {b : Nat} {u : Value} {a a' : Option Addr} {l l' : Lay} {f f' : List Nat} (h : (w'.cell? ⟨b, 0, none⟩ = some u ∧ b < w'.heap.size) ∧ (LaySub w' a l f ∧ LaySub w' a' l' f') ∧ Ext w2 w') (k : Ext w' w'') :
  (w''.cell? ⟨b, 0, none⟩ = some u ∧ b < w''.heap.size) ∧ (LaySub w'' a l f ∧ LaySub w'' a' l' f') ∧ Ext w2 w'' :=
 ⟨⟨(k.cell h.1.2).trans h.1.1, Nat.lt_of_lt_of_le h.1.2 k.size⟩, ⟨h.2.1.1.below h.2.1.1.lt k, h.2.1.2.below h.2.1.2.lt k⟩, h.2.2.trans k⟩
theorem bestCmp (x : Int) (hx0 : 0 ≤ x) (hx1 : x ≤ 200) (p q : Lay) (hp : lv p = true) (hq : lv q = true) (w : World) (b : Nat) (hb : w.cell? ⟨b, 0, none⟩ = some (.int .i64 x)) (ap aq : Option Addr) (cp cq : Nat) (fp fq : List Nat) (hsp : LaySub w ap p fp) (hsq : LaySub w aq q fq) (hcp : p.length ≤ cp) (hcq : q.length ≤ cq) :
  Calls Tryz.prog 76 #[.slice ap p.length cp, .slice aq q.length cq, .pointer (some ⟨b, 0, none⟩)] w fun e w' => e = .returned (.int .i64 (cmpC (ov x p) (p.length : Int) (ov x q) (q.length : Int))) ∧ Below w.heap.size w w' := by
 have hq1 := fun (W : World) (h : LaySub W ap p fp) => rowsCost p x W ap cp fp h hcp hp hx0 (by omega)
 have hq2 := fun (W : World) (h : LaySub W aq q fq) => rowsCost q x W aq cq fq h hcq hq hx0 (by omega)
 have hcmp := fun (W : World) => compareM (ov x p) (p.length : Int) (ov x q) (q.length : Int) W
 obtain ⟨lp, hlp⟩ : ∃ y, p.length = y := ⟨_, rfl⟩
 obtain ⟨lq, hlq⟩ : ∃ y, q.length = y := ⟨_, rfl⟩
 obtain ⟨vp, hvp⟩ : ∃ y, ov x p = y := ⟨_, rfl⟩
 obtain ⟨vq, hvq⟩ : ∃ y, ov x q = y := ⟨_, rfl⟩
 rw [hvp, hlp, hvq, hlq] at hcmp
 rw [hvp, hlp] at hq1
 rw [hvq, hlq] at hq2
 rw [hvp, hlp, hvq, hlq]
 obtain ⟨z, hz⟩ : ∃ z, cmpC vp (lp : Int) vq (lq : Int) = z := ⟨_, rfl⟩
 rw [hz] at hcmp ⊢
 have HQ1 := Lib.hid hq1
 have HQ2 := Lib.hid hq2
 have HQ3 := Lib.hid hcmp
 have HS0 := Lib.hid (show (w.cell? ⟨b, 0, none⟩ = some (.int .i64 x) ∧ b < w.heap.size) ∧ (LaySub w ap p fp ∧ LaySub w aq q fq) ∧ Ext w w from ⟨⟨hb, World.block_lt_of_cell? w _ hb⟩, ⟨hsp, hsq⟩, Ext.refl _⟩)
 clear hq1 hq2 hcmp hlp hlq hvp hvq hz hsp hsq hp hq hcp hcq
 go_enter Tryz.func76, Tryz.ntmps76
 go_wp2_with fail
 refine wp_region_held_drew (S := (fun w' => (w'.cell? ⟨b, 0, none⟩ = some (.int .i64 x) ∧ b < w'.heap.size) ∧ (LaySub w' ap p fp ∧ LaySub w' aq q fq) ∧ Ext w w')) (by kernel_rfl) ?_ (fun hHeld => ?_)
 ·exact keepC HS0.out (Ext.drew (Ext.refl _))
 refine wpAnyH_take (i := 0) (v := ?_) rfl (by kernel_rfl) (by kernel_rfl) (by kernel_rfl) (fun _ _ _ h => h) (Or.inl ⟨by rfl, ?_⟩) (by assumption) ?_
 rotate_left
 ·(intro w hSw; (try dsimp only at hSw); (go_simp <;> with_reducible rfl))
 try simp only [Act.put, zpu, zpgBeX]
 refine wpAnyH_take (i := 1) (v := ?_) rfl (by kernel_rfl) (by kernel_rfl) (by kernel_rfl) (fun _ _ _ h => h) (Or.inl ⟨by rfl, ?_⟩) (by assumption) ?_
 rotate_left
 ·(intro w hSw; (try dsimp only at hSw); (go_simp <;> with_reducible rfl))
 try simp only [Act.put, zpu, zpgBeX]
 refine wpAnyH_take (i := 3) (v := ?_) rfl (by kernel_rfl) (by kernel_rfl) (by kernel_rfl) (fun _ _ _ h => h) (Or.inl ⟨by rfl, ?_⟩) (by assumption) ?_
 rotate_left
 ·(intro w hSw; (try dsimp only at hSw); (go_simp <;> with_reducible rfl))
 try simp only [Act.put, zpu, zpgBeX]
 refine wpAnyH_take (i := 4) (v := ?_) rfl (by kernel_rfl) (by kernel_rfl) (by kernel_rfl) (fun _ _ _ h => h) (Or.inl ⟨by rfl, ?_⟩) (by assumption) ?_
 rotate_left
 ·(intro w hSw; (try dsimp only at hSw); (go_simp <;> with_reducible rfl))
 try simp only [Act.put, zpu, zpgBeX]
 refine wpAnyH_ready (rs := [2]) (by kernel_rfl) (by simp) ?_
 refine AllReadyH.cons rfl (fun K hK => ?_) AllReadyH.nil
 go_simp
 go_at_call 45
 refine (HQ1.out _ hHeld.2.1.1).mono ?_
 rintro e3 w3 ⟨rfl, hb3⟩
 have K3 := Lib.hid (keepC hHeld hb3)
 clear hb3
 try go_wp2_with fail
 refine hK.out _ _ ?_ (fun hHeld2 => ?_)
 ·exact K3.out
 clear hK K hHeld
 try simp only [Act.put, zpu, zpgBeX]
 refine wpAnyH_ready (rs := [5]) (by kernel_rfl) (by simp) ?_
 refine AllReadyH.cons rfl (fun K hK => ?_) AllReadyH.nil
 go_simp
 go_at_call 45
 refine (HQ2.out _ hHeld2.2.1.2).mono ?_
 rintro e4 w4 ⟨rfl, hb4⟩
 have K4 := Lib.hid (keepC hHeld2 hb4)
 clear hb4
 try go_wp2_with fail
 refine hK.out _ _ ?_ (fun hHeld5 => ?_)
 ·exact K4.out
 clear hK K hHeld2
 try simp only [Act.put, zpu, zpgBeX]
 refine wpAnyH_ready (rs := [6]) (by kernel_rfl) (by simp) ?_
 refine AllReadyH.cons rfl (fun K hK => ?_) AllReadyH.nil
 go_simp
 go_at_call 48
 refine (HQ3.out _).mono ?_
 rintro e5 w5 ⟨rfl, hb5⟩
 have K5 := Lib.hid (keepC hHeld5 hb5)
 clear hb5
 try go_wp2_with fail
 refine hK.out _ _ ?_ (fun hHeld6 => ?_)
 ·exact K5.out
 clear hK K hHeld5
 try simp only [Act.put, zpu, zpgBeX]
 refine wpAnyH_take (i := 7) (v := ?_) rfl (by kernel_rfl) (by kernel_rfl) (by kernel_rfl) (fun _ _ _ h => h) (Or.inl ⟨by rfl, ?_⟩) (by assumption) ?_
 rotate_left
 ·(intro w hSw; (try dsimp only at hSw); (go_simp <;> with_reducible rfl))
 try simp only [Act.put, zpu, zpgBeX]
 refine wpAnyH_done (by kernel_rfl) ?_ _
 go_wp2_with fail
 go_ret
 exact ⟨rfl, K5.out.2.2⟩
theorem minFunc (x : Int) (hx0 : 0 ≤ x) (hx1 : x ≤ 200) (ls : List Lay) (hg : ∀ l ∈ ls, lv l = true) (hpos : 0 < ls.length) (hn : ls.length ≤ 1000) (w : World) (b : Nat) (hb : w.cell? ⟨b, 0, none⟩ = some (.int .i64 x)) (a : Option Addr) (cap : Nat) (fs : List Nat) (hs : LLSub w a ls fs) (hnd : fs.Nodup) (hc : ls.length ≤ cap) :
  Calls Tryz.prog 75 #[.slice a ls.length cap, .func (.func 76) #[] #[.pointer (some ⟨b, 0, none⟩)]] w fun e w' => ∃ (a1 : Option Addr) (c1 : Nat) (f1 : List Nat), e = .returned (.slice a1 (least (kc x) ls).length c1) ∧ (least (kc x) ls).length ≤ c1 ∧ LaySub w' a1 (least (kc x) ls) f1 ∧ f1.Nodup ∧ (∀ q ∈ f1, q ∈ fs) ∧ Below w.heap.size w w' := by
 have HG := Lib.hid hg
 obtain ⟨bb, off, AA, CC, gg, hfam, hdis⟩ := hs.fam hnd
 have HFAM := Lib.hid (And.intro hs.lt hfam)
 have hb0 := (hfam 0 hpos).1
 subst hb0
 obtain ⟨M, hM⟩ : ∃ M, ls.length = M := ⟨_, rfl⟩
 have HM := Lib.hid hM
 have HL := Lib.hid (show ∀ W, Below w.heap.size w W → ∀ j, (hj : j < ls.length) → (W.cell? ⟨bb, off + j, none⟩ = some (.slice (AA j) ls[j].length (CC j)) ∧ ls[j].length ≤ CC j) ∧ LaySub W (AA j) ls[j] (gg j) from fun W hW j hj => by
  obtain ⟨_, hbm, h1, h2, h3, h4, h5⟩ := HFAM.out.2 j hj
  exact ⟨⟨(hW.cell (HFAM.out.1 bb hbm)).trans h1, h2⟩, h3.below h3.lt hW⟩)
 have HFR := Lib.hid (show ∀ j, (hj : j < ls.length) → (gg j).Nodup ∧ ∀ q ∈ gg j, q ∈ fs from fun j hj => by
  obtain ⟨_, hbm, h1, h2, h3, h4, h5⟩ := HFAM.out.2 j hj
  exact ⟨h5, h4⟩)
 have HB := Lib.hid (show ∀ W, Below w.heap.size w W → W.cell? ⟨b, 0, none⟩ = some (.int .i64 x) from fun W hW => (hW.cell (p := ⟨b, 0, none⟩) (World.block_lt_of_cell? w _ hb)).trans hb)
 have x0 := (HL.out w (Below.refl _ _) 0 hpos).1.1
 have hpz := hpos
 rw [hM] at hpos hn hc ⊢
 have hM1 : ¬ ((M : Int) < 1) := by omega
 have hM0 : (0 : Int) < (M : Int) := by omega
 have hM2 : ¬ (M < 1) := by omega
 rw [Nat.add_zero] at x0
 clear hs hfam hdis hM hg hb
 go_enter Tryz.func75, Tryz.ntmps75
 go_wp2_with fail
 go_loopw [6, 5] (fun i v wr => ∃ (j c : Nat), 1 ≤ j ∧ j ≤ M ∧ c < M ∧ i = .int .i64 (j : Int) ∧ (∃ hcl : c < ls.length, v = .slice (AA c) ls[c].length (CC c) ∧ Hid (ls[c] = least (kc x) (ls.take j))) ∧ Below w.heap.size w wr) (fun i _ _ => M - (intOf i).toNat)
 case atStart => exact ⟨1, 0, by omega, by omega, by omega, rfl, ⟨hpz, rfl, Lib.hid (least_one hpz).symm⟩, Below.refl _ _⟩
 case round =>
  clear x0
  obtain ⟨j, c, hj1, hj, hcM, rfl, ⟨hcl, rfl, HBEST⟩, hW⟩ := hrel
  by_cases hjM : j < M
  ·have hjl : j < ls.length := by rw [HM.out]; exact hjM
   have hlt := least_take (f := kc x) hj1 hjl
   obtain ⟨⟨x1, x2⟩, x3⟩ := HL.out wr hW j hjl
   obtain ⟨⟨y1, y2⟩, y3⟩ := HL.out wr hW c hcl
   have hvj := HG.out _ (List.getElem_mem hjl)
   have hvc := HG.out _ (List.getElem_mem hcl)
   rw [← HBEST.out] at hlt
   have HLT := Lib.hid hlt
   have hcmp := bestCmp x hx0 hx1 ls[j] ls[c] hvj hvc wr b (HB.out wr hW) (AA j) (AA c) (CC j) (CC c) (gg j) (gg c) x3 y3 x2 y2
   have hkc := cmp_kc (x := x) hvj hvc
   obtain ⟨z, hz⟩ : ∃ z, cmpC (ov x ls[j]) (ls[j].length : Int) (ov x ls[c]) (ls[c].length : Int) = z := ⟨_, rfl⟩
   rw [hz] at hcmp hkc
   obtain ⟨lj, hlj⟩ : ∃ y, ls[j].length = y := ⟨_, rfl⟩
   have HLJ := Lib.hid hlj
   obtain ⟨lc, hlc⟩ : ∃ y, ls[c].length = y := ⟨_, rfl⟩
   have HLC := Lib.hid hlc
   rw [hlj, hlc] at hcmp
   rw [hlj] at x1 x2
   rw [hlc] at y1 y2
   have HCMP := Lib.hid hcmp
   have HKC := Lib.hid hkc
   have HW := Lib.hid hW
   have hbbl : bb < wr.heap.size := World.block_lt_of_cell? wr _ x1
   have j0 : (0 : Int) ≤ (j : Int) := Int.natCast_nonneg _
   have j1 : (j : Int) < (M : Int) := by omega
   try rw [hlc]
   clear hlt x3 y3 hvj hvc hcmp hkc hz hW hlj hlc y1
   by_cases hll : z < 0
   ·have hd : decide (z < 0) = true := decide_eq_true hll
    have HR := Lib.hid (HLT.out.trans (if_pos (HKC.out.1 hll)))
    go_wp2_with fail
    refine HCMP.out.mono ?_
    rintro e1 w1 ⟨rfl, hb1⟩
    have hbx := hb1.cell (p := ⟨bb, off + j, none⟩) hbbl
    rw [x1] at hbx
    have hbl1 : bb < w1.heap.size := Nat.lt_of_lt_of_le hbbl hb1.size
    have H1 := Lib.hid (HW.out.trans (hb1.mono HW.out.size))
    clear hb1 x1
    go_wp2_with fail
    go_roundw
    case rel => exact ⟨j + 1, j, by omega, by omega, by omega, by go_num, ⟨hjl, by rw [HLJ.out], Lib.hid HR.out.symm⟩, H1.out⟩
    case measure => simp [intOf]; omega
   ·have hd : decide (z < 0) = false := decide_eq_false hll
    have HR := Lib.hid (HLT.out.trans (if_neg (fun e => hll (HKC.out.2 e))))
    go_wp2_with fail
    refine HCMP.out.mono ?_
    rintro e1 w1 ⟨rfl, hb1⟩
    have H1 := Lib.hid (HW.out.trans (hb1.mono HW.out.size))
    clear hb1 x1
    go_wp2_with fail
    go_roundw
    case rel => exact ⟨j + 1, c, by omega, by omega, by omega, by go_num, ⟨hcl, by rw [HLC.out], Lib.hid HR.out.symm⟩, H1.out⟩
    case measure => simp [intOf]; omega
  ·obtain rfl : j = M := by omega
   have htk : ls.take j = ls := List.take_of_length_le (by have := HM.out; omega)
   have hce := HBEST.out
   rw [htk] at hce
   obtain ⟨⟨x1, x2⟩, x3⟩ := HL.out wr hW c hcl
   have hfr := HFR.out c hcl
   have HR := Lib.hid (And.intro x2 (And.intro x3 (And.intro hfr.1 (And.intro hfr.2 hW))))
   rw [hce] at HR
   have HCE := Lib.hid hce
   have hnl : ¬ ((j : Int) < (j : Int)) := by omega
   clear x1 x2 x3 hfr hW HBEST hce htk
   go_wp2_with fail
   go_ret
   first
    | exact ⟨AA c, CC c, gg c, by rw [HCE.out], HR.out.1, HR.out.2.1, HR.out.2.2.1, HR.out.2.2.2.1, HR.out.2.2.2.2⟩
    | exact ⟨AA c, CC c, by rw [← HCE.out]; rfl, HR.out.1, gg c, HR.out.2.1, HR.out.2.2.1, HR.out.2.2.2.1, HR.out.2.2.2.2⟩
theorem bestOf (x : Int) (hx0 : 0 ≤ x) (hx1 : x ≤ 200) (ls : List Lay) (hg : ∀ l ∈ ls, lv l = true) (hpos : 0 < ls.length) (hn : ls.length ≤ 1000) (w : World) (a : Option Addr) (cap : Nat) (fs : List Nat) (hs : LLSub w a ls fs) (hnd : fs.Nodup) (hc : ls.length ≤ cap) :
  Calls Tryz.prog 40 #[.slice a ls.length cap, .int .i64 x] w fun e w' => ∃ (a1 : Option Addr) (c1 : Nat) (f1 : List Nat), e = .returned (.slice a1 (least (kc x) ls).length c1) ∧ (least (kc x) ls).length ≤ c1 ∧ LaySub w' a1 (least (kc x) ls) f1 ∧ f1.Nodup ∧ (∀ q ∈ f1, q ∈ fs) ∧ Below w.heap.size w w' := by
 have B1 := Lib.hid (show ∀ ob, Ext w (w.alloc ob) from fun ob => (Ext.refl w).alloc _)
 have HMF := Lib.hid (fun (T : TypeId) => minFunc x hx0 hx1 ls hg hpos hn (w.alloc (.cells #[.int .i64 x] T)) w.heap.size (by rw [World.cell?_alloc_new]; rfl) a cap fs (hs.below hs.lt (B1.out _)) hnd hc)
 obtain ⟨L, hL⟩ : ∃ L, least (kc x) ls = L := ⟨_, rfl⟩
 rw [hL] at HMF ⊢
 obtain ⟨m, hm⟩ : ∃ m, ls.length = m := ⟨_, rfl⟩
 rw [hm] at HMF ⊢
 clear hs hg hL hm hpos hn hc
 go_enter Tryz.func40, Tryz.ntmps40
 go_wp2_with fail
 refine (HMF.out _).mono ?_
 rintro e1 w1 ⟨a1, c1, f1, rfl, h1, h2, h3, h4, hb⟩
 have H1 := Lib.hid (And.intro h1 (And.intro h2 (And.intro h3 (And.intro h4 ((B1.out _).trans (hb.mono (by simp)))))))
 clear h1 h2 h3 h4 hb
 go_wp2_with fail
 go_ret
 exact ⟨a1, c1, f1, rfl, H1.out.1, H1.out.2.1, H1.out.2.2.1, H1.out.2.2.2.1, H1.out.2.2.2.2⟩
section
variable (x : Int) (w : World) (o n : Int) (t : ByteArray) (k : F) (a : Option Addr) (cap : Nat) (fs : List Nat)
def inR (x o n : Int) (t : ByteArray) (k : F) : List Lay × Bool := if wv x then (laysD o n t k, toldD o n t k) else ([], false)
theorem layoutsIn (hs : SubAt w a k fs) (hfs : ∀ c ∈ fs, c < w.heap.size ∧ ∀ o, w.frozen? ⟨c, o, none⟩ = false) (hc : k.len ≤ cap) (hsz : t.size + k.size ≤ 2000000) (hft : k.Fits) (ht : t.size ≤ maxLen) :
  Calls Tryz.prog 39 #[.agg #[.int .i64 o, .int .i64 n, .string t, .slice a k.len cap], .int .i64 x] w (LLOut w (inR x o n t k).1 (inR x o n t k).2) := by
 have B1 := Lib.hid (show ∀ ob, Ext w (w.alloc ob) from fun ob => (Ext.refl w).alloc _)
 have HWV := Lib.hid (widthValid x)
 have HLO := Lib.hid (fun (w1 : World) (hw1 : Ext w w1) => implLayoutsOf w1 o n t k a cap fs (hs.below (fun c hc => (hfs c hc).1) hw1) (fun c hc => ⟨Nat.lt_of_lt_of_le (hfs c hc).1 hw1.size, fun x => (hw1.frozen (hfs c hc).1).trans ((hfs c hc).2 x)⟩) hc hsz hft ht)
 unfold inR
 cases hw : wv x with
 | false =>
   rw [hw] at HWV
   clear hs hfs hw
   go_enter Tryz.func39, Tryz.ntmps39
   go_wp2_with fail
   refine (HWV.out _).mono ?_
   rintro e1 w1 ⟨rfl, rfl⟩
   go_wp2_with fail
   go_ret2
   exact ⟨none, 0, [], rfl, by simp, LLSub.nil _ _, Fresh.nil _ _, B1.out _⟩
 | true =>
   rw [hw] at HWV
   simp only [if_true]
   obtain ⟨ls, hls⟩ : ∃ ls, laysD o n t k = ls := ⟨_, rfl⟩
   obtain ⟨ok, hok⟩ : ∃ ok, toldD o n t k = ok := ⟨_, rfl⟩
   rw [hls, hok] at HLO ⊢
   clear hs hfs hw hls hok
   go_enter Tryz.func39, Tryz.ntmps39
   go_wp2_with fail
   refine (HWV.out _).mono ?_
   rintro e1 w1 ⟨rfl, rfl⟩
   go_wp2_with fail
   refine (HLO.out _ (B1.out _)).mono ?_
   rintro e2 w2 ⟨a2, c2, f2, rfl, hc2, hs2, hf2, hb2⟩
   have H2 := Lib.hid (And.intro hc2 (And.intro hs2 (And.intro (hf2.mono (by simp : w.heap.size ≤ _)) ((B1.out _).trans hb2))))
   clear hc2 hs2 hf2 hb2
   go_wp2_with fail
   go_ret2
   exact ⟨a2, c2, f2, rfl, H2.out.1, H2.out.2.1, H2.out.2.2.1, H2.out.2.2.2⟩
theorem in_yes {x o n : Int} {t : ByteArray} {k : F} (h : (inR x o n t k).2 = true) : wv x = true ∧ toldD o n t k = true ∧ (inR x o n t k).1 = laysD o n t k := by
 unfold inR at h ⊢
 cases hw : wv x with
 | false => rw [hw] at h; cases h
 | true => rw [hw] at h; exact ⟨rfl, h, by simp⟩
theorem in_be {x o n : Int} {t : ByteArray} {k : F} (h : (inR x o n t k).2 = false) : beR x o n t k = ([], false) := by
 unfold inR at h
 cases hw : wv x with
 | false => exact be_no hw
 | true => rw [hw] at h; exact be_none h
theorem implBestLayout (hs : SubAt w a k fs) (hfs : ∀ c ∈ fs, c < w.heap.size ∧ ∀ o, w.frozen? ⟨c, o, none⟩ = false) (hc : k.len ≤ cap) (hsz : t.size + k.size ≤ 2000000) (hft : k.Fits) (ht : t.size ≤ maxLen) :
  Calls Tryz.prog 12 #[.agg #[.int .i64 o, .int .i64 n, .string t, .slice a k.len cap], .int .i64 x] w (LayRes w (beR x o n t k)) := by
 have B1 := Lib.hid (show ∀ ob, Ext w (w.alloc ob) from fun ob => (Ext.refl w).alloc _)
 have HLI := Lib.hid (fun (w1 : World) (hw1 : Ext w w1) => layoutsIn x w1 o n t k a cap fs (hs.below (fun c hc => (hfs c hc).1) hw1) (fun c hc => ⟨Nat.lt_of_lt_of_le (hfs c hc).1 hw1.size, fun x => (hw1.frozen (hfs c hc).1).trans ((hfs c hc).2 x)⟩) hc hsz hft ht)
 have HG := Lib.hid (lays_good (o := o) (n := n) (t := t) (k := k))
 have HLN := Lib.hid (lays_len o n t k)
 have HNO := Lib.hid (fun h => in_be (x := x) (o := o) (n := n) (t := t) (k := k) h)
 have HYE := Lib.hid (fun h : (inR x o n t k).2 = true => And.intro (in_yes h) (And.intro (lays_pos (in_yes h).2.1) (be_told (in_yes h).2.1 (in_yes h).1)))
 obtain ⟨⟨li, ok⟩, hR⟩ : ∃ R, inR x o n t k = R := ⟨_, rfl⟩
 rw [hR] at HLI HNO HYE
 clear hs hfs hR
 cases ok with
 | false =>
   rw [HNO.out rfl]
   go_enter Tryz.func12, Tryz.ntmps12
   go_wp2_with fail
   refine (HLI.out _ (B1.out _)).mono ?_
   rintro e2 w2 ⟨a2, c2, f2, rfl, hc2, hs2, hf2, hb2⟩
   have HB := Lib.hid ((B1.out _).trans hb2)
   clear hc2 hs2 hf2 hb2
   go_wp2_with fail
   go_ret2
   exact LayRes.none' HB.out
 | true =>
   obtain ⟨⟨hw, hto, he⟩, hpos, hbe⟩ := HYE.out rfl
   rw [hbe]
   simp only at he
   subst he
   have hx := wv_bd hw
   have HBO := Lib.hid (fun (W : World) (a2 : Option Addr) (c2 : Nat) (f2 : List Nat) (h1 : LLSub W a2 (laysD o n t k) f2) (h2 : f2.Nodup) (h3 : (laysD o n t k).length ≤ c2) => bestOf x hx.1 hx.2 (laysD o n t k) HG.out hpos (by have := HLN.out; omega) W a2 c2 f2 h1 h2 h3)
   obtain ⟨ls, hls⟩ : ∃ ls, laysD o n t k = ls := ⟨_, rfl⟩
   rw [hls] at HLI HBO ⊢
   obtain ⟨L, hL⟩ : ∃ L, least (kc x) ls = L := ⟨_, rfl⟩
   rw [hL] at HBO ⊢
   clear hls hL hw hto hpos hbe
   go_enter Tryz.func12, Tryz.ntmps12
   go_wp2_with fail
   refine (HLI.out _ (B1.out _)).mono ?_
   rintro e2 w2 ⟨a2, c2, f2, rfl, hc2, hs2, hf2, hb2⟩
   have HB2 := Lib.hid (HBO.out w2 a2 c2 f2 hs2 hf2.1 hc2)
   have H2 := Lib.hid (And.intro (hf2.mono (by simp : w.heap.size ≤ _)) ((B1.out _).trans hb2))
   clear hc2 hs2 hf2 hb2
   go_wp2_with fail
   refine HB2.out.mono ?_
   rintro e3 w3 ⟨a1, c1, f1, rfl, h1, h2, h3, h4, hb3⟩
   have hfr : Fresh w.heap.size w3 f1 := ⟨h3, fun q hq => ⟨(H2.out.1.2 q (h4 q hq)).1, Nat.lt_of_lt_of_le (H2.out.1.lt q (h4 q hq)) hb3.size, fun o => (hb3.frozen (p := ⟨q, o, none⟩) (H2.out.1.lt q (h4 q hq))).trans ((H2.out.1.2 q (h4 q hq)).2.2 o)⟩⟩
   have H3 := Lib.hid (And.intro h1 (And.intro h2 (And.intro hfr (H2.out.2.trans hb3))))
   clear h1 h2 h3 h4 hb3 hfr
   go_wp2_with fail
   go_ret2
   exact ⟨a1, c1, f1, rfl, H3.out.1, H3.out.2.1, H3.out.2.2.1, H3.out.2.2.2⟩
theorem implBestCost (hs : SubAt w a k fs) (hfs : ∀ c ∈ fs, c < w.heap.size ∧ ∀ o, w.frozen? ⟨c, o, none⟩ = false) (hc : k.len ≤ cap) (hsz : t.size + k.size ≤ 2000000) (hft : k.Fits) (ht : t.size ≤ maxLen) :
  Calls Tryz.prog 23 #[.agg #[.int .i64 o, .int .i64 n, .string t, .slice a k.len cap], .int .i64 x] w (CoOut w (bcR x o n t k)) := by
 have B1 := Lib.hid (show ∀ ob ob', Ext w ((w.alloc ob).alloc ob') from fun ob ob' => ((Ext.refl w).alloc _).alloc _)
 have HS := Lib.hid (fun (w1 : World) (hw1 : Ext w w1) => implBestLayout x w1 o n t k a cap fs (hs.below (fun c hc => (hfs c hc).1) hw1) (fun c hc => ⟨Nat.lt_of_lt_of_le (hfs c hc).1 hw1.size, fun x => (hw1.frozen (hfs c hc).1).trans ((hfs c hc).2 x)⟩) hc hsz hft ht)
 have HBN := Lib.hid (fun h => bc_no (x := x) (o := o) (n := n) (t := t) (k := k) h)
 have HBY := Lib.hid (fun h => And.intro (bc_yes (x := x) (o := o) (n := n) (t := t) (k := k) h) (be_lv (x := x) (o := o) (n := n) (t := t) (k := k) h))
 obtain ⟨Q, hQ⟩ : ∃ Q, bcR x o n t k = Q := ⟨_, rfl⟩
 rw [hQ] at HBN HBY ⊢
 obtain ⟨⟨l, ok⟩, hR⟩ : ∃ R, beR x o n t k = R := ⟨_, rfl⟩
 rw [hR] at HS HBN HBY
 clear hs hfs hR hQ
 unfold CoOut
 go_enter Tryz.func23, Tryz.ntmps23
 go_wp2_with fail
 refine (HS.out _ (B1.out _ _)).mono ?_
 rintro e2 w2 ⟨a2, c2, f2, rfl, hc2, hs2, hf2, hb2⟩
 cases ok with
 | false =>
   obtain rfl := HBN.out rfl
   have HB := Lib.hid ((B1.out _ _).trans hb2)
   have hcx := cell0 (w := w.alloc (.cells #[.int .i64 o, .int .i64 n, .string t, .slice a k.len cap] 25)) (o := .cells #[] 0) hb2
   simp only [World.size_alloc] at hcx
   obtain ⟨c0, c1, z0, z1, cl⟩ := hcx
   clear hb2 hs2 hf2 hc2
   go_wp2_with fail
   obtain ⟨r0, r1, rl⟩ := pair_set (u := .int .i64 0) (u' := .int .i64 0) c0 c1 cl
   refine bodyPost_ret (v := .tuple #[.agg #[.int .i64 0, .int .i64 0], .bool false]) (by simp [results, Tryz.results23, go_sem, r0, r1, rl]) rfl ?_
   exact ⟨rfl, (HB.out.setNew (Nat.le_succ _) _).setNew (Nat.le_succ _) _⟩
 | true =>
   obtain ⟨hqe, hlv, hwx, _⟩ := HBY.out rfl
   have hbx := wv_bd hwx
   have HC := Lib.hid (fun (W : World) (h : Ext w2 W) => rowsCost l x W a2 c2 f2 (hs2.below hs2.lt h) hc2 hlv hbx.1 (by omega))
   have HB := Lib.hid (And.intro hb2 ((B1.out _ _).trans hb2))
   have hl200 := (lv_len hlv).2
   obtain ⟨m, hm⟩ : ∃ m, l.length = m := ⟨_, rfl⟩
   obtain ⟨v, hv⟩ : ∃ v, ov x l = v := ⟨_, rfl⟩
   rw [hm, hv] at HC
   rw [hm, hv] at hqe
   rw [hm] at hc2 hl200 ⊢
   have HQE := Lib.hid hqe
   clear hs2 hf2 hm hv hlv hwx hb2 hqe
   go_wp2_with fail
   refine (HC.out _ (Ext.refl _)).mono ?_
   rintro e3 w3 ⟨rfl, hb3⟩
   have hcx := cell0 (w := w.alloc (.cells #[.int .i64 o, .int .i64 n, .string t, .slice a k.len cap] 25)) (o := .cells #[] 0) (HB.out.1.trans (hb3.mono HB.out.1.size))
   simp only [World.size_alloc] at hcx
   obtain ⟨c0, c1, z0, z1, cl⟩ := hcx
   have H3 := Lib.hid (HB.out.2.trans hb3)
   clear hb3
   go_wp2_with fail
   obtain ⟨r0, r1, rl⟩ := pair_set (u := .int .i64 v) (u' := .int .i64 (m : Int)) c0 c1 cl
   refine bodyPost_ret (v := .tuple #[.agg #[.int .i64 v, .int .i64 (m : Int)], .bool true]) (by simp [results, Tryz.results23, go_sem, r0, r1, rl]) rfl ?_
   exact ⟨by rw [HQE.out], (H3.out.setNew (Nat.le_succ _) _).setNew (Nat.le_succ _) _⟩
end
end Go.Proofs.YtclifbjnooilmaaGreat.Be

import Derived.Test.YtclifbjnooilmaaGreatLyA
import Derived.ArgAppend
import Derived.Deep.QuietTactic
import Derived.Laws.StructEq
import Derived.BigQuiet
/-
 What CatLayouts of the program and of the model come to: the joining of two layouts.
-/
set_option linter.unusedVariables false
set_option linter.unusedSimpArgs false
set_option maxRecDepth 100000
set_option maxHeartbeats 3200000
namespace Go.Proofs.YtclifbjnooilmaaGreat.LayC
open Go.RowKit P1 TextV LayL LayV LayM LayN
structure Own (w : World) (l : List (Int × ByteArray)) (g cap lo : Nat) : Prop where
 row : LayAt w l g 0
 th : w.there g 0 (cap * 2)
 le : l.length ≤ cap
 lo_le : lo ≤ g
 lt : g < w.heap.size
 fz : ∀ o, w.frozen? ⟨g, o, none⟩ = false
theorem Own.below {w w' : World} {l : List (Int × ByteArray)} {g cap lo : Nat} (h : Own w l g cap lo) (k : Below w.heap.size w w') : Own w' l g cap lo :=
 ⟨h.row.below h.lt k, there_below h.th h.lt k, h.le, h.lo_le, Nat.lt_of_lt_of_le h.lt k.size, fun o => (k.frozen (p := ⟨g, o, none⟩) h.lt).trans (h.fz o)⟩
theorem Own.drew {w : World} {l : List (Int × ByteArray)} {g cap lo : Nat} (h : Own w l g cap lo) : Own w.drew l g cap lo := h.below (Below.refl _ _).drew
theorem Own.only {gs : List Nat} {w w' : World} {l : List (Int × ByteArray)} {g cap lo : Nat} (h : Own w l g cap lo) (k : Only gs w w') (hg : g ∉ gs) : Own w' l g cap lo :=
 ⟨h.row.congr fun o _ _ => k.cell h.lt hg o, fun j hj => ⟨by rw [k.cell h.lt hg]; exact (h.th j hj).1, by rw [k.frozen h.lt]; exact (h.th j hj).2⟩, h.le, h.lo_le, Nat.lt_of_lt_of_le h.lt k.size, fun o => (k.frozen h.lt o).trans (h.fz o)⟩
theorem Own.setT {w : World} {l : List (Int × ByteArray)} {g cap lo k : Nat} {n : Int} {t : ByteArray} (h : Own w l g cap lo) (hk : k < l.length) (e : l[k] = (n, t)) (u : ByteArray) : Own (w.setCell ⟨g, k * 2 + 1, none⟩ (.string u)) (l.set k (n, u)) g cap lo := by
 have hr := h.row.setT hk e u
 rw [Nat.zero_add] at hr
 refine ⟨hr, fun j hj => ?_, by simpa using h.le, h.lo_le, by simpa using h.lt, fun o => by rw [World.frozen?_setCell]; exact h.fz o⟩
 have := World.there_setCells h.th g (k * 2 + 1) [.string u]
 exact this j hj
theorem there_of_row {w : World} {g n : Nat} {cur : Array Value} {T : TypeId} (h : w.heap[g]? = some (.cells cur T (0, 0))) (hs : n ≤ cur.size) : w.there g 0 n := fun j hj => by
 refine ⟨?_, frozen_of_row w _ _ _ _ h⟩
 unfold World.cell?
 rw [h]
 simp
 omega
theorem cells2_app (l k : List (Int × ByteArray)) : cells2 (l ++ k) = cells2 l ++ cells2 k := by
 induction l with
 | nil => rfl
 | cons r l ih => simp [cells2, ih]
theorem append_rows {w : World} {l k : List (Int × ByteArray)} {g cap lo : Nat} (h : Own w l g cap lo) (hlo : lo ≤ w.heap.size) (ty : TypeId) (ad : Addr) (c : Nat) (hnews : ∀ j u, (cells2 k)[j]? = some u → w.cell? (ad.add j) = some u) (hm : l.length + k.length ≤ 1099511627776) :
  ∃ g' cap' w', (Builtin.append_ #[28, 28] ty #[.slice (some ⟨g, 0, none⟩) l.length cap, .slice (some ad) k.length c]).run Tryz.prog w = .ok (.slice (some ⟨g', 0, none⟩) (l.length + k.length) cap') w' ∧
   l.length + k.length ≤ cap' ∧ LayAt w' (l ++ k) g' 0 ∧ lo ≤ g' ∧ g' < w'.heap.size ∧ (∀ o, w'.frozen? ⟨g', o, none⟩ = false) ∧ Below lo w w' := by
 obtain ⟨i0, hi, hz0, hz1, hz2⟩ := info_parts info
 by_cases hroom : l.length + k.length ≤ cap
 ·have hl2 : (cells2 k).length = k.length * i0.size := by rw [cells2_len, hz1]
  have hth : w.there g (l.length * 2) (k.length * 2) := there_part h.th (by omega)
  have hr := run_append_room_cells (P := Tryz.prog) w 28 ty 62 i0 Tryz.underlying28 hi g 0 l.length cap ad k.length c (cells2 k) hl2 hnews (cells2_one k) hroom
   (fun j hj => by rw [hz1, Nat.zero_add]; rw [cells2_len] at hj; exact (hth j hj).1) (fun j hj => h.fz _)
  rw [hz1, Nat.zero_add] at hr
  refine ⟨g, cap, _, hr, hroom, at_cells2 ?_, h.lo_le, by rw [size_setCells]; exact h.lt, fun o => by rw [World.frozen?_setCells]; exact h.fz o, Below.setCells h.lo_le _ _ _ (Below.refl _ _)⟩
  intro j u hu
  rw [add_at, Nat.zero_add]
  rw [cells2_app] at hu
  by_cases hj : j < (cells2 l).length
  ·rw [List.getElem?_append_left hj] at hu
   rw [cells2_len] at hj
   rw [World.cell?_setCells_out g _ _ w ⟨g, j, none⟩ (fun _ _ => Or.inl (by simp; omega))]
   have := cells2_at h.row j u hu
   rw [add_at, Nat.zero_add] at this
   exact this
  ·rw [List.getElem?_append_right (by omega)] at hu
   have hs := World.rangeAt_setCells_same w g (l.length * 2) (cells2 k) (by rw [cells2_len]; exact hth)
   have := hs (j - (cells2 l).length) u hu
   rw [cells2_len] at this hj
   rw [show l.length * 2 + (j - l.length * 2) = j by omega] at this
   exact this
 ·have hr := run_append_grow (P := Tryz.prog) w 28 ty 62 i0 _ Tryz.underlying28 hi hz0 ⟨g, 0, none⟩ l.length cap (cells2 l) (by rw [cells2_len, hz1]) (cells2_at h.row) ad k.length c (cells2 k) (by rw [cells2_len, hz1]) hnews (by omega) (by omega) (growslice_fits (by omega) (by rw [hz2]; omega))
  refine ⟨_, _, _, hr, ?_, at_cells2 ?_, hlo, Nat.lt_of_lt_of_eq (Nat.lt_succ_self w.drew.heap.size) (by simp), fun o => World.frozen?_alloc_new _ _ _ _, ((Below.refl lo w).drew.alloc (show lo ≤ w.drew.heap.size from hlo) _)⟩
  ·exact grownCap_ge _ _ _ _
  ·intro j u hu
   rw [add_at, Nat.zero_add]
   rw [cells2_app] at hu
   have hd : w.drew.heap.size = w.heap.size := rfl
   rw [← hd, World.cell?_alloc_new]
   have hj := (List.getElem?_eq_some_iff.1 hu).1
   rw [List.length_append] at hj
   rw [Array.getElem?_append_left (by simpa using hj)]
   simpa using hu
theorem wpList_append_rows {ops : Array Oper} {rest : List Oper} {op : Oper} {ac : Act} {Q : Exit → Act → World → Prop} {w : World} (hgd : op.guard = none) (s x : Operand)
  (ho : op.op = .call { callee := .builtin .append, args := #[s, x], argTypes := #[28, 28] })
  {l k : List (Int × ByteArray)} {g cap lo n m : Nat} (hn : l.length = n) (hm : k.length = m) (h : Own w l g cap lo) (hlo : lo ≤ w.heap.size) (ad : Addr) (c : Nat) (hs : ac.eval s = .slice (some ⟨g, 0, none⟩) n cap) (hx : ac.eval x = .slice (some ad) m c)
  (hnews : ∀ j u, (cells2 k)[j]? = some u → w.cell? (ad.add j) = some u) (hsz : n + m ≤ 1099511627776)
  (hK : ∀ g' cap' w', n + m ≤ cap' → LayAt w' (l ++ k) g' 0 → lo ≤ g' → g' < w'.heap.size → (∀ o, w'.frozen? ⟨g', o, none⟩ = false) → Below lo w w' → wpList Tryz.prog ops Q rest (ac.put op.dst (.slice (some ⟨g', 0, none⟩) (n + m) cap')) w') : wpList Tryz.prog ops Q (op :: rest) ac w := by
 subst hn hm
 refine wpList_plain hgd fun K hK' => ?_
 obtain ⟨g', cap', w', hr, h1, h2, h3, h4, h5, h6⟩ := append_rows h hlo op.type ad c hnews hsz
 unfold Oper.wp execOp
 simp only [ho, resolve, invoke, builtin, Sem.run_bind, Sem.run_pure, Result.andThen_ok, List.map_toArray, List.map_cons, List.map_nil, hs, hx, hr]
 exact hK' _ _ (hK g' cap' w' h1 h2 h3 h4 h5 h6)
theorem own_mid {w w1 : World} {l : List (Int × ByteArray)} {m : Nat} (hm : l.length = m) (h : Mid w l m m w1) : Own w1 l w.heap.size m w.heap.size := by
 subst hm
 obtain ⟨hrw, hth, ⟨hlt, hfz⟩, hbw⟩ := h
 rw [List.take_of_length_le (Nat.le_refl _)] at hrw
 exact ⟨hrw, hth, Nat.le_refl _, Nat.le_refl _, hlt, hfz⟩
theorem cat_eq {la lb : List (Int × ByteArray)} {k j : Nat} {n1 n2 : Int} {t1 t2 : ByteArray} (ha : la.length = k + 1) (hb : lb.length = j + 1) (e1 : la[k]'(by omega) = (n1, t1)) (e2 : lb[0]'(by omega) = (n2, t2)) :
  catL la lb = la.set k (n1, t1 ++ t2) ++ lb.drop 1 := by
 rw [catL_set (by omega) (by omega)]
 have : la.length - 1 = k := by omega
 simp only [this, e1, e2]
theorem behind_two {w w2 : World} {la lb : List (Int × ByteArray)} {k j cb : Nat} {n1 n2 : Int} {t1 t2 : ByteArray} {ca gb lb0 : Nat} (h1 : Own w2 la w.heap.size ca w.heap.size) (h2 : Own w2 lb gb cb lb0) (hlt : w.heap.size ≤ lb0) (he : ∃ (h : k < la.length) (h' : 0 < lb.length), la[k] = (n1, t1) ∧ lb[0] = (n2, t2)) (hk : la.length = k + 1 ∧ lb.length = j + 1) (u : ByteArray) (hne : w.heap.size ≠ gb) :
  Own (w2.setCell ⟨w.heap.size, k * 2 + 1, none⟩ (.string u)).drew (la.set k (n1, u)) w.heap.size ca w.heap.size ∧ Own (w2.setCell ⟨w.heap.size, k * 2 + 1, none⟩ (.string u)).drew lb gb cb lb0 := by
 obtain ⟨hkl, hjl, e1, e2⟩ := he
 exact ⟨(h1.setT hkl e1 u).drew, (h2.only (gs := [w.heap.size]) ((Only.refl _ _).setCell (by simp) _) (by simp; exact fun e => hne e.symm)).drew⟩
theorem tail_cells {W : World} {lb : List (Int × ByteArray)} {gb cb lo j : Nat} {ad : Addr} (h : Own W lb gb cb lo) (hj : lb.length = j + 1) (hadd : 0 < j → ad = ⟨gb, 0 + 2, none⟩) : ∀ i u, (cells2 (lb.drop 1))[i]? = some u → W.cell? (ad.add i) = some u := by
 intro i u hu
 by_cases h0 : 0 < j
 ·rw [hadd h0]
  have := h.row.drop 1
  exact cells2_at this i u hu
 ·have : lb.drop 1 = [] := List.drop_eq_nil_of_le (by omega)
  rw [this] at hu
  simp [cells2] at hu
theorem cat_out {w w' : World} {la lb X : List (Int × ByteArray)} {g cap m : Nat} (hX : catL la lb = X) (hm : X.length = m) (h1 : m ≤ cap) (h2 : LayAt w' X g 0) (h3 : w.heap.size ≤ g) (h4 : g < w'.heap.size) (h5 : ∀ o, w'.frozen? ⟨g, o, none⟩ = false) (h6 : Below w.heap.size w w') :
  RowsNew w (catL la lb) (.returned (.slice (some ⟨g, 0, none⟩) m cap)) w' := by
 subst hX hm
 obtain ⟨fs, q1, q2⟩ := sub_new h2 h3 h4 h5
 exact ⟨_, cap, fs, rfl, h1, q1, q2, h6⟩
theorem catRows (la lb : List (Int × ByteArray)) (hva : lv la = true) (hvb : lv lb = true) (w : World) (aa : Option Addr) (ca : Nat) (fa : List Nat) (hsa : LaySub w aa la fa) (hca : la.length ≤ ca) (ab : Option Addr) (cb : Nat) (fb : List Nat) (hsb : LaySub w ab lb fb) (hcb : lb.length ≤ cb) :
  Calls Tryz.prog 109 #[.slice aa la.length ca, .slice ab lb.length cb] w (RowsNew w (catL la lb)) := by
 have hla := lv_len hva
 have hlb := lv_len hvb
 have HCA := Lib.hid (copyRowsOwn la w aa ca fa hsa hca (by omega) (lv_small hva))
 have HCB := Lib.hid (fun (W : World) (h : Below w.heap.size w W) => copyRowsOwn lb W ab cb fb (hsb.below hsb.lt h) hcb (by omega) (lv_small hvb))
 obtain ⟨k, hk⟩ : ∃ k, la.length = k + 1 := ⟨la.length - 1, by omega⟩
 obtain ⟨j, hj⟩ : ∃ j, lb.length = j + 1 := ⟨lb.length - 1, by omega⟩
 obtain ⟨⟨n1, t1⟩, e1⟩ : ∃ r, la[k]'(by omega) = r := ⟨_, rfl⟩
 obtain ⟨⟨n2, t2⟩, e2⟩ : ∃ r, lb[0]'(by omega) = r := ⟨_, rfl⟩
 have ht1 := lv_small hva k (by omega)
 have ht2 := lv_small hvb 0 (by omega)
 rw [e1] at ht1
 rw [e2] at ht2
 simp only at ht1 ht2
 have HCE := Lib.hid (cat_eq hk hj e1 e2)
 have HK := Lib.hid (And.intro hk hj)
 have HE := Lib.hid (show ∃ (h : k < la.length) (h' : 0 < lb.length), la[k] = (n1, t1) ∧ lb[0] = (n2, t2) from ⟨by omega, by omega, e1, e2⟩)
 rw [hk] at hla hca ⊢
 rw [hj] at hlb hcb ⊢
 have hsum : ¬ (9223372036854775807 < t1.size + t2.size) := by omega
 rw [hk] at HCA
 rw [hj] at HCB
 clear hva hvb hsa hsb e1 e2 hk hj
 go_enter Tryz.func109, Tryz.ntmps109
 go_wp2_with fail
 refine HCA.out.mono ?_
 rintro e1 w1 ⟨rfl, hm1⟩
 have hb1 := hm1.2.2.2
 have hO1 := own_mid HK.out.1 hm1
 have hlt1 := hO1.lt
 have HB1 := Lib.hid hb1
 clear hb1 hm1
 go_wp2_with fail
 refine (HCB.out w1 HB1.out).mono ?_
 rintro e1 w2 ⟨rfl, hm2⟩
 have hb2 := hm2.2.2.2
 have hO2 := own_mid HK.out.2 hm2
 have hO1 := hO1.below hb2
 obtain ⟨hkl, hjl, e1, e2⟩ := HE.out
 have c1 := (hO1.row k hkl).2
 have d1 := (hO2.row 0 hjl).2
 rw [e1, Nat.zero_add] at c1
 rw [e2] at d1
 simp only [Nat.zero_mul, Nat.zero_add] at d1 c1
 have z1 := hO1.fz (k * 2 + 1)
 have HO := Lib.hid (And.intro hO1 (And.intro hO2 (HB1.out.trans (hb2.mono HB1.out.size))))
 have HLE := Lib.hid (And.intro HB1.out.size hb2.size)
 have HLT1 := Lib.hid (show w.heap.size < w1.heap.size from hlt1)
 have i0 : (0 : Int) ≤ (k : Int) := Int.natCast_nonneg _
 have i1 : (k : Int) < (k : Int) + 1 := by omega
 have i2 : (0 : Int) < (j : Int) + 1 := by omega
 clear hm2 hb2 hO1 hO2 e1 e2 hkl hjl
 go_wp2_with fail
 go_region
 have hW := behind_two HO.out.1 HO.out.2.1 HLE.out.1 HE.out HK.out (t1 ++ t2) (by have := HLT1.out; omega)
 obtain ⟨W3, hW3⟩ : ∃ W, (w2.setCell ⟨w.heap.size, k * 2 + 1, none⟩ (.string (t1 ++ t2))).drew = W := ⟨_, rfl⟩
 rw [hW3] at hW ⊢
 have HW := Lib.hid hW
 have HB3 := Lib.hid (show Below w.heap.size w W3 by rw [← hW3]; exact (HO.out.2.2.setCell (by simp) _).drew)
 have HNEW := Lib.hid (fun (ad : Addr) => tail_cells (ad := ad) hW.2 HK.out.2)
 have HLT := Lib.hid (show (lb.drop 1).length = j by rw [List.length_drop, HK.out.2]; omega)
 have HLS := Lib.hid (show (la.set k (n1, t1 ++ t2)).length = k + 1 by rw [List.length_set, HK.out.1])
 clear hW hW3 c1 d1 z1
 rcases Nat.eq_zero_or_pos j with rfl | hj0
 ·go_wp2_with fail
  go_ret
  have hd : lb.drop 1 = [] := List.eq_nil_of_length_eq_zero HLT.out
  have hX := HCE.out
  rw [hd, List.append_nil] at hX
  have hO := HW.out.1
  exact cat_out hX HLS.out (by omega) hO.row (Nat.le_refl _) hO.lt hO.fz HB3.out
 ·have hjn : ¬ j = 0 := by omega
  go_wp2_with (refine wpList_append_rows rfl (.tmp 25) (.tmp 27) rfl HLS.out HLT.out HW.out.1 HB3.out.size ⟨w1.heap.size, 2, none⟩ j rfl rfl (HNEW.out _ (fun _ => rfl)) (by omega) ?_; intro g' cap' w' h1 h2 h3 h4 h5 h6)
  have HF := Lib.hid (And.intro h1 (And.intro h2 (And.intro h3 (And.intro h4 (And.intro h5 h6)))))
  clear h1 h2 h3 h4 h5 h6
  go_wp2_with fail
  go_ret
  obtain ⟨h1, h2, h3, h4, h5, h6⟩ := HF.out
  exact cat_out HCE.out (by rw [List.length_append, HLS.out, HLT.out]) h1 h2 h3 h4 h5 (HB3.out.trans h6)
end Go.Proofs.YtclifbjnooilmaaGreat.LayC
namespace Go.Proofs.YtclifbjnooilmaaGreat.LayC
open Go.RowKit P1 TextV LayL LayV LayM LayN
theorem grown_own {w w1 : World} {ob : Obj} {T : TypeId} {g cp m k : Nat} {l : List (Int × ByteArray)} (hown : w1.ownsRow w.heap.size T 2 (.slice (some ⟨g, 0, none⟩) k cp) k ([] ++ cells2 l)) (hk : k = m) (hl : l.length = m) (hgr : (w.alloc ob).grownBy w1 (some w.heap.size)) :
  Below w.heap.size w w1 ∧ Own w1 l g cp w.heap.size := by
 obtain ⟨h1, h2, h3, h4⟩ := grown_new (m := m) hown hk hgr
 rcases hown.2 with ⟨e, _⟩ | ⟨g', cap', cur, e, hb, hg, hcap, hcm, hcs, _⟩
 ·cases e
 ·injection e with e1 e2 e3
  injection e1 with e4
  injection e4 with e5
  subst e5 e3
  exact ⟨h1, h4, there_of_row hg (by omega), by omega, hb, h2.lt g (by simp), (h2.2 g (by simp)).2.2⟩
theorem behind_one {w w2 : World} {la lb : List (Int × ByteArray)} {k j : Nat} {n1 n2 : Int} {t1 t2 : ByteArray} {g ca gb ob : Nat} (h1 : Own w2 la g ca w.heap.size) (h2 : LayAt w2 lb gb ob) (hgb : gb < w.heap.size) (hbw : w.heap.size ≤ w2.heap.size) (he : ∃ (h : k < la.length) (h' : 0 < lb.length), la[k] = (n1, t1) ∧ lb[0] = (n2, t2)) (u : ByteArray) :
  Own (w2.setCell ⟨g, k * 2 + 1, none⟩ (.string u)).drew (la.set k (n1, u)) g ca w.heap.size ∧ LayAt (w2.setCell ⟨g, k * 2 + 1, none⟩ (.string u)).drew lb gb ob := by
 obtain ⟨hkl, hjl, e1, e2⟩ := he
 refine ⟨(h1.setT hkl e1 u).drew, h2.congr fun o _ _ => ?_⟩
 show (w2.setCell ⟨g, k * 2 + 1, none⟩ (.string u)).cell? ⟨gb, o, none⟩ = _
 exact World.cell?_setCell_other _ _ _ _ (fun e => by injection e with e3; have := h1.lo_le; omega)
theorem tail_at {W : World} {lb : List (Int × ByteArray)} {gb ob j : Nat} {ad : Addr} (h : LayAt W lb gb ob) (hj : lb.length = j + 1) (hadd : 0 < j → ad = ⟨gb, ob + 2, none⟩) : ∀ i u, (cells2 (lb.drop 1))[i]? = some u → W.cell? (ad.add i) = some u := by
 intro i u hu
 by_cases h0 : 0 < j
 ·rw [hadd h0]
  have := h.drop 1
  exact cells2_at this i u hu
 ·have : lb.drop 1 = [] := List.drop_eq_nil_of_le (by omega)
  rw [this] at hu
  simp [cells2] at hu
theorem l2Cat (la lb : List (Int × ByteArray)) (hva : lv la = true) (hvb : lv lb = true) (w : World) (aa : Option Addr) (ca : Nat) (fa : List Nat) (hsa : LaySub w aa la fa) (hca : la.length ≤ ca) (ab : Option Addr) (cb : Nat) (fb : List Nat) (hsb : LaySub w ab lb fb) (hcb : lb.length ≤ cb) :
  Calls Tryz.prog 132 #[.slice aa la.length ca, .slice ab lb.length cb] w (RowsNew w (catL la lb)) := by
 obtain ⟨i0, hi, hz0, hz1, hz2⟩ := info_parts info
 have HI := Lib.hid (And.intro hi (And.intro hz0 (And.intro hz1 hz2)))
 have hla := lv_len hva
 have hlb := lv_len hvb
 have hsla : ∃ b off, aa = some ⟨b, off, none⟩ ∧ b < w.heap.size ∧ LayAt w la b off := by
  rcases hsa with ⟨rfl, _⟩ | ⟨b, off, ha, hn, hf, hr⟩
  ·simp at hla
  ·exact ⟨b, off, ha, hr.lt hn, hr⟩
 obtain ⟨ba, oa, rfl, hba, hrowa⟩ := hsla
 have hslb : ∃ b off, ab = some ⟨b, off, none⟩ ∧ b < w.heap.size ∧ LayAt w lb b off := by
  rcases hsb with ⟨rfl, _⟩ | ⟨b, off, ha, hn, hf, hr⟩
  ·simp at hlb
  ·exact ⟨b, off, ha, hr.lt hn, hr⟩
 obtain ⟨bb, ob, rfl, hbb, hrowb⟩ := hslb
 obtain ⟨k, hk⟩ : ∃ k, la.length = k + 1 := ⟨la.length - 1, by omega⟩
 obtain ⟨j, hj⟩ : ∃ j, lb.length = j + 1 := ⟨lb.length - 1, by omega⟩
 obtain ⟨⟨n1, t1⟩, e1⟩ : ∃ r, la[k]'(by omega) = r := ⟨_, rfl⟩
 obtain ⟨⟨n2, t2⟩, e2⟩ : ∃ r, lb[0]'(by omega) = r := ⟨_, rfl⟩
 have ht1 := lv_small hva k (by omega)
 have ht2 := lv_small hvb 0 (by omega)
 rw [e1] at ht1
 rw [e2] at ht2
 simp only at ht1 ht2
 have HCE := Lib.hid (cat_eq hk hj e1 e2)
 have HK := Lib.hid (And.intro hk hj)
 have HE := Lib.hid (show ∃ (h : k < la.length) (h' : 0 < lb.length), la[k] = (n1, t1) ∧ lb[0] = (n2, t2) from ⟨by omega, by omega, e1, e2⟩)
 have HRB := Lib.hid hrowb
 have HNEWA := Lib.hid (show ∀ o i u, (cells2 la)[i]? = some u → (w.alloc o).cell? ((⟨ba, oa, none⟩ : Addr).add i) = some u from fun o => cells2_at (hrowa.below hba ((Below.refl _ _).alloc (Nat.le_refl _) _)))
 have HC2 := Lib.hid (show (cells2 la).length = (k + 1) * 2 by rw [cells2_len, hk])
 rw [hk] at hla hca ⊢
 rw [hj] at hlb hcb ⊢
 obtain ⟨hla1, hla2⟩ := hla
 obtain ⟨hlb1, hlb2⟩ := hlb
 have hsum : ¬ (9223372036854775807 < t1.size + t2.size) := by omega
 clear hva hvb hsa hsb e1 e2 hk hj hi hz0 hz1 hz2 hrowa hrowb
 go_enter Tryz.func132, Tryz.ntmps132
 go_wp2_with (refine wpList_append_lies _ rfl (.tmp 7) (.tmp 8) 28 rfl w.heap.size 62 i0 _ 2 24 Tryz.underlying28 HI.out.1 HI.out.2.1 HI.out.2.2.1 HI.out.2.2.2 rfl (by omega) (.slice (some ⟨w.heap.size, 0, none⟩) 0 0) 0 [] rfl (World.ownsRow_made w #[] 0 (Nat.le_refl _) (by simp [maxLen]) rfl) ⟨ba, oa, none⟩ (k + 1) ca (cells2 la) rfl HC2.out (HNEWA.out _) (cells2_one la) (by omega) (by unfold maxLen; omega) (by omega) (by simp) _ rfl ?_; intro g cp w1 hown hgr hat hlt)
 obtain ⟨hb1, hO1⟩ := grown_own hown (by omega) HK.out.1 hgr
 obtain ⟨hkl, hjl, e1, e2⟩ := HE.out
 have hrb := HRB.out.below hbb hb1
 have c1 := (hO1.row k hkl).2
 have d1 := (hrb 0 hjl).2
 rw [e1, Nat.zero_add] at c1
 rw [e2, Nat.zero_mul, Nat.add_zero] at d1
 have z1 := hO1.fz (k * 2 + 1)
 have hbb1 : bb < w1.heap.size := Nat.lt_of_lt_of_le hbb hb1.size
 have HO := Lib.hid (And.intro hO1 (And.intro hrb hb1))
 have i0' : (0 : Int) ≤ (k : Int) := Int.natCast_nonneg _
 have i1 : (k : Int) < (k : Int) + 1 := by omega
 have i2 : (0 : Int) < (j : Int) + 1 := by omega
 clear hown hgr hat hlt hb1 hO1 hrb e1 e2 hkl hjl
 go_wp2_with fail
 go_region
 have hW := behind_one (w := w) HO.out.1 HO.out.2.1 hbb HO.out.2.2.size HE.out (t1 ++ t2) (j := j)
 obtain ⟨W3, hW3⟩ : ∃ W, (w1.setCell ⟨g, k * 2 + 1, none⟩ (.string (t1 ++ t2))).drew = W := ⟨_, rfl⟩
 rw [hW3] at hW ⊢
 have HW := Lib.hid hW
 have HB3 := Lib.hid (show Below w.heap.size w W3 by rw [← hW3]; exact (HO.out.2.2.setCell HO.out.1.lo_le _).drew)
 have HNEW := Lib.hid (fun (ad : Addr) => tail_at (ad := ad) hW.2 HK.out.2)
 have HLT := Lib.hid (show (lb.drop 1).length = j by rw [List.length_drop, HK.out.2]; omega)
 have HLS := Lib.hid (show (la.set k (n1, t1 ++ t2)).length = k + 1 by rw [List.length_set, HK.out.1])
 clear hW hW3 c1 d1 z1
 have hroom : k + 1 ≤ cp := by have := HW.out.1.le; rw [HLS.out] at this; exact this
 rcases Nat.eq_zero_or_pos j with rfl | hj0
 ·go_wp2_with fail
  all_goals
   go_ret
   have hd : lb.drop 1 = [] := List.eq_nil_of_length_eq_zero HLT.out
   have hX := HCE.out
   rw [hd, List.append_nil] at hX
   have hO := HW.out.1
   exact cat_out hX HLS.out (by have := hO.le; rw [HLS.out] at this; exact this) hO.row hO.lo_le hO.lt hO.fz HB3.out
 ·have hc1 : ¬ cb = 1 := by omega
  have hc2 : ¬ 1 = cb := by omega
  go_wp2_with (refine wpList_append_rows rfl (.tmp 27) (.tmp 29) rfl HLS.out HLT.out HW.out.1 HB3.out.size ⟨bb, ob + 2, none⟩ (cb - 1) rfl rfl (HNEW.out _ (fun _ => rfl)) (by omega) ?_; intro g' cap' w' h1 h2 h3 h4 h5 h6)
  have HF := Lib.hid (And.intro h1 (And.intro h2 (And.intro h3 (And.intro h4 (And.intro h5 h6)))))
  clear h1 h2 h3 h4 h5 h6
  go_wp2_with fail
  go_ret
  obtain ⟨h1, h2, h3, h4, h5, h6⟩ := HF.out
  exact cat_out HCE.out (by rw [List.length_append, HLS.out, HLT.out]) h1 h2 h3 h4 h5 (HB3.out.trans h6)
end Go.Proofs.YtclifbjnooilmaaGreat.LayC
namespace Go.Proofs.YtclifbjnooilmaaGreat.LaySm
open Go.RowKit LayL
theorem rows_struct : Tryz.prog.underlying 62 = some (.struct (Tryz.prog.fieldsOf 62)) := by kernel_rfl
theorem rows_held : Tryz.prog.stoodInHeld 62 = false := by kernel_rfl
theorem sameR_eq (n n' : Int) (t t' : ByteArray) : sameR n t n' t' = (n == n' && t.toList == t'.toList) := by
 by_cases h1 : n = n'
 ·by_cases h2 : t = t'
  ·subst h1 h2; simp [sameR]
  ·have := bytes_ne h2
   simp [sameR, h1, h2, this]
 ·simp [sameR, h1]
theorem row_eq (n n' : Int) (t t' : ByteArray) (w : World) : (Op.equalIn 10000 62 (.agg #[.int .i64 n, .string t]) (.agg #[.int .i64 n', .string t'])).run Tryz.prog w = .ok (sameR n t n' t') w := by
 rw [show (10000 : Nat) = 9999 + 1 from rfl, run_equalIn_agg w 9999 _ _ _ rows_struct rows_held]
 simp only [Program.fieldsOf, Tryz.underlying62]
 go_simp
 rw [sameR_eq]
 by_cases h1 : n = n' <;> simp [h1]
 by_cases h2 : t.toList = t'.toList <;> simp [h2]
theorem below_drewN {B : Nat} {a w : World} (h : Below B a w) (n : Nat) : Below B a (w.drewN n) := by
 induction n with
 | zero => exact h
 | succ n ih => exact ih.drew
theorem slicesEqual (l l' : List (Int × ByteArray)) (w : World) (a : Option Addr) (cap : Nat) (fs : List Nat) (hs : LaySub w a l fs) (a' : Option Addr) (cap' : Nat) (fs' : List Nat) (hs' : LaySub w a' l' fs') (hc : l.length ≤ cap) (hc' : l'.length ≤ cap') (hl : l.length ≤ maxLen) (hl' : l'.length ≤ maxLen) :
  Calls Tryz.prog 42 #[.slice a l.length cap, .slice a' l'.length cap'] w fun e w' => e = .returned (.bool (decide (l = l'))) ∧ Below w.heap.size w w' := by
 by_cases hlen : l.length = l'.length
 ·have HR := Lib.hid (show ∀ k, (h : k < l.length) → ∃ b off, a = some ⟨b, off, none⟩ ∧ b < w.heap.size ∧ LayAt w l b off from fun k h => by
   rcases hs with ⟨rfl, _⟩ | ⟨b, off, ha, hn, _, hr⟩
   ·simp at h
   ·exact ⟨b, off, ha, hr.lt hn, hr⟩)
  have HR' := Lib.hid (show ∀ k, (h : k < l'.length) → ∃ b off, a' = some ⟨b, off, none⟩ ∧ b < w.heap.size ∧ LayAt w l' b off from fun k h => by
   rcases hs' with ⟨rfl, _⟩ | ⟨b, off, ha, hn, _, hr⟩
   ·simp at h
   ·exact ⟨b, off, ha, hr.lt hn, hr⟩)
  obtain ⟨m, hm⟩ : ∃ m, l.length = m := ⟨_, rfl⟩
  have hm' : l'.length = m := by rw [← hlen, hm]
  have HM := Lib.hid (And.intro hm hm')
  rw [hm] at hc hl ⊢
  rw [hm'] at hc' hl' ⊢
  have hmm : ((m : Int) != (m : Int)) = false := by simp
  clear hm hm' hs hs' hlen hl'
  unfold maxLen at hl
  go_enter Tryz.func42, Tryz.ntmps42
  go_wp2_with fail
  go_loopw [13] (fun i wr => ∃ k : Nat, k ≤ m ∧ i = .int .i64 k ∧ Hid (l.take k = l'.take k) ∧ Below w.heap.size w wr) (fun i _ => m - (intOf i).toNat)
  case atStart => exact ⟨0, by omega, rfl, Lib.hid rfl, Below.refl _ _⟩
  case round =>
   obtain ⟨k, hk, rfl, HE, hbw⟩ := hrel
   by_cases hkm : k < m
   ·have hkl : k < l.length := by rw [HM.out.1]; exact hkm
    have hkl' : k < l'.length := by rw [HM.out.2]; exact hkm
    obtain ⟨b, off, rfl, hb, hrow⟩ := HR.out k hkl
    obtain ⟨b', off', rfl, hb', hrow'⟩ := HR'.out k hkl'
    obtain ⟨c0, c1⟩ := (hrow.below hb hbw) k hkl
    obtain ⟨d0, d1⟩ := (hrow'.below hb' hbw) k hkl'
    obtain ⟨⟨n, t⟩, hnt⟩ : ∃ r, l[k] = r := ⟨_, rfl⟩
    obtain ⟨⟨n', t'⟩, hnt'⟩ : ∃ r, l'[k] = r := ⟨_, rfl⟩
    rw [hnt] at c0 c1
    rw [hnt'] at d0 d1
    have HN := Lib.hid (And.intro hnt hnt')
    have i0 : (0 : Int) ≤ (k : Int) := Int.natCast_nonneg _
    have i1 : (k : Int) < (m : Int) := by omega
    clear hrow hrow' hnt hnt'
    cases hsd : sameR n t n' t' with
    | true =>
      have hq := fun W => row_eq n n' t t' W
      rw [hsd] at hq
      have HSD := Lib.hid hsd
      clear hsd
      go_wp2_with fail
      go_quiet (skip)
      go_wp2_with fail
      go_roundw
      case rel =>
       have e1 := HSD.out
       simp only [sameR, decide_eq_true_eq] at e1
       exact ⟨k + 1, by omega, by go_num, Lib.hid (same_step hkl hkl' HE.out (by rw [HN.out.1, HN.out.2, e1])), below_drewN hbw _⟩
      case measure => simp [intOf]; omega
    | false =>
      have hq := fun W => row_eq n n' t t' W
      rw [hsd] at hq
      have HSD := Lib.hid hsd
      clear hsd
      go_wp2_with fail
      go_quiet (skip)
      go_wp2_with fail
      go_ret
      refine ⟨ret_bool ?_, below_drewN hbw _⟩
      have e1 := HSD.out
      simp only [sameR, decide_eq_false_iff_not] at e1
      symm
      rw [decide_eq_false_iff_not]
      intro e
      subst e
      exact e1 (by rw [← HN.out.1, ← HN.out.2])
   ·go_wp2_with fail
    go_ret
    refine ⟨ret_bool ?_, hbw⟩
    have e1 := HE.out
    rw [List.take_of_length_le (by have := HM.out.1; omega), List.take_of_length_le (by have := HM.out.2; omega)] at e1
    subst e1
    simp
 ·have hne : l ≠ l' := fun e => hlen (by rw [e])
  have HN := Lib.hid (show decide (l = l') = false by simp [hne])
  obtain ⟨m, hm⟩ : ∃ m, l.length = m := ⟨_, rfl⟩
  obtain ⟨m', hm'⟩ : ∃ m', l'.length = m' := ⟨_, rfl⟩
  rw [hm, hm'] at hlen
  rw [hm] at hl ⊢
  rw [hm'] at hl' ⊢
  unfold maxLen at hl hl'
  have hb : ((m : Int) != (m' : Int)) = true := by simp; omega
  clear hm hm' hne hs hs' hc hc'
  go_enter Tryz.func42, Tryz.ntmps42
  go_wp2_with fail
  go_ret
  exact ⟨ret_bool HN.out.symm, Below.refl _ _⟩
set_option maxHeartbeats 400000 in
theorem implLayoutSame (l l' : List (Int × ByteArray)) (w : World) (a : Option Addr) (cap : Nat) (fs : List Nat) (hs : LaySub w a l fs) (a' : Option Addr) (cap' : Nat) (fs' : List Nat) (hs' : LaySub w a' l' fs') (hc : l.length ≤ cap) (hc' : l'.length ≤ cap') (hl : l.length ≤ maxLen) (hl' : l'.length ≤ maxLen) :
  Calls Tryz.prog 14 #[.slice a l.length cap, .slice a' l'.length cap'] w fun e w' => e = .returned (.bool (decide (l = l'))) ∧ Below w.heap.size w w' := by
 have H := Lib.hid (slicesEqual l l' w a cap fs hs a' cap' fs' hs' hc hc' hl hl')
 clear hs hs' hc hc' hl hl'
 go_enter Tryz.func14, Tryz.ntmps14
 go_wp2_with fail
 refine H.out.mono ?_
 rintro e w1 ⟨rfl, hb1⟩
 have HB := Lib.hid hb1
 clear hb1
 go_wp2_with fail
 go_ret
 exact ⟨rfl, HB.out⟩
end Go.Proofs.YtclifbjnooilmaaGreat.LaySm

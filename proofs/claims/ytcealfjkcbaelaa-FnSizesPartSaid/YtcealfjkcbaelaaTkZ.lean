import Derived.Test.YtcealfjkcbaelaaTkH
import Derived.Test.YtcealfjkcbaelaaTkJ
import Derived.Test.YtcealfjkcbaelaaVsI
/-
  SizesOf of the program and of the model.
-/
set_option linter.unusedVariables false
set_option linter.unusedSimpArgs false
namespace Go.Proofs.Ytcealfjkcbaelaa.Tk
open Go.RowKit P1 TextV VsI
open Vs (VSub own_vs)

theorem infoZ : (Try.prog.info? 3).map (fun i => (i.zero, i.size, i.bytes)) = some (some (.int .i64 0), 1, 8) := by kernel_rfl
theorem run_mkI (m : Nat) (hm : m ≤ 1048576) (w : World) : (Instr.makeSlice 48 (.int .i64 (m : Int)) (.int .i64 (m : Int))).run Try.prog w = .ok (.slice (some ⟨w.heap.size, 0, none⟩) m m) (w.alloc (.cells (madeCells #[.int .i64 0] m) 3)) := by
  obtain ⟨i0, hi, hz0, hz1, hz2⟩ := info_parts infoZ
  have := run_make (P := Try.prog) w 48 3 i0 _ Try.underlying48 hi hz0 .i64 .i64 (m : Int) (m : Int) (by omega) (by omega) (by rw [hz2]; omega) (by omega)
  rw [hz1] at this
  simpa [Value.cells] using this
theorem field1 : ∀ (w : World) (L z y : Int), (Instr.field 121 (.agg #[.int .i64 L, .int .i64 z, .int .i64 y]) 1).run Try.prog w = .ok (.int .i64 z) w := fun _ _ _ _ => by kernel_rfl
/-- the first numbers lie in the new row -/
def Made (w : World) (B : Nat) (Z : List Int) (m j : Nat) (wr : World) : Prop :=
  wr.there B 0 m ∧ (∀ q, (h : q < Z.length) → q < j → wr.cell? ⟨B, q, none⟩ = some (.int .i64 Z[q])) ∧ (B < wr.heap.size ∧ ∀ o, wr.frozen? ⟨B, o, none⟩ = false) ∧ Below w.heap.size w wr
theorem Made.below {w wr w' : World} {B m j : Nat} {Z : List Int} (h : Made w B Z m j wr) (k : Below wr.heap.size wr w') : Made w B Z m j w' :=
  ⟨there_below h.1 h.2.2.1.1 k, fun q hq hj => (k.cell (p := ⟨B, q, none⟩) h.2.2.1.1).trans (h.2.1 q hq hj), ⟨Nat.lt_of_lt_of_le h.2.2.1.1 k.size, fun o => (k.frozen (p := ⟨B, o, none⟩) h.2.2.1.1).trans (h.2.2.1.2 o)⟩, h.2.2.2.trans (k.mono h.2.2.2.size)⟩
theorem Made.at {w wr : World} {B m j : Nat} {Z : List Int} (h : Made w B Z m j wr) {q : Nat} (hq : q < m) : ∃ u, wr.cell? ⟨B, q, none⟩ = some u := by
  have := (h.1 q hq).1
  rw [Nat.zero_add] at this
  exact Option.isSome_iff_exists.1 this
theorem Made.set {w wr : World} {B m j : Nat} {Z : List Int} (h : Made w B Z m j wr) (hB : w.heap.size ≤ B) (hjm : j < m) (x : Int) : Made w B Z m j (wr.setCell ⟨B, j, none⟩ (.int .i64 x)) ∧ (wr.setCell ⟨B, j, none⟩ (.int .i64 x)).cell? ⟨B, j, none⟩ = some (.int .i64 x) := by
  obtain ⟨u, hu⟩ := h.at hjm
  have hs : (wr.setCell ⟨B, j, none⟩ (.int .i64 x)).cell? ⟨B, j, none⟩ = some (.int .i64 x) := World.cell?_setCell_same _ _ _ hu
  refine ⟨⟨fun q hq => ?_, fun q hq hj => ?_, ⟨by simpa [World.setCell] using h.2.2.1.1, fun o => ?_⟩, h.2.2.2.setCell (p := ⟨B, j, none⟩) hB _⟩, hs⟩
  · have h1 := h.1 q hq
    rw [Nat.zero_add] at h1 ⊢
    refine ⟨?_, ?_⟩
    · by_cases e : q = j
      · subst e; rw [hs]; rfl
      · rw [World.cell?_setCell_other _ _ _ _ (by intro e'; injection e' with e1 e2; omega)]; exact h1.1
    · rw [World.frozen?_setCell]; exact h1.2
  · rw [World.cell?_setCell_other _ _ _ _ (by intro e'; injection e' with e1 e2; omega)]; exact h.2.1 q hq hj
  · rw [World.frozen?_setCell]; exact h.2.2.1.2 o
theorem Made.step {w wr : World} {B m j : Nat} {Z : List Int} (h : Made w B Z m j wr) (hj : j < Z.length) (hc : wr.cell? ⟨B, j, none⟩ = some (.int .i64 Z[j])) : Made w B Z m (j + 1) wr :=
  ⟨h.1, fun q hq hqj => by
    by_cases e : q = j
    · subst e; exact hc
    · exact h.2.1 q hq (by omega), h.2.2⟩
theorem room_one {l : List Tok} {j : Nat} (h : j < l.length) {k nn : Int} {t : ByteArray} (e : l[j] = (k, nn, t)) (h5 : k ≠ 5) : roomT l j h = szT (k, nn, t) := by
  unfold roomT; rw [e, if_neg h5]
theorem room_grp {l : List Tok} {j N : Nat} (h : j < l.length) {nn : Int} {t : ByteArray} (e : l[j] = (5, nn, t)) (hg : glo 1 (l.drop (j + 1)) = some N) : roomT l j h = (lkN (N + 1) (l.drop j) 0 0).1 := by
  unfold roomT
  rw [e, if_pos rfl, gL_eq (N := N)]
  rw [List.drop_drop, Nat.add_comm] at *
  exact hg

set_option maxRecDepth 100000 in
set_option maxHeartbeats 6400000 in
theorem implSizesOf (l : List Tok) (w : World) (a : Option Addr) (cap : Nat) (fs : List Nat) (hs : TkSub w a l fs) (hc : l.length ≤ cap) (hl : l.length ≤ maxLen) (hft : TL.Fits l) :
    Calls Try.prog 34 #[.slice a l.length cap] w (IRes w (szR l)) := by
  have HTV := Lib.hid (implTokensValid l w a cap fs hs hc hl hft)
  cases htv : tkv l with
  | false =>
    rw [htv] at HTV
    rw [szR_no htv]
    clear htv hs
    unfold maxLen at hl
    go_enter Try.func34, Try.ntmps34
    go_wp2_with fail
    refine HTV.out.mono ?_
    rintro e1 w1 ⟨rfl, hb1⟩
    have H1 := Lib.hid hb1
    clear hb1
    go_wp2_with fail
    go_ret2
    exact IRes.none' H1.out
  | true =>
    rw [htv] at HTV
    rw [szR_yes htv]
    have hlen := tkv_len htv
    have HR := Lib.hid (show ∀ k, (h : k < l.length) → ∃ b off, a = some ⟨b, off, none⟩ ∧ b < w.heap.size ∧ TkAt w l b off from fun k h => by
      rcases hs with ⟨rfl, _⟩ | ⟨b, off, ha, hn, _, hr⟩
      · simp at h
      · exact ⟨b, off, ha, hr.lt hn, hr⟩)
    have HV := Lib.hid htv
    obtain ⟨Z, hZ⟩ : ∃ Z, szL l = Z := ⟨_, rfl⟩
    have HZ := Lib.hid (And.intro hZ (show Z.length = l.length by rw [← hZ, szL_len]))
    obtain ⟨m, hm⟩ : ∃ m, l.length = m := ⟨_, rfl⟩
    have HM := Lib.hid hm
    rw [hZ]
    rw [hm] at hc hl hlen HTV ⊢
    have hmk := run_mkI m (by omega)
    clear htv hs hZ hm hft
    unfold maxLen at hl
    go_enter Try.func34, Try.ntmps34
    go_wp2_with fail
    refine HTV.out.mono ?_
    rintro e1 w1 ⟨rfl, hb1⟩
    have H1 := Lib.hid hb1
    have hw1 := hb1.size
    clear hb1
    go_wp2_with fail
    clear hmk
    go_loopw [15] (fun i wr => ∃ (j : Nat), j ≤ m ∧ i = .int .i64 (j : Int) ∧ Made w w1.heap.size Z m j wr) (fun i _ => m - (intOf i).toNat)
    case atStart => exact ⟨0, by omega, rfl, there_new w1 _ _ _ (by rw [size_madeCells]; exact Nat.le_refl _), fun q _ h => by omega, ⟨by simp, fun _ => World.frozen?_alloc_new _ _ _ _⟩, H1.out.trans ((Below.refl _ _).alloc hw1 _)⟩
    case round =>
      obtain ⟨j, hj, rfl, hmd⟩ := hrel
      by_cases hjm : j < m
      · have hkl : j < l.length := by rw [HM.out]; exact hjm
        have hkz : j < Z.length := by rw [HZ.out.2]; exact hkl
        obtain ⟨b, off, rfl, hb, hrow⟩ := HR.out j hkl
        have hb2 := hmd.2.2.2
        obtain ⟨c0, c1, c2⟩ := (hrow.below hb hb2) j hkl
        have HROW := Lib.hid (fun (w' : World) (h : Below w.heap.size w w') => hrow.below hb h)
        obtain ⟨⟨k, nn, t⟩, hnt⟩ : ∃ r, l[j] = r := ⟨_, rfl⟩
        have HNT := Lib.hid hnt
        have hkt := kt_size (tkv_kt HV.out hkl)
        rw [hnt] at c0 c1 c2 hkt
        have hts : t.size ≤ 12 := hkt
        have HS := Lib.hid (fun W => sizeT k nn t (by unfold maxLen; omega) W)
        have HZJ := Lib.hid (show Z[j] = roomT l j hkl from by have h := szL_get hkl; have e := HZ.out.1; subst e; exact h)
        have HMD := Lib.hid hmd
        have hbr : b < wr.heap.size := Nat.lt_of_lt_of_le hb hb2.size
        have i0 : (0 : Int) ≤ (j : Int) := Int.natCast_nonneg _
        have i1 : (j : Int) < (m : Int) := by omega
        have hal := tok_new wr k nn t 55
        clear hrow hnt hkt hmd hb2
        go_wp2_with fail
        refine (HS.out _).mono ?_
        rintro e2 w2 ⟨rfl, hb3⟩
        have hbx : Below wr.heap.size wr w2 := ((Below.refl _ _).alloc (Nat.le_refl _) _).trans (hb3.mono (by simp))
        have hmd2 := HMD.out.below hbx
        have HMD2 := Lib.hid hmd2
        obtain ⟨d0, d1, d2⟩ := box3 hal (by simp) hb3
        have hl2 : wr.heap.size < w2.heap.size := by have := hb3.size; simp at this; omega
        obtain ⟨u, hu⟩ := hmd2.at hjm
        have hfz := hmd2.2.2.1.2 j
        have hBlt := hmd2.2.2.1.1
        have hne : ¬ (w1.heap.size = wr.heap.size) := by have := HMD.out.2.2.1.1; omega
        clear hb3 hbx hmd2 c0 c1 c2 hal
        by_cases h5 : k = 5
        · subst h5
          obtain ⟨N, hN⟩ := glo_valid HV.out hkl (by rw [HNT.out])
          have hall : ∀ r ∈ l, r.2.2.size ≤ 12 := fun r hr => by
            obtain ⟨q, hq, rfl⟩ := List.getElem_of_mem hr
            exact kt_size (tkv_kt HV.out hq)
          have HRM := Lib.hid (show Z[j] = (lkN (N + 1) (l.drop j) 0 0).1 from by rw [HZJ.out]; exact room_grp hkl HNT.out hN)
          have HSET := Lib.hid (HMD2.out.set hw1 hjm (szT (5, nn, t)))
          have hdl : (l.drop j).length = m - j := by rw [List.length_drop, HM.out]
          have HLF := Lib.hid (show Calls Try.prog 85 #[.slice (some ⟨b, off + j * 3, none⟩) (m - j) (cap - j)] (w2.setCell ⟨w1.heap.size, j, none⟩ (.int .i64 (szT (5, nn, t)))) _ from by
            have h := lookFrom (l.drop j) (w2.setCell ⟨w1.heap.size, j, none⟩ (.int .i64 (szT (5, nn, t)))) b (off + j * 3) (cap - j) ((HROW.out _ HSET.out.1.2.2.2).drop j) (by rw [hdl]; omega) (by rw [hdl]; omega) N (by rw [List.drop_drop, Nat.add_comm]; first | exact hN | (rw [Nat.add_comm]; exact hN)) (fun r hr => hall r (List.mem_of_mem_drop hr))
            rw [hdl] at h
            exact h)
          clear hN hall
          have hfd := field1
          have j0 : (j : Int) ≤ (m : Int) := by omega
          have j1 : (m : Int) ≤ (cap : Int) := by omega
          go_wp2_with fail
          refine HLF.out.mono ?_
          rintro e3 w3 ⟨rfl, hb4⟩
          have hmd3 := HSET.out.1.below hb4
          obtain ⟨u3, hu3⟩ := hmd3.at hjm
          have hfz3 := hmd3.2.2.1.2 j
          have hBlt3 := hmd3.2.2.1.1
          have HMD3 := Lib.hid hmd3
          clear hmd3 hb4 hu hfz hBlt d0 d1 d2
          go_wp2_with fail
          go_roundw
          case rel => exact ⟨j + 1, by omega, by go_num, (HMD3.out.set hw1 hjm _).1.step hkz (by rw [HRM.out]; exact (HMD3.out.set hw1 hjm _).2)⟩
          case measure => simp [intOf]; omega
        · have b5 : (k == 5) = false := beq_eq_false_iff_ne.2 h5
          have HRM := Lib.hid (show Z[j] = szT (k, nn, t) from by rw [HZJ.out]; exact room_one hkl HNT.out h5)
          have HSET := Lib.hid (HMD2.out.set hw1 hjm (szT (k, nn, t)))
          have e0 := (World.cell?_setCell_far w2 ⟨w1.heap.size, j, none⟩ ⟨wr.heap.size, 0, none⟩ (.int .i64 (szT (k, nn, t))) hne).trans d0
          go_wp2_with fail
          go_roundw
          case rel => exact ⟨j + 1, by omega, by go_num, HSET.out.1.step hkz (by rw [HRM.out]; exact HSET.out.2)⟩
          case measure => simp [intOf]; omega
      · obtain rfl : j = m := by omega
        have HMD := Lib.hid hmd
        clear hmd
        go_wp2_with fail
        go_ret2
        have hZl : Z.length = j := by rw [HZ.out.2, HM.out]
        refine ⟨some ⟨w1.heap.size, 0, none⟩, j, if Z = [] then [] else [w1.heap.size], by rw [hZl]; rfl, by omega, ?_, ?_, HMD.out.2.2.2⟩
        · by_cases h0 : Z = []
          · rw [if_pos h0]; exact .inl ⟨by rw [h0]; rfl, rfl⟩
          · rw [if_neg h0]
            refine .inr ⟨w1.heap.size, 0, rfl, by simpa using h0, rfl, fun q hq => ?_⟩
            have hq' : q < Z.length := by simpa using hq
            rw [Nat.zero_add, List.getElem_map]
            exact HMD.out.2.1 q hq' (by omega)
        · by_cases h0 : Z = []
          · rw [if_pos h0]; exact Fresh.nil _ _
          · rw [if_neg h0]; exact Fresh.cons (hi := w1.heap.size + 1) hw1 HMD.out.2.2.1.1 HMD.out.2.2.1.2 (Fresh.nil _ _) (by omega)

def valsI (Z : List Int) : List Value := Z.map (fun x => Value.int .i64 x)
theorem valsI_take {Z : List Int} {j : Nat} (h : j < Z.length) : valsI (Z.take j) ++ [.int .i64 Z[j]] = valsI (Z.take (j + 1)) := by
  unfold valsI; rw [List.take_succ_eq_append_getElem h, List.map_append]; rfl
set_option maxRecDepth 100000 in
set_option maxHeartbeats 6400000 in
theorem specSizesOf (l : List Tok) (w : World) (a : Option Addr) (cap : Nat) (fs : List Nat) (hs : TkSub w a l fs) (hc : l.length ≤ cap) (hl : l.length ≤ maxLen) (hft : TL.Fits l) :
    Calls Try.prog 35 #[.slice a l.length cap] w (IRes w (szR l)) := by
  have HTV := Lib.hid (fun (w' : World) (hb : Below w.heap.size w w') => specTokensValid l w' a cap fs (hs.below hs.lt hb) hc hl hft)
  have B1 := Lib.hid (show ∀ ob, Below w.heap.size w (w.alloc ob) from fun ob => (Below.refl _ _).alloc (Nat.le_refl _) _)
  cases htv : tkv l with
  | false =>
    rw [htv] at HTV
    rw [szR_no htv]
    clear htv hs
    unfold maxLen at hl
    go_enter Try.func35, Try.ntmps35
    go_wp2_with fail
    refine (HTV.out _ (B1.out _)).mono ?_
    rintro e1 w1 ⟨rfl, hb1⟩
    have H1 := Lib.hid ((B1.out _).trans (hb1.mono (by simp)))
    clear hb1
    go_wp2_with fail
    go_ret2
    exact IRes.none' H1.out
  | true =>
    rw [htv] at HTV
    rw [szR_yes htv]
    have hlen := tkv_len htv
    have HR := Lib.hid (show ∀ k, (h : k < l.length) → ∃ b off, a = some ⟨b, off, none⟩ ∧ b < w.heap.size ∧ TkAt w l b off from fun k h => by
      rcases hs with ⟨rfl, _⟩ | ⟨b, off, ha, hn, _, hr⟩
      · simp at h
      · exact ⟨b, off, ha, hr.lt hn, hr⟩)
    have HV := Lib.hid htv
    have HALL := Lib.hid (show ∀ r ∈ l, r.2.2.size ≤ 12 from fun r hr => by
      obtain ⟨q, hq, rfl⟩ := List.getElem_of_mem hr
      exact kt_size (tkv_kt htv hq))
    obtain ⟨Z, hZ⟩ : ∃ Z, szL l = Z := ⟨_, rfl⟩
    have HZ := Lib.hid (And.intro hZ (show Z.length = l.length by rw [← hZ, szL_len]))
    obtain ⟨m, hm⟩ : ∃ m, l.length = m := ⟨_, rfl⟩
    have HM := Lib.hid hm
    rw [hZ]
    rw [hm] at hc hl hlen HTV ⊢
    obtain ⟨i0, z0, hi, hz, hz1, hz2, hz3⟩ := info_some infoI
    have HI := Lib.hid (And.intro hi (And.intro hz (And.intro hz1 (And.intro hz2 hz3))))
    clear htv hs hZ hm hft hi hz hz1 hz2 hz3
    unfold maxLen at hl
    go_enter Try.func35, Try.ntmps35
    go_wp2_with fail
    refine (HTV.out _ (B1.out _)).mono ?_
    rintro e1 w1 ⟨rfl, hb1⟩
    have HO1 := Lib.hid (own_ext (own_none w (Nat.le_refl _) 3) hb1)
    have H1 := Lib.hid ((B1.out _).trans (hb1.mono (by simp)))
    clear hb1
    go_wp2_with fail
    go_loopw [5, 4] (fun i v wr => ∃ (j : Nat) (z : Value), j ≤ m ∧ i = .int .i64 (j : Int) ∧ z = v ∧ wr.ownsRow w.heap.size 3 1 z j (valsI (Z.take j)) ∧ Below w.heap.size w wr) (fun i _ _ => m - (intOf i).toNat)
    case atStart => exact ⟨0, _, by omega, rfl, rfl, HO1.out, H1.out⟩
    case round =>
      obtain ⟨j, v, hj, rfl, rfl, hown, hbw⟩ := hrel
      obtain ⟨al, cl, rfl, hcl⟩ := own_slice hown
      by_cases hjm : j < m
      · have hkl : j < l.length := by rw [HM.out]; exact hjm
        have hkz : j < Z.length := by rw [HZ.out.2]; exact hkl
        obtain ⟨b, off, rfl, hb, hrow⟩ := HR.out j hkl
        obtain ⟨c0, c1, c2⟩ := (hrow.below hb hbw) j hkl
        have HROW := Lib.hid (fun (w' : World) (h : Below w.heap.size w w') => hrow.below hb h)
        obtain ⟨⟨k, nn, t⟩, hnt⟩ : ∃ r, l[j] = r := ⟨_, rfl⟩
        have HNT := Lib.hid hnt
        have hkt := HALL.out _ (List.getElem_mem hkl)
        rw [hnt] at c0 c1 c2 hkt
        have hts : t.size ≤ 12 := hkt
        have HS := Lib.hid (fun W => specFlat k nn t (by unfold maxLen; omega) W)
        have HZJ := Lib.hid (show Z[j] = roomT l j hkl from by have h := szL_get hkl; have e := HZ.out.1; subst e; exact h)
        have HOW := Lib.hid hown
        have HBW := Lib.hid hbw
        have hbr : b < wr.heap.size := Nat.lt_of_lt_of_le hb hbw.size
        have i0' : (0 : Int) ≤ (j : Int) := Int.natCast_nonneg _
        have i1' : (j : Int) < (m : Int) := by omega
        clear hrow hnt hkt hown hbw
        go_wp2_with fail
        refine (HS.out _).mono ?_
        rintro e2 w2 ⟨rfl, hb3⟩
        have HB2 := Lib.hid (HBW.out.trans (hb3.mono HBW.out.size))
        have HO2 := Lib.hid (own_ext HOW.out hb3)
        have hwz := HBW.out.size
        have hbr2 : b < w2.heap.size := by have := hb3.size; omega
        obtain ⟨d0, d1, d2⟩ := (HROW.out _ HB2.out) j hkl
        rw [HNT.out] at d0 d1 d2
        clear hb3 c0 c1 c2
        by_cases h5 : k = 5
        · subst h5
          obtain ⟨N, hN⟩ := glo_valid HV.out hkl (by rw [HNT.out])
          have HRM := Lib.hid (show Z[j] = (lkN (N + 1) (l.drop j) 0 0).1 from by rw [HZJ.out]; exact room_grp hkl HNT.out hN)
          have hsz := specSize l w2 b off cap (HROW.out _ HB2.out) (by rw [HM.out]; omega) j hkl (by rw [HNT.out]) N hN HALL.out
          rw [HM.out, ← HRM.out] at hsz
          obtain ⟨x, hx⟩ : ∃ x, Z[j] = x := ⟨_, rfl⟩
          rw [hx] at hsz
          have HSZ := Lib.hid hsz
          have HX := Lib.hid hx
          clear hN hsz hx
          go_wp2_with fail
          refine HSZ.out.mono ?_
          rintro e3 w3 ⟨⟨y, rfl⟩, hb4⟩
          have HB3 := Lib.hid (HB2.out.trans (hb4.mono HB2.out.size))
          have hown3 := own_ext HO2.out hb4
          have hw3 := HB3.out.size
          clear hb4 d0 d1 d2
          go_wp2_with (at_builtin; refine wpList_append_lies _ rfl (.tmp 35) (.tmp 37) 48 rfl (w.heap.size) 3 i0 z0 1 8 Try.underlying48 HI.out.1 HI.out.2.1 HI.out.2.2.1 HI.out.2.2.2.1 HI.out.2.2.2.2 (by omega) (.slice al j cl) j (valsI (Z.take j)) rfl (hown3.alloc _) ⟨w3.heap.size, 0, none⟩ 1 1 [.int .i64 x] rfl rfl (one_int w3 x _) (by simp [Value.oneCell']) (by omega) (by unfold maxLen; omega) (by omega) (by simp; omega) (w3.heap.size + 1) (by simp) ?_; intro g cap' w5 hown5 hgrow5 hat5 hlt5; have H5 := Lib.hid (below_append hgrow5 hown3 (by omega)); have HO5 := Lib.hid hown5; clear hgrow5 hown5 hat5 hlt5)
          try go_wp2_with fail
          go_roundw
          case rel => exact ⟨j + 1, _, by omega, by go_num, rfl, by rw [← valsI_take hkz, HX.out]; exact HO5.out, HB3.out.trans H5.out⟩
          case measure => simp [intOf]; omega
        · have b5 : (k == 5) = false := beq_eq_false_iff_ne.2 h5
          have HRM := Lib.hid (show Z[j] = szT (k, nn, t) from by rw [HZJ.out]; exact room_one hkl HNT.out h5)
          obtain ⟨x, hx⟩ : ∃ x, szT (k, nn, t) = x := ⟨_, rfl⟩
          have HX := Lib.hid (HRM.out.trans hx)
          have hown3 := HO2.out
          have hw3 := HB2.out.size
          try rw [hx]
          clear hx
          go_wp2_with (at_builtin; refine wpList_append_lies _ rfl (.tmp 35) (.tmp 37) 48 rfl (w.heap.size) 3 i0 z0 1 8 Try.underlying48 HI.out.1 HI.out.2.1 HI.out.2.2.1 HI.out.2.2.2.1 HI.out.2.2.2.2 (by omega) (.slice al j cl) j (valsI (Z.take j)) rfl (hown3.alloc _) ⟨w2.heap.size, 0, none⟩ 1 1 [.int .i64 x] rfl rfl (one_int w2 x _) (by simp [Value.oneCell']) (by omega) (by unfold maxLen; omega) (by omega) (by simp; omega) (w2.heap.size + 1) (by simp) ?_; intro g cap' w5 hown5 hgrow5 hat5 hlt5; have H5 := Lib.hid (below_append hgrow5 hown3 (by omega)); have HO5 := Lib.hid hown5; clear hgrow5 hown5 hat5 hlt5)
          try go_wp2_with fail
          go_roundw
          case rel => exact ⟨j + 1, _, by omega, by go_num, rfl, by rw [← valsI_take hkz, HX.out]; exact HO5.out, HB2.out.trans H5.out⟩
          case measure => simp [intOf]; omega
      · obtain rfl : j = m := by omega
        have HOW := Lib.hid hown
        have HBW := Lib.hid hbw
        clear hown hbw
        go_wp2_with fail
        go_ret2
        have hZl : Z.length = j := by rw [HZ.out.2, HM.out]
        have ho := HOW.out
        rw [List.take_of_length_le (by omega)] at ho
        obtain ⟨a', c', fs', hv, hc', hs', hf'⟩ := own_vs ho
        injection hv with e1 e2 e3
        subst e1 e3
        exact ⟨al, cl, fs', by rw [hZl]; rfl, by omega, hs', hf', HBW.out⟩

end Go.Proofs.Ytcealfjkcbaelaa.Tk


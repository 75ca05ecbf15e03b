import Derived.Test.YtcealfjkcbaelaaStA
import Derived.Test.YtcealfjkcbaelaaTkA
import Derived.Test.YtcealfjkcbaelaaTkH
import Derived.Test.YtcealfjkcbaelaaTkX
import Derived.Deep.RegionHeld3
import Derived.BigQuiet
/-
  addFlat, take and StreamRows of the program.
-/
set_option linter.unusedVariables false
set_option linter.unusedSimpArgs false
namespace Go.Proofs.Ytcealfjkcbaelaa.StM
open Go.RowKit Go.Shelf P1 Cnt CntC Flat Wid ChP Rn Bwd BufS
open Tk hiding run
open LayN (cells2 cells2_len cells2_one LayRes LayRes.none')

/-- items are pushed: the row has grown, and its field is stored to -/
theorem RF.push {w0 w w3 : World} {B b : Nat} {W : Int} {its its' : List Int} {s : St} {fa fr fl fi fg fr' : Value} (h : RF w0 B b W its s ⟨fa, fr, fl, fi, fg⟩ w) {o : Obj} (hg : (w.alloc o).grownBy w3 fr.ownBlock) (ho : StackG NV 1 w3 3 B fr' its') :
    RF w0 B b W its' s ⟨fa, fr', fl, fi, fg⟩ (w3.setCell ⟨b, 5, none⟩ fr') := by
  have hl := h.below ((Below.refl w.heap.size w).alloc (Nat.le_refl _) o)
  obtain ⟨xs, x1, _⟩ := hl.rest
  have hrow : ∀ k, fr.ownBlock = some k → ∃ c, (w.alloc o).heap[k]? = some (.cells c 3 (0, 0)) := own_block x1
  refine hl.set hg (fun k e => by obtain ⟨c', h'⟩ := hrow k e; exact ⟨c', _, h', ne1, ne4⟩) 5 fr' ⟨fa, fr', fl, fi, fg⟩ (fun p v => rfl) its' s rfl ho (hl.rows.kept hg (own_or (fun k e => ?_))) (hl.flags.kept hg (own_or (fun k e => ?_))) h.ind h.wid
  · obtain ⟨c', h'⟩ := hrow k e
    exact StM.own_ne hl.rows h' (Ne.symm ne7)
  · obtain ⟨c', h'⟩ := hrow k e
    exact StM.own_ne hl.flags h' (Ne.symm ne8)
/-- items are left out: the field is stored to -/
theorem RF.pop {w0 w : World} {B b : Nat} {W : Int} {its its' : List Int} {s : St} {fa fr fl fi fg fr' : Value} (h : RF w0 B b W its s ⟨fa, fr, fl, fi, fg⟩ w) (ho : StackG NV 1 w 3 B fr' its') :
    RF w0 B b W its' s ⟨fa, fr', fl, fi, fg⟩ (w.setCell ⟨b, 5, none⟩ fr') :=
  h.set (row := none) ⟨rfl, rfl, rfl, Nat.le_refl _, fun _ _ _ => rfl⟩ (by simp) 5 fr' ⟨fa, fr', fl, fi, fg⟩ (fun p v => rfl) its' s rfl ho h.rows h.flags h.ind h.wid
/-- a token's variable -/
def TV (b : Nat) (k n : Int) (t : ByteArray) (w : World) : Prop := w.heap[b]? = some (.cells #[.int .i64 k, .int .i64 n, .string t] 55 (0, 0))
theorem TV.cells {b : Nat} {k n : Int} {t : ByteArray} {w : World} (h : TV b k n t w) : w.cell? ⟨b, 0, none⟩ = some (.int .i64 k) ∧ w.cell? ⟨b, 1, none⟩ = some (.int .i64 n) ∧ w.cell? ⟨b, 2, none⟩ = some (.string t) := by
  have h' : w.heap[b]? = _ := h
  refine ⟨?_, ?_, ?_⟩ <;> (simp only [World.cell?, h']; rfl)
/-- the token stands when the builder is written to -/
theorem TV.wrote {B b v : Nat} {F : Fs} {L : List UInt8} {k n : Int} {t : ByteArray} {w w' : World} (h : TV v k n t w) (hw : Wrote B b F L w w') (hb : v ≠ b) : TV v k n t w' :=
  hw.2.2 v _ h (by simpa using hb) (fun c z e => by cases e)
theorem put_list (s : St) (t : ByteArray) : (s.put t).txt.data.toList = s.txt.data.toList ++ t.data.toList := by simp [St.put]
theorem drewN_below (w : World) : ∀ n, Below w.heap.size w (w.drewN n)
  | 0 => Below.refl _ _
  | n + 1 => (drewN_below w n).drew
theorem drewN_heap (w : World) : ∀ n, (w.drewN n).heap = w.heap
  | 0 => rfl
  | n + 1 => drewN_heap w n
theorem quiet_room {P : Program} {f : FuncId} {args : Array Value} {w : World} {n : Nat} {v : Value}
    (h : Calls P f args (w.drewN n) fun e w' => e = .returned v ∧ w' = (w.drewN n).drew) : Calls P f args (w.drewN n) fun e w'' => e = .returned v ∧ ∃ m, w'' = w.drewN m :=
  h.mono fun _ _ ⟨he, hm⟩ => ⟨he, n + 1, hm⟩
/-- what addFlat leaves -/
def AdOut (w0 : World) (B b : Nat) (W : Int) (ns : List Int) (s : St) (w : World) (e : Ending) (w' : World) : Prop := e = .returned (.tuple #[]) ∧ RS w0 B b W ns s w' ∧ Below B w w' ∧ KeptBut [5] b w w'
/-- what take leaves -/
def TkOut (w0 : World) (B b : Nat) (W : Int) (l : List Tok) (R : St × Nat) (J : Nat) (w : World) (e : Ending) (w' : World) : Prop := ∃ (q : Nat) (s : St) (ns : List Int) (a : Nat), e = .returned (.int .i64 (q : Int)) ∧ 1 ≤ q ∧ SI W l R (J + q) s ns a ∧ RS w0 B b W ns s w' ∧ Below B w w'

set_option maxRecDepth 100000 in
set_option maxHeartbeats 6400000 in
theorem addFlat (g : List Tok) (w0 w : World) (B b : Nat) (W : Int) (ns : List Int) (s : St) (tb off cap : Nat) (hat : TkAt w g tb off) (htb : tb < B) (hcap : g.length ≤ cap) (hB : B ≤ w.heap.size) (hs : RS w0 B b W ns s w) (hl : g.length ≤ 1000) (hz : ∀ r ∈ g, r.2.2.size ≤ 12) (hst : s.txt.size ≤ 100000) :
    Calls Try.prog 115 #[.pointer (some ⟨b, 0, none⟩), .slice (some ⟨tb, off, none⟩) g.length cap] w (AdOut w0 B b W ns (s.put (flT g)) w) := by
  obtain ⟨m, hm⟩ : ∃ m, g.length = m := ⟨_, rfl⟩
  have HM := Lib.hid hm
  have HAT := Lib.hid (fun (W' : World) (h : Below B w W') => hat.below htb h)
  have HZ := Lib.hid (fun (q : Nat) (h : q < g.length) => hz _ (List.getElem_mem h))
  have HFZ := Lib.hid (fun (q : Nat) => show (flT (g.take q)).size ≤ 13000 from by
    have h := flT_size (g.take q) (fun r hr => hz r (List.mem_of_mem_take hr))
    have h2 : (g.take q).length ≤ 1000 := by rw [List.length_take]; omega
    omega)
  have HS0 := Lib.hid hs
  have HBB := Lib.hid hB
  have HT0 := Lib.hid hst
  have HTB := Lib.hid htb
  rw [hm] at hcap hl ⊢
  clear hat hs hm hz hst
  unfold AdOut
  go_enter Try.func115, Try.ntmps115
  go_wp2_with fail
  go_loopw [8] (fun i wr => ∃ (q : Nat), q ≤ m ∧ i = .int .i64 (q : Int) ∧ Hid (RS w0 B b W ns (s.put (flT (g.take q))) wr) ∧ Hid (Below B w wr ∧ KeptBut [5] b w wr)) (fun i _ => m - (intOf i).toNat)
  case atStart => exact ⟨0, by omega, rfl, Lib.hid (by rw [List.take_zero]; show RS w0 B b W ns (s.put ⟨#[]⟩) _; rw [St.put_none]; exact HS0.out), Lib.hid ⟨Below.refl _ _, KeptBut.refl _ _ _⟩⟩
  case round =>
    obtain ⟨q, hq, rfl, HS, HB⟩ := hrel
    have i0 : (0 : Int) ≤ (q : Int) := Int.natCast_nonneg _
    have hBw : B ≤ wr.heap.size := Nat.le_trans HBB.out HB.out.1.size
    obtain ⟨F, hF⟩ := HS.out
    obtain ⟨_, _, _, _, _, _, hbl, hBb⟩ := hF.cells
    by_cases hqm : q < m
    · have hql : q < g.length := by rw [HM.out]; exact hqm
      have i1 : (q : Int) < (m : Int) := by omega
      obtain ⟨c0, c1, c2⟩ := (HAT.out _ HB.out.1) q hql
      have htw : tb < wr.heap.size := Nat.lt_of_lt_of_le HTB.out hBw
      obtain ⟨⟨k, nn, t⟩, hnt⟩ : ∃ r, g[q] = r := ⟨_, rfl⟩
      have hts := HZ.out q hql
      have HST := Lib.hid (show flT (g.take (q + 1)) = flT (g.take q) ++ ((if k = 2 then ⟨#[32]⟩ else ⟨#[]⟩) ++ t) from by rw [Sq.flT_step hql, hnt])
      rw [hnt] at c0 c1 c2 hts
      simp only at hts
      obtain ⟨FQ, hFQ⟩ : ∃ x, flT (g.take q) = x := ⟨_, rfl⟩
      have hfz := HFZ.out q
      rw [hFQ] at hfz hF HST
      have hsz : (s.put FQ).txt.size ≤ 120000 := by show (s.txt ++ FQ).size ≤ _; rw [ByteArray.size_append]; have := HT0.out; omega
      have HF := Lib.hid hF
      have HAL := Lib.hid (fun (ob : Obj) => (Below.refl wr.heap.size wr).alloc (Nat.le_refl _) ob)
      have HTV := Lib.hid (show TV wr.heap.size k nn t (wr.alloc (.cells #[.int .i64 k, .int .i64 nn, .string t] 55)) from World.alloc_heap_new wr _)
      have hvb : wr.heap.size ≠ b := by omega
      have HWS := Lib.hid (fun (W' : World) (h : Below wr.heap.size wr W') => writeString B b F _ t W' (HF.out.below h).hold (by rw [len_text]; omega) (by omega) (Nat.le_trans hBw h.size))
      have HWB := Lib.hid (fun (W' : World) (h : Below wr.heap.size wr W') => writeByte B b F _ 32 32 rfl W' (HF.out.below h).hold (by rw [len_text]; omega) (Nat.le_trans hBw h.size))
      clear hF hFQ hnt HS
      by_cases hk2 : k = 2
      · subst hk2
        go_wp2_with fail
        refine (HWB.out _ (HAL.out _)).mono ?_
        rintro e1 w1 ⟨rfl, hw1⟩
        have HTV1 := Lib.hid (TV.wrote HTV.out hw1 hvb)
        have hs1 : w1.cell? ⟨wr.heap.size, 2, none⟩ = some (.string t) := HTV1.out.cells.2.2
        have HF1 := Lib.hid ((HF.out.below (HAL.out (.cells #[.int .i64 2, .int .i64 nn, .string t] 55))).wrote (t := ((s.put FQ).put ⟨#[32]⟩).txt) hw1 (put_list _ _))
        have HK1 := Lib.hid ((kept_ext (HAL.out _)).trans (kept_others (ts := [5]) hw1.2.2 (by decide)))
        have HB1 := Lib.hid (((HAL.out _).mono hBw).trans hw1.2.1)
        have hsz1 : ((s.put FQ).put ⟨#[32]⟩).txt.size ≤ 120001 := by show ((s.put FQ).txt ++ (⟨#[32]⟩ : ByteArray)).size ≤ _; rw [ByteArray.size_append]; have : (⟨#[32]⟩ : ByteArray).size = 1 := rfl; omega
        have HWS1 := Lib.hid (writeString B b F ((s.put FQ).put ⟨#[32]⟩).txt.data.toList t w1.drew (HF1.out.below (Below.refl _ _).drew).hold (by rw [len_text]; omega) (by omega) (Nat.le_trans hBw HB1.out.size))
        have hv1 : wr.heap.size < w1.heap.size := by have h := hw1.2.1.size; simp at h; omega
        clear hw1
        go_wp2_with fail
        go_region_held3 (fun w' => w'.cell? ⟨wr.heap.size, 2, none⟩ = some (.string t))
          (first | go_keep | exact hs1 | exact hk2t)
          (first | (go_at_call 112; refine HWS1.out.mono ?_; rintro e2 w2 ⟨rfl, hw2⟩; have hk2t : w2.cell? ⟨wr.heap.size, 2, none⟩ = some (.string t) := (TV.wrote (show TV wr.heap.size 2 nn t w1.drew from HTV1.out) hw2 hvb).cells.2.2; have H2 := Lib.hid hw2; clear hw2))
        go_wp2_with fail
        go_roundw
        case rel => exact ⟨q + 1, by omega, by go_num, Lib.hid (by
          rw [HST.out]
          try simp only [if_true]
          rw [← put_put, ← put_put]
          exact ⟨F, (HF1.out.below (Below.refl _ _).drew).wrote (t := (((s.put FQ).put ⟨#[32]⟩).put t).txt) H2.out (put_list _ _)⟩), Lib.hid ⟨HB.out.1.trans (HB1.out.drew.trans H2.out.2.1), ((HB.out.2.trans HK1.out).trans (kept_ext (Below.refl _ _).drew)).trans (kept_others H2.out.2.2 (by decide))⟩⟩
        case measure => simp [intOf]; omega
      · have b2 : (k == 2) = false := beq_eq_false_iff_ne.2 hk2
        go_wp2_with fail
        go_region_held3 (fun w' => w'.cell? ⟨wr.heap.size, 2, none⟩ = some (.string t))
          (first | go_keep | exact HTV.out.cells.2.2 | exact hk2t)
          (first | (go_at_call 112; refine (HWS.out _ (HAL.out _).drew).mono ?_; rintro e2 w2 ⟨rfl, hw2⟩; have hk2t : w2.cell? ⟨wr.heap.size, 2, none⟩ = some (.string t) := (TV.wrote (show TV wr.heap.size k nn t (wr.alloc (.cells #[.int .i64 k, .int .i64 nn, .string t] 55)).drew from HTV.out) hw2 hvb).cells.2.2; have H2 := Lib.hid hw2; clear hw2))
        go_wp2_with fail
        go_roundw
        case rel => exact ⟨q + 1, by omega, by go_num, Lib.hid (by
          rw [HST.out, if_neg hk2]
          exact ⟨F, by
            have h := (HF.out.below (HAL.out (.cells #[.int .i64 k, .int .i64 nn, .string t] 55)).drew).wrote (t := ((s.put FQ).put t).txt) H2.out (put_list _ _)
            rw [show (⟨#[]⟩ : ByteArray) ++ t = t from ByteArray.empty_append, ← put_put]
            exact h⟩), Lib.hid ⟨HB.out.1.trans (((HAL.out _).drew.mono hBw).trans H2.out.2.1), (HB.out.2.trans (kept_ext (HAL.out _).drew)).trans (kept_others H2.out.2.2 (by decide))⟩⟩
        case measure => simp [intOf]; omega
    · obtain rfl : q = m := by omega
      have HE := Lib.hid (show g.take q = g from List.take_of_length_le (by rw [HM.out]; exact Nat.le_refl _))
      clear hF
      go_wp2_with fail
      go_end0
      exact ⟨rfl, by have h := HS.out; rw [HE.out] at h; exact h, HB.out.1, HB.out.2⟩

set_option maxRecDepth 100000 in
set_option maxHeartbeats 12800000 in
theorem take (l : List Tok) (W : Int) (R : St × Nat) (J : Nat) (hJ : J < l.length) (s : St) (ns : List Int) (a : Nat) (w0 w : World) (B b tb off cap : Nat) (hat : TkAt w l tb off) (htb : tb < B) (hcap : l.length ≤ cap) (hv : tkv l = true) (hB : B ≤ w.heap.size) (hs : RS w0 B b W ns s w) (HS : Hid (SI W l R J s ns a)) (hW0 : 0 ≤ W) (hW1 : W ≤ 200) :
    Calls Try.prog 66 #[.pointer (some ⟨b, 0, none⟩), .slice (some ⟨tb, off + J * 3, none⟩) (l.length - J) (cap - J)] w (TkOut w0 B b W l R J w) := by
  have hlen := tkv_len hv
  have HVV := Lib.hid hv
  have HALL := Lib.hid (show ∀ r ∈ l, r.2.2.size ≤ 12 from fun r hr => kt_size (kt_all hv r hr))
  have hrow := HS.out.rows
  have hind := HS.out.ind
  have htxt := HS.out.txt
  obtain ⟨x, q, hns, hx0, hx1⟩ := HS.out.ne
  subst hns
  have hq200 : q.length ≤ 1000 := by
    have h1 := HS.out.nlen
    simp only [List.length_cons] at h1
    omega
  obtain ⟨⟨fa, fr, fl, fi, fg⟩, hF⟩ := hs
  obtain ⟨gn, cn, hfr, hgn0, hgn1, hgn2, hgn3, hgn4⟩ := Sq.nest_top hF.rest
  obtain rfl : fr = .slice (some ⟨gn, 0, none⟩) (q.length + 1) cn := hfr
  obtain ⟨_, b5, _, _, _, bz, hbl, hBb⟩ := hF.cells
  have f5 := bz 5
  obtain ⟨LQ, hLQ⟩ : ∃ y, q.length = y := ⟨_, rfl⟩
  rw [hLQ] at hgn2 hgn3 hF hq200 b5
  have hwl := Sq.wrapN hq200
  have HLQ := Lib.hid hLQ
  have HF := Lib.hid hF
  have HG4 := Lib.hid hgn4
  have hgb : gn ≠ b := fun e => by
    obtain ⟨xs, x1, _⟩ := hF.rest
    obtain ⟨c, h1⟩ := hF.block
    exact StM.own_ne x1 h1 ne4 (by rw [← e]; rfl)
  obtain ⟨d0, d1, d2⟩ := hat J hJ
  have HAT := Lib.hid hat
  have htw : tb < w.heap.size := Nat.lt_of_lt_of_le htb hB
  have HTB := Lib.hid htb
  obtain ⟨⟨k, nn, t⟩, hnt⟩ : ∃ r, l[J] = r := ⟨_, rfl⟩
  have HNT := Lib.hid hnt
  rw [hnt] at d0 d1 d2
  have hts := HALL.out _ (List.getElem_mem hJ)
  rw [hnt] at hts
  simp only at hts
  have hkt := HS.out.kt hJ
  rw [hnt] at hkt
  obtain ⟨m, hm⟩ : ∃ m, l.length = m := ⟨_, rfl⟩
  have HM := Lib.hid hm
  rw [hm] at hcap hlen ⊢
  have hJm : J < m := by omega
  obtain ⟨M, hM⟩ : ∃ y, m - J = y := ⟨_, rfl⟩
  obtain ⟨C, hC⟩ : ∃ y, cap - J = y := ⟨_, rfl⟩
  have hM0 : 0 < M := by omega
  have hMC : M ≤ C := by omega
  have hMi : (0 : Int) < (M : Int) := by omega
  have HMC := Lib.hid (And.intro hM hC)
  obtain ⟨O, hO⟩ : ∃ y, off + J * 3 = y := ⟨_, rfl⟩
  have HO := Lib.hid hO
  rw [hO] at d0 d1 d2 ⊢
  rw [hM, hC]
  have n0 : (0 : Int) ≤ (LQ : Int) := Int.natCast_nonneg _
  have n1 : (LQ : Int) < (LQ : Int) + 1 := by omega
  have HAL := Lib.hid (fun (ob : Obj) => (Below.refl w.heap.size w).alloc (Nat.le_refl _) ob)
  have hvb : w.heap.size ≠ b := by omega
  have HBB := Lib.hid hB
  have HTV := Lib.hid (show TV w.heap.size k nn t (w.alloc (.cells #[.int .i64 k, .int .i64 nn, .string t] 55)) from World.alloc_heap_new w _)
  have HFD := Lib.hid (fun (W' : World) (h : Below w.heap.size w W') => HF.out.below h)
  clear hat hm hM hC hO hnt hv hF hgn4 hLQ bz htb
  go_enter Try.func66, Try.ntmps66
  by_cases hk : k = 1
  · subst hk
    have HSN := Lib.hid (show SI W l R (J + 1) (s.put t) (x :: q) a from by have h := HS.out.text hJ (by rw [HNT.out]); rw [HNT.out] at h; exact h)
    have HWS := Lib.hid (fun (W' : World) (h : Below w.heap.size w W') => writeString B b _ _ t W' (HFD.out _ h).hold (by rw [len_text]; omega) (by omega) (Nat.le_trans hB h.size))
    go_wp2_with fail
    go_region_held3 (fun w' => w'.cell? ⟨w.heap.size, 2, none⟩ = some (.string t))
      (first | go_keep | exact HTV.out.cells.2.2 | exact hk2t)
      (first | (go_at_call 112; refine (HWS.out _ (HAL.out _).drew).mono ?_; rintro e2 w2 ⟨rfl, hw2⟩; have hk2t : w2.cell? ⟨w.heap.size, 2, none⟩ = some (.string t) := (TV.wrote (show TV w.heap.size 1 nn t (w.alloc (.cells #[.int .i64 1, .int .i64 nn, .string t] 55)).drew from HTV.out) hw2 hvb).cells.2.2; have H2 := Lib.hid hw2; clear hw2))
    go_wp2_with fail
    go_ret
    exact ⟨1, s.put t, x :: q, a, rfl, Nat.le_refl _, HSN.out, ⟨_, (HFD.out _ (HAL.out _).drew).wrote (t := (s.put t).txt) H2.out (put_list _ _)⟩, ((HAL.out _).drew.mono HBB.out).trans H2.out.2.1⟩
  have hk1 := hk
  clear hk
  cases hn : isN k with
  | true =>
    have HSN := Lib.hid (show SI W l R (J + 1) (s.line x) (x :: q) a from by have h := HS.out.line hJ (by rw [HNT.out]; exact hn); exact h)
    rcases (show k = 2 ∨ k = 3 ∨ k = 4 by simp [isN] at hn; omega) with rfl | rfl | rfl
    · go_wp2_with fail
      obtain ⟨D, hD⟩ : ∃ D, (w.alloc (.cells #[.int .i64 2, .int .i64 nn, .string t] 55)).drew = D := ⟨_, rfl⟩
      have HBD := Lib.hid (show Below w.heap.size w D from by rw [← hD]; exact (HAL.out _).drew)
      have HD5 := Lib.hid (show D.cell? ⟨b, 5, none⟩ = some (.slice (some ⟨gn, 0, none⟩) (LQ + 1) cn) from (HBD.out.cell (p := ⟨b, 5, none⟩) hbl).trans b5)
      have HDN := Lib.hid (show D.cell? ⟨gn, LQ, none⟩ = some (.int .i64 x) from (HBD.out.cell (p := ⟨gn, LQ, none⟩) hgn1).trans hgn3)
      have HNL := Lib.hid (newLine (Nat.le_trans HBB.out HBD.out.size) ⟨_, HFD.out _ HBD.out⟩ (by omega) x)
      refine wp_region_held_drew (S := (fun _ => True)) (by kernel_rfl) ?_ (fun hHeld => ?_)
      · trivial
      try rw [hD] at hHeld
      try rw [hD]
      clear hD b5 hgn3
      refine wpAnyH_take (i := 0) (oi := { dst := some 32, op := Op.move (Operand.tmp 0), type := 79, pos := "l6_stream.go:275", after := #[], guard := none }) (v := ?_) rfl (by kernel_rfl) (by kernel_rfl) (by kernel_rfl) (fun _ _ _ h => h) (Or.inl ⟨by rfl, ?_⟩) (by assumption) ?_
      rotate_left
      · (intro w hSw; (try dsimp only at hSw); (go_simp <;> with_reducible rfl))
      try simp only [Act.put, List.setIfInBounds_toArray, List.set_cons_zero, List.set_cons_succ]
      refine wpAnyH_take (i := 1) (oi := { dst := some 33, op := Op.nilCheck (Operand.tmp 32), type := 0, pos := "l6_stream.go:275", after := #[{ on := 0, ground := Ground.data }], guard := none }) (v := ?_) rfl (by kernel_rfl) (by kernel_rfl) (by kernel_rfl) (fun _ _ _ h => h) (Or.inl ⟨by rfl, ?_⟩) (by assumption) ?_
      rotate_left
      · (intro w hSw; (try dsimp only at hSw); (go_simp <;> with_reducible rfl))
      try simp only [Act.put, List.setIfInBounds_toArray, List.set_cons_zero, List.set_cons_succ]
      refine wpAnyH_take (i := 2) (oi := { dst := some 34, op := Op.fieldAddr 86 (Operand.tmp 33) 0, type := 0, pos := "l6_stream.go:275", after := #[{ on := 1, ground := Ground.data }], guard := none }) (v := ?_) rfl (by kernel_rfl) (by kernel_rfl) (by kernel_rfl) (fun _ _ _ h => h) (Or.inl ⟨by rfl, ?_⟩) (by assumption) ?_
      rotate_left
      · (intro w hSw; (try dsimp only at hSw); (go_simp <;> with_reducible rfl))
      try simp only [Act.put, List.setIfInBounds_toArray, List.set_cons_zero, List.set_cons_succ]
      refine wpAnyH_take (i := 3) (oi := { dst := some 35, op := Op.move (Operand.tmp 0), type := 79, pos := "l6_stream.go:275", after := #[], guard := none }) (v := ?_) rfl (by kernel_rfl) (by kernel_rfl) (by kernel_rfl) (fun _ _ _ h => h) (Or.inl ⟨by rfl, ?_⟩) (by assumption) ?_
      rotate_left
      · (intro w hSw; (try dsimp only at hSw); (go_simp <;> with_reducible rfl))
      try simp only [Act.put, List.setIfInBounds_toArray, List.set_cons_zero, List.set_cons_succ]
      refine wpAnyH_take (i := 4) (oi := { dst := some 36, op := Op.nilCheck (Operand.tmp 35), type := 0, pos := "l6_stream.go:275", after := #[{ on := 3, ground := Ground.data }], guard := none }) (v := ?_) rfl (by kernel_rfl) (by kernel_rfl) (by kernel_rfl) (fun _ _ _ h => h) (Or.inl ⟨by rfl, ?_⟩) (by assumption) ?_
      rotate_left
      · (intro w hSw; (try dsimp only at hSw); (go_simp <;> with_reducible rfl))
      try simp only [Act.put, List.setIfInBounds_toArray, List.set_cons_zero, List.set_cons_succ]
      refine wpAnyH_take (i := 5) (oi := { dst := some 37, op := Op.fieldAddr 86 (Operand.tmp 36) 1, type := 0, pos := "l6_stream.go:275", after := #[{ on := 4, ground := Ground.data }], guard := none }) (v := ?_) rfl (by kernel_rfl) (by kernel_rfl) (by kernel_rfl) (fun _ _ _ h => h) (Or.inl ⟨by rfl, ?_⟩) (by assumption) ?_
      rotate_left
      · (intro w hSw; (try dsimp only at hSw); (go_simp <;> with_reducible rfl))
      try simp only [Act.put, List.setIfInBounds_toArray, List.set_cons_zero, List.set_cons_succ]
      refine wpAnyH_take (i := 7) (oi := { dst := some 39, op := Op.move (Operand.tmp 5), type := 3, pos := "l6_stream.go:275", after := #[], guard := none }) (v := ?_) rfl (by kernel_rfl) (by kernel_rfl) (by kernel_rfl) (fun _ _ _ h => h) (Or.inl ⟨by rfl, ?_⟩) (by assumption) ?_
      rotate_left
      · (intro w hSw; (try dsimp only at hSw); (go_simp <;> with_reducible rfl))
      try simp only [Act.put, List.setIfInBounds_toArray, List.set_cons_zero, List.set_cons_succ]
      refine wpAnyH_ready (rs := [6]) (by kernel_rfl) (by simp) ?_
      refine AllReadyH.cons (o := { dst := some 38, op := Op.load 48 (Operand.tmp 37), type := 48, pos := "l6_stream.go:275", after := #[{ on := 5, ground := Ground.data }], guard := none }) rfl (fun K hK => ?_) AllReadyH.nil
      have r0 := HD5.out
      go_simp
      refine hK.out _ _ ?_ (fun hHeld6 => ?_)
      · trivial
      clear hK K hHeld
      try simp only [Act.put, List.setIfInBounds_toArray, List.set_cons_zero, List.set_cons_succ]
      refine wpAnyH_take (i := 8) (oi := { dst := some 40, op := Op.indexAddr 48 (Operand.tmp 38) (Operand.tmp 39), type := 0, pos := "l6_stream.go:275", after := #[{ on := 6, ground := Ground.data }, { on := 7, ground := Ground.data }], guard := none }) (v := ?_) rfl (by kernel_rfl) (by kernel_rfl) (by kernel_rfl) (fun _ _ _ h => h) (Or.inl ⟨by rfl, ?_⟩) (by assumption) ?_
      rotate_left
      · (intro w hSw; (try dsimp only at hSw); (go_simp <;> with_reducible rfl))
      try simp only [Act.put, List.setIfInBounds_toArray, List.set_cons_zero, List.set_cons_succ]
      refine wpAnyH_ready (rs := [9]) (by kernel_rfl) (by simp) ?_
      refine AllReadyH.cons (o := { dst := some 41, op := Op.load 3 (Operand.tmp 40), type := 3, pos := "l6_stream.go:275", after := #[{ on := 8, ground := Ground.data }], guard := none }) rfl (fun K hK => ?_) AllReadyH.nil
      have r1 := HDN.out
      go_simp
      refine hK.out _ _ ?_ (fun hHeld9 => ?_)
      · trivial
      clear hK K hHeld6
      try simp only [Act.put, List.setIfInBounds_toArray, List.set_cons_zero, List.set_cons_succ]
      refine wpAnyH_ready (rs := [10]) (by kernel_rfl) (by simp) ?_
      refine AllReadyH.cons (o := { dst := some 42, op := Op.call { callee := Callee.value (Operand.func 113), args := #[Operand.tmp 34, Operand.tmp 41], argTypes := #[84, 3] }, type := 0, pos := "l6_stream.go:275", after := #[{ on := 2, ground := Ground.data }, { on := 9, ground := Ground.data }], guard := none }) rfl (fun K hK => ?_) AllReadyH.nil
      go_simp
      go_at_call 113
      refine HNL.out.mono ?_
      rintro e2 w2 ⟨rfl, hs2, hb2, hk2⟩
      have H2 := Lib.hid (And.intro hs2 hb2)
      clear hs2 hb2 hk2
      try go_wp2_with fail
      refine hK.out _ _ ?_ (fun hHeld10 => ?_)
      · trivial
      clear hK K hHeld9
      try simp only [Act.put, List.setIfInBounds_toArray, List.set_cons_zero, List.set_cons_succ]
      refine wpAnyH_done (by kernel_rfl) ?_ _
      go_wp2_with fail
      go_ret
      exact ⟨1, s.line x, x :: q, a, rfl, Nat.le_refl _, HSN.out, H2.out.1, (HBD.out.mono HBB.out).trans H2.out.2⟩
    · go_wp2_with fail
      obtain ⟨D, hD⟩ : ∃ D, (w.alloc (.cells #[.int .i64 3, .int .i64 nn, .string t] 55)).drew = D := ⟨_, rfl⟩
      have HBD := Lib.hid (show Below w.heap.size w D from by rw [← hD]; exact (HAL.out _).drew)
      have HD5 := Lib.hid (show D.cell? ⟨b, 5, none⟩ = some (.slice (some ⟨gn, 0, none⟩) (LQ + 1) cn) from (HBD.out.cell (p := ⟨b, 5, none⟩) hbl).trans b5)
      have HDN := Lib.hid (show D.cell? ⟨gn, LQ, none⟩ = some (.int .i64 x) from (HBD.out.cell (p := ⟨gn, LQ, none⟩) hgn1).trans hgn3)
      have HNL := Lib.hid (newLine (Nat.le_trans HBB.out HBD.out.size) ⟨_, HFD.out _ HBD.out⟩ (by omega) x)
      refine wp_region_held_drew (S := (fun _ => True)) (by kernel_rfl) ?_ (fun hHeld => ?_)
      · trivial
      try rw [hD] at hHeld
      try rw [hD]
      clear hD b5 hgn3
      refine wpAnyH_take (i := 0) (oi := { dst := some 32, op := Op.move (Operand.tmp 0), type := 79, pos := "l6_stream.go:275", after := #[], guard := none }) (v := ?_) rfl (by kernel_rfl) (by kernel_rfl) (by kernel_rfl) (fun _ _ _ h => h) (Or.inl ⟨by rfl, ?_⟩) (by assumption) ?_
      rotate_left
      · (intro w hSw; (try dsimp only at hSw); (go_simp <;> with_reducible rfl))
      try simp only [Act.put, List.setIfInBounds_toArray, List.set_cons_zero, List.set_cons_succ]
      refine wpAnyH_take (i := 1) (oi := { dst := some 33, op := Op.nilCheck (Operand.tmp 32), type := 0, pos := "l6_stream.go:275", after := #[{ on := 0, ground := Ground.data }], guard := none }) (v := ?_) rfl (by kernel_rfl) (by kernel_rfl) (by kernel_rfl) (fun _ _ _ h => h) (Or.inl ⟨by rfl, ?_⟩) (by assumption) ?_
      rotate_left
      · (intro w hSw; (try dsimp only at hSw); (go_simp <;> with_reducible rfl))
      try simp only [Act.put, List.setIfInBounds_toArray, List.set_cons_zero, List.set_cons_succ]
      refine wpAnyH_take (i := 2) (oi := { dst := some 34, op := Op.fieldAddr 86 (Operand.tmp 33) 0, type := 0, pos := "l6_stream.go:275", after := #[{ on := 1, ground := Ground.data }], guard := none }) (v := ?_) rfl (by kernel_rfl) (by kernel_rfl) (by kernel_rfl) (fun _ _ _ h => h) (Or.inl ⟨by rfl, ?_⟩) (by assumption) ?_
      rotate_left
      · (intro w hSw; (try dsimp only at hSw); (go_simp <;> with_reducible rfl))
      try simp only [Act.put, List.setIfInBounds_toArray, List.set_cons_zero, List.set_cons_succ]
      refine wpAnyH_take (i := 3) (oi := { dst := some 35, op := Op.move (Operand.tmp 0), type := 79, pos := "l6_stream.go:275", after := #[], guard := none }) (v := ?_) rfl (by kernel_rfl) (by kernel_rfl) (by kernel_rfl) (fun _ _ _ h => h) (Or.inl ⟨by rfl, ?_⟩) (by assumption) ?_
      rotate_left
      · (intro w hSw; (try dsimp only at hSw); (go_simp <;> with_reducible rfl))
      try simp only [Act.put, List.setIfInBounds_toArray, List.set_cons_zero, List.set_cons_succ]
      refine wpAnyH_take (i := 4) (oi := { dst := some 36, op := Op.nilCheck (Operand.tmp 35), type := 0, pos := "l6_stream.go:275", after := #[{ on := 3, ground := Ground.data }], guard := none }) (v := ?_) rfl (by kernel_rfl) (by kernel_rfl) (by kernel_rfl) (fun _ _ _ h => h) (Or.inl ⟨by rfl, ?_⟩) (by assumption) ?_
      rotate_left
      · (intro w hSw; (try dsimp only at hSw); (go_simp <;> with_reducible rfl))
      try simp only [Act.put, List.setIfInBounds_toArray, List.set_cons_zero, List.set_cons_succ]
      refine wpAnyH_take (i := 5) (oi := { dst := some 37, op := Op.fieldAddr 86 (Operand.tmp 36) 1, type := 0, pos := "l6_stream.go:275", after := #[{ on := 4, ground := Ground.data }], guard := none }) (v := ?_) rfl (by kernel_rfl) (by kernel_rfl) (by kernel_rfl) (fun _ _ _ h => h) (Or.inl ⟨by rfl, ?_⟩) (by assumption) ?_
      rotate_left
      · (intro w hSw; (try dsimp only at hSw); (go_simp <;> with_reducible rfl))
      try simp only [Act.put, List.setIfInBounds_toArray, List.set_cons_zero, List.set_cons_succ]
      refine wpAnyH_take (i := 7) (oi := { dst := some 39, op := Op.move (Operand.tmp 5), type := 3, pos := "l6_stream.go:275", after := #[], guard := none }) (v := ?_) rfl (by kernel_rfl) (by kernel_rfl) (by kernel_rfl) (fun _ _ _ h => h) (Or.inl ⟨by rfl, ?_⟩) (by assumption) ?_
      rotate_left
      · (intro w hSw; (try dsimp only at hSw); (go_simp <;> with_reducible rfl))
      try simp only [Act.put, List.setIfInBounds_toArray, List.set_cons_zero, List.set_cons_succ]
      refine wpAnyH_ready (rs := [6]) (by kernel_rfl) (by simp) ?_
      refine AllReadyH.cons (o := { dst := some 38, op := Op.load 48 (Operand.tmp 37), type := 48, pos := "l6_stream.go:275", after := #[{ on := 5, ground := Ground.data }], guard := none }) rfl (fun K hK => ?_) AllReadyH.nil
      have r0 := HD5.out
      go_simp
      refine hK.out _ _ ?_ (fun hHeld6 => ?_)
      · trivial
      clear hK K hHeld
      try simp only [Act.put, List.setIfInBounds_toArray, List.set_cons_zero, List.set_cons_succ]
      refine wpAnyH_take (i := 8) (oi := { dst := some 40, op := Op.indexAddr 48 (Operand.tmp 38) (Operand.tmp 39), type := 0, pos := "l6_stream.go:275", after := #[{ on := 6, ground := Ground.data }, { on := 7, ground := Ground.data }], guard := none }) (v := ?_) rfl (by kernel_rfl) (by kernel_rfl) (by kernel_rfl) (fun _ _ _ h => h) (Or.inl ⟨by rfl, ?_⟩) (by assumption) ?_
      rotate_left
      · (intro w hSw; (try dsimp only at hSw); (go_simp <;> with_reducible rfl))
      try simp only [Act.put, List.setIfInBounds_toArray, List.set_cons_zero, List.set_cons_succ]
      refine wpAnyH_ready (rs := [9]) (by kernel_rfl) (by simp) ?_
      refine AllReadyH.cons (o := { dst := some 41, op := Op.load 3 (Operand.tmp 40), type := 3, pos := "l6_stream.go:275", after := #[{ on := 8, ground := Ground.data }], guard := none }) rfl (fun K hK => ?_) AllReadyH.nil
      have r1 := HDN.out
      go_simp
      refine hK.out _ _ ?_ (fun hHeld9 => ?_)
      · trivial
      clear hK K hHeld6
      try simp only [Act.put, List.setIfInBounds_toArray, List.set_cons_zero, List.set_cons_succ]
      refine wpAnyH_ready (rs := [10]) (by kernel_rfl) (by simp) ?_
      refine AllReadyH.cons (o := { dst := some 42, op := Op.call { callee := Callee.value (Operand.func 113), args := #[Operand.tmp 34, Operand.tmp 41], argTypes := #[84, 3] }, type := 0, pos := "l6_stream.go:275", after := #[{ on := 2, ground := Ground.data }, { on := 9, ground := Ground.data }], guard := none }) rfl (fun K hK => ?_) AllReadyH.nil
      go_simp
      go_at_call 113
      refine HNL.out.mono ?_
      rintro e2 w2 ⟨rfl, hs2, hb2, hk2⟩
      have H2 := Lib.hid (And.intro hs2 hb2)
      clear hs2 hb2 hk2
      try go_wp2_with fail
      refine hK.out _ _ ?_ (fun hHeld10 => ?_)
      · trivial
      clear hK K hHeld9
      try simp only [Act.put, List.setIfInBounds_toArray, List.set_cons_zero, List.set_cons_succ]
      refine wpAnyH_done (by kernel_rfl) ?_ _
      go_wp2_with fail
      go_ret
      exact ⟨1, s.line x, x :: q, a, rfl, Nat.le_refl _, HSN.out, H2.out.1, (HBD.out.mono HBB.out).trans H2.out.2⟩
    · go_wp2_with fail
      obtain ⟨D, hD⟩ : ∃ D, (w.alloc (.cells #[.int .i64 4, .int .i64 nn, .string t] 55)).drew = D := ⟨_, rfl⟩
      have HBD := Lib.hid (show Below w.heap.size w D from by rw [← hD]; exact (HAL.out _).drew)
      have HD5 := Lib.hid (show D.cell? ⟨b, 5, none⟩ = some (.slice (some ⟨gn, 0, none⟩) (LQ + 1) cn) from (HBD.out.cell (p := ⟨b, 5, none⟩) hbl).trans b5)
      have HDN := Lib.hid (show D.cell? ⟨gn, LQ, none⟩ = some (.int .i64 x) from (HBD.out.cell (p := ⟨gn, LQ, none⟩) hgn1).trans hgn3)
      have HNL := Lib.hid (newLine (Nat.le_trans HBB.out HBD.out.size) ⟨_, HFD.out _ HBD.out⟩ (by omega) x)
      refine wp_region_held_drew (S := (fun _ => True)) (by kernel_rfl) ?_ (fun hHeld => ?_)
      · trivial
      try rw [hD] at hHeld
      try rw [hD]
      clear hD b5 hgn3
      refine wpAnyH_take (i := 0) (oi := { dst := some 32, op := Op.move (Operand.tmp 0), type := 79, pos := "l6_stream.go:275", after := #[], guard := none }) (v := ?_) rfl (by kernel_rfl) (by kernel_rfl) (by kernel_rfl) (fun _ _ _ h => h) (Or.inl ⟨by rfl, ?_⟩) (by assumption) ?_
      rotate_left
      · (intro w hSw; (try dsimp only at hSw); (go_simp <;> with_reducible rfl))
      try simp only [Act.put, List.setIfInBounds_toArray, List.set_cons_zero, List.set_cons_succ]
      refine wpAnyH_take (i := 1) (oi := { dst := some 33, op := Op.nilCheck (Operand.tmp 32), type := 0, pos := "l6_stream.go:275", after := #[{ on := 0, ground := Ground.data }], guard := none }) (v := ?_) rfl (by kernel_rfl) (by kernel_rfl) (by kernel_rfl) (fun _ _ _ h => h) (Or.inl ⟨by rfl, ?_⟩) (by assumption) ?_
      rotate_left
      · (intro w hSw; (try dsimp only at hSw); (go_simp <;> with_reducible rfl))
      try simp only [Act.put, List.setIfInBounds_toArray, List.set_cons_zero, List.set_cons_succ]
      refine wpAnyH_take (i := 2) (oi := { dst := some 34, op := Op.fieldAddr 86 (Operand.tmp 33) 0, type := 0, pos := "l6_stream.go:275", after := #[{ on := 1, ground := Ground.data }], guard := none }) (v := ?_) rfl (by kernel_rfl) (by kernel_rfl) (by kernel_rfl) (fun _ _ _ h => h) (Or.inl ⟨by rfl, ?_⟩) (by assumption) ?_
      rotate_left
      · (intro w hSw; (try dsimp only at hSw); (go_simp <;> with_reducible rfl))
      try simp only [Act.put, List.setIfInBounds_toArray, List.set_cons_zero, List.set_cons_succ]
      refine wpAnyH_take (i := 3) (oi := { dst := some 35, op := Op.move (Operand.tmp 0), type := 79, pos := "l6_stream.go:275", after := #[], guard := none }) (v := ?_) rfl (by kernel_rfl) (by kernel_rfl) (by kernel_rfl) (fun _ _ _ h => h) (Or.inl ⟨by rfl, ?_⟩) (by assumption) ?_
      rotate_left
      · (intro w hSw; (try dsimp only at hSw); (go_simp <;> with_reducible rfl))
      try simp only [Act.put, List.setIfInBounds_toArray, List.set_cons_zero, List.set_cons_succ]
      refine wpAnyH_take (i := 4) (oi := { dst := some 36, op := Op.nilCheck (Operand.tmp 35), type := 0, pos := "l6_stream.go:275", after := #[{ on := 3, ground := Ground.data }], guard := none }) (v := ?_) rfl (by kernel_rfl) (by kernel_rfl) (by kernel_rfl) (fun _ _ _ h => h) (Or.inl ⟨by rfl, ?_⟩) (by assumption) ?_
      rotate_left
      · (intro w hSw; (try dsimp only at hSw); (go_simp <;> with_reducible rfl))
      try simp only [Act.put, List.setIfInBounds_toArray, List.set_cons_zero, List.set_cons_succ]
      refine wpAnyH_take (i := 5) (oi := { dst := some 37, op := Op.fieldAddr 86 (Operand.tmp 36) 1, type := 0, pos := "l6_stream.go:275", after := #[{ on := 4, ground := Ground.data }], guard := none }) (v := ?_) rfl (by kernel_rfl) (by kernel_rfl) (by kernel_rfl) (fun _ _ _ h => h) (Or.inl ⟨by rfl, ?_⟩) (by assumption) ?_
      rotate_left
      · (intro w hSw; (try dsimp only at hSw); (go_simp <;> with_reducible rfl))
      try simp only [Act.put, List.setIfInBounds_toArray, List.set_cons_zero, List.set_cons_succ]
      refine wpAnyH_take (i := 7) (oi := { dst := some 39, op := Op.move (Operand.tmp 5), type := 3, pos := "l6_stream.go:275", after := #[], guard := none }) (v := ?_) rfl (by kernel_rfl) (by kernel_rfl) (by kernel_rfl) (fun _ _ _ h => h) (Or.inl ⟨by rfl, ?_⟩) (by assumption) ?_
      rotate_left
      · (intro w hSw; (try dsimp only at hSw); (go_simp <;> with_reducible rfl))
      try simp only [Act.put, List.setIfInBounds_toArray, List.set_cons_zero, List.set_cons_succ]
      refine wpAnyH_ready (rs := [6]) (by kernel_rfl) (by simp) ?_
      refine AllReadyH.cons (o := { dst := some 38, op := Op.load 48 (Operand.tmp 37), type := 48, pos := "l6_stream.go:275", after := #[{ on := 5, ground := Ground.data }], guard := none }) rfl (fun K hK => ?_) AllReadyH.nil
      have r0 := HD5.out
      go_simp
      refine hK.out _ _ ?_ (fun hHeld6 => ?_)
      · trivial
      clear hK K hHeld
      try simp only [Act.put, List.setIfInBounds_toArray, List.set_cons_zero, List.set_cons_succ]
      refine wpAnyH_take (i := 8) (oi := { dst := some 40, op := Op.indexAddr 48 (Operand.tmp 38) (Operand.tmp 39), type := 0, pos := "l6_stream.go:275", after := #[{ on := 6, ground := Ground.data }, { on := 7, ground := Ground.data }], guard := none }) (v := ?_) rfl (by kernel_rfl) (by kernel_rfl) (by kernel_rfl) (fun _ _ _ h => h) (Or.inl ⟨by rfl, ?_⟩) (by assumption) ?_
      rotate_left
      · (intro w hSw; (try dsimp only at hSw); (go_simp <;> with_reducible rfl))
      try simp only [Act.put, List.setIfInBounds_toArray, List.set_cons_zero, List.set_cons_succ]
      refine wpAnyH_ready (rs := [9]) (by kernel_rfl) (by simp) ?_
      refine AllReadyH.cons (o := { dst := some 41, op := Op.load 3 (Operand.tmp 40), type := 3, pos := "l6_stream.go:275", after := #[{ on := 8, ground := Ground.data }], guard := none }) rfl (fun K hK => ?_) AllReadyH.nil
      have r1 := HDN.out
      go_simp
      refine hK.out _ _ ?_ (fun hHeld9 => ?_)
      · trivial
      clear hK K hHeld6
      try simp only [Act.put, List.setIfInBounds_toArray, List.set_cons_zero, List.set_cons_succ]
      refine wpAnyH_ready (rs := [10]) (by kernel_rfl) (by simp) ?_
      refine AllReadyH.cons (o := { dst := some 42, op := Op.call { callee := Callee.value (Operand.func 113), args := #[Operand.tmp 34, Operand.tmp 41], argTypes := #[84, 3] }, type := 0, pos := "l6_stream.go:275", after := #[{ on := 2, ground := Ground.data }, { on := 9, ground := Ground.data }], guard := none }) rfl (fun K hK => ?_) AllReadyH.nil
      go_simp
      go_at_call 113
      refine HNL.out.mono ?_
      rintro e2 w2 ⟨rfl, hs2, hb2, hk2⟩
      have H2 := Lib.hid (And.intro hs2 hb2)
      clear hs2 hb2 hk2
      try go_wp2_with fail
      refine hK.out _ _ ?_ (fun hHeld10 => ?_)
      · trivial
      clear hK K hHeld9
      try simp only [Act.put, List.setIfInBounds_toArray, List.set_cons_zero, List.set_cons_succ]
      refine wpAnyH_done (by kernel_rfl) ?_ _
      go_wp2_with fail
      go_ret
      exact ⟨1, s.line x, x :: q, a, rfl, Nat.le_refl _, HSN.out, H2.out.1, (HBD.out.mono HBB.out).trans H2.out.2⟩
  | false =>
    by_cases hk : k = 7
    · subst hk
      have hnn : 0 ≤ nn ∧ nn ≤ 9 := by
        unfold Tk.kt at hkt
        rw [if_neg (show ¬ ((7 : Int) = 1) by decide), if_pos rfl] at hkt
        simp only [Bool.and_eq_true, decide_eq_true_eq] at hkt
        exact hkt.2
      have HSN := Lib.hid (show SI W l R (J + 1) s ((x + nn) :: x :: q) a from by have h := HS.out.inn hJ (by rw [HNT.out]); rw [HNT.out] at h; exact h)
      have hwr : IntKind.i64.wrap (x + nn) = x + nn := by rw [IntKind.wrap_i64]; omega
      obtain ⟨i2, z2, hi, hz, hz1, hz2, hz3⟩ := RnM.info_some Sq.infoI1
      have HI := Lib.hid (And.intro hi (And.intro hz (And.intro hz1 (And.intro hz2 hz3))))
      clear hi hz hz1 hz2 hz3 hkt
      go_wp2_with fail
      obtain ⟨D, hD⟩ : ∃ D, (w.alloc (.cells #[.int .i64 7, .int .i64 nn, .string t] 55)).drew = D := ⟨_, rfl⟩
      have HBD := Lib.hid (show Below w.heap.size w D from by rw [← hD]; exact (HAL.out _).drew)
      have HTD := Lib.hid (show TV w.heap.size 7 nn t D from by rw [← hD]; exact HTV.out)
      have HTL := Lib.hid (show w.heap.size < D.heap.size from by rw [← hD]; simp)
      have HDL := Lib.hid (show gn < D.heap.size ∧ b < D.heap.size from ⟨Nat.lt_of_lt_of_le hgn1 HBD.out.size, Nat.lt_of_lt_of_le hbl HBD.out.size⟩)
      have HC5 := Lib.hid (show D.cell? ⟨b, 5, none⟩ = some (.slice (some ⟨gn, 0, none⟩) (LQ + 1) cn) from (HBD.out.cell (p := ⟨b, 5, none⟩) hbl).trans b5)
      have HF5 := Lib.hid (show D.frozen? ⟨b, 5, none⟩ = false from (HBD.out.frozen (p := ⟨b, 5, none⟩) hbl).trans f5)
      have HCN := Lib.hid (show D.cell? ⟨gn, LQ, none⟩ = some (.int .i64 x) from (HBD.out.cell (p := ⟨gn, LQ, none⟩) hgn1).trans hgn3)
      have HRD := Lib.hid (HFD.out _ HBD.out)
      obtain ⟨xs, hown, hitems⟩ := HRD.out.rest
      have HXS := Lib.hid hitems
      rw [List.length_cons, HLQ.out] at hown
      have HOWN := Lib.hid hown
      have HGV := Lib.hid (show ¬ w.heap.size = gn from by omega)
      have HGB := Lib.hid (show ¬ b = gn from fun e => hgb e.symm)
      refine wp_region_held_drew (S := (fun w' => w'.cell? ⟨w.heap.size, 1, none⟩ = some (.int .i64 nn))) (by kernel_rfl) ?_ (fun hHeld => ?_)
      · rw [hD]; exact HTD.out.cells.2.1
      rw [hD] at hHeld ⊢
      clear hD b5 hgn3 hown hitems f5
      refine wpAnyH_take (i := 0) (oi := { dst := some 45, op := Op.move (Operand.tmp 0), type := 79, pos := "l6_stream.go:277", after := #[], guard := none }) (v := ?_) rfl (by kernel_rfl) (by kernel_rfl) (by kernel_rfl) (fun _ _ _ h => h) (Or.inl ⟨by rfl, ?_⟩) (by assumption) ?_
      rotate_left
      · (intro w hSw; (try dsimp only at hSw); (go_simp <;> with_reducible rfl))
      try simp only [Act.put, List.setIfInBounds_toArray, List.set_cons_zero, List.set_cons_succ]
      refine wpAnyH_take (i := 1) (oi := { dst := some 46, op := Op.move (Operand.tmp 0), type := 79, pos := "l6_stream.go:277", after := #[], guard := none }) (v := ?_) rfl (by kernel_rfl) (by kernel_rfl) (by kernel_rfl) (fun _ _ _ h => h) (Or.inl ⟨by rfl, ?_⟩) (by assumption) ?_
      rotate_left
      · (intro w hSw; (try dsimp only at hSw); (go_simp <;> with_reducible rfl))
      try simp only [Act.put, List.setIfInBounds_toArray, List.set_cons_zero, List.set_cons_succ]
      refine wpAnyH_take (i := 2) (oi := { dst := some 47, op := Op.nilCheck (Operand.tmp 46), type := 0, pos := "l6_stream.go:277", after := #[{ on := 1, ground := Ground.data }], guard := none }) (v := ?_) rfl (by kernel_rfl) (by kernel_rfl) (by kernel_rfl) (fun _ _ _ h => h) (Or.inl ⟨by rfl, ?_⟩) (by assumption) ?_
      rotate_left
      · (intro w hSw; (try dsimp only at hSw); (go_simp <;> with_reducible rfl))
      try simp only [Act.put, List.setIfInBounds_toArray, List.set_cons_zero, List.set_cons_succ]
      refine wpAnyH_take (i := 3) (oi := { dst := some 48, op := Op.fieldAddr 86 (Operand.tmp 47) 1, type := 0, pos := "l6_stream.go:277", after := #[{ on := 2, ground := Ground.data }], guard := none }) (v := ?_) rfl (by kernel_rfl) (by kernel_rfl) (by kernel_rfl) (fun _ _ _ h => h) (Or.inl ⟨by rfl, ?_⟩) (by assumption) ?_
      rotate_left
      · (intro w hSw; (try dsimp only at hSw); (go_simp <;> with_reducible rfl))
      try simp only [Act.put, List.setIfInBounds_toArray, List.set_cons_zero, List.set_cons_succ]
      refine wpAnyH_take (i := 5) (oi := { dst := some 50, op := Op.move (Operand.tmp 0), type := 79, pos := "l6_stream.go:277", after := #[], guard := none }) (v := ?_) rfl (by kernel_rfl) (by kernel_rfl) (by kernel_rfl) (fun _ _ _ h => h) (Or.inl ⟨by rfl, ?_⟩) (by assumption) ?_
      rotate_left
      · (intro w hSw; (try dsimp only at hSw); (go_simp <;> with_reducible rfl))
      try simp only [Act.put, List.setIfInBounds_toArray, List.set_cons_zero, List.set_cons_succ]
      refine wpAnyH_take (i := 6) (oi := { dst := some 51, op := Op.nilCheck (Operand.tmp 50), type := 0, pos := "l6_stream.go:277", after := #[{ on := 5, ground := Ground.data }], guard := none }) (v := ?_) rfl (by kernel_rfl) (by kernel_rfl) (by kernel_rfl) (fun _ _ _ h => h) (Or.inl ⟨by rfl, ?_⟩) (by assumption) ?_
      rotate_left
      · (intro w hSw; (try dsimp only at hSw); (go_simp <;> with_reducible rfl))
      try simp only [Act.put, List.setIfInBounds_toArray, List.set_cons_zero, List.set_cons_succ]
      refine wpAnyH_take (i := 7) (oi := { dst := some 52, op := Op.fieldAddr 86 (Operand.tmp 51) 1, type := 0, pos := "l6_stream.go:277", after := #[{ on := 6, ground := Ground.data }], guard := none }) (v := ?_) rfl (by kernel_rfl) (by kernel_rfl) (by kernel_rfl) (fun _ _ _ h => h) (Or.inl ⟨by rfl, ?_⟩) (by assumption) ?_
      rotate_left
      · (intro w hSw; (try dsimp only at hSw); (go_simp <;> with_reducible rfl))
      try simp only [Act.put, List.setIfInBounds_toArray, List.set_cons_zero, List.set_cons_succ]
      refine wpAnyH_take (i := 9) (oi := { dst := some 54, op := Op.move (Operand.tmp 5), type := 3, pos := "l6_stream.go:277", after := #[], guard := none }) (v := ?_) rfl (by kernel_rfl) (by kernel_rfl) (by kernel_rfl) (fun _ _ _ h => h) (Or.inl ⟨by rfl, ?_⟩) (by assumption) ?_
      rotate_left
      · (intro w hSw; (try dsimp only at hSw); (go_simp <;> with_reducible rfl))
      try simp only [Act.put, List.setIfInBounds_toArray, List.set_cons_zero, List.set_cons_succ]
      refine wpAnyH_take (i := 12) (oi := { dst := some 57, op := Op.fieldAddr 55 (Operand.tmp 6) 1, type := 0, pos := "l6_stream.go:277", after := #[], guard := none }) (v := ?_) rfl (by kernel_rfl) (by kernel_rfl) (by kernel_rfl) (fun _ _ _ h => h) (Or.inl ⟨by rfl, ?_⟩) (by assumption) ?_
      rotate_left
      · (intro w hSw; (try dsimp only at hSw); (go_simp <;> with_reducible rfl))
      try simp only [Act.put, List.setIfInBounds_toArray, List.set_cons_zero, List.set_cons_succ]
      refine wpAnyH_take (i := 13) (oi := { dst := some 58, op := Op.load 3 (Operand.tmp 57), type := 3, pos := "l6_stream.go:277", after := #[{ on := 12, ground := Ground.data }], guard := none }) (v := ?_) rfl (by kernel_rfl) (by kernel_rfl) (by kernel_rfl) (fun _ _ _ h => h) (Or.inl ⟨by rfl, ?_⟩) (by assumption) ?_
      rotate_left
      · (intro w hSw; (try dsimp only at hSw); (go_simp <;> with_reducible rfl))
      try simp only [Act.put, List.setIfInBounds_toArray, List.set_cons_zero, List.set_cons_succ]
      refine wpAnyH_ready (rs := [4, 8]) (by kernel_rfl) (by simp) ?_
      refine AllReadyH.cons (o := { dst := some 49, op := Op.load 48 (Operand.tmp 48), type := 48, pos := "l6_stream.go:277", after := #[{ on := 3, ground := Ground.data }], guard := none }) rfl (fun K hK => ?_) ?_
      · have r0 := HC5.out
        go_simp
        refine hK.out _ _ ?_ (fun hHeld4 => ?_)
        · exact HTD.out.cells.2.1
        clear hK K hHeld
        try simp only [Act.put, List.setIfInBounds_toArray, List.set_cons_zero, List.set_cons_succ]
        refine wpAnyH_ready (rs := [8]) (by kernel_rfl) (by simp) ?_
        refine AllReadyH.cons (o := { dst := some 53, op := Op.load 48 (Operand.tmp 52), type := 48, pos := "l6_stream.go:277", after := #[{ on := 7, ground := Ground.data }], guard := none }) rfl (fun K hK => ?_) AllReadyH.nil
        have r0 := HC5.out
        go_simp
        refine hK.out _ _ ?_ (fun hHeld8 => ?_)
        · exact HTD.out.cells.2.1
        clear hK K hHeld4
        try simp only [Act.put, List.setIfInBounds_toArray, List.set_cons_zero, List.set_cons_succ]
        refine wpAnyH_take (i := 10) (oi := { dst := some 55, op := Op.indexAddr 48 (Operand.tmp 53) (Operand.tmp 54), type := 0, pos := "l6_stream.go:277", after := #[{ on := 8, ground := Ground.data }, { on := 9, ground := Ground.data }], guard := none }) (v := ?_) rfl (by kernel_rfl) (by kernel_rfl) (by kernel_rfl) (fun _ _ _ h => h) (Or.inl ⟨by rfl, ?_⟩) (by assumption) ?_
        rotate_left
        · (intro w hSw; (try dsimp only at hSw); (go_simp <;> with_reducible rfl))
        try simp only [Act.put, List.setIfInBounds_toArray, List.set_cons_zero, List.set_cons_succ]
        refine wpAnyH_ready (rs := [11]) (by kernel_rfl) (by simp) ?_
        refine AllReadyH.cons (o := { dst := some 56, op := Op.load 3 (Operand.tmp 55), type := 3, pos := "l6_stream.go:277", after := #[{ on := 10, ground := Ground.data }], guard := none }) rfl (fun K hK => ?_) AllReadyH.nil
        have r1 := HCN.out
        go_simp
        refine hK.out _ _ ?_ (fun hHeld11 => ?_)
        · exact HTD.out.cells.2.1
        clear hK K hHeld8
        try simp only [Act.put, List.setIfInBounds_toArray, List.set_cons_zero, List.set_cons_succ]
        refine wpAnyH_take (i := 14) (oi := { dst := some 59, op := Op.binOp BinOp.add 3 (Operand.tmp 56) (Operand.tmp 58) 3, type := 3, pos := "l6_stream.go:277", after := #[{ on := 11, ground := Ground.data }, { on := 13, ground := Ground.data }], guard := none }) (v := ?_) rfl (by kernel_rfl) (by kernel_rfl) (by kernel_rfl) (fun _ _ _ h => h) (Or.inl ⟨by rfl, ?_⟩) (by assumption) ?_
        rotate_left
        · (intro w hSw; (try dsimp only at hSw); (go_simp <;> with_reducible rfl))
        try simp only [Act.put, List.setIfInBounds_toArray, List.set_cons_zero, List.set_cons_succ]
        refine wpAnyH_ready (rs := [15]) (by kernel_rfl) (by simp) ?_
        refine AllReadyH.cons (o := { dst := some 60, op := Op.buildSlice 48 1 #[(0, Operand.tmp 59)], type := 48, pos := "l6_stream.go:277", after := #[{ on := 14, ground := Ground.data }], guard := none }) rfl (fun K hK => ?_) AllReadyH.nil
        have hTB := fun (ob : Obj) => ((Ext.refl D).alloc ob |>.cell HTL.out).trans HTD.out.cells.2.1
        have hC5B := fun (ob : Obj) => ((Ext.refl D).alloc ob |>.cell HDL.out.2).trans HC5.out
        go_simp
        refine hK.out _ _ ?_ (fun hHeld15 => ?_)
        · exact hTB _
        clear hK K hHeld11
        try simp only [Act.put, List.setIfInBounds_toArray, List.set_cons_zero, List.set_cons_succ]
        refine wpAnyH_ready (rs := [16]) (by kernel_rfl) (by simp) ?_
        refine AllReadyH.cons (o := { dst := some 61, op := Op.call { callee := Callee.builtin Builtin.append, args := #[Operand.tmp 49, Operand.tmp 60], argTypes := #[48, 48] }, type := 48, pos := "l6_stream.go:277", after := #[{ on := 4, ground := Ground.data }, { on := 15, ground := Ground.data }], guard := none }) rfl (fun K hK => ?_) AllReadyH.nil
        refine wp_append_lies _ (.tmp 49) (.tmp 60) 48 (by rfl) B 3 i2 z2 1 8 Try.underlying48 HI.out.1 HI.out.2.1 HI.out.2.2.1 HI.out.2.2.2.1 HI.out.2.2.2.2 (by omega) (.slice (some ⟨gn, 0, none⟩) (LQ + 1) cn) (LQ + 1) xs (by rfl) (HOWN.out.alloc _) ⟨D.heap.size, 0, none⟩ 1 1 [.int .i64 (x + nn)] (by rfl) rfl (Rq.news_of D [.int .i64 (x + nn)] _) (by simp [Value.oneCell']) (by omega) (by unfold maxLen; omega) (by omega) (by have := HBD.out.size; have := HBB.out; simp; omega) (D.heap.size + 1) (by simp) ?_
        intro g5 cap5 w5 hown5 hgrow5 hat5 hlt5
        have hb5 := below_append hgrow5 HOWN.out (Nat.le_trans HBB.out HBD.out.size)
        have hR5 := HRD.out.push hgrow5 (StackG.push (CV := NV) (n := 1) (x := x + nn) (st := x :: q) HXS.out rfl (by rw [List.length_cons, HLQ.out]; exact hown5))
        have hblk := fun (j : Nat) (hj : j < D.heap.size) (hne : ¬ j = gn) => (hgrow5.block j (by simp; omega) (by simp [Value.ownBlock]; exact hne)).trans (Below.heap_alloc _ _ _ hj)
        have hS5 : w5.cell? ⟨w.heap.size, 1, none⟩ = some (.int .i64 nn) := (World.cell?_of_block (w := D) (hblk _ HTL.out HGV.out)).trans HTD.out.cells.2.1
        have h55 : w5.cell? ⟨b, 5, none⟩ = some (.slice (some ⟨gn, 0, none⟩) (LQ + 1) cn) := (World.cell?_of_block (w := D) (hblk _ HDL.out.2 HGB.out)).trans HC5.out
        have hf5 : w5.frozen? ⟨b, 5, none⟩ = false := (World.frozen?_of_block (w := D) (hblk _ HDL.out.2 HGB.out)).trans HF5.out
        try rw [List.length_cons, HLQ.out] at hR5
        have H5 := Lib.hid (And.intro hR5 hb5)
        clear hgrow5 hat5 hR5 hb5 hown5 hblk
        refine hK.out _ _ ?_ (fun hHeld16 => ?_)
        · exact hS5
        clear hK K hHeld15
        try simp only [Act.put, List.setIfInBounds_toArray, List.set_cons_zero, List.set_cons_succ]
        refine wpAnyH_take (i := 17) (oi := { dst := some 62, op := Op.nilCheck (Operand.tmp 45), type := 0, pos := "l6_stream.go:277", after := #[{ on := 0, ground := Ground.data }, { on := 0, ground := Ground.phase }, { on := 1, ground := Ground.phase }, { on := 2, ground := Ground.phase }, { on := 3, ground := Ground.phase }, { on := 4, ground := Ground.phase }, { on := 5, ground := Ground.phase }, { on := 6, ground := Ground.phase }, { on := 7, ground := Ground.phase }, { on := 8, ground := Ground.phase }, { on := 9, ground := Ground.phase }, { on := 10, ground := Ground.phase }, { on := 11, ground := Ground.phase }, { on := 12, ground := Ground.phase }, { on := 13, ground := Ground.phase }, { on := 14, ground := Ground.phase }, { on := 15, ground := Ground.phase }, { on := 16, ground := Ground.phase }], guard := none }) (v := ?_) rfl (by kernel_rfl) (by kernel_rfl) (by kernel_rfl) (fun _ _ _ h => h) (Or.inl ⟨by rfl, ?_⟩) (by assumption) ?_
        rotate_left
        · (intro w hSw; (try dsimp only at hSw); (go_simp <;> with_reducible rfl))
        try simp only [Act.put, List.setIfInBounds_toArray, List.set_cons_zero, List.set_cons_succ]
        refine wpAnyH_take (i := 18) (oi := { dst := some 63, op := Op.fieldAddr 86 (Operand.tmp 62) 1, type := 0, pos := "l6_stream.go:277", after := #[{ on := 17, ground := Ground.data }, { on := 0, ground := Ground.phase }, { on := 1, ground := Ground.phase }, { on := 2, ground := Ground.phase }, { on := 3, ground := Ground.phase }, { on := 4, ground := Ground.phase }, { on := 5, ground := Ground.phase }, { on := 6, ground := Ground.phase }, { on := 7, ground := Ground.phase }, { on := 8, ground := Ground.phase }, { on := 9, ground := Ground.phase }, { on := 10, ground := Ground.phase }, { on := 11, ground := Ground.phase }, { on := 12, ground := Ground.phase }, { on := 13, ground := Ground.phase }, { on := 14, ground := Ground.phase }, { on := 15, ground := Ground.phase }, { on := 16, ground := Ground.phase }], guard := none }) (v := ?_) rfl (by kernel_rfl) (by kernel_rfl) (by kernel_rfl) (fun _ _ _ h => h) (Or.inl ⟨by rfl, ?_⟩) (by assumption) ?_
        rotate_left
        · (intro w hSw; (try dsimp only at hSw); (go_simp <;> with_reducible rfl))
        try simp only [Act.put, List.setIfInBounds_toArray, List.set_cons_zero, List.set_cons_succ]
        refine wpAnyH_ready (rs := [19]) (by kernel_rfl) (by simp) ?_
        refine AllReadyH.cons (o := { dst := none, op := Op.store 48 (Operand.tmp 63) (Operand.tmp 61), type := 0, pos := "l6_stream.go:277", after := #[{ on := 18, ground := Ground.data }, { on := 16, ground := Ground.data }, { on := 16, ground := Ground.chain }, { on := 0, ground := Ground.phase }, { on := 1, ground := Ground.phase }, { on := 2, ground := Ground.phase }, { on := 3, ground := Ground.phase }, { on := 4, ground := Ground.phase }, { on := 5, ground := Ground.phase }, { on := 6, ground := Ground.phase }, { on := 7, ground := Ground.phase }, { on := 8, ground := Ground.phase }, { on := 9, ground := Ground.phase }, { on := 10, ground := Ground.phase }, { on := 11, ground := Ground.phase }, { on := 12, ground := Ground.phase }, { on := 13, ground := Ground.phase }, { on := 14, ground := Ground.phase }, { on := 15, ground := Ground.phase }, { on := 16, ground := Ground.phase }], guard := none }) rfl (fun K hK => ?_) AllReadyH.nil
        go_simp
        refine hK.out _ _ ?_ (fun hHeld19 => ?_)
        · exact (World.cell?_setCell_far _ _ _ _ (by first | exact hvb | exact hvb.symm | (simp; omega))).trans hS5
        clear hK K hHeld16
        try simp only [Act.put, List.setIfInBounds_toArray, List.set_cons_zero, List.set_cons_succ]
        refine wpAnyH_done (by kernel_rfl) ?_ _
        go_wp2_with fail
        go_ret
        exact ⟨1, s, (x + nn) :: x :: q, a, rfl, Nat.le_refl _, HSN.out, ⟨_, H5.out.1⟩, ((HBD.out.mono HBB.out).trans H5.out.2).setCell (p := ⟨b, 5, none⟩) hBb _⟩
      refine AllReadyH.cons (o := { dst := some 53, op := Op.load 48 (Operand.tmp 52), type := 48, pos := "l6_stream.go:277", after := #[{ on := 7, ground := Ground.data }], guard := none }) rfl (fun K hK => ?_) AllReadyH.nil
      have r0 := HC5.out
      go_simp
      refine hK.out _ _ ?_ (fun hHeld8 => ?_)
      · exact HTD.out.cells.2.1
      clear hK K hHeld
      try simp only [Act.put, List.setIfInBounds_toArray, List.set_cons_zero, List.set_cons_succ]
      refine wpAnyH_take (i := 10) (oi := { dst := some 55, op := Op.indexAddr 48 (Operand.tmp 53) (Operand.tmp 54), type := 0, pos := "l6_stream.go:277", after := #[{ on := 8, ground := Ground.data }, { on := 9, ground := Ground.data }], guard := none }) (v := ?_) rfl (by kernel_rfl) (by kernel_rfl) (by kernel_rfl) (fun _ _ _ h => h) (Or.inl ⟨by rfl, ?_⟩) (by assumption) ?_
      rotate_left
      · (intro w hSw; (try dsimp only at hSw); (go_simp <;> with_reducible rfl))
      try simp only [Act.put, List.setIfInBounds_toArray, List.set_cons_zero, List.set_cons_succ]
      refine wpAnyH_ready (rs := [4, 11]) (by kernel_rfl) (by simp) ?_
      refine AllReadyH.cons (o := { dst := some 49, op := Op.load 48 (Operand.tmp 48), type := 48, pos := "l6_stream.go:277", after := #[{ on := 3, ground := Ground.data }], guard := none }) rfl (fun K hK => ?_) ?_
      · have r0 := HC5.out
        go_simp
        refine hK.out _ _ ?_ (fun hHeld4 => ?_)
        · exact HTD.out.cells.2.1
        clear hK K hHeld8
        try simp only [Act.put, List.setIfInBounds_toArray, List.set_cons_zero, List.set_cons_succ]
        refine wpAnyH_ready (rs := [11]) (by kernel_rfl) (by simp) ?_
        refine AllReadyH.cons (o := { dst := some 56, op := Op.load 3 (Operand.tmp 55), type := 3, pos := "l6_stream.go:277", after := #[{ on := 10, ground := Ground.data }], guard := none }) rfl (fun K hK => ?_) AllReadyH.nil
        have r1 := HCN.out
        go_simp
        refine hK.out _ _ ?_ (fun hHeld11 => ?_)
        · exact HTD.out.cells.2.1
        clear hK K hHeld4
        try simp only [Act.put, List.setIfInBounds_toArray, List.set_cons_zero, List.set_cons_succ]
        refine wpAnyH_take (i := 14) (oi := { dst := some 59, op := Op.binOp BinOp.add 3 (Operand.tmp 56) (Operand.tmp 58) 3, type := 3, pos := "l6_stream.go:277", after := #[{ on := 11, ground := Ground.data }, { on := 13, ground := Ground.data }], guard := none }) (v := ?_) rfl (by kernel_rfl) (by kernel_rfl) (by kernel_rfl) (fun _ _ _ h => h) (Or.inl ⟨by rfl, ?_⟩) (by assumption) ?_
        rotate_left
        · (intro w hSw; (try dsimp only at hSw); (go_simp <;> with_reducible rfl))
        try simp only [Act.put, List.setIfInBounds_toArray, List.set_cons_zero, List.set_cons_succ]
        refine wpAnyH_ready (rs := [15]) (by kernel_rfl) (by simp) ?_
        refine AllReadyH.cons (o := { dst := some 60, op := Op.buildSlice 48 1 #[(0, Operand.tmp 59)], type := 48, pos := "l6_stream.go:277", after := #[{ on := 14, ground := Ground.data }], guard := none }) rfl (fun K hK => ?_) AllReadyH.nil
        have hTB := fun (ob : Obj) => ((Ext.refl D).alloc ob |>.cell HTL.out).trans HTD.out.cells.2.1
        have hC5B := fun (ob : Obj) => ((Ext.refl D).alloc ob |>.cell HDL.out.2).trans HC5.out
        go_simp
        refine hK.out _ _ ?_ (fun hHeld15 => ?_)
        · exact hTB _
        clear hK K hHeld11
        try simp only [Act.put, List.setIfInBounds_toArray, List.set_cons_zero, List.set_cons_succ]
        refine wpAnyH_ready (rs := [16]) (by kernel_rfl) (by simp) ?_
        refine AllReadyH.cons (o := { dst := some 61, op := Op.call { callee := Callee.builtin Builtin.append, args := #[Operand.tmp 49, Operand.tmp 60], argTypes := #[48, 48] }, type := 48, pos := "l6_stream.go:277", after := #[{ on := 4, ground := Ground.data }, { on := 15, ground := Ground.data }], guard := none }) rfl (fun K hK => ?_) AllReadyH.nil
        refine wp_append_lies _ (.tmp 49) (.tmp 60) 48 (by rfl) B 3 i2 z2 1 8 Try.underlying48 HI.out.1 HI.out.2.1 HI.out.2.2.1 HI.out.2.2.2.1 HI.out.2.2.2.2 (by omega) (.slice (some ⟨gn, 0, none⟩) (LQ + 1) cn) (LQ + 1) xs (by rfl) (HOWN.out.alloc _) ⟨D.heap.size, 0, none⟩ 1 1 [.int .i64 (x + nn)] (by rfl) rfl (Rq.news_of D [.int .i64 (x + nn)] _) (by simp [Value.oneCell']) (by omega) (by unfold maxLen; omega) (by omega) (by have := HBD.out.size; have := HBB.out; simp; omega) (D.heap.size + 1) (by simp) ?_
        intro g5 cap5 w5 hown5 hgrow5 hat5 hlt5
        have hb5 := below_append hgrow5 HOWN.out (Nat.le_trans HBB.out HBD.out.size)
        have hR5 := HRD.out.push hgrow5 (StackG.push (CV := NV) (n := 1) (x := x + nn) (st := x :: q) HXS.out rfl (by rw [List.length_cons, HLQ.out]; exact hown5))
        have hblk := fun (j : Nat) (hj : j < D.heap.size) (hne : ¬ j = gn) => (hgrow5.block j (by simp; omega) (by simp [Value.ownBlock]; exact hne)).trans (Below.heap_alloc _ _ _ hj)
        have hS5 : w5.cell? ⟨w.heap.size, 1, none⟩ = some (.int .i64 nn) := (World.cell?_of_block (w := D) (hblk _ HTL.out HGV.out)).trans HTD.out.cells.2.1
        have h55 : w5.cell? ⟨b, 5, none⟩ = some (.slice (some ⟨gn, 0, none⟩) (LQ + 1) cn) := (World.cell?_of_block (w := D) (hblk _ HDL.out.2 HGB.out)).trans HC5.out
        have hf5 : w5.frozen? ⟨b, 5, none⟩ = false := (World.frozen?_of_block (w := D) (hblk _ HDL.out.2 HGB.out)).trans HF5.out
        try rw [List.length_cons, HLQ.out] at hR5
        have H5 := Lib.hid (And.intro hR5 hb5)
        clear hgrow5 hat5 hR5 hb5 hown5 hblk
        refine hK.out _ _ ?_ (fun hHeld16 => ?_)
        · exact hS5
        clear hK K hHeld15
        try simp only [Act.put, List.setIfInBounds_toArray, List.set_cons_zero, List.set_cons_succ]
        refine wpAnyH_take (i := 17) (oi := { dst := some 62, op := Op.nilCheck (Operand.tmp 45), type := 0, pos := "l6_stream.go:277", after := #[{ on := 0, ground := Ground.data }, { on := 0, ground := Ground.phase }, { on := 1, ground := Ground.phase }, { on := 2, ground := Ground.phase }, { on := 3, ground := Ground.phase }, { on := 4, ground := Ground.phase }, { on := 5, ground := Ground.phase }, { on := 6, ground := Ground.phase }, { on := 7, ground := Ground.phase }, { on := 8, ground := Ground.phase }, { on := 9, ground := Ground.phase }, { on := 10, ground := Ground.phase }, { on := 11, ground := Ground.phase }, { on := 12, ground := Ground.phase }, { on := 13, ground := Ground.phase }, { on := 14, ground := Ground.phase }, { on := 15, ground := Ground.phase }, { on := 16, ground := Ground.phase }], guard := none }) (v := ?_) rfl (by kernel_rfl) (by kernel_rfl) (by kernel_rfl) (fun _ _ _ h => h) (Or.inl ⟨by rfl, ?_⟩) (by assumption) ?_
        rotate_left
        · (intro w hSw; (try dsimp only at hSw); (go_simp <;> with_reducible rfl))
        try simp only [Act.put, List.setIfInBounds_toArray, List.set_cons_zero, List.set_cons_succ]
        refine wpAnyH_take (i := 18) (oi := { dst := some 63, op := Op.fieldAddr 86 (Operand.tmp 62) 1, type := 0, pos := "l6_stream.go:277", after := #[{ on := 17, ground := Ground.data }, { on := 0, ground := Ground.phase }, { on := 1, ground := Ground.phase }, { on := 2, ground := Ground.phase }, { on := 3, ground := Ground.phase }, { on := 4, ground := Ground.phase }, { on := 5, ground := Ground.phase }, { on := 6, ground := Ground.phase }, { on := 7, ground := Ground.phase }, { on := 8, ground := Ground.phase }, { on := 9, ground := Ground.phase }, { on := 10, ground := Ground.phase }, { on := 11, ground := Ground.phase }, { on := 12, ground := Ground.phase }, { on := 13, ground := Ground.phase }, { on := 14, ground := Ground.phase }, { on := 15, ground := Ground.phase }, { on := 16, ground := Ground.phase }], guard := none }) (v := ?_) rfl (by kernel_rfl) (by kernel_rfl) (by kernel_rfl) (fun _ _ _ h => h) (Or.inl ⟨by rfl, ?_⟩) (by assumption) ?_
        rotate_left
        · (intro w hSw; (try dsimp only at hSw); (go_simp <;> with_reducible rfl))
        try simp only [Act.put, List.setIfInBounds_toArray, List.set_cons_zero, List.set_cons_succ]
        refine wpAnyH_ready (rs := [19]) (by kernel_rfl) (by simp) ?_
        refine AllReadyH.cons (o := { dst := none, op := Op.store 48 (Operand.tmp 63) (Operand.tmp 61), type := 0, pos := "l6_stream.go:277", after := #[{ on := 18, ground := Ground.data }, { on := 16, ground := Ground.data }, { on := 16, ground := Ground.chain }, { on := 0, ground := Ground.phase }, { on := 1, ground := Ground.phase }, { on := 2, ground := Ground.phase }, { on := 3, ground := Ground.phase }, { on := 4, ground := Ground.phase }, { on := 5, ground := Ground.phase }, { on := 6, ground := Ground.phase }, { on := 7, ground := Ground.phase }, { on := 8, ground := Ground.phase }, { on := 9, ground := Ground.phase }, { on := 10, ground := Ground.phase }, { on := 11, ground := Ground.phase }, { on := 12, ground := Ground.phase }, { on := 13, ground := Ground.phase }, { on := 14, ground := Ground.phase }, { on := 15, ground := Ground.phase }, { on := 16, ground := Ground.phase }], guard := none }) rfl (fun K hK => ?_) AllReadyH.nil
        go_simp
        refine hK.out _ _ ?_ (fun hHeld19 => ?_)
        · exact (World.cell?_setCell_far _ _ _ _ (by first | exact hvb | exact hvb.symm | (simp; omega))).trans hS5
        clear hK K hHeld16
        try simp only [Act.put, List.setIfInBounds_toArray, List.set_cons_zero, List.set_cons_succ]
        refine wpAnyH_done (by kernel_rfl) ?_ _
        go_wp2_with fail
        go_ret
        exact ⟨1, s, (x + nn) :: x :: q, a, rfl, Nat.le_refl _, HSN.out, ⟨_, H5.out.1⟩, ((HBD.out.mono HBB.out).trans H5.out.2).setCell (p := ⟨b, 5, none⟩) hBb _⟩
      refine AllReadyH.cons (o := { dst := some 56, op := Op.load 3 (Operand.tmp 55), type := 3, pos := "l6_stream.go:277", after := #[{ on := 10, ground := Ground.data }], guard := none }) rfl (fun K hK => ?_) AllReadyH.nil
      have r1 := HCN.out
      go_simp
      refine hK.out _ _ ?_ (fun hHeld11 => ?_)
      · exact HTD.out.cells.2.1
      clear hK K hHeld8
      try simp only [Act.put, List.setIfInBounds_toArray, List.set_cons_zero, List.set_cons_succ]
      refine wpAnyH_take (i := 14) (oi := { dst := some 59, op := Op.binOp BinOp.add 3 (Operand.tmp 56) (Operand.tmp 58) 3, type := 3, pos := "l6_stream.go:277", after := #[{ on := 11, ground := Ground.data }, { on := 13, ground := Ground.data }], guard := none }) (v := ?_) rfl (by kernel_rfl) (by kernel_rfl) (by kernel_rfl) (fun _ _ _ h => h) (Or.inl ⟨by rfl, ?_⟩) (by assumption) ?_
      rotate_left
      · (intro w hSw; (try dsimp only at hSw); (go_simp <;> with_reducible rfl))
      try simp only [Act.put, List.setIfInBounds_toArray, List.set_cons_zero, List.set_cons_succ]
      refine wpAnyH_ready (rs := [4, 15]) (by kernel_rfl) (by simp) ?_
      refine AllReadyH.cons (o := { dst := some 49, op := Op.load 48 (Operand.tmp 48), type := 48, pos := "l6_stream.go:277", after := #[{ on := 3, ground := Ground.data }], guard := none }) rfl (fun K hK => ?_) ?_
      · have r0 := HC5.out
        go_simp
        refine hK.out _ _ ?_ (fun hHeld4 => ?_)
        · exact HTD.out.cells.2.1
        clear hK K hHeld11
        try simp only [Act.put, List.setIfInBounds_toArray, List.set_cons_zero, List.set_cons_succ]
        refine wpAnyH_ready (rs := [15]) (by kernel_rfl) (by simp) ?_
        refine AllReadyH.cons (o := { dst := some 60, op := Op.buildSlice 48 1 #[(0, Operand.tmp 59)], type := 48, pos := "l6_stream.go:277", after := #[{ on := 14, ground := Ground.data }], guard := none }) rfl (fun K hK => ?_) AllReadyH.nil
        have hTB := fun (ob : Obj) => ((Ext.refl D).alloc ob |>.cell HTL.out).trans HTD.out.cells.2.1
        have hC5B := fun (ob : Obj) => ((Ext.refl D).alloc ob |>.cell HDL.out.2).trans HC5.out
        go_simp
        refine hK.out _ _ ?_ (fun hHeld15 => ?_)
        · exact hTB _
        clear hK K hHeld4
        try simp only [Act.put, List.setIfInBounds_toArray, List.set_cons_zero, List.set_cons_succ]
        refine wpAnyH_ready (rs := [16]) (by kernel_rfl) (by simp) ?_
        refine AllReadyH.cons (o := { dst := some 61, op := Op.call { callee := Callee.builtin Builtin.append, args := #[Operand.tmp 49, Operand.tmp 60], argTypes := #[48, 48] }, type := 48, pos := "l6_stream.go:277", after := #[{ on := 4, ground := Ground.data }, { on := 15, ground := Ground.data }], guard := none }) rfl (fun K hK => ?_) AllReadyH.nil
        refine wp_append_lies _ (.tmp 49) (.tmp 60) 48 (by rfl) B 3 i2 z2 1 8 Try.underlying48 HI.out.1 HI.out.2.1 HI.out.2.2.1 HI.out.2.2.2.1 HI.out.2.2.2.2 (by omega) (.slice (some ⟨gn, 0, none⟩) (LQ + 1) cn) (LQ + 1) xs (by rfl) (HOWN.out.alloc _) ⟨D.heap.size, 0, none⟩ 1 1 [.int .i64 (x + nn)] (by rfl) rfl (Rq.news_of D [.int .i64 (x + nn)] _) (by simp [Value.oneCell']) (by omega) (by unfold maxLen; omega) (by omega) (by have := HBD.out.size; have := HBB.out; simp; omega) (D.heap.size + 1) (by simp) ?_
        intro g5 cap5 w5 hown5 hgrow5 hat5 hlt5
        have hb5 := below_append hgrow5 HOWN.out (Nat.le_trans HBB.out HBD.out.size)
        have hR5 := HRD.out.push hgrow5 (StackG.push (CV := NV) (n := 1) (x := x + nn) (st := x :: q) HXS.out rfl (by rw [List.length_cons, HLQ.out]; exact hown5))
        have hblk := fun (j : Nat) (hj : j < D.heap.size) (hne : ¬ j = gn) => (hgrow5.block j (by simp; omega) (by simp [Value.ownBlock]; exact hne)).trans (Below.heap_alloc _ _ _ hj)
        have hS5 : w5.cell? ⟨w.heap.size, 1, none⟩ = some (.int .i64 nn) := (World.cell?_of_block (w := D) (hblk _ HTL.out HGV.out)).trans HTD.out.cells.2.1
        have h55 : w5.cell? ⟨b, 5, none⟩ = some (.slice (some ⟨gn, 0, none⟩) (LQ + 1) cn) := (World.cell?_of_block (w := D) (hblk _ HDL.out.2 HGB.out)).trans HC5.out
        have hf5 : w5.frozen? ⟨b, 5, none⟩ = false := (World.frozen?_of_block (w := D) (hblk _ HDL.out.2 HGB.out)).trans HF5.out
        try rw [List.length_cons, HLQ.out] at hR5
        have H5 := Lib.hid (And.intro hR5 hb5)
        clear hgrow5 hat5 hR5 hb5 hown5 hblk
        refine hK.out _ _ ?_ (fun hHeld16 => ?_)
        · exact hS5
        clear hK K hHeld15
        try simp only [Act.put, List.setIfInBounds_toArray, List.set_cons_zero, List.set_cons_succ]
        refine wpAnyH_take (i := 17) (oi := { dst := some 62, op := Op.nilCheck (Operand.tmp 45), type := 0, pos := "l6_stream.go:277", after := #[{ on := 0, ground := Ground.data }, { on := 0, ground := Ground.phase }, { on := 1, ground := Ground.phase }, { on := 2, ground := Ground.phase }, { on := 3, ground := Ground.phase }, { on := 4, ground := Ground.phase }, { on := 5, ground := Ground.phase }, { on := 6, ground := Ground.phase }, { on := 7, ground := Ground.phase }, { on := 8, ground := Ground.phase }, { on := 9, ground := Ground.phase }, { on := 10, ground := Ground.phase }, { on := 11, ground := Ground.phase }, { on := 12, ground := Ground.phase }, { on := 13, ground := Ground.phase }, { on := 14, ground := Ground.phase }, { on := 15, ground := Ground.phase }, { on := 16, ground := Ground.phase }], guard := none }) (v := ?_) rfl (by kernel_rfl) (by kernel_rfl) (by kernel_rfl) (fun _ _ _ h => h) (Or.inl ⟨by rfl, ?_⟩) (by assumption) ?_
        rotate_left
        · (intro w hSw; (try dsimp only at hSw); (go_simp <;> with_reducible rfl))
        try simp only [Act.put, List.setIfInBounds_toArray, List.set_cons_zero, List.set_cons_succ]
        refine wpAnyH_take (i := 18) (oi := { dst := some 63, op := Op.fieldAddr 86 (Operand.tmp 62) 1, type := 0, pos := "l6_stream.go:277", after := #[{ on := 17, ground := Ground.data }, { on := 0, ground := Ground.phase }, { on := 1, ground := Ground.phase }, { on := 2, ground := Ground.phase }, { on := 3, ground := Ground.phase }, { on := 4, ground := Ground.phase }, { on := 5, ground := Ground.phase }, { on := 6, ground := Ground.phase }, { on := 7, ground := Ground.phase }, { on := 8, ground := Ground.phase }, { on := 9, ground := Ground.phase }, { on := 10, ground := Ground.phase }, { on := 11, ground := Ground.phase }, { on := 12, ground := Ground.phase }, { on := 13, ground := Ground.phase }, { on := 14, ground := Ground.phase }, { on := 15, ground := Ground.phase }, { on := 16, ground := Ground.phase }], guard := none }) (v := ?_) rfl (by kernel_rfl) (by kernel_rfl) (by kernel_rfl) (fun _ _ _ h => h) (Or.inl ⟨by rfl, ?_⟩) (by assumption) ?_
        rotate_left
        · (intro w hSw; (try dsimp only at hSw); (go_simp <;> with_reducible rfl))
        try simp only [Act.put, List.setIfInBounds_toArray, List.set_cons_zero, List.set_cons_succ]
        refine wpAnyH_ready (rs := [19]) (by kernel_rfl) (by simp) ?_
        refine AllReadyH.cons (o := { dst := none, op := Op.store 48 (Operand.tmp 63) (Operand.tmp 61), type := 0, pos := "l6_stream.go:277", after := #[{ on := 18, ground := Ground.data }, { on := 16, ground := Ground.data }, { on := 16, ground := Ground.chain }, { on := 0, ground := Ground.phase }, { on := 1, ground := Ground.phase }, { on := 2, ground := Ground.phase }, { on := 3, ground := Ground.phase }, { on := 4, ground := Ground.phase }, { on := 5, ground := Ground.phase }, { on := 6, ground := Ground.phase }, { on := 7, ground := Ground.phase }, { on := 8, ground := Ground.phase }, { on := 9, ground := Ground.phase }, { on := 10, ground := Ground.phase }, { on := 11, ground := Ground.phase }, { on := 12, ground := Ground.phase }, { on := 13, ground := Ground.phase }, { on := 14, ground := Ground.phase }, { on := 15, ground := Ground.phase }, { on := 16, ground := Ground.phase }], guard := none }) rfl (fun K hK => ?_) AllReadyH.nil
        go_simp
        refine hK.out _ _ ?_ (fun hHeld19 => ?_)
        · exact (World.cell?_setCell_far _ _ _ _ (by first | exact hvb | exact hvb.symm | (simp; omega))).trans hS5
        clear hK K hHeld16
        try simp only [Act.put, List.setIfInBounds_toArray, List.set_cons_zero, List.set_cons_succ]
        refine wpAnyH_done (by kernel_rfl) ?_ _
        go_wp2_with fail
        go_ret
        exact ⟨1, s, (x + nn) :: x :: q, a, rfl, Nat.le_refl _, HSN.out, ⟨_, H5.out.1⟩, ((HBD.out.mono HBB.out).trans H5.out.2).setCell (p := ⟨b, 5, none⟩) hBb _⟩
      refine AllReadyH.cons (o := { dst := some 60, op := Op.buildSlice 48 1 #[(0, Operand.tmp 59)], type := 48, pos := "l6_stream.go:277", after := #[{ on := 14, ground := Ground.data }], guard := none }) rfl (fun K hK => ?_) AllReadyH.nil
      have hTB := fun (ob : Obj) => ((Ext.refl D).alloc ob |>.cell HTL.out).trans HTD.out.cells.2.1
      have hC5B := fun (ob : Obj) => ((Ext.refl D).alloc ob |>.cell HDL.out.2).trans HC5.out
      go_simp
      refine hK.out _ _ ?_ (fun hHeld15 => ?_)
      · exact hTB _
      clear hK K hHeld11
      try simp only [Act.put, List.setIfInBounds_toArray, List.set_cons_zero, List.set_cons_succ]
      refine wpAnyH_ready (rs := [4]) (by kernel_rfl) (by simp) ?_
      refine AllReadyH.cons (o := { dst := some 49, op := Op.load 48 (Operand.tmp 48), type := 48, pos := "l6_stream.go:277", after := #[{ on := 3, ground := Ground.data }], guard := none }) rfl (fun K hK => ?_) AllReadyH.nil
      have r0 := hC5B
      go_simp
      refine hK.out _ _ ?_ (fun hHeld4 => ?_)
      · exact hTB _
      clear hK K hHeld15
      try simp only [Act.put, List.setIfInBounds_toArray, List.set_cons_zero, List.set_cons_succ]
      refine wpAnyH_ready (rs := [16]) (by kernel_rfl) (by simp) ?_
      refine AllReadyH.cons (o := { dst := some 61, op := Op.call { callee := Callee.builtin Builtin.append, args := #[Operand.tmp 49, Operand.tmp 60], argTypes := #[48, 48] }, type := 48, pos := "l6_stream.go:277", after := #[{ on := 4, ground := Ground.data }, { on := 15, ground := Ground.data }], guard := none }) rfl (fun K hK => ?_) AllReadyH.nil
      refine wp_append_lies _ (.tmp 49) (.tmp 60) 48 (by rfl) B 3 i2 z2 1 8 Try.underlying48 HI.out.1 HI.out.2.1 HI.out.2.2.1 HI.out.2.2.2.1 HI.out.2.2.2.2 (by omega) (.slice (some ⟨gn, 0, none⟩) (LQ + 1) cn) (LQ + 1) xs (by rfl) (HOWN.out.alloc _) ⟨D.heap.size, 0, none⟩ 1 1 [.int .i64 (x + nn)] (by rfl) rfl (Rq.news_of D [.int .i64 (x + nn)] _) (by simp [Value.oneCell']) (by omega) (by unfold maxLen; omega) (by omega) (by have := HBD.out.size; have := HBB.out; simp; omega) (D.heap.size + 1) (by simp) ?_
      intro g5 cap5 w5 hown5 hgrow5 hat5 hlt5
      have hb5 := below_append hgrow5 HOWN.out (Nat.le_trans HBB.out HBD.out.size)
      have hR5 := HRD.out.push hgrow5 (StackG.push (CV := NV) (n := 1) (x := x + nn) (st := x :: q) HXS.out rfl (by rw [List.length_cons, HLQ.out]; exact hown5))
      have hblk := fun (j : Nat) (hj : j < D.heap.size) (hne : ¬ j = gn) => (hgrow5.block j (by simp; omega) (by simp [Value.ownBlock]; exact hne)).trans (Below.heap_alloc _ _ _ hj)
      have hS5 : w5.cell? ⟨w.heap.size, 1, none⟩ = some (.int .i64 nn) := (World.cell?_of_block (w := D) (hblk _ HTL.out HGV.out)).trans HTD.out.cells.2.1
      have h55 : w5.cell? ⟨b, 5, none⟩ = some (.slice (some ⟨gn, 0, none⟩) (LQ + 1) cn) := (World.cell?_of_block (w := D) (hblk _ HDL.out.2 HGB.out)).trans HC5.out
      have hf5 : w5.frozen? ⟨b, 5, none⟩ = false := (World.frozen?_of_block (w := D) (hblk _ HDL.out.2 HGB.out)).trans HF5.out
      try rw [List.length_cons, HLQ.out] at hR5
      have H5 := Lib.hid (And.intro hR5 hb5)
      clear hgrow5 hat5 hR5 hb5 hown5 hblk
      refine hK.out _ _ ?_ (fun hHeld16 => ?_)
      · exact hS5
      clear hK K hHeld4
      try simp only [Act.put, List.setIfInBounds_toArray, List.set_cons_zero, List.set_cons_succ]
      refine wpAnyH_take (i := 17) (oi := { dst := some 62, op := Op.nilCheck (Operand.tmp 45), type := 0, pos := "l6_stream.go:277", after := #[{ on := 0, ground := Ground.data }, { on := 0, ground := Ground.phase }, { on := 1, ground := Ground.phase }, { on := 2, ground := Ground.phase }, { on := 3, ground := Ground.phase }, { on := 4, ground := Ground.phase }, { on := 5, ground := Ground.phase }, { on := 6, ground := Ground.phase }, { on := 7, ground := Ground.phase }, { on := 8, ground := Ground.phase }, { on := 9, ground := Ground.phase }, { on := 10, ground := Ground.phase }, { on := 11, ground := Ground.phase }, { on := 12, ground := Ground.phase }, { on := 13, ground := Ground.phase }, { on := 14, ground := Ground.phase }, { on := 15, ground := Ground.phase }, { on := 16, ground := Ground.phase }], guard := none }) (v := ?_) rfl (by kernel_rfl) (by kernel_rfl) (by kernel_rfl) (fun _ _ _ h => h) (Or.inl ⟨by rfl, ?_⟩) (by assumption) ?_
      rotate_left
      · (intro w hSw; (try dsimp only at hSw); (go_simp <;> with_reducible rfl))
      try simp only [Act.put, List.setIfInBounds_toArray, List.set_cons_zero, List.set_cons_succ]
      refine wpAnyH_take (i := 18) (oi := { dst := some 63, op := Op.fieldAddr 86 (Operand.tmp 62) 1, type := 0, pos := "l6_stream.go:277", after := #[{ on := 17, ground := Ground.data }, { on := 0, ground := Ground.phase }, { on := 1, ground := Ground.phase }, { on := 2, ground := Ground.phase }, { on := 3, ground := Ground.phase }, { on := 4, ground := Ground.phase }, { on := 5, ground := Ground.phase }, { on := 6, ground := Ground.phase }, { on := 7, ground := Ground.phase }, { on := 8, ground := Ground.phase }, { on := 9, ground := Ground.phase }, { on := 10, ground := Ground.phase }, { on := 11, ground := Ground.phase }, { on := 12, ground := Ground.phase }, { on := 13, ground := Ground.phase }, { on := 14, ground := Ground.phase }, { on := 15, ground := Ground.phase }, { on := 16, ground := Ground.phase }], guard := none }) (v := ?_) rfl (by kernel_rfl) (by kernel_rfl) (by kernel_rfl) (fun _ _ _ h => h) (Or.inl ⟨by rfl, ?_⟩) (by assumption) ?_
      rotate_left
      · (intro w hSw; (try dsimp only at hSw); (go_simp <;> with_reducible rfl))
      try simp only [Act.put, List.setIfInBounds_toArray, List.set_cons_zero, List.set_cons_succ]
      refine wpAnyH_ready (rs := [19]) (by kernel_rfl) (by simp) ?_
      refine AllReadyH.cons (o := { dst := none, op := Op.store 48 (Operand.tmp 63) (Operand.tmp 61), type := 0, pos := "l6_stream.go:277", after := #[{ on := 18, ground := Ground.data }, { on := 16, ground := Ground.data }, { on := 16, ground := Ground.chain }, { on := 0, ground := Ground.phase }, { on := 1, ground := Ground.phase }, { on := 2, ground := Ground.phase }, { on := 3, ground := Ground.phase }, { on := 4, ground := Ground.phase }, { on := 5, ground := Ground.phase }, { on := 6, ground := Ground.phase }, { on := 7, ground := Ground.phase }, { on := 8, ground := Ground.phase }, { on := 9, ground := Ground.phase }, { on := 10, ground := Ground.phase }, { on := 11, ground := Ground.phase }, { on := 12, ground := Ground.phase }, { on := 13, ground := Ground.phase }, { on := 14, ground := Ground.phase }, { on := 15, ground := Ground.phase }, { on := 16, ground := Ground.phase }], guard := none }) rfl (fun K hK => ?_) AllReadyH.nil
      go_simp
      refine hK.out _ _ ?_ (fun hHeld19 => ?_)
      · exact (World.cell?_setCell_far _ _ _ _ (by first | exact hvb | exact hvb.symm | (simp; omega))).trans hS5
      clear hK K hHeld16
      try simp only [Act.put, List.setIfInBounds_toArray, List.set_cons_zero, List.set_cons_succ]
      refine wpAnyH_done (by kernel_rfl) ?_ _
      go_wp2_with fail
      go_ret
      exact ⟨1, s, (x + nn) :: x :: q, a, rfl, Nat.le_refl _, HSN.out, ⟨_, H5.out.1⟩, ((HBD.out.mono HBB.out).trans H5.out.2).setCell (p := ⟨b, 5, none⟩) hBb _⟩
    have hk7 := hk
    clear hk
    by_cases hk : k = 8
    · subst hk
      obtain ⟨hsn, x', y, q', hns⟩ := HS.out.out hJ (by rw [HNT.out])
      injection hns with e1 e2
      subst e1
      have HSN := Lib.hid (show SI W l R (J + 1) s q a from hsn)
      have HPP := Lib.hid (fun (W' : World) (h : Below w.heap.size w W') => (HFD.out _ h).pop (fr' := .slice (some ⟨gn, 0, none⟩) LQ cn) (its' := q) (by have h1 := HG4.out; rw [HLQ.out] at h1; exact h1.kept (grown_below h) (own_or (by simp))))
      have n2 : (LQ : Int) ≤ (cn : Int) := by omega
      clear hsn
      go_wp2_with fail
      go_ret
      exact ⟨1, s, q, a, rfl, Nat.le_refl _, HSN.out, ⟨_, (HPP.out w (Below.refl _ _)).below ((Below.refl _ _).alloc (Nat.le_refl _) _)⟩, (Below.setCell (p := ⟨b, 5, none⟩) (Below.refl B w) hBb _).alloc (by have := HBB.out; simpa [World.setCell] using this) _⟩
    have hk8 := hk
    clear hk
    by_cases hk : k = 5
    · subst hk
      obtain ⟨N, hN⟩ := glo_valid HVV.out hJ (by rw [HNT.out])
      have hNl := glo_len _ _ _ hN
      rw [List.length_drop, HM.out] at hNl
      have hgl : gL (l.drop J) = N + 1 := gL_eq (by rw [List.drop_drop]; exact hN)
      have hdl : (l.drop J).length = M := by rw [List.length_drop, HM.out]; exact HMC.out.1
      have HLF := Lib.hid (fun (W' : World) (hW : Below w.heap.size w W') => show Calls Try.prog 85 #[.slice (some ⟨tb, O, none⟩) M C] W' _ from by
        have h := lookFrom (l.drop J) W' tb (off + J * 3) C ((HAT.out.below htw hW).drop J) (by rw [hdl]; have := HMC.out.1; omega) (by rw [hdl]; omega) N (by rw [List.drop_drop]; exact hN) (fun r hr => HALL.out r (List.mem_of_mem_drop hr))
        rw [hdl, HO.out] at h
        exact h)
      obtain ⟨Z, hZ⟩ : ∃ Z, (lkN (N + 1) (l.drop J) 0 0).1 = Z := ⟨_, rfl⟩
      obtain ⟨E, hE⟩ : ∃ E, (lkN (N + 1) (l.drop J) 0 0).2.getD M = E := ⟨_, rfl⟩
      rw [hZ, hE] at HLF
      have hZb : -1 ≤ Z ∧ Z ≤ 2400 := by
        have h := room_bd HVV.out hJ
        unfold roomT at h
        rw [if_pos (by rw [HNT.out]), hgl, hZ] at h
        exact h
      have HFT := Lib.hid (show fitT W s (l.drop J) = (decide (0 ≤ Z) && decide (s.ind + (s.txt.size : Int) + Z ≤ W)) from by unfold fitT; rw [hgl, hZ]; rfl)
      have HSO := Lib.hid (fun (hf : fitT W s (l.drop J) = false) => HS.out.open hJ (by rw [HNT.out]) hf)
      have HSF := Lib.hid (fun (hf : fitT W s (l.drop J) = true) => HS.out.fit hJ (by rw [HNT.out]) hN hf)
      obtain ⟨FT, hFT⟩ : ∃ y, decide (s.ind + (s.txt.size : Int) + Z ≤ W) = y := ⟨_, rfl⟩
      rw [hFT] at HFT
      have hN1 : N + 1 ≤ M := by have := HMC.out.1; omega
      obtain ⟨N1, hN1'⟩ : ∃ y, N + 1 = y := ⟨_, rfl⟩
      rw [hN1'] at HLF HSF hN1
      have hN2 : (N1 : Int) ≤ (C : Int) := by omega
      have hN0 : (0 : Int) ≤ (N1 : Int) := Int.natCast_nonneg _
      have hN3 : 1 ≤ N1 := by omega
      have HHR := Lib.hid (fun (W' : World) (h : Below w.heap.size w W') (hz : 0 ≤ Z) => show Calls Try.prog 114 #[.pointer (some ⟨b, 0, none⟩), .int .i64 Z] W' (fun e w' => e = .returned (.bool FT) ∧ w' = W'.drew) from by rw [← hFT]; exact hasRoom (HFD.out W' h) hind.1 (by omega) (by omega) Z hz (by omega))
      have HAD := Lib.hid (fun (W' : World) (h : Below w.heap.size w W') => show Calls Try.prog 115 #[.pointer (some ⟨b, 0, none⟩), .slice (some ⟨tb, O, none⟩) N1 C] W' (AdOut w0 B b W (x :: q) (s.put (flT ((l.drop J).take N1))) W') from by
        have hl : ((l.drop J).take N1).length = N1 := by rw [List.length_take, hdl]; omega
        have g := addFlat ((l.drop J).take N1) w0 W' B b W (x :: q) s tb (off + J * 3) C (((HAT.out.below htw h).drop J).take N1) HTB.out (by omega) (Nat.le_trans HBB.out h.size) ⟨_, HFD.out W' h⟩ (by omega) (fun r hr => HALL.out r (List.mem_of_mem_drop (List.mem_of_mem_take hr))) (by omega)
        rw [hl, HO.out] at g
        exact g)
      clear hgl hdl hZ hE hN hFT hN1'
      go_wp2_with fail
      refine (HLF.out _ (HAL.out _)).mono ?_
      rintro e3 w3 ⟨rfl, hb3⟩
      have H3 := Lib.hid ((HAL.out _).trans (hb3.mono (by simp)))
      have hb3l : b < w3.heap.size := Nat.lt_of_lt_of_le hbl H3.out.size
      have HD3 := Lib.hid (fun (ob : Obj) (n : Nat) => show Below w.heap.size w ((w3.alloc ob).drewN n) from (H3.out.alloc H3.out.size _).trans ((drewN_below _ _).mono (by have := H3.out.size; simp; omega)))
      have HOL := Lib.hid (fun (n : Nat) => show ((w3.alloc (.cells #[.int .i64 (N1 : Int), .int .i64 Z, .int .i64 (E : Int)] 121)).drewN n).heap[w3.heap.size]? = some (.cells #[.int .i64 (N1 : Int), .int .i64 Z, .int .i64 (E : Int)] 121 (0, 0)) from by rw [drewN_heap]; exact World.alloc_heap_new w3 _)
      clear hb3
      by_cases hZ1 : Z = -1
      · subst hZ1
        have HOP := Lib.hid (HSO.out (by rw [HFT.out]; rfl))
        go_wp2_with fail
        go_quiet (fail)
        go_wp2_with fail
        go_ret
        exact ⟨1, s, x :: q, _, rfl, Nat.le_refl _, HOP.out, ⟨_, HFD.out _ (HD3.out _ _)⟩, (HD3.out _ _).mono HBB.out⟩
      · have bz : (Z != -1) = true := bne_iff_ne.2 hZ1
        have hz0 : 0 ≤ Z := by omega
        have hzd : decide (0 ≤ Z) = true := decide_eq_true hz0
        cases FT with
        | false =>
          have HOP := Lib.hid (HSO.out (by rw [HFT.out]; simp))
          go_wp2_with fail
          go_quiet ((go_at_call 114; exact quiet_room (HHR.out _ (HD3.out _ _) hz0)))
          go_wp2_with fail
          go_ret
          exact ⟨1, s, x :: q, _, rfl, Nat.le_refl _, HOP.out, ⟨_, HFD.out _ (HD3.out _ _)⟩, (HD3.out _ _).mono HBB.out⟩
        | true =>
          have HFI := Lib.hid (HSF.out (by rw [HFT.out, hzd]; rfl))
          go_wp2_with fail
          go_quiet ((go_at_call 114; exact quiet_room (HHR.out _ (HD3.out _ _) hz0)))
          go_wp2_with fail
          refine (HAD.out _ (HD3.out _ _)).mono ?_
          rintro e4 w4 ⟨rfl, hs4, hb4, hk4⟩
          have o0 : w4.cell? ⟨w3.heap.size, 0, none⟩ = some (.int .i64 (N1 : Int)) := (hk4.cell (o := 0) (HOL.out _) (by omega) (by decide)).trans (by simp only [World.cell?, HOL.out]; rfl)
          have H4 := Lib.hid (And.intro hs4 (((HD3.out _ _).mono HBB.out).trans hb4))
          clear hs4 hb4 hk4
          go_wp2_with fail
          go_ret
          exact ⟨N1, _, x :: q, _, rfl, hN3, HFI.out, H4.out.1, H4.out.2⟩
    have h6 : k = 6 := by
      unfold Tk.kt at hkt
      rw [if_neg hk1, if_neg hk7] at hkt
      simp only [Bool.and_eq_true, decide_eq_true_eq] at hkt
      have : ¬ (2 ≤ k ∧ k ≤ 4) := fun h => by rw [show isN k = true by simp [isN, h.1, h.2]] at hn; cases hn
      omega
    subst h6
    have HSN := Lib.hid (show SI W l R (J + 1) s (x :: q) a from HS.out.close hJ (by rw [HNT.out]))
    go_wp2_with fail
    go_ret
    exact ⟨1, s, x :: q, a, rfl, Nat.le_refl _, HSN.out, ⟨_, HFD.out _ (HAL.out _)⟩, (HAL.out _).mono HBB.out⟩

theorem str_start (w w1 : World) (hb : Below w.heap.size w w1) (W : Int) :
    RF w w.heap.size (w1.heap.size + 1) W [0] St.zero ⟨.int .i64 W, .slice (some ⟨w1.heap.size, 0, none⟩) 1 1, .slice none 0 0, .int .i64 0, .slice none 0 0⟩
      ((w1.alloc (.cells #[.int .i64 0] 3)).alloc (.cells #[.int .i64 W, .slice none 0 0, .int .i64 0, .pointer none, .slice none 0 0, .slice (some ⟨w1.heap.size, 0, none⟩) 1 1] 86)) := by
  have hz := hb.size
  refine ⟨.inl ⟨by omega, .slice none 0 0, ?_, World.ownsRowF_nil _ _ _ _, by simp [Value.ownBlock], fun _ => rfl⟩, ?_, World.ownsRow_nil _ _ _ _, World.ownsRow_nil _ _ _ _, rfl, rfl⟩
  · have := World.alloc_heap_new (w1.alloc (.cells #[.int .i64 0] 3)) (.cells #[.int .i64 W, .slice none 0 0, .int .i64 0, .pointer none, .slice none 0 0, .slice (some ⟨w1.heap.size, 0, none⟩) 1 1] 86)
    rwa [World.size_alloc] at this
  · exact (StackG.start (CV := NV) (n := 1) (x := 0) (c := [.int .i64 0]) rfl rfl rfl hz rfl).below (Nat.le_refl _) ((Below.refl _ _).alloc (Nat.le_refl _) _)
/-- how many lines a stream is laid out to -/
theorem str_rows (W : Int) : ∀ (f : Nat) (l : List Tok) (s : St) (ns : List Int) (a : Nat), (str W f l s ns a).1.rows.length ≤ s.rows.length + l.length
  | 0, l, s, ns, a => by simp only [str]; omega
  | f + 1, [], s, ns, a => by rw [str_nil]; simp
  | f + 1, r :: l, s, ns, a => by
    have h1 := str_rows W f l (s.put r.2.2) ns a
    have h2 := str_rows W f l (s.line (ns.headD 0)) ns a
    have h3 := str_rows W f l s ((ns.headD 0 + r.2.1) :: ns) a
    have h4 := str_rows W f l s ns.tail a
    have h5 := str_rows W f ((r :: l).drop (gL (r :: l))) (s.put (flT ((r :: l).take (gL (r :: l))))) ns (max a (nxt (gL (r :: l)) (r :: l) 0))
    have h6 := str_rows W f l s ns (max a (nxt (gL (r :: l)) (r :: l) 0))
    have h7 := str_rows W f l s ns a
    have e1 : (s.put r.2.2).rows.length = s.rows.length := rfl
    have e2 : (s.line (ns.headD 0)).rows.length = s.rows.length + 1 := by simp [St.line]
    have e5 : (s.put (flT ((r :: l).take (gL (r :: l))))).rows.length = s.rows.length := rfl
    have e6 : ((r :: l).drop (gL (r :: l))).length ≤ l.length + 1 := by rw [List.length_drop, List.length_cons]; omega
    simp only [List.length_cons]
    unfold str
    repeat' split
    all_goals omega
theorem sr_len (W : Int) (l : List Tok) : (srR W l).1.length ≤ 1048576 := by
  cases hw : Cst.wv W with
  | false => rw [Sq.sr_no hw]; simp
  | true =>
    cases hv : tkv l with
    | false => rw [Sq.sr_bad hv]; simp
    | true =>
      rw [Sq.sr_yes hw hv]
      have h := str_rows W l.length l St.zero [0] 0
      have h2 := tkv_len hv
      have h3 : (srS W l).fin.length = (srS W l).rows.length + 1 := by simp [St.fin]
      have h4 : St.zero.rows.length = 0 := rfl
      show (srS W l).fin.length ≤ _
      unfold srS at *
      omega
def sliceLen : Value → Nat
  | .slice _ n _ => n
  | _ => 0
theorem ended_rows (s : St) : (St.ended s).rows = s.fin := rfl

set_option maxRecDepth 100000 in
set_option maxHeartbeats 6400000 in
theorem implStreamRows (l : List Tok) (W : Int) (w : World) (a : Option Addr) (cap : Nat) (fs : List Nat) (hs : TkSub w a l fs) (hc : l.length ≤ cap) (hl : l.length ≤ maxLen) (hft : TL.Fits l) :
    Calls Try.prog 20 #[.slice a l.length cap, .int .i64 W] w (LayRes w (srR W l)) := by
  have HWV := Lib.hid (Cst.widthValid W)
  have HTV := Lib.hid (implTokensValid l w a cap fs hs hc hl hft)
  cases hw : Cst.wv W with
  | false =>
    rw [hw] at HWV
    rw [Sq.sr_no hw]
    clear hs hw
    go_enter Try.func20, Try.ntmps20
    go_wp2_with fail
    refine (HWV.out _).mono ?_
    rintro e0 w0 ⟨rfl, rfl⟩
    go_wp2_with fail
    go_ret2
    exact LayRes.none' (Below.refl _ _)
  | true =>
    rw [hw] at HWV
    cases htv : tkv l with
    | false =>
      rw [htv] at HTV
      rw [Sq.sr_bad htv]
      clear hs hw htv
      unfold maxLen at hl
      go_enter Try.func20, Try.ntmps20
      go_wp2_with fail
      refine (HWV.out _).mono ?_
      rintro e0 w0 ⟨rfl, rfl⟩
      go_wp2_with fail
      refine HTV.out.mono ?_
      rintro e1 w1 ⟨rfl, hb1⟩
      have H1 := Lib.hid hb1
      clear hb1
      go_wp2_with fail
      go_ret2
      exact LayRes.none' H1.out
    | true =>
      rw [htv] at HTV
      rw [Sq.sr_yes hw htv]
      have hlen := tkv_len htv
      have hWW : 0 ≤ W ∧ W ≤ 200 := by simpa [Cst.wv] using hw
      have HSI := Lib.hid (SI.start (W := W) htv)
      have HR := Lib.hid (show ∀ k, (h : k < l.length) → ∃ b off, a = some ⟨b, off, none⟩ ∧ b < w.heap.size ∧ TkAt w l b off from fun k h => by
        rcases hs with ⟨rfl, _⟩ | ⟨b, off, ha, hn, _, hr⟩
        · simp at h
        · exact ⟨b, off, ha, hr.lt hn, hr⟩)
      have HV := Lib.hid htv
      unfold srS
      obtain ⟨R, hR⟩ : ∃ R, str W l.length l St.zero [0] 0 = R := ⟨_, rfl⟩
      rw [hR] at HSI ⊢
      have HC := Lib.hid hc
      obtain ⟨m, hm⟩ : ∃ m, l.length = m := ⟨_, rfl⟩
      have HM := Lib.hid hm
      rw [hm] at hc hl hlen HTV ⊢
      clear htv hs hm hft hw hR
      unfold maxLen at hl
      go_enter Try.func20, Try.ntmps20
      go_wp2_with fail
      refine (HWV.out _).mono ?_
      rintro e0 w0 ⟨rfl, rfl⟩
      go_wp2_with fail
      refine HTV.out.mono ?_
      rintro e1 w1 ⟨rfl, hb1⟩
      have HST := Lib.hid (str_start w0 w1 hb1 W)
      have HB1 := Lib.hid (fun (o1 o2 : Obj) => show Below w0.heap.size w0 ((w1.alloc o1).alloc o2) from (hb1.alloc hb1.size _).alloc (by have := hb1.size; simp; omega) _)
      have hbz : w0.heap.size ≤ w1.heap.size := hb1.size
      clear hb1
      go_wp2_with fail
      obtain ⟨b, hbb⟩ : ∃ y, w1.heap.size + 1 = y := ⟨_, rfl⟩
      try rw [hbb] at HST
      try rw [hbb]
      go_loopw [0] (fun v wr => ∃ (J : Nat) (aj : Option Addr) (s : St) (ns : List Int) (A : Nat), J ≤ m ∧ v = .slice aj (m - J) (cap - J) ∧ (J < m → ∀ tb off, a = some ⟨tb, off, none⟩ → aj = some ⟨tb, off + J * 3, none⟩) ∧ Hid (SI W l R J s ns A) ∧ Hid (RS w0 w0.heap.size b W ns s wr) ∧ Hid (Below w0.heap.size w0 wr)) (fun v _ => sliceLen v)
      case atStart => exact ⟨0, a, St.zero, [0], 0, by omega, rfl, fun _ tb off h => by rw [h]; rfl, HSI, Lib.hid ⟨_, HST.out⟩, HB1.out _ _⟩
      case round =>
        obtain ⟨J, aj, s, ns, A, hJ, rfl, haj, HS, HQ, HB⟩ := hrel
        have hsz := HB.out.size
        by_cases hJm : J < m
        · have hJl : J < l.length := by rw [HM.out]; exact hJm
          obtain ⟨tb, off, rfl, htb, hat⟩ := HR.out J hJl
          obtain rfl := haj hJm tb off rfl
          have HTK := Lib.hid (take l W R J hJl s ns A w0 wr w0.heap.size b tb off cap (hat.below htb HB.out) htb HC.out HV.out hsz HQ.out HS hWW.1 hWW.2)
          rw [HM.out] at HTK
          obtain ⟨M, hM⟩ : ∃ y, m - J = y := ⟨_, rfl⟩
          obtain ⟨C, hC⟩ : ∃ y, cap - J = y := ⟨_, rfl⟩
          obtain ⟨O, hO⟩ : ∃ y, off + J * 3 = y := ⟨_, rfl⟩
          rw [hM, hC, hO] at HTK ⊢
          have hM0 : (0 : Int) < (M : Int) := by omega
          have hMC : M ≤ C := by omega
          have HMC := Lib.hid (And.intro hM (And.intro hC hO))
          clear hat hM hC hO haj
          go_wp2_with fail
          refine HTK.out.mono ?_
          rintro e2 w2 ⟨q, s', ns', A', rfl, hq1, hsi, hrs, hb2⟩
          have hqM : q ≤ M := by have h1 := hsi.le; have h2 := HM.out; have h3 := HMC.out.1; omega
          have q0 : (0 : Int) ≤ (q : Int) := Int.natCast_nonneg _
          have q1 : (q : Int) ≤ (M : Int) := by omega
          have q2 : (M : Int) ≤ (C : Int) := by omega
          have H2 := Lib.hid (And.intro hsi (And.intro hrs (HB.out.trans hb2)))
          clear hsi hrs hb2
          go_wp2_with fail
          go_roundw
          case rel =>
            refine ⟨J + q, if C = q then some ⟨tb, O, none⟩ else some ⟨tb, O + q * 3, none⟩, s', ns', A', by have h2 := HMC.out.1; omega, ?_, fun hlt tb' off' h => ?_, Lib.hid H2.out.1, Lib.hid H2.out.2.1, Lib.hid H2.out.2.2⟩
            · obtain ⟨h1, h2, h3⟩ := HMC.out
              rw [show m - (J + q) = M - q by omega, show cap - (J + q) = C - q by omega]
            · obtain ⟨h1, h2, h3⟩ := HMC.out
              injection h with h; injection h with h4 h5 _
              rw [if_neg (by omega), ← h4, ← h5, ← h3]; congr 2; omega
          case measure => simp [sliceLen]; omega
        · obtain rfl : J = m := by omega
          have HE := Lib.hid (HS.out.done (by rw [HM.out]; exact Nat.le_refl _))
          have hrw := HS.out.rows
          have HEL := Lib.hid (endLine hsz HQ.out (by omega))
          obtain ⟨F0, hF0⟩ := HQ.out
          have hbl := hF0.cells.2.2.2.2.2.2.1
          clear hF0 haj hrw
          rw [Nat.sub_self]
          go_wp2_with fail
          refine HEL.out.mono ?_
          rintro e3 w3 ⟨rfl, ⟨⟨fa, fr, fl, fi, fg⟩, hF3⟩, hb3, _⟩
          obtain ⟨_, _, c1, _, _, _, hbl3, _⟩ := hF3.cells
          have hrows := hF3.rows
          rw [ended_rows] at hrows
          obtain ⟨ax, cx, gx, hv, hcx, hsx, hfx⟩ := Sq.own_lay6 hrows rfl
          obtain rfl : fl = .slice ax s.fin.length cx := hv
          have H3 := Lib.hid (And.intro hcx (And.intro hsx (And.intro hfx (HB.out.trans hb3))))
          clear hF3 hb3 hrows hcx hsx hfx
          go_wp2_with fail
          go_ret2
          rw [HE.out]
          exact ⟨ax, cx, gx, rfl, H3.out.1, H3.out.2.1, H3.out.2.2.1, H3.out.2.2.2⟩

end Go.Proofs.Ytcealfjkcbaelaa.StM


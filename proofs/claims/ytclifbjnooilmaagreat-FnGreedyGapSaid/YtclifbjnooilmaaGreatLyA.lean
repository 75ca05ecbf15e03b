import Derived.StillTailTactics
import Derived.Test.YtclifbjnooilmaaGreatMarkT
import Derived.Deep.RegionHeld3
import Derived.Test.YtclifbjnooilmaaGreatText
import Derived.Deep.RegionLaw
import Derived.Deep.AppendLies
/-
 What the law's own helpers that count, copy and compare layouts come to.
-/
set_option linter.unusedVariables false
set_option linter.unusedSimpArgs false
set_option maxRecDepth 100000
set_option maxHeartbeats 3200000
namespace Go.Proofs.YtclifbjnooilmaaGreat.LayL
open Go.RowKit
theorem ret_bool {a b : Bool} (h : a = b) : Ending.returned (.bool a) = .returned (.bool b) := by rw [h]
def zeros (n : Nat) : Array Value := madeCells #[.int .i64 0, .string ⟨#[]⟩] n
theorem size_zeros (n : Nat) : (zeros n).size = n := size_madeCells _ _
theorem info : (Tryz.prog.info? 62).map (fun i => (i.zero, i.size, i.bytes)) = some (some (.agg #[.int .i64 0, .string ⟨#[]⟩]), 2, 24) := by kernel_rfl
theorem run_mk (m : Nat) (hm : m ≤ 1048576) (w : World) : (Instr.makeSlice 28 (.int .i64 (m : Int)) (.int .i64 (m : Int))).run Tryz.prog w = .ok (.slice (some ⟨w.heap.size, 0, none⟩) m m) (w.alloc (.cells (zeros (m * 2)) 62)) := by
 obtain ⟨i0, hi, hz0, hz1, hz2⟩ := info_parts info
 have := run_make (P := Tryz.prog) w 28 62 i0 _ Tryz.underlying28 hi hz0 .i64 .i64 (m : Int) (m : Int) (by omega) (by omega) (by rw [hz2]; omega) (by omega)
 rw [hz1] at this
 simpa [zeros, Value.cells] using this
def Mid (w : World) (l : List (Int × ByteArray)) (m k : Nat) (wr : World) : Prop := LayAt wr (l.take k) w.heap.size 0 ∧ wr.there w.heap.size 0 (m * 2) ∧ (w.heap.size < wr.heap.size ∧ ∀ o, wr.frozen? ⟨w.heap.size, o, none⟩ = false) ∧ Below w.heap.size w wr
theorem sub_new {w' : World} {l : List (Int × ByteArray)} {b B : Nat} (h : LayAt w' l b 0) (hb : B ≤ b) (hlt : b < w'.heap.size) (hfz : ∀ o, w'.frozen? ⟨b, o, none⟩ = false) : ∃ fs, LaySub w' (some ⟨b, 0, none⟩) l fs ∧ Fresh B w' fs := by
 by_cases hl : l = []
 ·exact ⟨[], .inl ⟨hl, rfl⟩, Fresh.nil _ _⟩
 ·exact ⟨[b], .inr ⟨b, 0, rfl, hl, rfl, h⟩, Fresh.cons (hi := b + 1) hb hlt hfz (Fresh.nil _ _) (by omega)⟩
def sameR (n : Int) (t : ByteArray) (n' : Int) (t' : ByteArray) : Bool := decide ((n, t) = (n', t'))
theorem same_step {l l' : List (Int × ByteArray)} {k : Nat} (h : k < l.length) (h' : k < l'.length) (e : l.take k = l'.take k) (e' : l[k] = l'[k]) : l.take (k + 1) = l'.take (k + 1) := by
 rw [L.take_succ h, L.take_succ h', e, e']
end Go.Proofs.YtclifbjnooilmaaGreat.LayL
namespace Go.Proofs.YtclifbjnooilmaaGreat.LayM
open Go.RowKit P1 MarkT
theorem part_set {l X : List (Int × ByteArray)} (hX : X.length = l.length) {j : Nat} (hj : j < l.length) : (X.take j ++ l.drop j).set j (X[j]'(by omega)) = X.take (j + 1) ++ l.drop (j + 1) := by
 have hj' : j < X.length := by omega
 have e : (X.take j).length = j := by rw [List.length_take]; omega
 rw [List.set_append_right _ _ (by rw [e]; exact Nat.le_refl _), e, Nat.sub_self, List.drop_eq_getElem_cons hj, List.set_cons_zero, L.take_succ hj', List.append_assoc]
 rfl
theorem part_get {l X : List (Int × ByteArray)} (hX : X.length = l.length) {j : Nat} (hj : j < l.length) (h : j < (X.take j ++ l.drop j).length) : (X.take j ++ l.drop j)[j] = l[j] := by
 rw [List.getElem_append_right (by rw [List.length_take]; omega)]
 simp [List.length_take, Nat.min_eq_left (show j ≤ X.length by omega)]
theorem part_len {l X : List (Int × ByteArray)} (hX : X.length = l.length) {j : Nat} (hj : j ≤ l.length) : (X.take j ++ l.drop j).length = l.length := by
 rw [List.length_append, List.length_take, List.length_drop]; omega
end Go.Proofs.YtclifbjnooilmaaGreat.LayM
namespace Go.Proofs.YtclifbjnooilmaaGreat.LayV
open Go.RowKit P1 TextV
theorem rv_no1 {n : Int} {t : ByteArray} (h : n < 0) : rv (n, t) = false := by simp [rv]; omega
theorem rv_no2 {n : Int} {t : ByteArray} (h : 400 < n) : rv (n, t) = false := by simp [rv]; omega
theorem rv_no3 {n : Int} {t : ByteArray} (h : lt t.data.toList = false) : rv (n, t) = false := by simp [rv, h]
theorem rv_yes {n : Int} {t : ByteArray} (h0 : 0 ≤ n) (h1 : n ≤ 400) : rv (n, t) = lt t.data.toList := by simp [rv, h0, h1]
theorem rowValid (n : Int) (t : ByteArray) (ht : t.size ≤ maxLen) (w : World) :
  Calls Tryz.prog 78 #[.agg #[.int .i64 n, .string t]] w fun e w' => e = .returned (.bool (rv (n, t))) ∧ Below w.heap.size w w' := by
 unfold maxLen at ht
 have hsz : t.data.toList.length = t.size := by simp
 have B1 : ∀ ob, Below w.heap.size w (w.alloc ob) := fun ob => (Below.refl _ _).alloc (Nat.le_refl _) _
 by_cases h1 : n < 0
 ·have Hb := Lib.hid (rv_no1 (t := t) h1)
  go_enter Tryz.func78, Tryz.ntmps78
  go_wp2_with fail
  go_ret
  exact ⟨ret_bool Hb.out.symm, B1 _⟩
 ·by_cases h2 : 400 < n
  ·have Hb := Lib.hid (rv_no2 (t := t) h2)
   go_enter Tryz.func78, Tryz.ntmps78
   go_wp2_with fail
   go_ret
   exact ⟨ret_bool Hb.out.symm, B1 _⟩
  ·by_cases h3 : 1999 < t.size
   ·have Hb := Lib.hid (rv_no3 (n := n) (lt_long (l := t.data.toList) (by omega)))
    clear hsz
    go_enter Tryz.func78, Tryz.ntmps78
    go_wp2_with fail
    go_ret
    exact ⟨ret_bool Hb.out.symm, B1 _⟩
   ·have Hb := Lib.hid ((rv_yes (n := n) (t := t) (by omega) (by omega)).trans (lt_of (l := t.data.toList) (by omega)))
    clear hsz B1
    go_enter Tryz.func78, Tryz.ntmps78
    go_wp2_with fail
    go_loop [21] (fun i => ∃ k : Nat, k ≤ t.size ∧ i = .int .i64 k ∧ Hid ((t.data.toList.take k).all lb = true)) (fun i => t.size - (intOf i).toNat)
    case atStart => exact ⟨0, Nat.zero_le _, rfl, Lib.hid rfl⟩
    case round =>
     obtain ⟨k, hk, rfl, Hal⟩ := hrel
     by_cases hlt : k < t.size
     ·by_cases h32 : (t[k].toNat : Int) = 32
      ·have Hc := Lib.hid (show lb t[k] = true by rw [lb_num, h32]; rfl)
       have hb32 : ((t[k].toNat : Int) != 32) = false := by rw [h32]; rfl
       clear h32
       go_wp2_with fail
       go_round
       case rel => exact ⟨k + 1, by omega, by go_num, Lib.hid (by rw [take_all_snoc t k hlt, Hal.out, Hc.out]; rfl)⟩
       case measure => simp [intOf]; omega
      ·have hb32 : ((t[k].toNat : Int) != 32) = true := by rw [bne_iff_ne]; exact h32
       have hlb : lb t[k] = tb t[k] := by
        rw [lb_num, show ((t[k].toNat : Int) == 32) = false by rw [beq_eq_false_iff_ne]; exact h32]; rfl
       have HLB := Lib.hid hlb
       clear h32 hlb
       cases hc : tb t[k] with
       | true =>
         have Hc := Lib.hid hc
         clear hc
         go_wp2_with (go_at_call 114; refine (isTextByte _ _).mono ?_; rw [Hc.out]; rintro e w' ⟨rfl, rfl⟩)
         go_round
         case rel => exact ⟨k + 1, by omega, by go_num, Lib.hid (by rw [take_all_snoc t k hlt, Hal.out, HLB.out, Hc.out]; rfl)⟩
         case measure => simp [intOf]; omega
       | false =>
         have Hc := Lib.hid hc
         clear hc
         go_wp2_with (go_at_call 114; refine (isTextByte _ _).mono ?_; rw [Hc.out]; rintro e w' ⟨rfl, rfl⟩)
         go_ret
         exact ⟨ret_bool (by rw [Hb.out, all_stop t k hlt lb (by rw [HLB.out, Hc.out])]), (Below.refl _ _).alloc (Nat.le_refl _) _⟩
     ·go_wp2_with fail
      go_ret
      exact ⟨ret_bool (by rw [Hb.out, ← Hal.out, List.take_of_length_le (by simp; omega)]), (Below.refl _ _).alloc (Nat.le_refl _) _⟩
theorem implLayoutValid (l : List (Int × ByteArray)) (w : World) (a : Option Addr) (cap : Nat) (fs : List Nat) (hs : LaySub w a l fs) (hc : l.length ≤ cap) (hl : l.length ≤ maxLen) (hft : L.Fits l) :
  Calls Tryz.prog 44 #[.slice a l.length cap] w fun e w' => e = .returned (.bool (lv l)) ∧ Below w.heap.size w w' := by
 rcases hs with ⟨rfl, _⟩ | ⟨b, off, rfl, hne, _, hrow⟩
 ·go_enter Tryz.func44, Tryz.ntmps44
  go_wp2_with fail
  go_ret
  exact ⟨rfl, Below.refl _ _⟩
 ·have hb := hrow.lt hne
  have h0 : 0 < l.length := List.length_pos_iff.2 hne
  obtain ⟨⟨n0, t0⟩, hnt0⟩ : ∃ r, l[0] = r := ⟨_, rfl⟩
  have z0 := (hrow 0 h0).1
  rw [hnt0, Nat.zero_mul, Nat.add_zero] at z0
  obtain ⟨m, hm⟩ : ∃ m, l.length = m := ⟨_, rfl⟩
  have HM := Lib.hid hm
  have HR := Lib.hid hrow
  have HF := Lib.hid hft
  have hm0 : 0 < m := by omega
  rw [hm] at hc hl ⊢
  unfold maxLen at hl
  by_cases h2 : 200 < m
  ·have HFin := Lib.hid (lv_long (l := l) (by omega))
   clear hm hrow hft hnt0 hne h0
   go_enter Tryz.func44, Tryz.ntmps44
   go_wp2_with fail
   go_ret
   exact ⟨ret_bool HFin.out.symm, Below.refl _ _⟩
  ·by_cases h3 : n0 = 0
   ·subst h3
    have HFin := Lib.hid (lv_of (l := l) h0 (by omega) (by rw [hnt0]))
    clear hm hrow hft hnt0 hne h0
    go_enter Tryz.func44, Tryz.ntmps44
    go_wp2_with fail
    go_loopw [22] (fun i wr => ∃ k : Nat, k ≤ m ∧ i = .int .i64 k ∧ Hid ((l.take k).all rv = true) ∧ Below w.heap.size w wr) (fun i _ => m - (intOf i).toNat)
    case atStart => exact ⟨0, Nat.zero_le _, rfl, Lib.hid rfl, Below.refl _ _⟩
    case round =>
     obtain ⟨k, hk, rfl, Hal, hbw⟩ := hrel
     clear z0
     by_cases hkm : k < m
     ·have hkl : k < l.length := by rw [HM.out]; exact hkm
      obtain ⟨⟨n, t⟩, hnt⟩ : ∃ r, l[k] = r := ⟨_, rfl⟩
      obtain ⟨c0, c1⟩ := (HR.out.below hb hbw) k hkl
      rw [hnt] at c0 c1
      have ht : t.size ≤ maxLen := by have := HF.out.get hkl; rw [hnt] at this; exact this
      have HN := Lib.hid hnt
      have hbr : b < wr.heap.size := Nat.lt_of_lt_of_le hb hbw.size
      have HRV := Lib.hid (rowValid n t ht)
      have HB1 := Lib.hid (show ∀ ob, Below w.heap.size w (wr.alloc ob) from fun ob => hbw.alloc hbw.size _)
      clear hnt ht
      cases hv : rv (n, t) with
      | true =>
        have HV := Lib.hid hv
        clear hv
        go_wp2_with (go_at_call 78; refine (HRV.out _).mono ?_; rw [HV.out]; rintro e w' ⟨rfl, hb1⟩)
        go_roundw
        case rel => exact ⟨k + 1, by omega, by go_num, Lib.hid (by rw [all_take hkl, Hal.out, HN.out, HV.out]; rfl), (HB1.out _).trans (hb1.mono (HB1.out _).size)⟩
        case measure => simp [intOf]; omega
      | false =>
        have HV := Lib.hid hv
        clear hv
        go_wp2_with (go_at_call 78; refine (HRV.out _).mono ?_; rw [HV.out]; rintro e w' ⟨rfl, hb1⟩)
        go_ret
        exact ⟨ret_bool (by rw [lv_bad hkl (by rw [HN.out]; exact HV.out)]), (HB1.out _).trans (hb1.mono (HB1.out _).size)⟩
     ·go_wp2_with fail
      go_ret
      exact ⟨ret_bool (by rw [HFin.out, ← Hal.out, List.take_of_length_le (by have := HM.out; omega)]), hbw⟩
   ·have HFin := Lib.hid (lv_head (l := l) h0 (by rw [hnt0]; exact h3))
    have hnb : (n0 != 0) = true := by rw [bne_iff_ne]; exact h3
    clear hm hrow hft hnt0 hne h0
    go_enter Tryz.func44, Tryz.ntmps44
    go_wp2_with fail
    go_ret
    exact ⟨ret_bool HFin.out.symm, Below.refl _ _⟩
end Go.Proofs.YtclifbjnooilmaaGreat.LayV
namespace Go.Proofs.YtclifbjnooilmaaGreat.LayV
open Go.RowKit P1 TextV
end Go.Proofs.YtclifbjnooilmaaGreat.LayV
namespace Go.Proofs.YtclifbjnooilmaaGreat.LayN
open Go.RowKit P1 TextV LayL LayV LayM
def RowsNew (w : World) (l : List (Int × ByteArray)) (e : Ending) (w' : World) : Prop := ∃ (a : Option Addr) (cap : Nat) (fs : List Nat), e = .returned (.slice a l.length cap) ∧ l.length ≤ cap ∧ LaySub w' a l fs ∧ Fresh w.heap.size w' fs ∧ Below w.heap.size w w'
def LayRes (w : World) (r : List (Int × ByteArray) × Bool) (e : Ending) (w' : World) : Prop := ∃ (a : Option Addr) (cap : Nat) (fs : List Nat), e = .returned (.tuple #[.slice a r.1.length cap, .bool r.2]) ∧ r.1.length ≤ cap ∧ LaySub w' a r.1 fs ∧ Fresh w.heap.size w' fs ∧ Below w.heap.size w w'
theorem clone (s : ByteArray) (w : World) (h : s.size ≤ 281474976710656) : Calls Tryz.prog 107 #[.string s] w fun e w' => e = .returned (.string s) ∧ Below w.heap.size w w' := by
 go_enter Tryz.func107, Tryz.ntmps107
 go_wp2_with fail
 refine (Tryz.stringslite_Clone s _ h).mono ?_
 rintro e w' ⟨rfl, hb⟩
 go_wp2_with fail
 go_ret
 exact ⟨rfl, hb⟩
def Box2 (w : World) (b : Nat) (n : Int) (t : ByteArray) : Prop := w.cell? ⟨b, 0, none⟩ = some (.int .i64 n) ∧ w.cell? ⟨b, 1, none⟩ = some (.string t)
theorem Box2.ext {w w' : World} {b : Nat} {n : Int} {t : ByteArray} (h : Box2 w b n t) (hb : b < w.heap.size) (k : Below w.heap.size w w') : Box2 w' b n t :=
 ⟨(k.cell (p := ⟨b, 0, none⟩) hb).trans h.1, (k.cell (p := ⟨b, 1, none⟩) hb).trans h.2⟩
theorem Box2.new (w : World) (n : Int) (t : ByteArray) (T : TypeId) : Box2 (w.alloc (.cells #[.int .i64 n, .string t] T)) w.heap.size n t := by
 refine ⟨?_, ?_⟩ <;> (rw [World.cell?_alloc_new]; rfl)
theorem mid_below {wr w1 : World} {ob : Obj} (hb : Below (wr.alloc ob).drew.heap.size (wr.alloc ob).drew w1) : Below wr.heap.size wr w1 :=
 ((Below.refl wr.heap.size wr).alloc (Nat.le_refl _) ob).drew.trans (hb.mono (by simp [World.drew]))
theorem mid_there {wr w1 : World} {ob : Obj} {m k b : Nat} (hth : wr.there b 0 (m * 2)) (hlt : b < wr.heap.size) (hb : Below (wr.alloc ob).drew.heap.size (wr.alloc ob).drew w1) (hk : k < m) : w1.there b (k * 2) 2 :=
 there_part (there_below hth hlt (mid_below hb)) (by omega)
theorem there_two {w : World} {b o : Nat} (h : w.there b o 2) : ∃ u0 u1, w.cell? ⟨b, o, none⟩ = some u0 ∧ w.cell? ⟨b, o + 1, none⟩ = some u1 ∧ w.frozen? ⟨b, o, none⟩ = false ∧ w.frozen? ⟨b, o + 1, none⟩ = false := by
 obtain ⟨a0, z0⟩ := h 0 (by omega)
 obtain ⟨a1, z1⟩ := h 1 (by omega)
 obtain ⟨u0, e0⟩ := Option.isSome_iff_exists.1 a0
 obtain ⟨u1, e1⟩ := Option.isSome_iff_exists.1 a1
 exact ⟨u0, u1, e0, e1, z0, z1⟩
theorem mid_put {w wr w1 : World} {l : List (Int × ByteArray)} {m k : Nat} {n : Int} {t : ByteArray} (h : Mid w l m k wr) (hb2 : Below wr.heap.size wr w1) (hkl : k < l.length) (hkm : k < m) (e : l[k] = (n, t)) :
  Mid w l m (k + 1) ((w1.setCell ⟨w.heap.size, k * 2, none⟩ (.int .i64 n)).setCell ⟨w.heap.size, k * 2 + 1, none⟩ (.string t)) := by
 show Mid w l m (k + 1) (w1.setCells w.heap.size (k * 2) [.int .i64 n, .string t])
 obtain ⟨hrw, hth, ⟨hlt, hfz⟩, hbw⟩ := h
 have hth2 := there_below hth hlt hb2
 refine ⟨?_, World.there_setCells hth2 _ _ _, ⟨by rw [size_setCells]; exact Nat.lt_of_lt_of_le hlt hb2.size, fun o' => by rw [World.frozen?_setCells]; exact (hb2.frozen (p := ⟨w.heap.size, o', none⟩) hlt).trans (hfz o')⟩, Below.setCells (Nat.le_refl _) _ _ _ (hbw.trans (hb2.mono hbw.size))⟩
 rw [L.take_succ hkl, e]
 exact LayAt.put (hrw.below hlt hb2) (by rw [List.length_take]; omega) hth2 (by omega)
theorem copyRowsOwn (l : List (Int × ByteArray)) (w : World) (a : Option Addr) (cap : Nat) (fs : List Nat) (hs : LaySub w a l fs) (hc : l.length ≤ cap) (hsz : l.length ≤ 1048576) (hft : ∀ k, (h : k < l.length) → l[k].2.size ≤ 4194304) :
  Calls Tryz.prog 140 #[.slice a l.length cap] w fun e w' => e = .returned (.slice (some ⟨w.heap.size, 0, none⟩) l.length l.length) ∧ Mid w l l.length l.length w' := by
 have HR := Lib.hid (show ∀ k, (h : k < l.length) → ∃ b off, a = some ⟨b, off, none⟩ ∧ b < w.heap.size ∧ LayAt w l b off from fun k h => by
  rcases hs with ⟨rfl, _⟩ | ⟨b, off, ha, hn, _, hr⟩
  ·simp at h
  ·exact ⟨b, off, ha, hr.lt hn, hr⟩)
 obtain ⟨m, hm⟩ : ∃ m, l.length = m := ⟨_, rfl⟩
 have HM := Lib.hid hm
 have HF := Lib.hid hft
 rw [hm] at hc hsz
 rw [hm]
 clear hm hs hft
 have hmk := run_mk m hsz
 go_enter Tryz.func140, Tryz.ntmps140
 go_wp2
 clear hmk
 go_loopw [11] (fun i wr => ∃ k : Nat, k ≤ m ∧ i = .int .i64 k ∧ Mid w l m k wr) (fun i _ => m - (intOf i).toNat)
 case atStart =>
  exact ⟨0, by omega, rfl, LayAt.nil _ _ _, there_new w _ _ _ (by rw [size_zeros]; exact Nat.le_refl _), ⟨by simp, fun _ => World.frozen?_alloc_new _ _ _ _⟩, (Below.refl _ _).alloc (Nat.le_refl _) _⟩
 case round =>
  obtain ⟨k, hk, rfl, hrw, hth, ⟨hlt, hfz⟩, hbw⟩ := hrel
  by_cases hkm : k < m
  ·have hkl : k < l.length := by rw [HM.out]; exact hkm
   obtain ⟨b, off, rfl, hb, hrow⟩ := HR.out k hkl
   obtain ⟨c0, c1⟩ := (hrow.below hb hbw) k hkl
   have ht := HF.out k hkl
   obtain ⟨⟨n, t⟩, hnt⟩ : ∃ r, l[k] = r := ⟨_, rfl⟩
   rw [hnt] at c0 c1 ht
   have HN := Lib.hid hnt
   have hbr : b < wr.heap.size := Nat.lt_of_lt_of_le hb hbw.size
   have H := Lib.hid (And.intro hrw (And.intro hth (And.intro hlt (And.intro hfz hbw))))
   have HCL := Lib.hid (fun W => clone t W (by simp only at ht; omega))
   have i0 : (0 : Int) ≤ (k : Int) := Int.natCast_nonneg _
   have i1 : (k : Int) < (m : Int) := by omega
   clear hrow hnt hrw hth hlt hfz hbw ht
   go_wp2_with fail
   clear c0 c1
   go_region_law (first
    | (go_simp; go_at_call 107; refine (HCL.out _).mono ?_; rintro e w1 ⟨rfl, hb2⟩; obtain ⟨u0, u1, e0, e1, z0, z1⟩ := there_two (mid_there H.out.2.1 H.out.2.2.1 hb2 hkm); have HB2 := Lib.hid (mid_below hb2); have HX := Box2.ext (w := (wr.alloc (.cells #[.int .i64 n, .string t] 62)).drew) (b := wr.heap.size) (n := n) (t := t) (Box2.new _ _ _ _) (by simp [World.drew]) hb2; obtain ⟨q0, q1⟩ := HX; clear hb2))
   all_goals
    go_wp2_with fail
    go_roundw
    case rel =>
     obtain ⟨hrw, hth, hlt, hfz, hbw⟩ := H.out
     exact ⟨k + 1, by omega, by go_num, mid_put ⟨hrw, hth, ⟨hlt, hfz⟩, hbw⟩ HB2.out hkl hkm HN.out⟩
    case measure => simp [intOf]; omega
  ·have H := Lib.hid (And.intro hrw (And.intro hth (And.intro hlt (And.intro hfz hbw))))
   clear hrw hth hlt hfz hbw
   obtain rfl : k = m := by omega
   go_wp2_with fail
   go_ret
   obtain ⟨hrw, hth, hlt, hfz, hbw⟩ := H.out
   exact ⟨rfl, hrw, hth, ⟨hlt, hfz⟩, hbw⟩
theorem copyRows (l : List (Int × ByteArray)) (w : World) (a : Option Addr) (cap : Nat) (fs : List Nat) (hs : LaySub w a l fs) (hc : l.length ≤ cap) (hsz : l.length ≤ 1048576) (hft : ∀ k, (h : k < l.length) → l[k].2.size ≤ 4194304) :
  Calls Tryz.prog 140 #[.slice a l.length cap] w (RowsNew w l) := by
 refine (copyRowsOwn l w a cap fs hs hc hsz hft).mono ?_
 rintro e w' ⟨rfl, hrw, hth, ⟨hlt, hfz⟩, hbw⟩
 rw [List.take_of_length_le (Nat.le_refl _)] at hrw
 obtain ⟨fs', h1, h2⟩ := sub_new hrw (Nat.le_refl _) hlt hfz
 exact ⟨_, l.length, fs', rfl, Nat.le_refl _, h1, h2, hbw⟩
theorem lv_small {l : List (Int × ByteArray)} (h : lv l = true) : ∀ k, (h : k < l.length) → l[k].2.size ≤ 4194304 := fun k hk => by
 have := (rv_len (lv_get h hk)).2.2; omega
theorem nest_put {wr : World} {l X : List (Int × ByteArray)} {b off j : Nat} {n n0 : Int} {t0 : ByteArray} (hX : X.length = l.length) (hj : j < l.length) (h : LayAt wr (X.take j ++ l.drop j) b off) (e : l[j] = (n0, t0)) (e' : X[j]'(by omega) = (n0 + n, t0)) :
  LayAt (wr.setCell ⟨b, off + j * 2, none⟩ (.int .i64 (n0 + n))) (X.take (j + 1) ++ l.drop (j + 1)) b off := by
 have hl := part_len hX (Nat.le_of_lt hj)
 have hg : (X.take j ++ l.drop j)[j]'(by omega) = (n0, t0) := by rw [part_get hX hj, e]
 have := h.setN (by omega) hg (n0 + n)
 rw [← e', part_set hX hj] at this
 exact this
theorem nestRows (n : Int) (h0 : 0 ≤ n) (h1 : n ≤ 200) (l : List (Int × ByteArray)) (hlv : lv l = true) (w : World) (a : Option Addr) (cap : Nat) (fs : List Nat) (hs : LaySub w a l fs) (hc : l.length ≤ cap) :
  Calls Tryz.prog 108 #[.int .i64 n, .slice a l.length cap] w (RowsNew w (nestL n l)) := by
 have hll := lv_len hlv
 have hcp := copyRows l w a cap fs hs hc (by omega) (lv_small hlv)
 obtain ⟨X, hX⟩ : ∃ X, nestL n l = X := ⟨_, rfl⟩
 have hXl : X.length = l.length := by rw [← hX, nestL_length]
 have hXg : ∀ k, (h0 : 0 < k) → (hk : k < l.length) → (hk' : k < X.length) → X[k] = (l[k].1 + n, l[k].2) := by
  intro k hk0 hk hk'
  subst hX
  exact nestL_get n hk hk0 _
 have hX1 : X.take 1 ++ l.drop 1 = l := by
  subst hX
  cases l with
  | nil => rfl
  | cons r l => simp [nestL]
 rw [hX]
 have HX := Lib.hid (And.intro hXl (And.intro hXg hX1))
 have HCP := Lib.hid hcp
 have HLV := Lib.hid hlv
 unfold RowsNew
 rw [hXl]
 obtain ⟨m, hm⟩ : ∃ m, l.length = m := ⟨_, rfl⟩
 have HM := Lib.hid hm
 rw [hm] at hc hll ⊢
 clear hcp hX hXl hXg hX1 hlv hs
 rw [hm] at HCP
 clear hm
 go_enter Tryz.func108, Tryz.ntmps108
 go_wp2_with fail
 refine HCP.out.mono ?_
 rintro e1 w1 ⟨a1, cap1, f1, he, hc1, hs1, hf1, hb1⟩
 rw [HM.out] at he hc1
 subst he
 have hsl : ∃ b off, a1 = some ⟨b, off, none⟩ ∧ f1 = [b] ∧ LayAt w1 l b off := by
  rcases hs1 with ⟨rfl, _⟩ | ⟨b, off, ha, _, hf, hr⟩
  ·have := HM.out; simp at this; omega
  ·exact ⟨b, off, ha, hf, hr⟩
 obtain ⟨b, off, rfl, rfl, hrow⟩ := hsl
 have H1 := Lib.hid (And.intro hf1 hb1)
 have HR := Lib.hid hrow
 clear hs1 hf1 hb1 hrow
 go_wp2_with fail
 go_loopw [6] (fun i wr => ∃ j : Nat, 1 ≤ j ∧ j ≤ m ∧ i = .int .i64 j ∧ LayAt wr (X.take j ++ l.drop j) b off ∧ Only [b] w1 wr) (fun i _ => m - (intOf i).toNat)
 case atStart => exact ⟨1, by omega, by omega, rfl, by rw [HX.out.2.2]; exact HR.out, Only.refl _ _⟩
 case round =>
  obtain ⟨j, hj1, hjm, rfl, hrw, hO⟩ := hrel
  by_cases hlt : j < m
  ·have hjl : j < l.length := by rw [HM.out]; exact hlt
   obtain ⟨⟨n0, t0⟩, hnt⟩ : ∃ r, l[j] = r := ⟨_, rfl⟩
   have hpl := part_len HX.out.1 (Nat.le_of_lt hjl)
   have c0 := (hrw j (by omega)).1
   rw [part_get HX.out.1 hjl (by omega), hnt] at c0
   have hn0 := rv_len (lv_get HLV.out hjl)
   rw [hnt] at hn0
   obtain ⟨hn1, hn2, _⟩ := hn0
   simp only at hn1 hn2
   have hF := hO.fresh H1.out.1
   have z0 := (hF.2 b (by simp)).2.2 (off + j * 2)
   have hput := nest_put HX.out.1 hjl hrw hnt (by rw [HX.out.2.1 j (by omega) hjl (by rw [HX.out.1]; exact hjl), hnt])
   have H := Lib.hid (And.intro hput (hO.setCell (p := ⟨b, off + j * 2, none⟩) (by simp) (.int .i64 (n0 + n))))
   clear hrw hO hnt hpl hF hput
   go_wp2_with fail
   go_roundw
   case rel => exact ⟨j + 1, by omega, by omega, by go_num, H.out.1, H.out.2⟩
   case measure => simp [intOf]; omega
  ·have H := Lib.hid (And.intro hrw hO)
   clear hrw hO
   obtain rfl : j = m := by omega
   go_wp2_with fail
   go_ret
   obtain ⟨hrw, hO⟩ := H.out
   rw [List.take_of_length_le (by rw [HX.out.1, HM.out]; exact Nat.le_refl _), List.drop_eq_nil_of_le (by rw [HM.out]; exact Nat.le_refl _), List.append_nil] at hrw
   have hne : X ≠ [] := by intro e; have := HX.out.1; rw [e, HM.out] at this; simp at this; omega
   exact ⟨_, cap1, [b], rfl, hc1, .inr ⟨b, off, rfl, hne, rfl, hrw⟩, hO.fresh H1.out.1, H1.out.2.trans (hO.below H1.out.2.size (by simpa using (H1.out.1.2 b (by simp)).1))⟩
end Go.Proofs.YtclifbjnooilmaaGreat.LayN
namespace Go.Proofs.YtclifbjnooilmaaGreat.LayN
open Go.RowKit P1 TextV LayL LayV LayM
theorem LayRes.none' {w w' : World} {a : Option Addr} {cap : Nat} (hb : Below w.heap.size w w') : LayRes w ([], false) (.returned (.tuple #[.slice a 0 cap, .bool false])) w' :=
 ⟨a, cap, [], rfl, by simp, .inl ⟨rfl, rfl⟩, Fresh.nil _ _, hb⟩
def cells2 : List (Int × ByteArray) → List Value
 | [] => []
 | r :: l => .int .i64 r.1 :: .string r.2 :: cells2 l
theorem cells2_len (l : List (Int × ByteArray)) : (cells2 l).length = l.length * 2 := by
 induction l with
 | nil => rfl
 | cons r l ih => simp [cells2, ih]; omega
theorem cells2_one (l : List (Int × ByteArray)) : ∀ u ∈ cells2 l, u.oneCell' = true := by
 induction l with
 | nil => simp [cells2]
 | cons r l ih => simp [cells2, Value.oneCell']; exact ih
theorem cells2_at {w : World} {l : List (Int × ByteArray)} : ∀ {b off : Nat}, LayAt w l b off → ∀ j u, (cells2 l)[j]? = some u → w.cell? ((⟨b, off, none⟩ : Addr).add j) = some u := by
 induction l with
 | nil => intro b off _ j u hu; simp [cells2] at hu
 | cons r l ih =>
   intro b off h j u hu
   rw [add_at]
   match j, hu with
   | 0, hu => simp [cells2] at hu; rw [← hu]; have := (h 0 (by simp)).1; simpa using this
   | 1, hu => simp [cells2] at hu; rw [← hu]; have := (h 0 (by simp)).2; simpa using this
   | j + 2, hu =>
     simp only [cells2, List.getElem?_cons_succ] at hu
     have hd := h.drop 1
     rw [show (r :: l).drop 1 = l from rfl] at hd
     have := ih hd j u hu
     rw [add_at] at this
     rw [show off + (j + 2) = off + 1 * 2 + j by omega]
     exact this
theorem at_cells2 {w : World} {l : List (Int × ByteArray)} : ∀ {b off : Nat}, (∀ j u, (cells2 l)[j]? = some u → w.cell? ((⟨b, off, none⟩ : Addr).add j) = some u) → LayAt w l b off := by
 induction l with
 | nil => intro b off _; exact LayAt.nil _ _ _
 | cons r l ih =>
   intro b off h
   have h0 := h 0 _ rfl
   have h1 := h 1 _ rfl
   rw [add_at] at h0 h1
   have hr : LayAt w [r] b off := fun i hi => by
    obtain rfl : i = 0 := by simpa using hi
    exact ⟨by simpa using h0, by simpa using h1⟩
   refine hr.app (k := l) (ih fun j u hu => ?_)
   have := h (j + 2) u (by simpa [cells2] using hu)
   rw [add_at] at this ⊢
   rw [show off + [r].length * 2 + j = off + (j + 2) by simp; omega]
   exact this
theorem grown_new {w w1 : World} {ob : Obj} {T : TypeId} {g cp m k : Nat} {l : List (Int × ByteArray)} (hown : w1.ownsRow w.heap.size T 2 (.slice (some ⟨g, 0, none⟩) k cp) k ([] ++ cells2 l)) (hk : k = m) (hgr : (w.alloc ob).grownBy w1 (some w.heap.size)) :
  Below w.heap.size w w1 ∧ Fresh w.heap.size w1 [g] ∧ m ≤ cp ∧ LayAt w1 l g 0 := by
 subst hk
 have hc := hown.cells (g := g) rfl
 rw [List.nil_append] at hc
 rcases hown.2 with ⟨e, _⟩ | ⟨g', cap', cur, e, hb, hg, hcap, _⟩
 ·cases e
 ·injection e with e1 e2 e3
  injection e1 with e4
  injection e4 with e5
  subst e5 e3
  refine ⟨((Below.refl w.heap.size w).alloc (Nat.le_refl _) ob).trans ⟨hgr.os, hgr.tape, hgr.output, hgr.size, fun q hq => hgr.block q (by simp; omega) (fun e => by simp at e; omega)⟩, ?_, hcap, at_cells2 hc⟩
  exact Fresh.cons (hi := g + 1) hb (Array.getElem?_eq_some_iff.1 hg).1 (fun o => frozen_of_row w1 _ _ _ _ hg) (Fresh.nil _ _) (by omega)
theorem l2Nest (n : Int) (h0 : 0 ≤ n) (h1 : n ≤ 200) (l : List (Int × ByteArray)) (hlv : lv l = true) (w : World) (a : Option Addr) (cap : Nat) (fs : List Nat) (hs : LaySub w a l fs) (hc : l.length ≤ cap) :
  Calls Tryz.prog 131 #[.int .i64 n, .slice a l.length cap] w (RowsNew w (nestL n l)) := by
 obtain ⟨i0, hi, hz0, hz1, hz2⟩ := info_parts info
 have HI := Lib.hid (And.intro hi (And.intro hz0 (And.intro hz1 hz2)))
 have hll := lv_len hlv
 have hsl : ∃ b off, a = some ⟨b, off, none⟩ ∧ b < w.heap.size ∧ LayAt w l b off := by
  rcases hs with ⟨rfl, _⟩ | ⟨b, off, ha, hn, hf, hr⟩
  ·simp at hll
  ·exact ⟨b, off, ha, hr.lt hn, hr⟩
 obtain ⟨b0, off0, rfl, hb0, hrow0⟩ := hsl
 obtain ⟨X, hX⟩ : ∃ X, nestL n l = X := ⟨_, rfl⟩
 have hXl : X.length = l.length := by rw [← hX, nestL_length]
 have hXg : ∀ k, (h0 : 0 < k) → (hk : k < l.length) → (hk' : k < X.length) → X[k] = (l[k].1 + n, l[k].2) := by
  intro k hk0 hk hk'
  subst hX
  exact nestL_get n hk hk0 _
 have hX1 : X.take 1 ++ l.drop 1 = l := by
  subst hX
  cases l with
  | nil => rfl
  | cons r l => simp [nestL]
 rw [hX]
 have HX := Lib.hid (And.intro hXl (And.intro hXg hX1))
 have HLV := Lib.hid hlv
 have HNEW := Lib.hid (show ∀ ob j u, (cells2 l)[j]? = some u → (w.alloc ob).cell? ((⟨b0, off0, none⟩ : Addr).add j) = some u from fun ob => cells2_at (hrow0.below hb0 ((Below.refl _ _).alloc (Nat.le_refl _) _)))
 have HC2 := Lib.hid (And.intro (cells2_len l) (cells2_one l))
 unfold RowsNew
 rw [hXl]
 obtain ⟨m, hm⟩ : ∃ m, l.length = m := ⟨_, rfl⟩
 have HM := Lib.hid hm
 rw [hm] at hc hll ⊢
 have HL2 := Lib.hid (show (cells2 l).length = m * 2 by rw [cells2_len, hm])
 obtain ⟨hll1, hll2⟩ := hll
 clear hX hXl hXg hX1 hlv hs hm hi hz0 hz1 hz2 hrow0
 go_enter Tryz.func131, Tryz.ntmps131
 go_wp2_with (refine wpList_append_lies _ rfl (.tmp 7) (.tmp 8) 28 rfl w.heap.size 62 i0 _ 2 24 Tryz.underlying28 HI.out.1 HI.out.2.1 HI.out.2.2.1 HI.out.2.2.2 rfl (by omega) (.slice (some ⟨w.heap.size, 0, none⟩) 0 0) 0 [] rfl (World.ownsRow_made w #[] 0 (Nat.le_refl _) (by simp [maxLen]) rfl) ⟨b0, off0, none⟩ m cap (cells2 l) rfl HL2.out (HNEW.out _) HC2.out.2 (by omega) (by unfold maxLen; omega) (by omega) (by simp) _ rfl ?_; intro g cp w1 hown hgr hat hlt)
 obtain ⟨hb1, hf1, hc1, hr1⟩ := grown_new (m := m) hown (by omega) hgr
 have H1 := Lib.hid (And.intro hf1 hb1)
 have HR := Lib.hid hr1
 clear hb1 hf1 hr1 hown hgr hat hlt
 go_loopw [6] (fun i wr => ∃ j : Nat, 1 ≤ j ∧ j ≤ m ∧ i = .int .i64 j ∧ LayAt wr (X.take j ++ l.drop j) g 0 ∧ Only [g] w1 wr) (fun i _ => m - (intOf i).toNat)
 case atStart => exact ⟨1, by omega, by omega, rfl, by rw [HX.out.2.2]; exact HR.out, Only.refl _ _⟩
 case round =>
  obtain ⟨j, hj1, hjm, rfl, hrw, hO⟩ := hrel
  by_cases hlt : j < m
  ·have hjl : j < l.length := by rw [HM.out]; exact hlt
   obtain ⟨⟨n0, t0⟩, hnt⟩ : ∃ r, l[j] = r := ⟨_, rfl⟩
   have hpl := part_len HX.out.1 (Nat.le_of_lt hjl)
   have c0 := (hrw j (by omega)).1
   rw [part_get HX.out.1 hjl (by omega), hnt, Nat.zero_add] at c0
   have hn0 := rv_len (lv_get HLV.out hjl)
   rw [hnt] at hn0
   obtain ⟨hn1, hn2, _⟩ := hn0
   simp only at hn1 hn2
   have hF := hO.fresh H1.out.1
   have z0 := (hF.2 g (by simp)).2.2 (j * 2)
   have hput := nest_put HX.out.1 hjl hrw hnt (by rw [HX.out.2.1 j (by omega) hjl (by rw [HX.out.1]; exact hjl), hnt])
   rw [Nat.zero_add] at hput
   have H := Lib.hid (And.intro hput (hO.setCell (p := ⟨g, j * 2, none⟩) (by simp) (.int .i64 (n0 + n))))
   clear hrw hO hnt hpl hF hput
   go_wp2_with fail
   go_roundw
   case rel => exact ⟨j + 1, by omega, by omega, by go_num, H.out.1, H.out.2⟩
   case measure => simp [intOf]; omega
  ·have H := Lib.hid (And.intro hrw hO)
   clear hrw hO
   obtain rfl : j = m := by omega
   go_wp2_with fail
   go_ret
   obtain ⟨hrw, hO⟩ := H.out
   rw [List.take_of_length_le (by rw [HX.out.1, HM.out]; exact Nat.le_refl _), List.drop_eq_nil_of_le (by rw [HM.out]; exact Nat.le_refl _), List.append_nil] at hrw
   have hne : X ≠ [] := by intro e; have := HX.out.1; rw [e, HM.out] at this; simp at this; omega
   exact ⟨_, cp, [g], rfl, hc1, .inr ⟨g, 0, rfl, hne, rfl, hrw⟩, hO.fresh H1.out.1, H1.out.2.trans (hO.below H1.out.2.size (by simpa using (H1.out.1.2 g (by simp)).1))⟩
end Go.Proofs.YtclifbjnooilmaaGreat.LayN
namespace Go.Proofs.YtclifbjnooilmaaGreat.LayN
open Go.RowKit P1 TextV LayL LayV LayM
end Go.Proofs.YtclifbjnooilmaaGreat.LayN

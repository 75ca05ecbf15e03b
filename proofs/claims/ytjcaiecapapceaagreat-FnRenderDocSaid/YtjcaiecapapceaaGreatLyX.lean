import Derived.StillTailTactics
import Derived.Test.YtjcaiecapapceaaGreatMarkT
import Derived.Deep.RegionHeld3
import Derived.Test.YtjcaiecapapceaaGreatText
import Derived.Deep.RegionLaw
import Derived.Deep.AppendLies
import Derived.ArgAppend
import Derived.Deep.QuietTactic
import Derived.Laws.StructEq
import Derived.BigQuiet
/-
 What the law's own helpers that count, copy and compare layouts come to.
-/
set_option linter.unusedVariables false
set_option linter.unusedSimpArgs false
set_option maxRecDepth 100000
set_option maxHeartbeats 3200000
namespace Go.Proofs.YtjcaiecapapceaaGreat.LayL
open Go.RowKit
theorem ret_bool {a b : Bool} (h : a = b) : Ending.returned (.bool a) = .returned (.bool b) := by rw [h]
def zeros (n : Nat) : Array Value := madeCells #[.int .i64 0, .string ⟨#[]⟩] n
theorem size_zeros (n : Nat) : (zeros n).size = n := size_madeCells _ _
theorem info : (Tryz.prog.info? 67).map (fun i => (i.zero, i.size, i.bytes)) = some (some (.agg #[.int .i64 0, .string ⟨#[]⟩]), 2, 24) := by kernel_rfl
theorem run_mk (m : Nat) (hm : m ≤ 1048576) (w : World) : (Instr.makeSlice 28 (.int .i64 (m : Int)) (.int .i64 (m : Int))).run Tryz.prog w = .ok (.slice (some ⟨w.heap.size, 0, none⟩) m m) (w.alloc (.cells (zeros (m * 2)) 67)) := by
 obtain ⟨i0, hi, hz0, hz1, hz2⟩ := info_parts info
 have := run_make (P := Tryz.prog) w 28 67 i0 _ Tryz.underlying28 hi hz0 .i64 .i64 (m : Int) (m : Int) (by omega) (by omega) (by rw [hz2]; omega) (by omega)
 rw [hz1] at this
 simpa [zeros, Value.cells] using this
def Mid (w : World) (l : List (Int × ByteArray)) (m k : Nat) (wr : World) : Prop := LayAt wr (l.take k) w.heap.size 0 ∧ wr.there w.heap.size 0 (m * 2) ∧ (w.heap.size < wr.heap.size ∧ ∀ o, wr.frozen? ⟨w.heap.size, o, none⟩ = false) ∧ Below w.heap.size w wr
theorem sub_new {w' : World} {l : List (Int × ByteArray)} {b B : Nat} (h : LayAt w' l b 0) (hb : B ≤ b) (hlt : b < w'.heap.size) (hfz : ∀ o, w'.frozen? ⟨b, o, none⟩ = false) : ∃ fs, LaySub w' (some ⟨b, 0, none⟩) l fs ∧ Fresh B w' fs := by
 by_cases hl : l = []
 ·exact ⟨[], .inl ⟨hl, rfl⟩, Fresh.nil _ _⟩
 ·exact ⟨[b], .inr ⟨b, 0, rfl, hl, rfl, h⟩, Fresh.cons (hi := b + 1) hb hlt hfz (Fresh.nil _ _) (by omega)⟩
def sameR (n : Int) (t : ByteArray) (n' : Int) (t' : ByteArray) : Bool := decide ((n, t) = (n', t'))
theorem same_step {l l' : List (Int × ByteArray)} {k : Nat} (h : k < l.length) (h' : k < l'.length) (e : l.take k = l'.take k) (e' : l[k] = l'[k]) : l.take (k + 1) = l'.take (k + 1) := by
 rw [L.take_succ h, L.take_succ h', e, e']
end Go.Proofs.YtjcaiecapapceaaGreat.LayL
namespace Go.Proofs.YtjcaiecapapceaaGreat.LayM
open Go.RowKit P1 MarkT
theorem part_set {l X : List (Int × ByteArray)} (hX : X.length = l.length) {j : Nat} (hj : j < l.length) : (X.take j ++ l.drop j).set j (X[j]'(by omega)) = X.take (j + 1) ++ l.drop (j + 1) := by
 have hj' : j < X.length := by omega
 have e : (X.take j).length = j := by rw [List.length_take]; omega
 rw [List.set_append_right _ _ (by rw [e]; exact Nat.le_refl _), e, Nat.sub_self, List.drop_eq_getElem_cons hj, List.set_cons_zero, L.take_succ hj', List.append_assoc]
 rfl
theorem part_get {l X : List (Int × ByteArray)} (hX : X.length = l.length) {j : Nat} (hj : j < l.length) (h : j < (X.take j ++ l.drop j).length) : (X.take j ++ l.drop j)[j] = l[j] := by
 rw [List.getElem_append_right (by rw [List.length_take]; omega)]
 simp [List.length_take, Nat.min_eq_left (show j ≤ X.length by omega)]
theorem part_len {l X : List (Int × ByteArray)} (hX : X.length = l.length) {j : Nat} (hj : j ≤ l.length) : (X.take j ++ l.drop j).length = l.length := by
 rw [List.length_append, List.length_take, List.length_drop]; omega
end Go.Proofs.YtjcaiecapapceaaGreat.LayM
namespace Go.Proofs.YtjcaiecapapceaaGreat.LayV
open Go.RowKit P1 TextV
theorem rv_no1 {n : Int} {t : ByteArray} (h : n < 0) : rv (n, t) = false := by simp [rv]; omega
theorem rv_no2 {n : Int} {t : ByteArray} (h : 400 < n) : rv (n, t) = false := by simp [rv]; omega
theorem rv_no3 {n : Int} {t : ByteArray} (h : lt t.data.toList = false) : rv (n, t) = false := by simp [rv, h]
theorem rv_yes {n : Int} {t : ByteArray} (h0 : 0 ≤ n) (h1 : n ≤ 400) : rv (n, t) = lt t.data.toList := by simp [rv, h0, h1]
theorem rowValid (n : Int) (t : ByteArray) (ht : t.size ≤ maxLen) (w : World) :
  Calls Tryz.prog 47 #[.agg #[.int .i64 n, .string t]] w fun e w' => e = .returned (.bool (rv (n, t))) ∧ Below w.heap.size w w' := by
 unfold maxLen at ht
 have hsz : t.data.toList.length = t.size := by simp
 have B1 : ∀ ob, Below w.heap.size w (w.alloc ob) := fun ob => (Below.refl _ _).alloc (Nat.le_refl _) _
 by_cases h1 : n < 0
 ·have Hb := Lib.hid (rv_no1 (t := t) h1)
  go_enter Tryz.func47, Tryz.ntmps47
  go_wp2_with fail
  go_ret
  exact ⟨ret_bool Hb.out.symm, B1 _⟩
 ·by_cases h2 : 400 < n
  ·have Hb := Lib.hid (rv_no2 (t := t) h2)
   go_enter Tryz.func47, Tryz.ntmps47
   go_wp2_with fail
   go_ret
   exact ⟨ret_bool Hb.out.symm, B1 _⟩
  ·by_cases h3 : 1999 < t.size
   ·have Hb := Lib.hid (rv_no3 (n := n) (lt_long (l := t.data.toList) (by omega)))
    clear hsz
    go_enter Tryz.func47, Tryz.ntmps47
    go_wp2_with fail
    go_ret
    exact ⟨ret_bool Hb.out.symm, B1 _⟩
   ·have Hb := Lib.hid ((rv_yes (n := n) (t := t) (by omega) (by omega)).trans (lt_of (l := t.data.toList) (by omega)))
    clear hsz B1
    go_enter Tryz.func47, Tryz.ntmps47
    go_wp2_with fail
    go_loop [21] (fun i => ∃ k : Nat, k ≤ t.size ∧ i = .int .i64 k ∧ Hid ((t.data.toList.take k).all lb = true)) (fun i => t.size - (intOf i).toNat)
    case atStart => exact ⟨0, Nat.zero_le _, rfl, Lib.hid rfl⟩
    case round =>
     obtain ⟨k, hk, rfl, Hal⟩ := hrel
     by_cases hlt : k < t.size
     ·by_cases h32 : (t[k].toNat : Int) = 32
      ·have Hc := Lib.hid (show lb t[k] = true by rw [lb_num, h32]; rfl)
       have hb32 : ((t[k].toNat : Int) != 32) = false := by rw [h32]; rfl
       clear h32
       go_wp2_with fail
       go_round
       case rel => exact ⟨k + 1, by omega, by go_num, Lib.hid (by rw [take_all_snoc t k hlt, Hal.out, Hc.out]; rfl)⟩
       case measure => simp [intOf]; omega
      ·have hb32 : ((t[k].toNat : Int) != 32) = true := by rw [bne_iff_ne]; exact h32
       have hlb : lb t[k] = tb t[k] := by
        rw [lb_num, show ((t[k].toNat : Int) == 32) = false by rw [beq_eq_false_iff_ne]; exact h32]; rfl
       have HLB := Lib.hid hlb
       clear h32 hlb
       cases hc : tb t[k] with
       | true =>
         have Hc := Lib.hid hc
         clear hc
         go_wp2_with (go_at_call 94; refine (isTextByte _ _).mono ?_; rw [Hc.out]; rintro e w' ⟨rfl, rfl⟩)
         go_round
         case rel => exact ⟨k + 1, by omega, by go_num, Lib.hid (by rw [take_all_snoc t k hlt, Hal.out, HLB.out, Hc.out]; rfl)⟩
         case measure => simp [intOf]; omega
       | false =>
         have Hc := Lib.hid hc
         clear hc
         go_wp2_with (go_at_call 94; refine (isTextByte _ _).mono ?_; rw [Hc.out]; rintro e w' ⟨rfl, rfl⟩)
         go_ret
         exact ⟨ret_bool (by rw [Hb.out, all_stop t k hlt lb (by rw [HLB.out, Hc.out])]), (Below.refl _ _).alloc (Nat.le_refl _) _⟩
     ·go_wp2_with fail
      go_ret
      exact ⟨ret_bool (by rw [Hb.out, ← Hal.out, List.take_of_length_le (by simp; omega)]), (Below.refl _ _).alloc (Nat.le_refl _) _⟩
theorem implLayoutValid (l : List (Int × ByteArray)) (w : World) (a : Option Addr) (cap : Nat) (fs : List Nat) (hs : LaySub w a l fs) (hc : l.length ≤ cap) (hl : l.length ≤ maxLen) (hft : L.Fits l) :
  Calls Tryz.prog 17 #[.slice a l.length cap] w fun e w' => e = .returned (.bool (lv l)) ∧ Below w.heap.size w w' := by
 rcases hs with ⟨rfl, _⟩ | ⟨b, off, rfl, hne, _, hrow⟩
 ·go_enter Tryz.func17, Tryz.ntmps17
  go_wp2_with fail
  go_ret
  exact ⟨rfl, Below.refl _ _⟩
 ·have hb := hrow.lt hne
  have h0 : 0 < l.length := List.length_pos_iff.2 hne
  obtain ⟨⟨n0, t0⟩, hnt0⟩ : ∃ r, l[0] = r := ⟨_, rfl⟩
  have z0 := (hrow 0 h0).1
  rw [hnt0, Nat.zero_mul, Nat.add_zero] at z0
  obtain ⟨m, hm⟩ : ∃ m, l.length = m := ⟨_, rfl⟩
  have HM := Lib.hid hm
  have HR := Lib.hid hrow
  have HF := Lib.hid hft
  have hm0 : 0 < m := by omega
  rw [hm] at hc hl ⊢
  unfold maxLen at hl
  by_cases h2 : 200 < m
  ·have HFin := Lib.hid (lv_long (l := l) (by omega))
   clear hm hrow hft hnt0 hne h0
   go_enter Tryz.func17, Tryz.ntmps17
   go_wp2_with fail
   go_ret
   exact ⟨ret_bool HFin.out.symm, Below.refl _ _⟩
  ·by_cases h3 : n0 = 0
   ·subst h3
    have HFin := Lib.hid (lv_of (l := l) h0 (by omega) (by rw [hnt0]))
    clear hm hrow hft hnt0 hne h0
    go_enter Tryz.func17, Tryz.ntmps17
    go_wp2_with fail
    go_loopw [22] (fun i wr => ∃ k : Nat, k ≤ m ∧ i = .int .i64 k ∧ Hid ((l.take k).all rv = true) ∧ Below w.heap.size w wr) (fun i _ => m - (intOf i).toNat)
    case atStart => exact ⟨0, Nat.zero_le _, rfl, Lib.hid rfl, Below.refl _ _⟩
    case round =>
     obtain ⟨k, hk, rfl, Hal, hbw⟩ := hrel
     clear z0
     by_cases hkm : k < m
     ·have hkl : k < l.length := by rw [HM.out]; exact hkm
      obtain ⟨⟨n, t⟩, hnt⟩ : ∃ r, l[k] = r := ⟨_, rfl⟩
      obtain ⟨c0, c1⟩ := (HR.out.below hb hbw) k hkl
      rw [hnt] at c0 c1
      have ht : t.size ≤ maxLen := by have := HF.out.get hkl; rw [hnt] at this; exact this
      have HN := Lib.hid hnt
      have hbr : b < wr.heap.size := Nat.lt_of_lt_of_le hb hbw.size
      have HRV := Lib.hid (rowValid n t ht)
      have HB1 := Lib.hid (show ∀ ob, Below w.heap.size w (wr.alloc ob) from fun ob => hbw.alloc hbw.size _)
      clear hnt ht
      cases hv : rv (n, t) with
      | true =>
        have HV := Lib.hid hv
        clear hv
        go_wp2_with (go_at_call 47; refine (HRV.out _).mono ?_; rw [HV.out]; rintro e w' ⟨rfl, hb1⟩)
        go_roundw
        case rel => exact ⟨k + 1, by omega, by go_num, Lib.hid (by rw [all_take hkl, Hal.out, HN.out, HV.out]; rfl), (HB1.out _).trans (hb1.mono (HB1.out _).size)⟩
        case measure => simp [intOf]; omega
      | false =>
        have HV := Lib.hid hv
        clear hv
        go_wp2_with (go_at_call 47; refine (HRV.out _).mono ?_; rw [HV.out]; rintro e w' ⟨rfl, hb1⟩)
        go_ret
        exact ⟨ret_bool (by rw [lv_bad hkl (by rw [HN.out]; exact HV.out)]), (HB1.out _).trans (hb1.mono (HB1.out _).size)⟩
     ·go_wp2_with fail
      go_ret
      exact ⟨ret_bool (by rw [HFin.out, ← Hal.out, List.take_of_length_le (by have := HM.out; omega)]), hbw⟩
   ·have HFin := Lib.hid (lv_head (l := l) h0 (by rw [hnt0]; exact h3))
    have hnb : (n0 != 0) = true := by rw [bne_iff_ne]; exact h3
    clear hm hrow hft hnt0 hne h0
    go_enter Tryz.func17, Tryz.ntmps17
    go_wp2_with fail
    go_ret
    exact ⟨ret_bool HFin.out.symm, Below.refl _ _⟩
end Go.Proofs.YtjcaiecapapceaaGreat.LayV
namespace Go.Proofs.YtjcaiecapapceaaGreat.LayV
open Go.RowKit P1 TextV
end Go.Proofs.YtjcaiecapapceaaGreat.LayV
namespace Go.Proofs.YtjcaiecapapceaaGreat.LayN
open Go.RowKit P1 TextV LayL LayV LayM
def RowsNew (w : World) (l : List (Int × ByteArray)) (e : Ending) (w' : World) : Prop := ∃ (a : Option Addr) (cap : Nat) (fs : List Nat), e = .returned (.slice a l.length cap) ∧ l.length ≤ cap ∧ LaySub w' a l fs ∧ Fresh w.heap.size w' fs ∧ Below w.heap.size w w'
def LayRes (w : World) (r : List (Int × ByteArray) × Bool) (e : Ending) (w' : World) : Prop := ∃ (a : Option Addr) (cap : Nat) (fs : List Nat), e = .returned (.tuple #[.slice a r.1.length cap, .bool r.2]) ∧ r.1.length ≤ cap ∧ LaySub w' a r.1 fs ∧ Fresh w.heap.size w' fs ∧ Below w.heap.size w w'
theorem clone (s : ByteArray) (w : World) (h : s.size ≤ 281474976710656) : Calls Tryz.prog 146 #[.string s] w fun e w' => e = .returned (.string s) ∧ Below w.heap.size w w' := by
 go_enter Tryz.func146, Tryz.ntmps146
 go_wp2_with fail
 refine (Tryz.stringslite_Clone s _ h).mono ?_
 rintro e w' ⟨rfl, hb⟩
 go_wp2_with fail
 go_ret
 exact ⟨rfl, hb⟩
def Box2 (w : World) (b : Nat) (n : Int) (t : ByteArray) : Prop := w.cell? ⟨b, 0, none⟩ = some (.int .i64 n) ∧ w.cell? ⟨b, 1, none⟩ = some (.string t)
theorem Box2.ext {w w' : World} {b : Nat} {n : Int} {t : ByteArray} (h : Box2 w b n t) (hb : b < w.heap.size) (k : Below w.heap.size w w') : Box2 w' b n t :=
 ⟨(k.cell (p := ⟨b, 0, none⟩) hb).trans h.1, (k.cell (p := ⟨b, 1, none⟩) hb).trans h.2⟩
theorem Box2.new (w : World) (n : Int) (t : ByteArray) (T : TypeId) : Box2 (w.alloc (.cells #[.int .i64 n, .string t] T)) w.heap.size n t := by
 refine ⟨?_, ?_⟩ <;> (rw [World.cell?_alloc_new]; rfl)
theorem mid_below {wr w1 : World} {ob : Obj} (hb : Below (wr.alloc ob).drew.heap.size (wr.alloc ob).drew w1) : Below wr.heap.size wr w1 :=
 ((Below.refl wr.heap.size wr).alloc (Nat.le_refl _) ob).drew.trans (hb.mono (by simp [World.drew]))
theorem mid_there {wr w1 : World} {ob : Obj} {m k b : Nat} (hth : wr.there b 0 (m * 2)) (hlt : b < wr.heap.size) (hb : Below (wr.alloc ob).drew.heap.size (wr.alloc ob).drew w1) (hk : k < m) : w1.there b (k * 2) 2 :=
 there_part (there_below hth hlt (mid_below hb)) (by omega)
theorem there_two {w : World} {b o : Nat} (h : w.there b o 2) : ∃ u0 u1, w.cell? ⟨b, o, none⟩ = some u0 ∧ w.cell? ⟨b, o + 1, none⟩ = some u1 ∧ w.frozen? ⟨b, o, none⟩ = false ∧ w.frozen? ⟨b, o + 1, none⟩ = false := by
 obtain ⟨a0, z0⟩ := h 0 (by omega)
 obtain ⟨a1, z1⟩ := h 1 (by omega)
 obtain ⟨u0, e0⟩ := Option.isSome_iff_exists.1 a0
 obtain ⟨u1, e1⟩ := Option.isSome_iff_exists.1 a1
 exact ⟨u0, u1, e0, e1, z0, z1⟩
theorem mid_put {w wr w1 : World} {l : List (Int × ByteArray)} {m k : Nat} {n : Int} {t : ByteArray} (h : Mid w l m k wr) (hb2 : Below wr.heap.size wr w1) (hkl : k < l.length) (hkm : k < m) (e : l[k] = (n, t)) :
  Mid w l m (k + 1) ((w1.setCell ⟨w.heap.size, k * 2, none⟩ (.int .i64 n)).setCell ⟨w.heap.size, k * 2 + 1, none⟩ (.string t)) := by
 show Mid w l m (k + 1) (w1.setCells w.heap.size (k * 2) [.int .i64 n, .string t])
 obtain ⟨hrw, hth, ⟨hlt, hfz⟩, hbw⟩ := h
 have hth2 := there_below hth hlt hb2
 refine ⟨?_, World.there_setCells hth2 _ _ _, ⟨by rw [size_setCells]; exact Nat.lt_of_lt_of_le hlt hb2.size, fun o' => by rw [World.frozen?_setCells]; exact (hb2.frozen (p := ⟨w.heap.size, o', none⟩) hlt).trans (hfz o')⟩, Below.setCells (Nat.le_refl _) _ _ _ (hbw.trans (hb2.mono hbw.size))⟩
 rw [L.take_succ hkl, e]
 exact LayAt.put (hrw.below hlt hb2) (by rw [List.length_take]; omega) hth2 (by omega)
theorem copyRowsOwn (l : List (Int × ByteArray)) (w : World) (a : Option Addr) (cap : Nat) (fs : List Nat) (hs : LaySub w a l fs) (hc : l.length ≤ cap) (hsz : l.length ≤ 1048576) (hft : ∀ k, (h : k < l.length) → l[k].2.size ≤ 4194304) :
  Calls Tryz.prog 174 #[.slice a l.length cap] w fun e w' => e = .returned (.slice (some ⟨w.heap.size, 0, none⟩) l.length l.length) ∧ Mid w l l.length l.length w' := by
 have HR := Lib.hid (show ∀ k, (h : k < l.length) → ∃ b off, a = some ⟨b, off, none⟩ ∧ b < w.heap.size ∧ LayAt w l b off from fun k h => by
  rcases hs with ⟨rfl, _⟩ | ⟨b, off, ha, hn, _, hr⟩
  ·simp at h
  ·exact ⟨b, off, ha, hr.lt hn, hr⟩)
 obtain ⟨m, hm⟩ : ∃ m, l.length = m := ⟨_, rfl⟩
 have HM := Lib.hid hm
 have HF := Lib.hid hft
 rw [hm] at hc hsz
 rw [hm]
 clear hm hs hft
 have hmk := run_mk m hsz
 go_enter Tryz.func174, Tryz.ntmps174
 go_wp2
 clear hmk
 go_loopw [11] (fun i wr => ∃ k : Nat, k ≤ m ∧ i = .int .i64 k ∧ Mid w l m k wr) (fun i _ => m - (intOf i).toNat)
 case atStart =>
  exact ⟨0, by omega, rfl, LayAt.nil _ _ _, there_new w _ _ _ (by rw [size_zeros]; exact Nat.le_refl _), ⟨by simp, fun _ => World.frozen?_alloc_new _ _ _ _⟩, (Below.refl _ _).alloc (Nat.le_refl _) _⟩
 case round =>
  obtain ⟨k, hk, rfl, hrw, hth, ⟨hlt, hfz⟩, hbw⟩ := hrel
  by_cases hkm : k < m
  ·have hkl : k < l.length := by rw [HM.out]; exact hkm
   obtain ⟨b, off, rfl, hb, hrow⟩ := HR.out k hkl
   obtain ⟨c0, c1⟩ := (hrow.below hb hbw) k hkl
   have ht := HF.out k hkl
   obtain ⟨⟨n, t⟩, hnt⟩ : ∃ r, l[k] = r := ⟨_, rfl⟩
   rw [hnt] at c0 c1 ht
   have HN := Lib.hid hnt
   have hbr : b < wr.heap.size := Nat.lt_of_lt_of_le hb hbw.size
   have H := Lib.hid (And.intro hrw (And.intro hth (And.intro hlt (And.intro hfz hbw))))
   have HCL := Lib.hid (fun W => clone t W (by simp only at ht; omega))
   have i0 : (0 : Int) ≤ (k : Int) := Int.natCast_nonneg _
   have i1 : (k : Int) < (m : Int) := by omega
   clear hrow hnt hrw hth hlt hfz hbw ht
   go_wp2_with fail
   clear c0 c1
   go_region_law (first
    | (go_simp; go_at_call 146; refine (HCL.out _).mono ?_; rintro e w1 ⟨rfl, hb2⟩; obtain ⟨u0, u1, e0, e1, z0, z1⟩ := there_two (mid_there H.out.2.1 H.out.2.2.1 hb2 hkm); have HB2 := Lib.hid (mid_below hb2); have HX := Box2.ext (w := (wr.alloc (.cells #[.int .i64 n, .string t] 67)).drew) (b := wr.heap.size) (n := n) (t := t) (Box2.new _ _ _ _) (by simp [World.drew]) hb2; obtain ⟨q0, q1⟩ := HX; clear hb2))
   all_goals
    go_wp2_with fail
    go_roundw
    case rel =>
     obtain ⟨hrw, hth, hlt, hfz, hbw⟩ := H.out
     exact ⟨k + 1, by omega, by go_num, mid_put ⟨hrw, hth, ⟨hlt, hfz⟩, hbw⟩ HB2.out hkl hkm HN.out⟩
    case measure => simp [intOf]; omega
  ·have H := Lib.hid (And.intro hrw (And.intro hth (And.intro hlt (And.intro hfz hbw))))
   clear hrw hth hlt hfz hbw
   obtain rfl : k = m := by omega
   go_wp2_with fail
   go_ret
   obtain ⟨hrw, hth, hlt, hfz, hbw⟩ := H.out
   exact ⟨rfl, hrw, hth, ⟨hlt, hfz⟩, hbw⟩
theorem copyRows (l : List (Int × ByteArray)) (w : World) (a : Option Addr) (cap : Nat) (fs : List Nat) (hs : LaySub w a l fs) (hc : l.length ≤ cap) (hsz : l.length ≤ 1048576) (hft : ∀ k, (h : k < l.length) → l[k].2.size ≤ 4194304) :
  Calls Tryz.prog 174 #[.slice a l.length cap] w (RowsNew w l) := by
 refine (copyRowsOwn l w a cap fs hs hc hsz hft).mono ?_
 rintro e w' ⟨rfl, hrw, hth, ⟨hlt, hfz⟩, hbw⟩
 rw [List.take_of_length_le (Nat.le_refl _)] at hrw
 obtain ⟨fs', h1, h2⟩ := sub_new hrw (Nat.le_refl _) hlt hfz
 exact ⟨_, l.length, fs', rfl, Nat.le_refl _, h1, h2, hbw⟩
theorem lv_small {l : List (Int × ByteArray)} (h : lv l = true) : ∀ k, (h : k < l.length) → l[k].2.size ≤ 4194304 := fun k hk => by
 have := (rv_len (lv_get h hk)).2.2; omega
theorem nest_put {wr : World} {l X : List (Int × ByteArray)} {b off j : Nat} {n n0 : Int} {t0 : ByteArray} (hX : X.length = l.length) (hj : j < l.length) (h : LayAt wr (X.take j ++ l.drop j) b off) (e : l[j] = (n0, t0)) (e' : X[j]'(by omega) = (n0 + n, t0)) :
  LayAt (wr.setCell ⟨b, off + j * 2, none⟩ (.int .i64 (n0 + n))) (X.take (j + 1) ++ l.drop (j + 1)) b off := by
 have hl := part_len hX (Nat.le_of_lt hj)
 have hg : (X.take j ++ l.drop j)[j]'(by omega) = (n0, t0) := by rw [part_get hX hj, e]
 have := h.setN (by omega) hg (n0 + n)
 rw [← e', part_set hX hj] at this
 exact this
theorem nestRows (n : Int) (h0 : 0 ≤ n) (h1 : n ≤ 200) (l : List (Int × ByteArray)) (hlv : lv l = true) (w : World) (a : Option Addr) (cap : Nat) (fs : List Nat) (hs : LaySub w a l fs) (hc : l.length ≤ cap) :
  Calls Tryz.prog 137 #[.int .i64 n, .slice a l.length cap] w (RowsNew w (nestL n l)) := by
 have hll := lv_len hlv
 have hcp := copyRows l w a cap fs hs hc (by omega) (lv_small hlv)
 obtain ⟨X, hX⟩ : ∃ X, nestL n l = X := ⟨_, rfl⟩
 have hXl : X.length = l.length := by rw [← hX, nestL_length]
 have hXg : ∀ k, (h0 : 0 < k) → (hk : k < l.length) → (hk' : k < X.length) → X[k] = (l[k].1 + n, l[k].2) := by
  intro k hk0 hk hk'
  subst hX
  exact nestL_get n hk hk0 _
 have hX1 : X.take 1 ++ l.drop 1 = l := by
  subst hX
  cases l with
  | nil => rfl
  | cons r l => simp [nestL]
 rw [hX]
 have HX := Lib.hid (And.intro hXl (And.intro hXg hX1))
 have HCP := Lib.hid hcp
 have HLV := Lib.hid hlv
 unfold RowsNew
 rw [hXl]
 obtain ⟨m, hm⟩ : ∃ m, l.length = m := ⟨_, rfl⟩
 have HM := Lib.hid hm
 rw [hm] at hc hll ⊢
 clear hcp hX hXl hXg hX1 hlv hs
 rw [hm] at HCP
 clear hm
 go_enter Tryz.func137, Tryz.ntmps137
 go_wp2_with fail
 refine HCP.out.mono ?_
 rintro e1 w1 ⟨a1, cap1, f1, he, hc1, hs1, hf1, hb1⟩
 rw [HM.out] at he hc1
 subst he
 have hsl : ∃ b off, a1 = some ⟨b, off, none⟩ ∧ f1 = [b] ∧ LayAt w1 l b off := by
  rcases hs1 with ⟨rfl, _⟩ | ⟨b, off, ha, _, hf, hr⟩
  ·have := HM.out; simp at this; omega
  ·exact ⟨b, off, ha, hf, hr⟩
 obtain ⟨b, off, rfl, rfl, hrow⟩ := hsl
 have H1 := Lib.hid (And.intro hf1 hb1)
 have HR := Lib.hid hrow
 clear hs1 hf1 hb1 hrow
 go_wp2_with fail
 go_loopw [6] (fun i wr => ∃ j : Nat, 1 ≤ j ∧ j ≤ m ∧ i = .int .i64 j ∧ LayAt wr (X.take j ++ l.drop j) b off ∧ Only [b] w1 wr) (fun i _ => m - (intOf i).toNat)
 case atStart => exact ⟨1, by omega, by omega, rfl, by rw [HX.out.2.2]; exact HR.out, Only.refl _ _⟩
 case round =>
  obtain ⟨j, hj1, hjm, rfl, hrw, hO⟩ := hrel
  by_cases hlt : j < m
  ·have hjl : j < l.length := by rw [HM.out]; exact hlt
   obtain ⟨⟨n0, t0⟩, hnt⟩ : ∃ r, l[j] = r := ⟨_, rfl⟩
   have hpl := part_len HX.out.1 (Nat.le_of_lt hjl)
   have c0 := (hrw j (by omega)).1
   rw [part_get HX.out.1 hjl (by omega), hnt] at c0
   have hn0 := rv_len (lv_get HLV.out hjl)
   rw [hnt] at hn0
   obtain ⟨hn1, hn2, _⟩ := hn0
   simp only at hn1 hn2
   have hF := hO.fresh H1.out.1
   have z0 := (hF.2 b (by simp)).2.2 (off + j * 2)
   have hput := nest_put HX.out.1 hjl hrw hnt (by rw [HX.out.2.1 j (by omega) hjl (by rw [HX.out.1]; exact hjl), hnt])
   have H := Lib.hid (And.intro hput (hO.setCell (p := ⟨b, off + j * 2, none⟩) (by simp) (.int .i64 (n0 + n))))
   clear hrw hO hnt hpl hF hput
   go_wp2_with fail
   go_roundw
   case rel => exact ⟨j + 1, by omega, by omega, by go_num, H.out.1, H.out.2⟩
   case measure => simp [intOf]; omega
  ·have H := Lib.hid (And.intro hrw hO)
   clear hrw hO
   obtain rfl : j = m := by omega
   go_wp2_with fail
   go_ret
   obtain ⟨hrw, hO⟩ := H.out
   rw [List.take_of_length_le (by rw [HX.out.1, HM.out]; exact Nat.le_refl _), List.drop_eq_nil_of_le (by rw [HM.out]; exact Nat.le_refl _), List.append_nil] at hrw
   have hne : X ≠ [] := by intro e; have := HX.out.1; rw [e, HM.out] at this; simp at this; omega
   exact ⟨_, cap1, [b], rfl, hc1, .inr ⟨b, off, rfl, hne, rfl, hrw⟩, hO.fresh H1.out.1, H1.out.2.trans (hO.below H1.out.2.size (by simpa using (H1.out.1.2 b (by simp)).1))⟩
end Go.Proofs.YtjcaiecapapceaaGreat.LayN
namespace Go.Proofs.YtjcaiecapapceaaGreat.LayN
open Go.RowKit P1 TextV LayL LayV LayM
theorem LayRes.none' {w w' : World} {a : Option Addr} {cap : Nat} (hb : Below w.heap.size w w') : LayRes w ([], false) (.returned (.tuple #[.slice a 0 cap, .bool false])) w' :=
 ⟨a, cap, [], rfl, by simp, .inl ⟨rfl, rfl⟩, Fresh.nil _ _, hb⟩
def cells2 : List (Int × ByteArray) → List Value
 | [] => []
 | r :: l => .int .i64 r.1 :: .string r.2 :: cells2 l
theorem cells2_len (l : List (Int × ByteArray)) : (cells2 l).length = l.length * 2 := by
 induction l with
 | nil => rfl
 | cons r l ih => simp [cells2, ih]; omega
theorem cells2_one (l : List (Int × ByteArray)) : ∀ u ∈ cells2 l, u.oneCell' = true := by
 induction l with
 | nil => simp [cells2]
 | cons r l ih => simp [cells2, Value.oneCell']; exact ih
theorem cells2_at {w : World} {l : List (Int × ByteArray)} : ∀ {b off : Nat}, LayAt w l b off → ∀ j u, (cells2 l)[j]? = some u → w.cell? ((⟨b, off, none⟩ : Addr).add j) = some u := by
 induction l with
 | nil => intro b off _ j u hu; simp [cells2] at hu
 | cons r l ih =>
   intro b off h j u hu
   rw [add_at]
   match j, hu with
   | 0, hu => simp [cells2] at hu; rw [← hu]; have := (h 0 (by simp)).1; simpa using this
   | 1, hu => simp [cells2] at hu; rw [← hu]; have := (h 0 (by simp)).2; simpa using this
   | j + 2, hu =>
     simp only [cells2, List.getElem?_cons_succ] at hu
     have hd := h.drop 1
     rw [show (r :: l).drop 1 = l from rfl] at hd
     have := ih hd j u hu
     rw [add_at] at this
     rw [show off + (j + 2) = off + 1 * 2 + j by omega]
     exact this
theorem at_cells2 {w : World} {l : List (Int × ByteArray)} : ∀ {b off : Nat}, (∀ j u, (cells2 l)[j]? = some u → w.cell? ((⟨b, off, none⟩ : Addr).add j) = some u) → LayAt w l b off := by
 induction l with
 | nil => intro b off _; exact LayAt.nil _ _ _
 | cons r l ih =>
   intro b off h
   have h0 := h 0 _ rfl
   have h1 := h 1 _ rfl
   rw [add_at] at h0 h1
   have hr : LayAt w [r] b off := fun i hi => by
    obtain rfl : i = 0 := by simpa using hi
    exact ⟨by simpa using h0, by simpa using h1⟩
   refine hr.app (k := l) (ih fun j u hu => ?_)
   have := h (j + 2) u (by simpa [cells2] using hu)
   rw [add_at] at this ⊢
   rw [show off + [r].length * 2 + j = off + (j + 2) by simp; omega]
   exact this
end Go.Proofs.YtjcaiecapapceaaGreat.LayN
namespace Go.Proofs.YtjcaiecapapceaaGreat.LayN
open Go.RowKit P1 TextV LayL LayV LayM
end Go.Proofs.YtjcaiecapapceaaGreat.LayN
namespace Go.Proofs.YtjcaiecapapceaaGreat.LayC
open Go.RowKit P1 TextV LayL LayV LayM LayN
structure Own (w : World) (l : List (Int × ByteArray)) (g cap lo : Nat) : Prop where
 row : LayAt w l g 0
 th : w.there g 0 (cap * 2)
 le : l.length ≤ cap
 lo_le : lo ≤ g
 lt : g < w.heap.size
 fz : ∀ o, w.frozen? ⟨g, o, none⟩ = false
theorem Own.below {w w' : World} {l : List (Int × ByteArray)} {g cap lo : Nat} (h : Own w l g cap lo) (k : Below w.heap.size w w') : Own w' l g cap lo :=
 ⟨h.row.below h.lt k, there_below h.th h.lt k, h.le, h.lo_le, Nat.lt_of_lt_of_le h.lt k.size, fun o => (k.frozen (p := ⟨g, o, none⟩) h.lt).trans (h.fz o)⟩
theorem Own.drew {w : World} {l : List (Int × ByteArray)} {g cap lo : Nat} (h : Own w l g cap lo) : Own w.drew l g cap lo := h.below (Below.refl _ _).drew
theorem Own.only {gs : List Nat} {w w' : World} {l : List (Int × ByteArray)} {g cap lo : Nat} (h : Own w l g cap lo) (k : Only gs w w') (hg : g ∉ gs) : Own w' l g cap lo :=
 ⟨h.row.congr fun o _ _ => k.cell h.lt hg o, fun j hj => ⟨by rw [k.cell h.lt hg]; exact (h.th j hj).1, by rw [k.frozen h.lt]; exact (h.th j hj).2⟩, h.le, h.lo_le, Nat.lt_of_lt_of_le h.lt k.size, fun o => (k.frozen h.lt o).trans (h.fz o)⟩
theorem Own.setT {w : World} {l : List (Int × ByteArray)} {g cap lo k : Nat} {n : Int} {t : ByteArray} (h : Own w l g cap lo) (hk : k < l.length) (e : l[k] = (n, t)) (u : ByteArray) : Own (w.setCell ⟨g, k * 2 + 1, none⟩ (.string u)) (l.set k (n, u)) g cap lo := by
 have hr := h.row.setT hk e u
 rw [Nat.zero_add] at hr
 refine ⟨hr, fun j hj => ?_, by simpa using h.le, h.lo_le, by simpa using h.lt, fun o => by rw [World.frozen?_setCell]; exact h.fz o⟩
 have := World.there_setCells h.th g (k * 2 + 1) [.string u]
 exact this j hj
theorem cells2_app (l k : List (Int × ByteArray)) : cells2 (l ++ k) = cells2 l ++ cells2 k := by
 induction l with
 | nil => rfl
 | cons r l ih => simp [cells2, ih]
theorem append_rows {w : World} {l k : List (Int × ByteArray)} {g cap lo : Nat} (h : Own w l g cap lo) (hlo : lo ≤ w.heap.size) (ty : TypeId) (ad : Addr) (c : Nat) (hnews : ∀ j u, (cells2 k)[j]? = some u → w.cell? (ad.add j) = some u) (hm : l.length + k.length ≤ 1099511627776) :
  ∃ g' cap' w', (Builtin.append_ #[28, 28] ty #[.slice (some ⟨g, 0, none⟩) l.length cap, .slice (some ad) k.length c]).run Tryz.prog w = .ok (.slice (some ⟨g', 0, none⟩) (l.length + k.length) cap') w' ∧
   l.length + k.length ≤ cap' ∧ LayAt w' (l ++ k) g' 0 ∧ lo ≤ g' ∧ g' < w'.heap.size ∧ (∀ o, w'.frozen? ⟨g', o, none⟩ = false) ∧ Below lo w w' := by
 obtain ⟨i0, hi, hz0, hz1, hz2⟩ := info_parts info
 by_cases hroom : l.length + k.length ≤ cap
 ·have hl2 : (cells2 k).length = k.length * i0.size := by rw [cells2_len, hz1]
  have hth : w.there g (l.length * 2) (k.length * 2) := there_part h.th (by omega)
  have hr := run_append_room_cells (P := Tryz.prog) w 28 ty 67 i0 Tryz.underlying28 hi g 0 l.length cap ad k.length c (cells2 k) hl2 hnews (cells2_one k) hroom
   (fun j hj => by rw [hz1, Nat.zero_add]; rw [cells2_len] at hj; exact (hth j hj).1) (fun j hj => h.fz _)
  rw [hz1, Nat.zero_add] at hr
  refine ⟨g, cap, _, hr, hroom, at_cells2 ?_, h.lo_le, by rw [size_setCells]; exact h.lt, fun o => by rw [World.frozen?_setCells]; exact h.fz o, Below.setCells h.lo_le _ _ _ (Below.refl _ _)⟩
  intro j u hu
  rw [add_at, Nat.zero_add]
  rw [cells2_app] at hu
  by_cases hj : j < (cells2 l).length
  ·rw [List.getElem?_append_left hj] at hu
   rw [cells2_len] at hj
   rw [World.cell?_setCells_out g _ _ w ⟨g, j, none⟩ (fun _ _ => Or.inl (by simp; omega))]
   have := cells2_at h.row j u hu
   rw [add_at, Nat.zero_add] at this
   exact this
  ·rw [List.getElem?_append_right (by omega)] at hu
   have hs := World.rangeAt_setCells_same w g (l.length * 2) (cells2 k) (by rw [cells2_len]; exact hth)
   have := hs (j - (cells2 l).length) u hu
   rw [cells2_len] at this hj
   rw [show l.length * 2 + (j - l.length * 2) = j by omega] at this
   exact this
 ·have hr := run_append_grow (P := Tryz.prog) w 28 ty 67 i0 _ Tryz.underlying28 hi hz0 ⟨g, 0, none⟩ l.length cap (cells2 l) (by rw [cells2_len, hz1]) (cells2_at h.row) ad k.length c (cells2 k) (by rw [cells2_len, hz1]) hnews (by omega) (by omega) (growslice_fits (by omega) (by rw [hz2]; omega))
  refine ⟨_, _, _, hr, ?_, at_cells2 ?_, hlo, Nat.lt_of_lt_of_eq (Nat.lt_succ_self w.drew.heap.size) (by simp), fun o => World.frozen?_alloc_new _ _ _ _, ((Below.refl lo w).drew.alloc (show lo ≤ w.drew.heap.size from hlo) _)⟩
  ·exact grownCap_ge _ _ _ _
  ·intro j u hu
   rw [add_at, Nat.zero_add]
   rw [cells2_app] at hu
   have hd : w.drew.heap.size = w.heap.size := rfl
   rw [← hd, World.cell?_alloc_new]
   have hj := (List.getElem?_eq_some_iff.1 hu).1
   rw [List.length_append] at hj
   rw [Array.getElem?_append_left (by simpa using hj)]
   simpa using hu
theorem wpList_append_rows {ops : Array Oper} {rest : List Oper} {op : Oper} {ac : Act} {Q : Exit → Act → World → Prop} {w : World} (hgd : op.guard = none) (s x : Operand)
  (ho : op.op = .call { callee := .builtin .append, args := #[s, x], argTypes := #[28, 28] })
  {l k : List (Int × ByteArray)} {g cap lo n m : Nat} (hn : l.length = n) (hm : k.length = m) (h : Own w l g cap lo) (hlo : lo ≤ w.heap.size) (ad : Addr) (c : Nat) (hs : ac.eval s = .slice (some ⟨g, 0, none⟩) n cap) (hx : ac.eval x = .slice (some ad) m c)
  (hnews : ∀ j u, (cells2 k)[j]? = some u → w.cell? (ad.add j) = some u) (hsz : n + m ≤ 1099511627776)
  (hK : ∀ g' cap' w', n + m ≤ cap' → LayAt w' (l ++ k) g' 0 → lo ≤ g' → g' < w'.heap.size → (∀ o, w'.frozen? ⟨g', o, none⟩ = false) → Below lo w w' → wpList Tryz.prog ops Q rest (ac.put op.dst (.slice (some ⟨g', 0, none⟩) (n + m) cap')) w') : wpList Tryz.prog ops Q (op :: rest) ac w := by
 subst hn hm
 refine wpList_plain hgd fun K hK' => ?_
 obtain ⟨g', cap', w', hr, h1, h2, h3, h4, h5, h6⟩ := append_rows h hlo op.type ad c hnews hsz
 unfold Oper.wp execOp
 simp only [ho, resolve, invoke, builtin, Sem.run_bind, Sem.run_pure, Result.andThen_ok, List.map_toArray, List.map_cons, List.map_nil, hs, hx, hr]
 exact hK' _ _ (hK g' cap' w' h1 h2 h3 h4 h5 h6)
theorem own_mid {w w1 : World} {l : List (Int × ByteArray)} {m : Nat} (hm : l.length = m) (h : Mid w l m m w1) : Own w1 l w.heap.size m w.heap.size := by
 subst hm
 obtain ⟨hrw, hth, ⟨hlt, hfz⟩, hbw⟩ := h
 rw [List.take_of_length_le (Nat.le_refl _)] at hrw
 exact ⟨hrw, hth, Nat.le_refl _, Nat.le_refl _, hlt, hfz⟩
theorem cat_eq {la lb : List (Int × ByteArray)} {k j : Nat} {n1 n2 : Int} {t1 t2 : ByteArray} (ha : la.length = k + 1) (hb : lb.length = j + 1) (e1 : la[k]'(by omega) = (n1, t1)) (e2 : lb[0]'(by omega) = (n2, t2)) :
  catL la lb = la.set k (n1, t1 ++ t2) ++ lb.drop 1 := by
 rw [catL_set (by omega) (by omega)]
 have : la.length - 1 = k := by omega
 simp only [this, e1, e2]
theorem behind_two {w w2 : World} {la lb : List (Int × ByteArray)} {k j cb : Nat} {n1 n2 : Int} {t1 t2 : ByteArray} {ca gb lb0 : Nat} (h1 : Own w2 la w.heap.size ca w.heap.size) (h2 : Own w2 lb gb cb lb0) (hlt : w.heap.size ≤ lb0) (he : ∃ (h : k < la.length) (h' : 0 < lb.length), la[k] = (n1, t1) ∧ lb[0] = (n2, t2)) (hk : la.length = k + 1 ∧ lb.length = j + 1) (u : ByteArray) (hne : w.heap.size ≠ gb) :
  Own (w2.setCell ⟨w.heap.size, k * 2 + 1, none⟩ (.string u)).drew (la.set k (n1, u)) w.heap.size ca w.heap.size ∧ Own (w2.setCell ⟨w.heap.size, k * 2 + 1, none⟩ (.string u)).drew lb gb cb lb0 := by
 obtain ⟨hkl, hjl, e1, e2⟩ := he
 exact ⟨(h1.setT hkl e1 u).drew, (h2.only (gs := [w.heap.size]) ((Only.refl _ _).setCell (by simp) _) (by simp; exact fun e => hne e.symm)).drew⟩
theorem tail_cells {W : World} {lb : List (Int × ByteArray)} {gb cb lo j : Nat} {ad : Addr} (h : Own W lb gb cb lo) (hj : lb.length = j + 1) (hadd : 0 < j → ad = ⟨gb, 0 + 2, none⟩) : ∀ i u, (cells2 (lb.drop 1))[i]? = some u → W.cell? (ad.add i) = some u := by
 intro i u hu
 by_cases h0 : 0 < j
 ·rw [hadd h0]
  have := h.row.drop 1
  exact cells2_at this i u hu
 ·have : lb.drop 1 = [] := List.drop_eq_nil_of_le (by omega)
  rw [this] at hu
  simp [cells2] at hu
theorem cat_out {w w' : World} {la lb X : List (Int × ByteArray)} {g cap m : Nat} (hX : catL la lb = X) (hm : X.length = m) (h1 : m ≤ cap) (h2 : LayAt w' X g 0) (h3 : w.heap.size ≤ g) (h4 : g < w'.heap.size) (h5 : ∀ o, w'.frozen? ⟨g, o, none⟩ = false) (h6 : Below w.heap.size w w') :
  RowsNew w (catL la lb) (.returned (.slice (some ⟨g, 0, none⟩) m cap)) w' := by
 subst hX hm
 obtain ⟨fs, q1, q2⟩ := sub_new h2 h3 h4 h5
 exact ⟨_, cap, fs, rfl, h1, q1, q2, h6⟩
theorem catRows (la lb : List (Int × ByteArray)) (hva : lv la = true) (hvb : lv lb = true) (w : World) (aa : Option Addr) (ca : Nat) (fa : List Nat) (hsa : LaySub w aa la fa) (hca : la.length ≤ ca) (ab : Option Addr) (cb : Nat) (fb : List Nat) (hsb : LaySub w ab lb fb) (hcb : lb.length ≤ cb) :
  Calls Tryz.prog 138 #[.slice aa la.length ca, .slice ab lb.length cb] w (RowsNew w (catL la lb)) := by
 have hla := lv_len hva
 have hlb := lv_len hvb
 have HCA := Lib.hid (copyRowsOwn la w aa ca fa hsa hca (by omega) (lv_small hva))
 have HCB := Lib.hid (fun (W : World) (h : Below w.heap.size w W) => copyRowsOwn lb W ab cb fb (hsb.below hsb.lt h) hcb (by omega) (lv_small hvb))
 obtain ⟨k, hk⟩ : ∃ k, la.length = k + 1 := ⟨la.length - 1, by omega⟩
 obtain ⟨j, hj⟩ : ∃ j, lb.length = j + 1 := ⟨lb.length - 1, by omega⟩
 obtain ⟨⟨n1, t1⟩, e1⟩ : ∃ r, la[k]'(by omega) = r := ⟨_, rfl⟩
 obtain ⟨⟨n2, t2⟩, e2⟩ : ∃ r, lb[0]'(by omega) = r := ⟨_, rfl⟩
 have ht1 := lv_small hva k (by omega)
 have ht2 := lv_small hvb 0 (by omega)
 rw [e1] at ht1
 rw [e2] at ht2
 simp only at ht1 ht2
 have HCE := Lib.hid (cat_eq hk hj e1 e2)
 have HK := Lib.hid (And.intro hk hj)
 have HE := Lib.hid (show ∃ (h : k < la.length) (h' : 0 < lb.length), la[k] = (n1, t1) ∧ lb[0] = (n2, t2) from ⟨by omega, by omega, e1, e2⟩)
 rw [hk] at hla hca ⊢
 rw [hj] at hlb hcb ⊢
 have hsum : ¬ (9223372036854775807 < t1.size + t2.size) := by omega
 rw [hk] at HCA
 rw [hj] at HCB
 clear hva hvb hsa hsb e1 e2 hk hj
 go_enter Tryz.func138, Tryz.ntmps138
 go_wp2_with fail
 refine HCA.out.mono ?_
 rintro e1 w1 ⟨rfl, hm1⟩
 have hb1 := hm1.2.2.2
 have hO1 := own_mid HK.out.1 hm1
 have hlt1 := hO1.lt
 have HB1 := Lib.hid hb1
 clear hb1 hm1
 go_wp2_with fail
 refine (HCB.out w1 HB1.out).mono ?_
 rintro e1 w2 ⟨rfl, hm2⟩
 have hb2 := hm2.2.2.2
 have hO2 := own_mid HK.out.2 hm2
 have hO1 := hO1.below hb2
 obtain ⟨hkl, hjl, e1, e2⟩ := HE.out
 have c1 := (hO1.row k hkl).2
 have d1 := (hO2.row 0 hjl).2
 rw [e1, Nat.zero_add] at c1
 rw [e2] at d1
 simp only [Nat.zero_mul, Nat.zero_add] at d1 c1
 have z1 := hO1.fz (k * 2 + 1)
 have HO := Lib.hid (And.intro hO1 (And.intro hO2 (HB1.out.trans (hb2.mono HB1.out.size))))
 have HLE := Lib.hid (And.intro HB1.out.size hb2.size)
 have HLT1 := Lib.hid (show w.heap.size < w1.heap.size from hlt1)
 have i0 : (0 : Int) ≤ (k : Int) := Int.natCast_nonneg _
 have i1 : (k : Int) < (k : Int) + 1 := by omega
 have i2 : (0 : Int) < (j : Int) + 1 := by omega
 clear hm2 hb2 hO1 hO2 e1 e2 hkl hjl
 go_wp2_with fail
 go_region
 have hW := behind_two HO.out.1 HO.out.2.1 HLE.out.1 HE.out HK.out (t1 ++ t2) (by have := HLT1.out; omega)
 obtain ⟨W3, hW3⟩ : ∃ W, (w2.setCell ⟨w.heap.size, k * 2 + 1, none⟩ (.string (t1 ++ t2))).drew = W := ⟨_, rfl⟩
 rw [hW3] at hW ⊢
 have HW := Lib.hid hW
 have HB3 := Lib.hid (show Below w.heap.size w W3 by rw [← hW3]; exact (HO.out.2.2.setCell (by simp) _).drew)
 have HNEW := Lib.hid (fun (ad : Addr) => tail_cells (ad := ad) hW.2 HK.out.2)
 have HLT := Lib.hid (show (lb.drop 1).length = j by rw [List.length_drop, HK.out.2]; omega)
 have HLS := Lib.hid (show (la.set k (n1, t1 ++ t2)).length = k + 1 by rw [List.length_set, HK.out.1])
 clear hW hW3 c1 d1 z1
 rcases Nat.eq_zero_or_pos j with rfl | hj0
 ·go_wp2_with fail
  go_ret
  have hd : lb.drop 1 = [] := List.eq_nil_of_length_eq_zero HLT.out
  have hX := HCE.out
  rw [hd, List.append_nil] at hX
  have hO := HW.out.1
  exact cat_out hX HLS.out (by omega) hO.row (Nat.le_refl _) hO.lt hO.fz HB3.out
 ·have hjn : ¬ j = 0 := by omega
  go_wp2_with (refine wpList_append_rows rfl (.tmp 25) (.tmp 27) rfl HLS.out HLT.out HW.out.1 HB3.out.size ⟨w1.heap.size, 2, none⟩ j rfl rfl (HNEW.out _ (fun _ => rfl)) (by omega) ?_; intro g' cap' w' h1 h2 h3 h4 h5 h6)
  have HF := Lib.hid (And.intro h1 (And.intro h2 (And.intro h3 (And.intro h4 (And.intro h5 h6)))))
  clear h1 h2 h3 h4 h5 h6
  go_wp2_with fail
  go_ret
  obtain ⟨h1, h2, h3, h4, h5, h6⟩ := HF.out
  exact cat_out HCE.out (by rw [List.length_append, HLS.out, HLT.out]) h1 h2 h3 h4 h5 (HB3.out.trans h6)
end Go.Proofs.YtjcaiecapapceaaGreat.LayC
namespace Go.Proofs.YtjcaiecapapceaaGreat.LayC
open Go.RowKit P1 TextV LayL LayV LayM LayN
end Go.Proofs.YtjcaiecapapceaaGreat.LayC
namespace Go.Proofs.YtjcaiecapapceaaGreat.LaySm
open Go.RowKit LayL
theorem rows_struct : Tryz.prog.underlying 67 = some (.struct (Tryz.prog.fieldsOf 67)) := by kernel_rfl
theorem rows_held : Tryz.prog.stoodInHeld 67 = false := by kernel_rfl
theorem sameR_eq (n n' : Int) (t t' : ByteArray) : sameR n t n' t' = (n == n' && t.toList == t'.toList) := by
 by_cases h1 : n = n'
 ·by_cases h2 : t = t'
  ·subst h1 h2; simp [sameR]
  ·have := bytes_ne h2
   simp [sameR, h1, h2, this]
 ·simp [sameR, h1]
theorem row_eq (n n' : Int) (t t' : ByteArray) (w : World) : (Op.equalIn 10000 67 (.agg #[.int .i64 n, .string t]) (.agg #[.int .i64 n', .string t'])).run Tryz.prog w = .ok (sameR n t n' t') w := by
 rw [show (10000 : Nat) = 9999 + 1 from rfl, run_equalIn_agg w 9999 _ _ _ rows_struct rows_held]
 simp only [Program.fieldsOf, Tryz.underlying67]
 go_simp
 rw [sameR_eq]
 by_cases h1 : n = n' <;> simp [h1]
 by_cases h2 : t.toList = t'.toList <;> simp [h2]
theorem below_drewN {B : Nat} {a w : World} (h : Below B a w) (n : Nat) : Below B a (w.drewN n) := by
 induction n with
 | zero => exact h
 | succ n ih => exact ih.drew
theorem slicesEqual (l l' : List (Int × ByteArray)) (w : World) (a : Option Addr) (cap : Nat) (fs : List Nat) (hs : LaySub w a l fs) (a' : Option Addr) (cap' : Nat) (fs' : List Nat) (hs' : LaySub w a' l' fs') (hc : l.length ≤ cap) (hc' : l'.length ≤ cap') (hl : l.length ≤ maxLen) (hl' : l'.length ≤ maxLen) :
  Calls Tryz.prog 44 #[.slice a l.length cap, .slice a' l'.length cap'] w fun e w' => e = .returned (.bool (decide (l = l'))) ∧ Below w.heap.size w w' := by
 by_cases hlen : l.length = l'.length
 ·have HR := Lib.hid (show ∀ k, (h : k < l.length) → ∃ b off, a = some ⟨b, off, none⟩ ∧ b < w.heap.size ∧ LayAt w l b off from fun k h => by
   rcases hs with ⟨rfl, _⟩ | ⟨b, off, ha, hn, _, hr⟩
   ·simp at h
   ·exact ⟨b, off, ha, hr.lt hn, hr⟩)
  have HR' := Lib.hid (show ∀ k, (h : k < l'.length) → ∃ b off, a' = some ⟨b, off, none⟩ ∧ b < w.heap.size ∧ LayAt w l' b off from fun k h => by
   rcases hs' with ⟨rfl, _⟩ | ⟨b, off, ha, hn, _, hr⟩
   ·simp at h
   ·exact ⟨b, off, ha, hr.lt hn, hr⟩)
  obtain ⟨m, hm⟩ : ∃ m, l.length = m := ⟨_, rfl⟩
  have hm' : l'.length = m := by rw [← hlen, hm]
  have HM := Lib.hid (And.intro hm hm')
  rw [hm] at hc hl ⊢
  rw [hm'] at hc' hl' ⊢
  have hmm : ((m : Int) != (m : Int)) = false := by simp
  clear hm hm' hs hs' hlen hl'
  unfold maxLen at hl
  go_enter Tryz.func44, Tryz.ntmps44
  go_wp2_with fail
  go_loopw [13] (fun i wr => ∃ k : Nat, k ≤ m ∧ i = .int .i64 k ∧ Hid (l.take k = l'.take k) ∧ Below w.heap.size w wr) (fun i _ => m - (intOf i).toNat)
  case atStart => exact ⟨0, by omega, rfl, Lib.hid rfl, Below.refl _ _⟩
  case round =>
   obtain ⟨k, hk, rfl, HE, hbw⟩ := hrel
   by_cases hkm : k < m
   ·have hkl : k < l.length := by rw [HM.out.1]; exact hkm
    have hkl' : k < l'.length := by rw [HM.out.2]; exact hkm
    obtain ⟨b, off, rfl, hb, hrow⟩ := HR.out k hkl
    obtain ⟨b', off', rfl, hb', hrow'⟩ := HR'.out k hkl'
    obtain ⟨c0, c1⟩ := (hrow.below hb hbw) k hkl
    obtain ⟨d0, d1⟩ := (hrow'.below hb' hbw) k hkl'
    obtain ⟨⟨n, t⟩, hnt⟩ : ∃ r, l[k] = r := ⟨_, rfl⟩
    obtain ⟨⟨n', t'⟩, hnt'⟩ : ∃ r, l'[k] = r := ⟨_, rfl⟩
    rw [hnt] at c0 c1
    rw [hnt'] at d0 d1
    have HN := Lib.hid (And.intro hnt hnt')
    have i0 : (0 : Int) ≤ (k : Int) := Int.natCast_nonneg _
    have i1 : (k : Int) < (m : Int) := by omega
    clear hrow hrow' hnt hnt'
    cases hsd : sameR n t n' t' with
    | true =>
      have hq := fun W => row_eq n n' t t' W
      rw [hsd] at hq
      have HSD := Lib.hid hsd
      clear hsd
      go_wp2_with fail
      go_quiet (skip)
      go_wp2_with fail
      go_roundw
      case rel =>
       have e1 := HSD.out
       simp only [sameR, decide_eq_true_eq] at e1
       exact ⟨k + 1, by omega, by go_num, Lib.hid (same_step hkl hkl' HE.out (by rw [HN.out.1, HN.out.2, e1])), below_drewN hbw _⟩
      case measure => simp [intOf]; omega
    | false =>
      have hq := fun W => row_eq n n' t t' W
      rw [hsd] at hq
      have HSD := Lib.hid hsd
      clear hsd
      go_wp2_with fail
      go_quiet (skip)
      go_wp2_with fail
      go_ret
      refine ⟨ret_bool ?_, below_drewN hbw _⟩
      have e1 := HSD.out
      simp only [sameR, decide_eq_false_iff_not] at e1
      symm
      rw [decide_eq_false_iff_not]
      intro e
      subst e
      exact e1 (by rw [← HN.out.1, ← HN.out.2])
   ·go_wp2_with fail
    go_ret
    refine ⟨ret_bool ?_, hbw⟩
    have e1 := HE.out
    rw [List.take_of_length_le (by have := HM.out.1; omega), List.take_of_length_le (by have := HM.out.2; omega)] at e1
    subst e1
    simp
 ·have hne : l ≠ l' := fun e => hlen (by rw [e])
  have HN := Lib.hid (show decide (l = l') = false by simp [hne])
  obtain ⟨m, hm⟩ : ∃ m, l.length = m := ⟨_, rfl⟩
  obtain ⟨m', hm'⟩ : ∃ m', l'.length = m' := ⟨_, rfl⟩
  rw [hm, hm'] at hlen
  rw [hm] at hl ⊢
  rw [hm'] at hl' ⊢
  unfold maxLen at hl hl'
  have hb : ((m : Int) != (m' : Int)) = true := by simp; omega
  clear hm hm' hne hs hs' hc hc'
  go_enter Tryz.func44, Tryz.ntmps44
  go_wp2_with fail
  go_ret
  exact ⟨ret_bool HN.out.symm, Below.refl _ _⟩
set_option maxHeartbeats 400000 in
theorem implLayoutSame (l l' : List (Int × ByteArray)) (w : World) (a : Option Addr) (cap : Nat) (fs : List Nat) (hs : LaySub w a l fs) (a' : Option Addr) (cap' : Nat) (fs' : List Nat) (hs' : LaySub w a' l' fs') (hc : l.length ≤ cap) (hc' : l'.length ≤ cap') (hl : l.length ≤ maxLen) (hl' : l'.length ≤ maxLen) :
  Calls Tryz.prog 14 #[.slice a l.length cap, .slice a' l'.length cap'] w fun e w' => e = .returned (.bool (decide (l = l'))) ∧ Below w.heap.size w w' := by
 have H := Lib.hid (slicesEqual l l' w a cap fs hs a' cap' fs' hs' hc hc' hl hl')
 clear hs hs' hc hc' hl hl'
 go_enter Tryz.func14, Tryz.ntmps14
 go_wp2_with fail
 refine H.out.mono ?_
 rintro e w1 ⟨rfl, hb1⟩
 have HB := Lib.hid hb1
 clear hb1
 go_wp2_with fail
 go_ret
 exact ⟨rfl, HB.out⟩
end Go.Proofs.YtjcaiecapapceaaGreat.LaySm

import Derived.Test.YtcealfjkcbaelaaTkP
import Derived.Test.YtcealfjkcbaelaaChecked
import Derived.Outline
import Derived.StillTailTactics
/-
  What the law's own helpers that count, copy and compare lists of tokens come to.
-/
set_option linter.unusedVariables false
set_option linter.unusedSimpArgs false
namespace Go.Proofs.Ytcealfjkcbaelaa.TkL
open Go.RowKit

theorem ret_int {k : IntKind} {a b : Int} (h : a = b) : Ending.returned (.int k a) = .returned (.int k b) := by rw [h]
theorem ret_bool {a b : Bool} (h : a = b) : Ending.returned (.bool a) = .returned (.bool b) := by rw [h]

set_option maxHeartbeats 400000 in
theorem szToken (n nn : Int) (t : ByteArray) (w : World) (left : Int) (ht : t.size ≤ maxLen) (h0 : 0 ≤ left) (h1 : left ≤ 1048576) :
    Calls Try.prog 102 #[.agg #[.int .i64 n, .int .i64 nn, .string t], .int .i64 left] w fun e w' => e = .returned (.int .i64 (leftR t.size left)) ∧ Below w.heap.size w w' := by
  unfold maxLen at ht
  by_cases h2 : left - (t.size : Int) < 0
  · go_enter Try.func102, Try.ntmps102
    go_wp2
    go_ret
    exact ⟨ret_int (by rw [leftR_no (by omega)]), (Below.refl _ _).alloc (Nat.le_refl _) _⟩
  · go_enter Try.func102, Try.ntmps102
    go_wp2
    go_ret
    exact ⟨ret_int (by rw [leftR_yes (by omega)]), (Below.refl _ _).alloc (Nat.le_refl _) _⟩

set_option maxHeartbeats 800000 in
theorem szTokenS (l : List (Int × Int × ByteArray)) (w : World) (a : Option Addr) (cap : Nat) (fs : List Nat) (left : Int) (hs : TkSub w a l fs) (hc : l.length ≤ cap) (hl : l.length ≤ maxLen) (hft : TL.Fits l) (h0 : 0 ≤ left) (h1 : left ≤ 1048576) :
    Calls Try.prog 55 #[.slice a l.length cap, .int .i64 left] w fun e w' => e = .returned (.int .i64 (leftR (TL.size l) left)) ∧ Below w.heap.size w w' := by
  have HR := Lib.hid (show ∀ k, (h : k < l.length) → ∃ b off, a = some ⟨b, off, none⟩ ∧ b < w.heap.size ∧ TkAt w l b off from fun k h => by
    rcases hs with ⟨rfl, _⟩ | ⟨b, off, ha, hn, _, hr⟩
    · simp at h
    · exact ⟨b, off, ha, hr.lt hn, hr⟩)
  obtain ⟨m, hm⟩ : ∃ m, l.length = m := ⟨_, rfl⟩
  have HM := Lib.hid hm
  have HF := Lib.hid hft
  rw [hm] at hc hl ⊢
  clear hm hft hs
  unfold maxLen at hl
  by_cases h2 : left - (m : Int) < 0
  · go_enter Try.func55, Try.ntmps55
    go_wp2
    go_ret
    exact ⟨ret_int (by have := HM.out; rw [leftR_no (by unfold TL.size; omega)]), Below.refl _ _⟩
  · go_enter Try.func55, Try.ntmps55
    go_wp2
    go_loopw [5, 1] (fun i l' wr => ∃ (k : Nat) (c : Int), Hid (c = left - m - TL.tsz (l.take k)) ∧ k ≤ m ∧ i = .int .i64 k ∧ l' = .int .i64 c ∧ 0 ≤ c ∧ c ≤ left ∧ Below w.heap.size w wr) (fun i _ _ => m - (intOf i).toNat)
    case atStart => exact ⟨0, left - m, Lib.hid (by simp [TL.tsz]), by omega, rfl, rfl, by omega, by omega, Below.refl _ _⟩
    case round =>
      obtain ⟨k, c, HE, hk, rfl, rfl, hc0, hc1, hbw⟩ := hrel
      by_cases hkm : k < m
      · have hkl : k < l.length := by rw [HM.out]; exact hkm
        obtain ⟨b, off, rfl, hb, hrow⟩ := HR.out k hkl
        obtain ⟨c0, c1, c2⟩ := (hrow.below hb hbw) k hkl
        obtain ⟨⟨n, nn, t⟩, hnt⟩ : ∃ r, l[k] = r := ⟨_, rfl⟩
        rw [hnt] at c0 c1 c2
        have ht : t.size ≤ maxLen := by have := HF.out.get hkl; rw [hnt] at this; exact this
        have hz : TL.tsz (l.take (k + 1)) = TL.tsz (l.take k) + t.size := by rw [TL.tsz_take hkl, hnt]
        have hzl := TL.tsz_take_le l (k + 1)
        have hbr : b < wr.heap.size := Nat.lt_of_lt_of_le hb hbw.size
        have HD := Lib.hid (fun W => szToken n nn t W c ht hc0 (by omega))
        by_cases hcs : c < (t.size : Int)
        · have HS := Lib.hid (leftR_no hcs)
          have HFin := Lib.hid (show left < (TL.size l : Int) by have := HE.out; have := HM.out; unfold TL.size; omega)
          clear hrow hnt hz hzl ht hcs
          go_wp2_with (go_at_call 102; refine (HD.out _).mono ?_; rw [HS.out]; rintro e w' ⟨rfl, hb1⟩)
          go_ret
          exact ⟨ret_int (by rw [leftR_no HFin.out]), hbw.trans (hb1.mono hbw.size)⟩
        · have HS := Lib.hid (leftR_yes (Int.not_lt.1 hcs))
          obtain ⟨z, hzz⟩ : ∃ z : Int, c - (t.size : Int) = z := ⟨_, rfl⟩
          have hz0 : 0 ≤ z := by omega
          have hz1 : z ≤ c := by omega
          have HZ := Lib.hid hz
          have HZZ := Lib.hid hzz
          clear hrow hnt hz hzl ht hcs hzz
          go_wp2_with (go_at_call 102; refine (HD.out _).mono ?_; rw [HS.out, HZZ.out]; rintro e w' ⟨rfl, hb1⟩)
          go_roundw
          case rel =>
            exact ⟨k + 1, z, Lib.hid (by have := HE.out; have := HZ.out; have := HZZ.out; omega), by omega, by go_num, rfl, hz0, by omega, hbw.trans (hb1.mono hbw.size)⟩
          case measure => simp [intOf]; omega
      · have HFin := Lib.hid (show c = left - (TL.size l : Int) by have := HE.out; rw [List.take_of_length_le (by have := HM.out; omega)] at this; have := HM.out; unfold TL.size; omega)
        go_wp2
        go_ret
        exact ⟨ret_int (by have := HFin.out; rw [leftR_yes (by omega)]; omega), hbw⟩

/-- the cells of n lines at their zero -/
def zeros (n : Nat) : Array Value := madeCells #[.int .i64 0, .int .i64 0, .string ⟨#[]⟩] n
theorem size_zeros (n : Nat) : (zeros n).size = n := size_madeCells _ _

theorem info : (Try.prog.info? 55).map (fun i => (i.zero, i.size, i.bytes)) = some (some (.agg #[.int .i64 0, .int .i64 0, .string ⟨#[]⟩]), 3, 32) := by kernel_rfl

theorem run_mk (m : Nat) (hm : m ≤ 1048576) (w : World) : (Instr.makeSlice 28 (.int .i64 (m : Int)) (.int .i64 (m : Int))).run Try.prog w = .ok (.slice (some ⟨w.heap.size, 0, none⟩) m m) (w.alloc (.cells (zeros (m * 3)) 55)) := by
  obtain ⟨i0, hi, hz0, hz1, hz2⟩ := info_parts info
  have := run_make (P := Try.prog) w 28 55 i0 _ Try.underlying28 hi hz0 .i64 .i64 (m : Int) (m : Int) (by omega) (by omega) (by rw [hz2]; omega) (by omega)
  rw [hz1] at this
  simpa [zeros, Value.cells] using this

theorem bcell {W w1 : World} (hb : Below W.heap.size W w1) : (∀ b o, b < W.heap.size → w1.cell? ⟨b, o, none⟩ = W.cell? ⟨b, o, none⟩) ∧ (∀ b o, b < W.heap.size → w1.frozen? ⟨b, o, none⟩ = W.frozen? ⟨b, o, none⟩) :=
  ⟨fun b o h => hb.cell (p := ⟨b, o, none⟩) h, fun b o h => hb.frozen (p := ⟨b, o, none⟩) h⟩

theorem size3 : (Try.prog.info? 55).map (·.size) = some 3 := by kernel_rfl
theorem row_one (n nn : Int) (t : ByteArray) : (#[Value.int .i64 n, .int .i64 nn, .string t]).all (·.oneCell') = true := by simp [Value.oneCell']

theorem store_row {ops : Array Oper} {rest : List Oper} {op : Oper} {a : Act} {w : World} {Q : Exit → Act → World → Prop} (hgd : op.guard = none) (x y : Operand) (ho : op.op = .store 55 x y)
    (b of : Nat) (n nn : Int) (t : ByteArray) (hx : a.eval x = .pointer (some ⟨b, of, none⟩)) (hy : a.eval y = .agg #[.int .i64 n, .int .i64 nn, .string t]) (ht : w.there b of 3)
    (h : wpList Try.prog ops Q rest (a.put op.dst undef) (w.setCells b of [.int .i64 n, .int .i64 nn, .string t])) : wpList Try.prog ops Q (op :: rest) a w :=
  wpList_store_mid hgd 55 x y ho b of #[.int .i64 n, .int .i64 nn, .string t] hx hy ht size3 (row_one _ _ _) h

set_option maxHeartbeats 800000 in
theorem toToken (n nn : Int) (t : ByteArray) (w : World) :
    Calls Try.prog 103 #[.agg #[.int .i64 n, .int .i64 nn, .string t]] w fun e w' => e = .returned (.agg #[.int .i64 n, .int .i64 nn, .string t]) ∧ Below w.heap.size w w' := by
  go_enter Try.func103, Try.ntmps103
  go_wp2
  refine bodyPost_ret (v := .agg #[.int .i64 n, .int .i64 nn, .string t]) (by simp [results, Try.results103, go_sem]) rfl ⟨rfl, ?_⟩
  exact (((Below.refl _ _).alloc (Nat.le_refl _) _).alloc (by simp) _).alloc (by simp; omega) _

/-- what copying a layout comes to -/
def RowsOut (w : World) (l : List (Int × Int × ByteArray)) (e : Ending) (w' : World) : Prop := ∃ (a : Option Addr) (fs : List Nat), e = .returned (.slice a l.length l.length) ∧ TkSub w' a l fs ∧ Fresh w.heap.size w' fs ∧ Below w.heap.size w w'

/-- what holds at the head of a round: the first lines lie in the new row -/
def Mid (w : World) (l : List (Int × Int × ByteArray)) (m k : Nat) (wr : World) : Prop := TkAt wr (l.take k) w.heap.size 0 ∧ wr.there w.heap.size 0 (m * 3) ∧ (w.heap.size < wr.heap.size ∧ ∀ o, wr.frozen? ⟨w.heap.size, o, none⟩ = false) ∧ Below w.heap.size w wr

theorem sub_new {w' : World} {l : List (Int × Int × ByteArray)} {b B : Nat} (h : TkAt w' l b 0) (hb : B ≤ b) (hlt : b < w'.heap.size) (hfz : ∀ o, w'.frozen? ⟨b, o, none⟩ = false) : ∃ fs, TkSub w' (some ⟨b, 0, none⟩) l fs ∧ Fresh B w' fs := by
  by_cases hl : l = []
  · exact ⟨[], .inl ⟨hl, rfl⟩, Fresh.nil _ _⟩
  · exact ⟨[b], .inr ⟨b, 0, rfl, hl, rfl, h⟩, Fresh.cons (hi := b + 1) hb hlt hfz (Fresh.nil _ _) (by omega)⟩

set_option maxRecDepth 100000 in
set_option maxHeartbeats 800000 in
theorem toTokenS (l : List (Int × Int × ByteArray)) (w : World) (a : Option Addr) (cap : Nat) (fs : List Nat) (hs : TkSub w a l fs) (hc : l.length ≤ cap) (hsz : l.length ≤ 1048576) :
    Calls Try.prog 56 #[.slice a l.length cap] w (RowsOut w l) := by
  have HR := Lib.hid (show ∀ k, (h : k < l.length) → ∃ b off, a = some ⟨b, off, none⟩ ∧ b < w.heap.size ∧ TkAt w l b off from fun k h => by
    rcases hs with ⟨rfl, _⟩ | ⟨b, off, ha, hn, _, hr⟩
    · simp at h
    · exact ⟨b, off, ha, hr.lt hn, hr⟩)
  obtain ⟨m, hm⟩ : ∃ m, l.length = m := ⟨_, rfl⟩
  have HM := Lib.hid hm
  rw [hm] at hc hsz ⊢
  clear hm hs
  have hmk := run_mk m hsz
  go_enter Try.func56, Try.ntmps56
  go_wp2
  clear hmk
  go_loopw [4] (fun i wr => ∃ k : Nat, k ≤ m ∧ i = .int .i64 k ∧ Mid w l m k wr) (fun i _ => m - (intOf i).toNat)
  case atStart =>
    exact ⟨0, by omega, rfl, TkAt.nil _ _ _, there_new w _ _ _ (by rw [size_zeros]; exact Nat.le_refl _), ⟨by simp, fun _ => World.frozen?_alloc_new _ _ _ _⟩, (Below.refl _ _).alloc (Nat.le_refl _) _⟩
  case round =>
    obtain ⟨k, hk, rfl, hrw, hth, ⟨hlt, hfz⟩, hbw⟩ := hrel
    by_cases hkm : k < m
    · have hkl : k < l.length := by rw [HM.out]; exact hkm
      obtain ⟨b, off, rfl, hb, hrow⟩ := HR.out k hkl
      obtain ⟨c0, c1, c2⟩ := (hrow.below hb hbw) k hkl
      obtain ⟨⟨n, nn, t⟩, hnt⟩ : ∃ r, l[k] = r := ⟨_, rfl⟩
      rw [hnt] at c0 c1 c2
      have HN := Lib.hid hnt
      have H := Lib.hid (And.intro hrw (And.intro hth (And.intro hlt (And.intro hfz hbw))))
      clear hrow hnt hrw hth hlt hfz hbw
      go_wp2_with fail
      refine (toToken n nn t _).mono ?_
      rintro e w1 ⟨rfl, hb2⟩
      obtain ⟨hrw, hth, hlt, hfz, hbw⟩ := H.out
      have hth1 := there_below hth hlt hb2
      have H2 := Lib.hid hb2
      have HT := Lib.hid (there_part (o := k * 3) (m := 3) hth1 (by omega))
      clear hb2 hrw hth hlt hfz hbw hth1 c0 c1 c2
      go_wp2_with (refine store_row rfl (.tmp 21) (.tmp 20) rfl w.heap.size (k * 3) n nn t rfl rfl HT.out ?_)
      go_roundw
      case rel =>
        obtain ⟨hrw, hth, hlt, hfz, hbw⟩ := H.out
        have hb2 := H2.out
        have hth2 := there_below hth hlt hb2
        refine ⟨k + 1, by omega, by go_num, ?_, World.there_setCells hth2 _ _ _, ⟨by rw [size_setCells]; exact Nat.lt_of_lt_of_le hlt hb2.size, fun o' => by rw [World.frozen?_setCells]; exact (hb2.frozen (p := ⟨w.heap.size, o', none⟩) hlt).trans (hfz o')⟩, Below.setCells (Nat.le_refl _) _ _ _ (hbw.trans (hb2.mono hbw.size))⟩
        rw [TL.take_succ hkl, HN.out]
        exact TkAt.put (hrw.below hlt hb2) (by rw [List.length_take]; omega) hth2 (by omega)
      case measure => simp [intOf]; omega
    · have H := Lib.hid (And.intro hrw (And.intro hlt (And.intro hfz hbw)))
      clear hrw hth hlt hfz hbw
      go_wp2_with fail
      go_ret
      obtain ⟨hrw, hlt, hfz, hbw⟩ := H.out
      rw [List.take_of_length_le (by have := HM.out; omega)] at hrw
      obtain ⟨fs', h1, h2⟩ := sub_new hrw (Nat.le_refl _) hlt hfz
      have hm := HM.out
      subst hm
      exact ⟨_, fs', rfl, h1, h2, hbw⟩

/-- two tokens are equal -/
def sameR (n nn : Int) (t : ByteArray) (n' nn' : Int) (t' : ByteArray) : Bool := decide ((n, nn, t) = (n', nn', t'))
theorem sameR_no1 {n n' : Int} (h : n ≠ n') (nn nn' : Int) (t t' : ByteArray) : sameR n nn t n' nn' t' = false := by simp [sameR, h]
theorem sameR_no2 {nn nn' : Int} (h : nn ≠ nn') (n n' : Int) (t t' : ByteArray) : sameR n nn t n' nn' t' = false := by simp [sameR, h]
theorem sameR_no3 {t t' : ByteArray} (h : t ≠ t') (n n' nn nn' : Int) : sameR n nn t n' nn' t' = false := by simp [sameR, h]
theorem sameR_yes (n nn : Int) (t : ByteArray) : sameR n nn t n nn t = true := by simp [sameR]

set_option maxHeartbeats 400000 in
theorem eqToken (n nn n' nn' : Int) (t t' : ByteArray) (w : World) :
    Calls Try.prog 98 #[.agg #[.int .i64 n, .int .i64 nn, .string t], .agg #[.int .i64 n', .int .i64 nn', .string t']] w fun e w' => e = .returned (.bool (sameR n nn t n' nn' t')) ∧ Below w.heap.size w w' := by
  have B2 : ∀ (o1 o2 : Obj), Below w.heap.size w ((w.alloc o1).alloc o2) := fun o1 o2 => ((Below.refl _ _).alloc (Nat.le_refl _) _).alloc (by simp) _
  by_cases h1 : n = n'
  · subst h1
    by_cases h2 : nn = nn'
    · subst h2
      by_cases h3 : t = t'
      · subst h3
        go_enter Try.func98, Try.ntmps98
        go_wp2_with fail
        go_ret
        exact ⟨ret_bool (by rw [sameR_yes]), B2 _ _⟩
      · have h4 := bytes_ne h3
        go_enter Try.func98, Try.ntmps98
        go_wp2_with fail
        go_ret
        exact ⟨ret_bool (by rw [sameR_no3 h3]), B2 _ _⟩
    · go_enter Try.func98, Try.ntmps98
      go_wp2_with fail
      go_ret
      exact ⟨ret_bool (by rw [sameR_no2 h2]), B2 _ _⟩
  · go_enter Try.func98, Try.ntmps98
    go_wp2_with fail
    go_ret
    exact ⟨ret_bool (by rw [sameR_no1 h1]), B2 _ _⟩

theorem same_step {l l' : List (Int × Int × ByteArray)} {k : Nat} (h : k < l.length) (h' : k < l'.length) (e : l.take k = l'.take k) (e' : l[k] = l'[k]) : l.take (k + 1) = l'.take (k + 1) := by
  rw [TL.take_succ h, TL.take_succ h', e, e']

set_option maxHeartbeats 800000 in
theorem eqTokenS_len (l l' : List (Int × Int × ByteArray)) (w : World) (a a' : Option Addr) (cap cap' : Nat) (hl : l.length ≤ maxLen) (hl' : l'.length ≤ maxLen) (h : l.length ≠ l'.length) :
    Calls Try.prog 50 #[.slice a l.length cap, .slice a' l'.length cap'] w fun e w' => e = .returned (.bool (decide (l = l'))) ∧ Below w.heap.size w w' := by
  have hne : l ≠ l' := fun e => h (by rw [e])
  have HN := Lib.hid (show decide (l = l') = false by simp [hne])
  obtain ⟨m, hm⟩ : ∃ m, l.length = m := ⟨_, rfl⟩
  obtain ⟨m', hm'⟩ : ∃ m', l'.length = m' := ⟨_, rfl⟩
  rw [hm, hm'] at h
  rw [hm] at hl ⊢
  rw [hm'] at hl' ⊢
  unfold maxLen at hl hl'
  have hb : ((m : Int) != (m' : Int)) = true := by simp; omega
  clear hm hm' hne
  go_enter Try.func50, Try.ntmps50
  go_wp2_with fail
  go_ret
  exact ⟨ret_bool HN.out.symm, Below.refl _ _⟩

set_option maxRecDepth 100000 in
set_option maxHeartbeats 1600000 in
theorem eqTokenS (l l' : List (Int × Int × ByteArray)) (w : World) (a a' : Option Addr) (cap cap' : Nat) (fs fs' : List Nat) (hs : TkSub w a l fs) (hs' : TkSub w a' l' fs') (hc : l.length ≤ cap) (hc' : l'.length ≤ cap') (hl : l.length ≤ maxLen) (hl' : l'.length ≤ maxLen) :
    Calls Try.prog 50 #[.slice a l.length cap, .slice a' l'.length cap'] w fun e w' => e = .returned (.bool (decide (l = l'))) ∧ Below w.heap.size w w' := by
  by_cases hlen : l.length = l'.length
  · have HR := Lib.hid (show ∀ k, (h : k < l.length) → ∃ b off, a = some ⟨b, off, none⟩ ∧ b < w.heap.size ∧ TkAt w l b off from fun k h => by
      rcases hs with ⟨rfl, _⟩ | ⟨b, off, ha, hn, _, hr⟩
      · simp at h
      · exact ⟨b, off, ha, hr.lt hn, hr⟩)
    have HR' := Lib.hid (show ∀ k, (h : k < l'.length) → ∃ b off, a' = some ⟨b, off, none⟩ ∧ b < w.heap.size ∧ TkAt w l' b off from fun k h => by
      rcases hs' with ⟨rfl, _⟩ | ⟨b, off, ha, hn, _, hr⟩
      · simp at h
      · exact ⟨b, off, ha, hr.lt hn, hr⟩)
    obtain ⟨m, hm⟩ : ∃ m, l.length = m := ⟨_, rfl⟩
    have hm' : l'.length = m := by rw [← hlen, hm]
    have HM := Lib.hid (And.intro hm hm')
    rw [hm] at hc hl ⊢
    rw [hm'] at hc' hl' ⊢
    have hmm : ((m : Int) != (m : Int)) = false := by simp
    clear hm hm' hs hs' hlen hl'
    unfold maxLen at hl
    go_enter Try.func50, Try.ntmps50
    go_wp2_with fail
    go_loopw [5] (fun i wr => ∃ k : Nat, k ≤ m ∧ i = .int .i64 k ∧ Hid (l.take k = l'.take k) ∧ Below w.heap.size w wr) (fun i _ => m - (intOf i).toNat)
    case atStart => exact ⟨0, by omega, rfl, Lib.hid rfl, Below.refl _ _⟩
    case round =>
      obtain ⟨k, hk, rfl, HE, hbw⟩ := hrel
      by_cases hkm : k < m
      · have hkl : k < l.length := by rw [HM.out.1]; exact hkm
        have hkl' : k < l'.length := by rw [HM.out.2]; exact hkm
        obtain ⟨b, off, rfl, hb, hrow⟩ := HR.out k hkl
        obtain ⟨b', off', rfl, hb', hrow'⟩ := HR'.out k hkl'
        obtain ⟨c0, c1, c2⟩ := (hrow.below hb hbw) k hkl
        obtain ⟨d0, d1, d2⟩ := (hrow'.below hb' hbw) k hkl'
        obtain ⟨⟨n, nn, t⟩, hnt⟩ : ∃ r, l[k] = r := ⟨_, rfl⟩
        obtain ⟨⟨n', nn', t'⟩, hnt'⟩ : ∃ r, l'[k] = r := ⟨_, rfl⟩
        rw [hnt] at c0 c1 c2
        rw [hnt'] at d0 d1 d2
        have HN := Lib.hid (And.intro hnt hnt')
        have i0 : (0 : Int) ≤ (k : Int) := Int.natCast_nonneg _
        have i1 : (k : Int) < (m : Int) := by omega
        have HD := Lib.hid (eqToken n nn n' nn' t t')
        clear hrow hrow' hnt hnt'
        cases hsd : sameR n nn t n' nn' t' with
        | true =>
          have HSD := Lib.hid hsd
          clear hsd
          go_wp2_with fail
          go_still_tail 8, (by kernel_rfl)
          go_wp2_with (go_at_call 98; refine (HD.out _).mono ?_; rw [HSD.out]; rintro e w' ⟨rfl, hb1⟩)
          go_roundw
          case rel =>
            have e1 := HSD.out
            simp only [sameR, decide_eq_true_eq] at e1
            exact ⟨k + 1, by omega, by go_num, Lib.hid (same_step hkl hkl' HE.out (by rw [HN.out.1, HN.out.2, e1])), hbw.trans (((Below.refl _ _).drew.trans hb1).mono hbw.size)⟩
          case measure => simp [intOf]; omega
        | false =>
          have HSD := Lib.hid hsd
          clear hsd
          go_wp2_with fail
          go_still_tail 8, (by kernel_rfl)
          go_wp2_with (go_at_call 98; refine (HD.out _).mono ?_; rw [HSD.out]; rintro e w' ⟨rfl, hb1⟩)
          go_ret
          refine ⟨ret_bool ?_, hbw.trans (((Below.refl _ _).drew.trans hb1).mono hbw.size)⟩
          have e1 := HSD.out
          simp only [sameR, decide_eq_false_iff_not] at e1
          symm
          rw [decide_eq_false_iff_not]
          intro e
          subst e
          exact e1 (by rw [← HN.out.1, ← HN.out.2])
      · go_wp2_with fail
        go_ret
        refine ⟨ret_bool ?_, hbw⟩
        have e1 := HE.out
        rw [List.take_of_length_le (by have := HM.out.1; omega), List.take_of_length_le (by have := HM.out.2; omega)] at e1
        subst e1
        simp
  · exact eqTokenS_len l l' w a a' cap cap' hl hl' hlen

end Go.Proofs.Ytcealfjkcbaelaa.TkL


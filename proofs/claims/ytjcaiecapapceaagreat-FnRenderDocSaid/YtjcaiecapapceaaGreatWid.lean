import Derived.Test.YtjcaiecapapceaaGreatFl
/-
 What flatSize, leadSize, FlatWidth and LeadWidth come to, of the program and of the model.
-/
set_option linter.unusedVariables false
set_option linter.unusedSimpArgs false
set_option maxRecDepth 100000
set_option maxHeartbeats 1600000
namespace Go.Proofs.YtjcaiecapapceaaGreat.Wid
open Go.RowKit P1 Cnt CntC Flat
def zf : F → Nat
 | .nil => 0
 | .cons o _ t k r => (if o == 3 then 1 else t.size) + zf k + zf r
def zD (o : Int) (t : ByteArray) (k : F) : Nat := (if o == 3 then 1 else t.size) + zf k
theorem zf_app (f g : F) : zf (f.app g) = zf f + zf g := by
 induction f with
 | nil => simp [F.app, zf]
 | cons o n t k r _ ih => simp only [F.app, zf, ih]; omega
theorem zf_one (o n : Int) (t : ByteArray) (k : F) : zf (.cons o n t k .nil) = zD o t k := by simp [zf, zD]
theorem zf_size (f : F) : zf f ≤ f.size := by
 induction f with
 | nil => exact Nat.le_refl 0
 | cons o n t k r ihk ihr => simp only [zf, F.size]; split <;> omega
theorem zD_size (o : Int) (t : ByteArray) (k : F) : zD o t k ≤ 1 + t.size + k.size := by
 have := zf_size k
 unfold zD; split <;> omega
theorem zf_fl (f : F) : ∀ d, f.ok d = true → zf f = (fl f).size := by
 induction f with
 | nil => intro d _; rfl
 | cons o n t k r ihk ihr =>
   intro d h
   simp only [F.ok, Bool.and_eq_true] at h
   obtain ⟨⟨⟨_, hn⟩, hk⟩, hr⟩ := h
   simp only [zf, fl, ihr _ hr, ihk _ hk, ByteArray.size_append]
   cases h3 : (o == 3) with
   | true =>
     obtain ⟨hl, rfl⟩ := node_line hn h3
     rw [nil_of_len hl]
     simp only [if_true, fl]
     rfl
   | false => simp only [Bool.false_eq_true, if_false, ByteArray.size_append]
def noF : F → Bool
 | .nil => true
 | .cons o _ _ k r => (o != 5) && noF k && noF r
def noD (o : Int) (k : F) : Bool := (o != 5) && noF k
theorem noF_app (f g : F) : noF (f.app g) = (noF f && noF g) := by
 induction f with
 | nil => simp [F.app, noF]
 | cons o n t k r _ ih => simp only [F.app, noF, ih, Bool.and_assoc]
theorem noF_cnt (f : F) : noF f = decide (cntF (fun x => x == 5) f = 0) := by
 induction f with
 | nil => rfl
 | cons o n t k r ihk ihr =>
   simp only [noF, cntF, ihk, ihr]
   by_cases h : o = 5
   ·subst h; simp <;> omega
   ·have h1 : (o == 5) = false := by rw [beq_eq_false_iff_ne]; exact h
    have h2 : (o != 5) = true := by simp [bne, h1]
    simp only [h1, h2, Bool.true_and, Bool.false_eq_true, if_false]
    rw [Bool.eq_iff_iff]; simp only [Bool.and_eq_true, decide_eq_true_eq]; omega
theorem noD_ops (o : Int) (k : F) : noD o k = decide (opsD 5 o k = 0) := by
 rw [noD, noF_cnt, opsD_eq]
 by_cases h : o = 5
 ·subst h; simp
 ·have h1 : (o == 5) = false := by rw [beq_eq_false_iff_ne]; exact h
  have h2 : (o != 5) = true := by simp [bne, h1]
  simp only [h1, h2, Bool.true_and, Bool.false_eq_true, if_false]
  rw [Bool.eq_iff_iff]; simp only [decide_eq_true_eq]; omega
def orZ (b : Bool) (z : Nat) : Int := if b then (z : Int) else 0
def nl (o : Int) : Bool := (o == 3) || (o == 4) || (o == 5)
def ldE : F → Bool
 | .nil => false
 | .cons o _ _ k r => (nl o || ldE k) || ldE r
def ldN : F → Nat
 | .nil => 0
 | .cons o _ t k r => (if nl o then 0 else t.size + ldN k) + (if nl o || ldE k then 0 else ldN r)
def eD (o : Int) (k : F) : Bool := nl o || ldE k
def nD (o : Int) (t : ByteArray) (k : F) : Nat := if nl o then 0 else t.size + ldN k
theorem ldE_app (f g : F) : ldE (f.app g) = (ldE f || ldE g) := by
 induction f with
 | nil => simp [F.app, ldE]
 | cons o n t k r _ ih => simp only [F.app, ldE, ih, Bool.or_assoc]
theorem ldN_app (f g : F) : ldN (f.app g) = ldN f + (if ldE f then 0 else ldN g) := by
 induction f with
 | nil => simp [F.app, ldN, ldE]
 | cons o n t k r _ ih =>
   simp only [F.app, ldN, ldE, ih]
   by_cases h1 : nl o = true <;> by_cases h2 : ldE k = true <;> by_cases h3 : ldE r = true <;> simp [h1, h2, h3] <;> omega
theorem ldE_one (o n : Int) (t : ByteArray) (k : F) : ldE (.cons o n t k .nil) = eD o k := by simp [ldE, eD]
theorem ldN_one (o n : Int) (t : ByteArray) (k : F) : ldN (.cons o n t k .nil) = nD o t k := by simp [ldN, nD]
theorem ldN_size (f : F) : ldN f ≤ f.size := by
 induction f with
 | nil => exact Nat.le_refl 0
 | cons o n t k r ihk ihr => simp only [ldN, F.size]; split <;> split <;> omega
theorem nD_size (o : Int) (t : ByteArray) (k : F) : nD o t k ≤ t.size + k.size := by
 have := ldN_size k
 unfold nD; split <;> omega
def FlatZ (f : F) : Prop := ∀ (w : World) (o n : Int) (t : ByteArray) (k : F) (p r : F) (a : Option Addr) (cap : Nat) (fs : List Nat), f = p.app (.cons o n t k r) → SubAt w a k fs → (∀ c ∈ fs, c < w.heap.size) → k.len ≤ cap → f.size ≤ 4194304 →
 Calls Tryz.prog 169 #[.agg #[.int .i64 o, .int .i64 n, .string t, .slice a k.len cap]] w fun e w' => e = .returned (.tuple #[.int .i64 (orZ (noD o k) (zD o t k)), .bool (noD o k)]) ∧ Below w.heap.size w w'
theorem flatz_step (w : World) (o n : Int) (t : ByteArray) (k : F) (ih : FlatZ k) (a : Option Addr) (cap : Nat) (fs : List Nat) (hs : SubAt w a k fs) (hfs : ∀ c ∈ fs, c < w.heap.size) (hc : k.len ≤ cap) (hsz : t.size + k.size ≤ 4194304) :
  Calls Tryz.prog 169 #[.agg #[.int .i64 o, .int .i64 n, .string t, .slice a k.len cap]] w fun e w' => e = .returned (.tuple #[.int .i64 (orZ (noD o k) (zD o t k)), .bool (noD o k)]) ∧ Below w.heap.size w w' := by
 have hlc := F.len_le_size k
 obtain ⟨L, hL⟩ : ∃ L, k.len = L := ⟨_, rfl⟩
 rw [hL] at hc hlc ⊢
 have hL4 : L ≤ 4194304 := by omega
 have HL := Lib.hid hL
 clear hL
 have hsub : 0 < L → ∃ b off f', a = some ⟨b, off, none⟩ ∧ RowAt w k b off f' ∧ b < w.heap.size ∧ ∀ c ∈ f', c < w.heap.size := by
  intro h0
  rcases hs with ⟨rfl, rfl⟩ | ⟨b, off, f', rfl, hnil, rfl, hrow⟩
  ·have := HL.out; simp only [F.len] at this; omega
  ·exact ⟨b, off, f', rfl, hrow, hfs b (by simp), fun c hc => hfs c (by simp [hc])⟩
 have HSUB := Lib.hid hsub
 have IH := Lib.hid ih
 have HSZ := Lib.hid hsz
 have hts : t.size ≤ 4194304 := by omega
 cases hoo5 : (o == 5) with
 | true =>
   have ho5 : o = 5 := by simpa using hoo5
   have HT := Lib.hid (show noD o k = false by simp [noD, ho5])
   clear hsub hs hfs ih hsz
   subst ho5
   go_enter Tryz.func169, Tryz.ntmps169
   go_wp2_with fail
   go_ret2
   refine ⟨?_, (Below.refl _ _).alloc (Nat.le_refl _) _⟩
   rw [HT.out]; rfl
 | false =>
  have h5b : noD o k = noF k := by simp [noD, bne, hoo5]
  cases hoo : (o == 3) with
  | true =>
   have HT := Lib.hid (show Ending.returned (.tuple #[.int .i64 (orZ (noD o k) (zD o t k)), .bool (noD o k)]) = .returned (.tuple #[.int .i64 (orZ (noF k) (1 + zf k)), .bool (noF k)]) by rw [h5b]; simp [zD, hoo])
   clear hsub hs hfs ih hsz h5b
   go_enter Tryz.func169, Tryz.ntmps169
   go_wp2_with fail
   go_loopw [21, 4] (fun i s wr => ∃ (j c : Nat), j ≤ L ∧ i = .int .i64 j ∧ s = .int .i64 c ∧ c ≤ 4194305 ∧ ∃ p g : F, k = p.app g ∧ p.len = j ∧ c = 1 + zf p ∧ noF p = true ∧ Below w.heap.size w wr) (fun i _ _ => L - (intOf i).toNat)
   case atStart => exact ⟨0, 1, by omega, rfl, rfl, by omega, .nil, k, rfl, rfl, rfl, rfl, (Below.refl _ _).alloc (Nat.le_refl _) _⟩
   case round =>
    obtain ⟨j, c, hj, rfl, rfl, hcs, p, g, h3, h5, h6, hno, hbw⟩ := hrel
    have h7 : g.len = L - j := by have := HL.out; rw [h3, F.len_app, h5] at this; omega
    cases g with
    | nil =>
      have hjL : L ≤ j := by simp only [F.len] at h7; omega
      have H := Lib.hid (And.intro h3 (And.intro h6 (And.intro hno hbw)))
      clear h3 h5 h6 h7 hno hbw
      go_wp2_with fail
      go_ret2
      obtain ⟨h3, h6, hno, hbw⟩ := H.out
      rw [F.app_nil] at h3
      refine ⟨?_, hbw⟩
      rw [HT.out, h3, hno, h6]; rfl
    | cons o1 n1 t1 k1 r1 =>
      have hjL : j < L := by simp only [F.len] at h7; omega
      obtain ⟨b, off, f', rfl, hrow, hbB, hfB⟩ := HSUB.out (by omega)
      rw [h3] at hrow
      obtain ⟨a1, cap1, f1, c0, c1, c2, c3, hc1', hsub1, hin⟩ := row_at hrow
      rw [h5] at c0 c1 c2 c3
      rw [← hbw.cell (p := ⟨_, _, _⟩) hbB] at c0 c1 c2 c3
      have hsz := HSZ.out
      have hd := fun ob => IH.out (wr.alloc ob) o1 n1 t1 k1 p r1 a1 cap1 f1 h3 (hsub1.below (fun c hc => hfB c (hin c hc)) (hbw.alloc hbw.size ob)) (fun c hc => Nat.lt_of_lt_of_le (hfB c (hin c hc)) (hbw.alloc hbw.size ob).size) hc1' (by omega)
      have hzs : c + zD o1 t1 k1 ≤ 4194305 := by
       have e1 := zf_size p
       have e2 := zD_size o1 t1 k1
       rw [h3, F.size_app] at hsz; simp only [F.size] at hsz; omega
      have HB := Lib.hid (fun ob => hbw.alloc hbw.size ob)
      have hnn : noF k = (noF p && (noD o1 k1 && noF r1)) := by rw [h3, noF_app]; rfl
      have hbs := hbw.size
      cases hnd : noD o1 k1 with
      | false =>
        rw [hnd] at hd hnn
        have HN := Lib.hid (show noF k = false by rw [hnn]; simp)
        have HD := Lib.hid (show ∀ ob, Calls Tryz.prog 169 #[.agg #[.int .i64 o1, .int .i64 n1, .string t1, .slice a1 k1.len cap1]] (wr.alloc ob) fun e w' => e = .returned (.tuple #[.int .i64 0, .bool false]) ∧ Below (wr.alloc ob).heap.size (wr.alloc ob) w' from hd)
        clear hd h3 h5 h6 h7 hno hnn hnd hbw hrow hlc hsz hzs
        go_wp2_with (go_at_call 169; refine (HD.out _).mono ?_; rintro e1 w1 ⟨rfl, hb1⟩)
        go_ret2
        refine ⟨?_, (HB.out _).trans (hb1.mono (by simp; omega))⟩
        rw [HT.out, HN.out]; rfl
      | true =>
        rw [hnd] at hd
        obtain ⟨z, hz⟩ : ∃ z : Nat, zD o1 t1 k1 = z := ⟨_, rfl⟩
        rw [hz] at hd hzs
        have HD := Lib.hid (show ∀ ob, Calls Tryz.prog 169 #[.agg #[.int .i64 o1, .int .i64 n1, .string t1, .slice a1 k1.len cap1]] (wr.alloc ob) fun e w' => e = .returned (.tuple #[.int .i64 (z : Int), .bool true]) ∧ Below (wr.alloc ob).heap.size (wr.alloc ob) w' from hd)
        have HZ := Lib.hid hzs
        have H := Lib.hid (And.intro h3 (And.intro h5 (And.intro h6 (And.intro hno (And.intro hnd hz)))))
        clear hd h3 h5 h6 h7 hno hnn hnd hbw hrow hz hlc hsz
        go_wp2_with (go_at_call 169; refine (HD.out _).mono ?_; rintro e1 w1 ⟨rfl, hb1⟩)
        have HB1 := Lib.hid ((HB.out _).trans (hb1.mono (by simp; omega)))
        clear hb1
        go_roundw
        case rel =>
         obtain ⟨h3, h5, h6, hno, hnd, hz⟩ := H.out
         refine ⟨j + 1, c + z, by omega, by go_num, by go_num, HZ.out, p.app (.cons o1 n1 t1 k1 .nil), r1, by rw [h3, F.app_assoc]; rfl, by rw [F.len_app, h5]; rfl, ?_, ?_, HB1.out⟩
         ·rw [zf_app, zf_one, h6, hz]; omega
         ·rw [noF_app, hno, show noF (.cons o1 n1 t1 k1 .nil) = noD o1 k1 by simp [noF, noD], hnd]; rfl
        case measure => simp [intOf]; omega
  | false =>
   have HT := Lib.hid (show Ending.returned (.tuple #[.int .i64 (orZ (noD o k) (zD o t k)), .bool (noD o k)]) = .returned (.tuple #[.int .i64 (orZ (noF k) (t.size + zf k)), .bool (noF k)]) by rw [h5b]; simp [zD, hoo])
   clear hsub hs hfs ih hsz h5b
   go_enter Tryz.func169, Tryz.ntmps169
   go_wp2_with fail
   go_loopw [21, 4] (fun i s wr => ∃ (j c : Nat), j ≤ L ∧ i = .int .i64 j ∧ s = .int .i64 c ∧ c ≤ 4194305 ∧ ∃ p g : F, k = p.app g ∧ p.len = j ∧ c = t.size + zf p ∧ noF p = true ∧ Below w.heap.size w wr) (fun i _ _ => L - (intOf i).toNat)
   case atStart => exact ⟨0, t.size, by omega, rfl, rfl, by omega, .nil, k, rfl, rfl, rfl, rfl, (Below.refl _ _).alloc (Nat.le_refl _) _⟩
   case round =>
    obtain ⟨j, c, hj, rfl, rfl, hcs, p, g, h3, h5, h6, hno, hbw⟩ := hrel
    have h7 : g.len = L - j := by have := HL.out; rw [h3, F.len_app, h5] at this; omega
    cases g with
    | nil =>
      have hjL : L ≤ j := by simp only [F.len] at h7; omega
      have H := Lib.hid (And.intro h3 (And.intro h6 (And.intro hno hbw)))
      clear h3 h5 h6 h7 hno hbw
      go_wp2_with fail
      go_ret2
      obtain ⟨h3, h6, hno, hbw⟩ := H.out
      rw [F.app_nil] at h3
      refine ⟨?_, hbw⟩
      rw [HT.out, h3, hno, h6]; rfl
    | cons o1 n1 t1 k1 r1 =>
      have hjL : j < L := by simp only [F.len] at h7; omega
      obtain ⟨b, off, f', rfl, hrow, hbB, hfB⟩ := HSUB.out (by omega)
      rw [h3] at hrow
      obtain ⟨a1, cap1, f1, c0, c1, c2, c3, hc1', hsub1, hin⟩ := row_at hrow
      rw [h5] at c0 c1 c2 c3
      rw [← hbw.cell (p := ⟨_, _, _⟩) hbB] at c0 c1 c2 c3
      have hsz := HSZ.out
      have hd := fun ob => IH.out (wr.alloc ob) o1 n1 t1 k1 p r1 a1 cap1 f1 h3 (hsub1.below (fun c hc => hfB c (hin c hc)) (hbw.alloc hbw.size ob)) (fun c hc => Nat.lt_of_lt_of_le (hfB c (hin c hc)) (hbw.alloc hbw.size ob).size) hc1' (by omega)
      have hzs : c + zD o1 t1 k1 ≤ 4194305 := by
       have e1 := zf_size p
       have e2 := zD_size o1 t1 k1
       rw [h3, F.size_app] at hsz; simp only [F.size] at hsz; omega
      have HB := Lib.hid (fun ob => hbw.alloc hbw.size ob)
      have hnn : noF k = (noF p && (noD o1 k1 && noF r1)) := by rw [h3, noF_app]; rfl
      have hbs := hbw.size
      cases hnd : noD o1 k1 with
      | false =>
        rw [hnd] at hd hnn
        have HN := Lib.hid (show noF k = false by rw [hnn]; simp)
        have HD := Lib.hid (show ∀ ob, Calls Tryz.prog 169 #[.agg #[.int .i64 o1, .int .i64 n1, .string t1, .slice a1 k1.len cap1]] (wr.alloc ob) fun e w' => e = .returned (.tuple #[.int .i64 0, .bool false]) ∧ Below (wr.alloc ob).heap.size (wr.alloc ob) w' from hd)
        clear hd h3 h5 h6 h7 hno hnn hnd hbw hrow hlc hsz hzs
        go_wp2_with (go_at_call 169; refine (HD.out _).mono ?_; rintro e1 w1 ⟨rfl, hb1⟩)
        go_ret2
        refine ⟨?_, (HB.out _).trans (hb1.mono (by simp; omega))⟩
        rw [HT.out, HN.out]; rfl
      | true =>
        rw [hnd] at hd
        obtain ⟨z, hz⟩ : ∃ z : Nat, zD o1 t1 k1 = z := ⟨_, rfl⟩
        rw [hz] at hd hzs
        have HD := Lib.hid (show ∀ ob, Calls Tryz.prog 169 #[.agg #[.int .i64 o1, .int .i64 n1, .string t1, .slice a1 k1.len cap1]] (wr.alloc ob) fun e w' => e = .returned (.tuple #[.int .i64 (z : Int), .bool true]) ∧ Below (wr.alloc ob).heap.size (wr.alloc ob) w' from hd)
        have HZ := Lib.hid hzs
        have H := Lib.hid (And.intro h3 (And.intro h5 (And.intro h6 (And.intro hno (And.intro hnd hz)))))
        clear hd h3 h5 h6 h7 hno hnn hnd hbw hrow hz hlc hsz
        go_wp2_with (go_at_call 169; refine (HD.out _).mono ?_; rintro e1 w1 ⟨rfl, hb1⟩)
        have HB1 := Lib.hid ((HB.out _).trans (hb1.mono (by simp; omega)))
        clear hb1
        go_roundw
        case rel =>
         obtain ⟨h3, h5, h6, hno, hnd, hz⟩ := H.out
         refine ⟨j + 1, c + z, by omega, by go_num, by go_num, HZ.out, p.app (.cons o1 n1 t1 k1 .nil), r1, by rw [h3, F.app_assoc]; rfl, by rw [F.len_app, h5]; rfl, ?_, ?_, HB1.out⟩
         ·rw [zf_app, zf_one, h6, hz]; omega
         ·rw [noF_app, hno, show noF (.cons o1 n1 t1 k1 .nil) = noD o1 k1 by simp [noF, noD], hnd]; rfl
        case measure => simp [intOf]; omega
theorem flatZ (m : Nat) : ∀ f : F, f.deep ≤ m → FlatZ f := by
 induction m with
 | zero =>
   intro f hf w o n t k p r a cap fs he
   rw [he, F.deep_app] at hf; simp only [F.deep] at hf; omega
 | succ m ih =>
   intro f hf w o n t k p r a cap fs he hs hfs hc hsz
   have hk : k.deep ≤ m := by rw [he, F.deep_app] at hf; simp only [F.deep] at hf; omega
   exact flatz_step w o n t k (ih k hk) a cap fs hs hfs hc (by rw [he, F.size_app] at hsz; simp only [F.size] at hsz; omega)
set_option maxHeartbeats 400000 in
theorem isNewline (w : World) (o : Int) : Calls Tryz.prog 129 #[.int .i64 o] w fun e w' => e = .returned (.bool (nl o)) ∧ w' = w := by
 cases h3 : (o == 3) with
 | true =>
   have HT := Lib.hid (show nl o = true by simp [nl, h3])
   go_enter Tryz.func129, Tryz.ntmps129
   go_wp2_with fail
   go_ret
   exact ⟨by rw [HT.out]; rfl, rfl⟩
 | false =>
   cases h4 : (o == 4) with
   | true =>
     have HT := Lib.hid (show nl o = true by simp [nl, h4])
     go_enter Tryz.func129, Tryz.ntmps129
     go_wp2_with fail
     go_ret
     exact ⟨by rw [HT.out]; rfl, rfl⟩
   | false =>
     have HT := Lib.hid (show nl o = (o == 5) by simp [nl, h3, h4])
     go_enter Tryz.func129, Tryz.ntmps129
     go_wp2_with fail
     go_ret
     exact ⟨by rw [HT.out]; rfl, rfl⟩
def LeadI (f : F) : Prop := ∀ (w : World) (o n : Int) (t : ByteArray) (k : F) (p r : F) (a : Option Addr) (cap : Nat) (fs : List Nat), f = p.app (.cons o n t k r) → SubAt w a k fs → (∀ c ∈ fs, c < w.heap.size) → k.len ≤ cap → f.size ≤ 4194304 →
 Calls Tryz.prog 187 #[.agg #[.int .i64 o, .int .i64 n, .string t, .slice a k.len cap]] w fun e w' => e = .returned (.tuple #[.int .i64 ((nD o t k : Nat) : Int), .bool (eD o k)]) ∧ Below w.heap.size w w'
theorem leadi_step (w : World) (o n : Int) (t : ByteArray) (k : F) (ih : LeadI k) (a : Option Addr) (cap : Nat) (fs : List Nat) (hs : SubAt w a k fs) (hfs : ∀ c ∈ fs, c < w.heap.size) (hc : k.len ≤ cap) (hsz : t.size + k.size ≤ 4194304) :
  Calls Tryz.prog 187 #[.agg #[.int .i64 o, .int .i64 n, .string t, .slice a k.len cap]] w fun e w' => e = .returned (.tuple #[.int .i64 ((nD o t k : Nat) : Int), .bool (eD o k)]) ∧ Below w.heap.size w w' := by
 have hlc := F.len_le_size k
 obtain ⟨L, hL⟩ : ∃ L, k.len = L := ⟨_, rfl⟩
 rw [hL] at hc hlc ⊢
 have hL4 : L ≤ 4194304 := by omega
 have HL := Lib.hid hL
 clear hL
 have hsub : 0 < L → ∃ b off f', a = some ⟨b, off, none⟩ ∧ RowAt w k b off f' ∧ b < w.heap.size ∧ ∀ c ∈ f', c < w.heap.size := by
  intro h0
  rcases hs with ⟨rfl, rfl⟩ | ⟨b, off, f', rfl, hnil, rfl, hrow⟩
  ·have := HL.out; simp only [F.len] at this; omega
  ·exact ⟨b, off, f', rfl, hrow, hfs b (by simp), fun c hc => hfs c (by simp [hc])⟩
 have HSUB := Lib.hid hsub
 have IH := Lib.hid ih
 have HSZ := Lib.hid hsz
 have hts : t.size ≤ 4194304 := by omega
 cases hnl : nl o with
 | true =>
   have HT := Lib.hid (show nD o t k = 0 ∧ eD o k = true by simp [nD, eD, hnl])
   have HI := Lib.hid (fun w1 => isNewline w1 o)
   rw [hnl] at HI
   clear hsub hs hfs ih hsz
   go_enter Tryz.func187, Tryz.ntmps187
   go_wp2_with fail
   refine (HI.out _).mono ?_
   rintro e1 w1 ⟨rfl, rfl⟩
   go_wp2_with fail
   go_ret2
   refine ⟨?_, (Below.refl _ _).alloc (Nat.le_refl _) _⟩
   rw [HT.out.1, HT.out.2]; rfl
 | false =>
   have HI := Lib.hid (fun w1 => isNewline w1 o)
   rw [hnl] at HI
   have HT := Lib.hid (show Ending.returned (.tuple #[.int .i64 ((nD o t k : Nat) : Int), .bool (eD o k)]) = .returned (.tuple #[.int .i64 ((t.size + ldN k : Nat) : Int), .bool (ldE k)]) by simp [nD, eD, hnl])
   clear hsub hs hfs ih hsz
   go_enter Tryz.func187, Tryz.ntmps187
   go_wp2_with fail
   refine (HI.out _).mono ?_
   rintro e1 w1 ⟨rfl, rfl⟩
   go_wp2_with fail
   go_loopw [18, 4] (fun i s wr => ∃ (j c : Nat), j ≤ L ∧ i = .int .i64 j ∧ s = .int .i64 c ∧ c ≤ 4194305 ∧ ∃ p g : F, k = p.app g ∧ p.len = j ∧ c = t.size + ldN p ∧ ldE p = false ∧ Below w.heap.size w wr) (fun i _ _ => L - (intOf i).toNat)
   case atStart => exact ⟨0, t.size, by omega, rfl, rfl, by omega, .nil, k, rfl, rfl, rfl, rfl, (Below.refl _ _).alloc (Nat.le_refl _) _⟩
   case round =>
    obtain ⟨j, c, hj, rfl, rfl, hcs, p, g, h3, h5, h6, hno, hbw⟩ := hrel
    have h7 : g.len = L - j := by have := HL.out; rw [h3, F.len_app, h5] at this; omega
    cases g with
    | nil =>
      have hjL : L ≤ j := by simp only [F.len] at h7; omega
      have H := Lib.hid (And.intro h3 (And.intro h6 (And.intro hno hbw)))
      clear h3 h5 h6 h7 hno hbw
      go_wp2_with fail
      go_ret2
      obtain ⟨h3, h6, hno, hbw⟩ := H.out
      rw [F.app_nil] at h3
      refine ⟨?_, hbw⟩
      rw [HT.out, h3, hno, h6]; rfl
    | cons o1 n1 t1 k1 r1 =>
      have hjL : j < L := by simp only [F.len] at h7; omega
      obtain ⟨b, off, f', rfl, hrow, hbB, hfB⟩ := HSUB.out (by omega)
      rw [h3] at hrow
      obtain ⟨a1, cap1, f1, c0, c1, c2, c3, hc1', hsub1, hin⟩ := row_at hrow
      rw [h5] at c0 c1 c2 c3
      rw [← hbw.cell (p := ⟨_, _, _⟩) hbB] at c0 c1 c2 c3
      have hsz := HSZ.out
      have hd := fun ob => IH.out (wr.alloc ob) o1 n1 t1 k1 p r1 a1 cap1 f1 h3 (hsub1.below (fun c hc => hfB c (hin c hc)) (hbw.alloc hbw.size ob)) (fun c hc => Nat.lt_of_lt_of_le (hfB c (hin c hc)) (hbw.alloc hbw.size ob).size) hc1' (by omega)
      have HB := Lib.hid (fun ob => hbw.alloc hbw.size ob)
      obtain ⟨z, hz⟩ : ∃ z : Nat, nD o1 t1 k1 = z := ⟨_, rfl⟩
      have hzs : c + z ≤ 4194305 := by
       have e1 := ldN_size p
       have e2 := nD_size o1 t1 k1
       rw [hz] at e2
       rw [h3, F.size_app] at hsz; simp only [F.size] at hsz; omega
      have hnn : ldE k = (eD o1 k1 || ldE r1) := by rw [h3, ldE_app, hno]; rfl
      have hnl : ldN k = ldN p + (z + if eD o1 k1 then 0 else ldN r1) := by rw [h3, ldN_app, hno, ← hz]; rfl
      have hbs := hbw.size
      cases hnd : eD o1 k1 with
      | true =>
        rw [hnd] at hnn hnl
        simp only [hnd, hz] at hd
        have HN := Lib.hid (show ldE k = true ∧ c + z = t.size + ldN k from ⟨by rw [hnn]; rfl, by rw [hnl, h6]; simp; omega⟩)
        have HD := Lib.hid hd
        clear hd h3 h5 h6 h7 hno hnn hnl hnd hbw hrow hlc hsz hz
        go_wp2_with (go_at_call 187; refine (HD.out _).mono ?_; rintro e1 w1 ⟨rfl, hb1⟩)
        go_ret2
        refine ⟨?_, (HB.out _).trans (hb1.mono (by first | exact (HB.out _).size | (simp; omega)))⟩
        rw [HT.out, HN.out.1, ← HN.out.2]; first | rfl | simp
      | false =>
        simp only [hnd, hz] at hd
        have HD := Lib.hid hd
        have HZ := Lib.hid hzs
        have H := Lib.hid (And.intro h3 (And.intro h5 (And.intro h6 (And.intro hno (And.intro hnd hz)))))
        clear hd h3 h5 h6 h7 hno hnn hnl hnd hbw hrow hz hlc hsz
        go_wp2_with (go_at_call 187; refine (HD.out _).mono ?_; rintro e1 w1 ⟨rfl, hb1⟩)
        have HB1 := Lib.hid ((HB.out _).trans (hb1.mono (by first | exact (HB.out _).size | (simp; omega))))
        go_roundw
        case rel =>
         obtain ⟨h3, h5, h6, hno, hnd, hz⟩ := H.out
         refine ⟨j + 1, c + z, by omega, by go_num, by go_num, HZ.out, p.app (.cons o1 n1 t1 k1 .nil), r1, by rw [h3, F.app_assoc]; rfl, by rw [F.len_app, h5]; rfl, ?_, ?_, HB1.out⟩
         ·rw [ldN_app, ldN_one, h6, hno, hz]; simp; omega
         ·rw [ldE_app, hno, ldE_one, hnd]; rfl
        case measure => simp [intOf]; omega
theorem leadI (m : Nat) : ∀ f : F, f.deep ≤ m → LeadI f := by
 induction m with
 | zero =>
   intro f hf w o n t k p r a cap fs he
   rw [he, F.deep_app] at hf; simp only [F.deep] at hf; omega
 | succ m ih =>
   intro f hf w o n t k p r a cap fs he hs hfs hc hsz
   have hk : k.deep ≤ m := by rw [he, F.deep_app] at hf; simp only [F.deep] at hf; omega
   exact leadi_step w o n t k (ih k hk) a cap fs hs hfs hc (by rw [he, F.size_app] at hsz; simp only [F.size] at hsz; omega)
def LeadS (f : F) : Prop := ∀ (w : World) (o n : Int) (t : ByteArray) (k : F) (p r : F) (a : Option Addr) (cap : Nat) (fs : List Nat), f = p.app (.cons o n t k r) → SubAt w a k fs → (∀ c ∈ fs, c < w.heap.size) → k.len ≤ cap → f.size ≤ 4194304 →
 Calls Tryz.prog 135 #[.agg #[.int .i64 o, .int .i64 n, .string t, .slice a k.len cap]] w fun e w' => e = .returned (.tuple #[.int .i64 ((nD o t k : Nat) : Int), .bool (eD o k)]) ∧ Below w.heap.size w w'
theorem leads_step (w : World) (o n : Int) (t : ByteArray) (k : F) (ih : LeadS k) (a : Option Addr) (cap : Nat) (fs : List Nat) (hs : SubAt w a k fs) (hfs : ∀ c ∈ fs, c < w.heap.size) (hc : k.len ≤ cap) (hsz : t.size + k.size ≤ 4194304) :
  Calls Tryz.prog 135 #[.agg #[.int .i64 o, .int .i64 n, .string t, .slice a k.len cap]] w fun e w' => e = .returned (.tuple #[.int .i64 ((nD o t k : Nat) : Int), .bool (eD o k)]) ∧ Below w.heap.size w w' := by
 have hlc := F.len_le_size k
 obtain ⟨L, hL⟩ : ∃ L, k.len = L := ⟨_, rfl⟩
 rw [hL] at hc hlc ⊢
 have hL4 : L ≤ 4194304 := by omega
 have HL := Lib.hid hL
 clear hL
 have hsub : 0 < L → ∃ b off f', a = some ⟨b, off, none⟩ ∧ RowAt w k b off f' ∧ b < w.heap.size ∧ ∀ c ∈ f', c < w.heap.size := by
  intro h0
  rcases hs with ⟨rfl, rfl⟩ | ⟨b, off, f', rfl, hnil, rfl, hrow⟩
  ·have := HL.out; simp only [F.len] at this; omega
  ·exact ⟨b, off, f', rfl, hrow, hfs b (by simp), fun c hc => hfs c (by simp [hc])⟩
 have HSUB := Lib.hid hsub
 have IH := Lib.hid ih
 have HSZ := Lib.hid hsz
 have hts : t.size ≤ 4194304 := by omega
 cases hnl : nl o with
 | true =>
   have ho : o = 3 ∨ o = 4 ∨ o = 5 := by simpa [nl, or_assoc] using hnl
   have HT := Lib.hid (show nD o t k = 0 ∧ eD o k = true by simp [nD, eD, hnl])
   clear hsub hs hfs ih hsz hnl
   rcases ho with rfl | rfl | rfl
   all_goals (
    go_enter Tryz.func135, Tryz.ntmps135
    go_wp2_with fail
    go_ret2
    refine ⟨?_, (Below.refl _ _).alloc (Nat.le_refl _) _⟩
    rw [HT.out.1, HT.out.2]; rfl)
 | false =>
   have HT := Lib.hid (show Ending.returned (.tuple #[.int .i64 ((nD o t k : Nat) : Int), .bool (eD o k)]) = .returned (.tuple #[.int .i64 ((t.size + ldN k : Nat) : Int), .bool (ldE k)]) by simp [nD, eD, hnl])
   have ho3 : o ≠ 3 := by intro h; simp [nl, h] at hnl
   have ho4 : o ≠ 4 := by intro h; simp [nl, h] at hnl
   have ho5 : o ≠ 5 := by intro h; simp [nl, h] at hnl
   have hb3 : (o == 3) = false := by rw [beq_eq_false_iff_ne]; exact ho3
   have hb4 : (o == 4) = false := by rw [beq_eq_false_iff_ne]; exact ho4
   have hb5 : (o == 5) = false := by rw [beq_eq_false_iff_ne]; exact ho5
   clear hsub hs hfs ih hsz hnl
   go_enter Tryz.func135, Tryz.ntmps135
   go_wp2_with fail
   go_loopw [5, 4] (fun i s wr => ∃ (j c : Nat), j ≤ L ∧ i = .int .i64 j ∧ s = .int .i64 c ∧ c ≤ 4194305 ∧ wr.cell? ⟨w.heap.size, 3, none⟩ = some (.slice a L cap) ∧ w.heap.size < wr.heap.size ∧ ∃ p g : F, k = p.app g ∧ p.len = j ∧ c = t.size + ldN p ∧ ldE p = false ∧ Below w.heap.size w wr) (fun i _ _ => L - (intOf i).toNat)
   case atStart => exact ⟨0, t.size, by omega, rfl, rfl, by omega, by simp, by simp, .nil, k, rfl, rfl, rfl, rfl, (Below.refl _ _).alloc (Nat.le_refl _) _⟩
   case round =>
    obtain ⟨j, c, hj, rfl, rfl, hcs, hbox, hlt, p, g, h3, h5, h6, hno, hbw⟩ := hrel
    have h7 : g.len = L - j := by have := HL.out; rw [h3, F.len_app, h5] at this; omega
    cases g with
    | nil =>
      have hjL : L ≤ j := by simp only [F.len] at h7; omega
      have H := Lib.hid (And.intro h3 (And.intro h6 (And.intro hno hbw)))
      clear h3 h5 h6 h7 hno hbw
      go_wp2_with fail
      go_ret2
      obtain ⟨h3, h6, hno, hbw⟩ := H.out
      rw [F.app_nil] at h3
      refine ⟨?_, hbw⟩
      rw [HT.out, h3, hno, h6]; rfl
    | cons o1 n1 t1 k1 r1 =>
      have hjL : j < L := by simp only [F.len] at h7; omega
      obtain ⟨b, off, f', rfl, hrow, hbB, hfB⟩ := HSUB.out (by omega)
      rw [h3] at hrow
      obtain ⟨a1, cap1, f1, c0, c1, c2, c3, hc1', hsub1, hin⟩ := row_at hrow
      rw [h5] at c0 c1 c2 c3
      rw [← hbw.cell (p := ⟨_, _, _⟩) hbB] at c0 c1 c2 c3
      have hsz := HSZ.out
      have hd := IH.out wr o1 n1 t1 k1 p r1 a1 cap1 f1 h3 (hsub1.below (fun c hc => hfB c (hin c hc)) hbw) (fun c hc => Nat.lt_of_lt_of_le (hfB c (hin c hc)) hbw.size) hc1' (by omega)
      have HB := Lib.hid hbw
      have HBX := Lib.hid (And.intro hbox hlt)
      obtain ⟨z, hz⟩ : ∃ z : Nat, nD o1 t1 k1 = z := ⟨_, rfl⟩
      have hzs : c + z ≤ 4194305 := by
       have e1 := ldN_size p
       have e2 := nD_size o1 t1 k1
       rw [hz] at e2
       rw [h3, F.size_app] at hsz; simp only [F.size] at hsz; omega
      have hnn : ldE k = (eD o1 k1 || ldE r1) := by rw [h3, ldE_app, hno]; rfl
      have hnl : ldN k = ldN p + (z + if eD o1 k1 then 0 else ldN r1) := by rw [h3, ldN_app, hno, ← hz]; rfl
      have hbs := hbw.size
      cases hnd : eD o1 k1 with
      | true =>
        rw [hnd] at hnn hnl
        simp only [hnd, hz] at hd
        have HN := Lib.hid (show ldE k = true ∧ c + z = t.size + ldN k from ⟨by rw [hnn]; rfl, by rw [hnl, h6]; simp; omega⟩)
        have HD := Lib.hid hd
        clear hd h3 h5 h6 h7 hno hnn hnl hnd hbw hrow hlc hsz hz
        go_wp2_with (go_at_call 135; refine HD.out.mono ?_; rintro e1 w1 ⟨rfl, hb1⟩)
        go_ret2
        refine ⟨?_, HB.out.trans (hb1.mono (by first | exact HB.out.size | (simp; omega)))⟩
        rw [HT.out, HN.out.1, ← HN.out.2]; first | rfl | simp
      | false =>
        simp only [hnd, hz] at hd
        have HD := Lib.hid hd
        have HZ := Lib.hid hzs
        have H := Lib.hid (And.intro h3 (And.intro h5 (And.intro h6 (And.intro hno (And.intro hnd hz)))))
        clear hd h3 h5 h6 h7 hno hnn hnl hnd hbw hrow hz hlc hsz
        go_wp2_with (go_at_call 135; refine HD.out.mono ?_; rintro e1 w1 ⟨rfl, hb1⟩)
        have HB1 := Lib.hid (HB.out.trans (hb1.mono (by first | exact HB.out.size | (simp; omega))))
        go_roundw
        case rel =>
         obtain ⟨h3, h5, h6, hno, hnd, hz⟩ := H.out
         refine ⟨j + 1, c + z, by omega, by go_num, by go_num, HZ.out, (hb1.cell (p := ⟨w.heap.size, 3, none⟩) HBX.out.2).trans HBX.out.1, Nat.lt_of_lt_of_le HBX.out.2 hb1.size, p.app (.cons o1 n1 t1 k1 .nil), r1, by rw [h3, F.app_assoc]; rfl, by rw [F.len_app, h5]; rfl, ?_, ?_, HB1.out⟩
         ·rw [ldN_app, ldN_one, h6, hno, hz]; simp; omega
         ·rw [ldE_app, hno, ldE_one, hnd]; rfl
        case measure => simp [intOf]; omega
theorem leadS (m : Nat) : ∀ f : F, f.deep ≤ m → LeadS f := by
 induction m with
 | zero =>
   intro f hf w o n t k p r a cap fs he
   rw [he, F.deep_app] at hf; simp only [F.deep] at hf; omega
 | succ m ih =>
   intro f hf w o n t k p r a cap fs he hs hfs hc hsz
   have hk : k.deep ≤ m := by rw [he, F.deep_app] at hf; simp only [F.deep] at hf; omega
   exact leads_step w o n t k (ih k hk) a cap fs hs hfs hc (by rw [he, F.size_app] at hsz; simp only [F.size] at hsz; omega)
end Go.Proofs.YtjcaiecapapceaaGreat.Wid

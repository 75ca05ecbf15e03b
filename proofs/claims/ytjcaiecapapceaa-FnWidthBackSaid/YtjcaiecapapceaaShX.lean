import Derived.Test.YtjcaiecapapceaaChP
import Derived.Test.YtjcaiecapapceaaOpX
/-
 Lists of layouts, and how they lie in memory; nothing here speaks of the program.
-/
set_option linter.unusedVariables false
set_option linter.unusedSimpArgs false
set_option maxRecDepth 100000
set_option maxHeartbeats 3200000
namespace Go.Proofs.Ytjcaiecapapceaa.Ls
open Go.RowKit P1
abbrev Lay := List (Int × ByteArray)
section
variable {P : Program}
end
end Go.Proofs.Ytjcaiecapapceaa.Ls
namespace Go.Proofs.Ytjcaiecapapceaa.ChS
open Go.RowKit P1 Cnt CntC Flat Wid ChP OpenR
def NumR (w : World) (x : Int) (e : Ending) (w' : World) : Prop := e = .returned (.int .i64 x) ∧ Below w.heap.size w w'
theorem cnt_leaf (o n : Int) (t : ByteArray) (w : World) (a : Option Addr) (L cap : Nat) (h6 : o ≠ 6) (h7 : o ≠ 7) (h8 : o ≠ 8) (b6 : (o == 6) = false) (b7 : (o == 7) = false) (b8 : (o == 8) = false) : Calls Try.prog 95 #[.agg #[.int .i64 o, .int .i64 n, .string t, .slice a L cap]] w (NumR w 1) := by
 have B1 := Lib.hid (show ∀ ob, Below w.heap.size w (w.alloc ob) from fun ob => (Below.refl _ _).alloc (Nat.le_refl _) _)
 go_enter Try.func95, Try.ntmps95
 go_wp2_with fail
 go_ret
 exact ⟨rfl, B1.out _⟩
theorem cnt_nest (n : Int) (t : ByteArray) (w : World) (b off cap : Nat) (o1 n1 : Int) (t1 : ByteArray) (l1 c1 : Nat) (a1 : Option Addr) (X : Int) (hb : b < w.heap.size) (hcap : 1 ≤ cap)
  (h0 : w.cell? ⟨b, off, none⟩ = some (.int .i64 o1)) (h1 : w.cell? ⟨b, off + 1, none⟩ = some (.int .i64 n1)) (h2 : w.cell? ⟨b, off + 2, none⟩ = some (.string t1)) (h3 : w.cell? ⟨b, off + 3, none⟩ = some (.slice a1 l1 c1))
  (hK : ∀ W, Below w.heap.size w W → Calls Try.prog 95 #[.agg #[.int .i64 o1, .int .i64 n1, .string t1, .slice a1 l1 c1]] W (NumR W X)) :
  Calls Try.prog 95 #[.agg #[.int .i64 6, .int .i64 n, .string t, .slice (some ⟨b, off, none⟩) 1 cap]] w (NumR w X) := by
 have B1 := Lib.hid (show ∀ ob, Below w.heap.size w (w.alloc ob) from fun ob => (Below.refl _ _).alloc (Nat.le_refl _) _)
 have HK := Lib.hid hK
 clear hK
 go_enter Try.func95, Try.ntmps95
 go_wp2_with fail
 refine (HK.out _ (B1.out _)).mono ?_
 rintro e1 w2 ⟨rfl, hb2⟩
 have H2 := Lib.hid ((B1.out _).trans (hb2.mono (B1.out _).size))
 clear hb2 h0 h1 h2 h3
 go_wp2_with fail
 go_ret
 exact ⟨rfl, H2.out⟩
theorem cnt_cat (n : Int) (t : ByteArray) (w : World) (b off cap : Nat) (o1 n1 : Int) (t1 : ByteArray) (l1 c1 : Nat) (a1 : Option Addr) (o2 n2 : Int) (t2 : ByteArray) (l2 c2 : Nat) (a2 : Option Addr) (X Y Z : Int) (hX0 : 0 ≤ X) (hY0 : 0 ≤ Y) (hX1 : X ≤ 100001) (hY1 : Y ≤ 100001) (hb : b < w.heap.size) (hcap : 2 ≤ cap)
  (h8 : Eight w b off o1 n1 t1 a1 l1 c1 o2 n2 t2 a2 l2 c2)
  (hK : ∀ W, Below w.heap.size w W → Calls Try.prog 95 #[.agg #[.int .i64 o1, .int .i64 n1, .string t1, .slice a1 l1 c1]] W (NumR W X))
  (hK2 : ∀ W, Below w.heap.size w W → Calls Try.prog 95 #[.agg #[.int .i64 o2, .int .i64 n2, .string t2, .slice a2 l2 c2]] W (NumR W Y))
  (hbig : 100000 < X ∨ 100000 < Y ∨ 100000 < X * Y → Z = 100001) (hsmall : X ≤ 100000 → Y ≤ 100000 → X * Y ≤ 100000 → Z = X * Y) :
  Calls Try.prog 95 #[.agg #[.int .i64 7, .int .i64 n, .string t, .slice (some ⟨b, off, none⟩) 2 cap]] w (NumR w Z) := by
 have B1 := Lib.hid (show ∀ ob, Below w.heap.size w (w.alloc ob) from fun ob => (Below.refl _ _).alloc (Nat.le_refl _) _)
 have HK := Lib.hid hK
 have HK2 := Lib.hid hK2
 obtain ⟨⟨x0, x1, x2, x3⟩, y0, y1, y2, y3⟩ := h8
 have HY := Lib.hid (And.intro y0 (And.intro y1 (And.intro y2 y3)))
 have HBIG := Lib.hid hbig
 have HSM := Lib.hid hsmall
 clear hK hK2 y0 y1 y2 y3 hbig hsmall
 go_enter Try.func95, Try.ntmps95
 go_wp2_with fail
 obtain ⟨W, hW, hbW, lW, lb, xx, xs, x4, x5, x6, x7⟩ := boxed_one (T := 25) 7 n t b off 2 cap hb x0 x1 x2 x3
 rw [hW]
 have HW := Lib.hid hbW
 clear hW hbW x0 x1 x2 x3 xx
 go_wp2_with fail
 refine (HK.out _ HW.out).mono ?_
 rintro e1 w2 ⟨rfl, hb2⟩
 have H2 := Lib.hid (HW.out.trans (hb2.mono HW.out.size))
 have xs2 := (hb2.cell (p := ⟨w.heap.size, 3, none⟩) lW).trans xs
 have lb2 : b < w2.heap.size := Nat.lt_of_lt_of_le lb hb2.size
 have z0 := (H2.out.cell (p := ⟨b, off + 4, none⟩) hb).trans HY.out.1
 have z1 := (H2.out.cell (p := ⟨b, off + 4 + 1, none⟩) hb).trans HY.out.2.1
 have z2 := (H2.out.cell (p := ⟨b, off + 4 + 2, none⟩) hb).trans HY.out.2.2.1
 have z3 := (H2.out.cell (p := ⟨b, off + 4 + 3, none⟩) hb).trans HY.out.2.2.2
 clear hb2 xs x4 x5 x6 x7 lW lb
 go_wp2_with fail
 refine (HK2.out _ H2.out).mono ?_
 rintro e2 w3 ⟨rfl, hb3⟩
 have H3 := Lib.hid (H2.out.trans (hb3.mono H2.out.size))
 clear hb3 xs2 z0 z1 z2 z3 lb2
 by_cases hx : 100000 < X
 ·have HZ := Lib.hid (HBIG.out (.inl hx))
  go_wp2_with fail
  go_ret
  exact ⟨by rw [HZ.out]; rfl, H3.out⟩
 ·by_cases hy : 100000 < Y
  ·have HZ := Lib.hid (HBIG.out (.inr (.inl hy)))
   go_wp2_with fail
   go_ret
   exact ⟨by rw [HZ.out]; rfl, H3.out⟩
  ·have hm0 : 0 ≤ X * Y := Int.mul_nonneg hX0 hY0
   have hm1 : X * Y ≤ 100000 * 100000 := Int.mul_le_mul (by omega) (by omega) hY0 (by omega)
   by_cases hz : 100000 < X * Y
   ·have HZ := Lib.hid (HBIG.out (.inr (.inr hz)))
    go_wp2_with fail
    go_ret
    exact ⟨by rw [HZ.out]; rfl, H3.out⟩
   ·have HZ := Lib.hid (HSM.out (by omega) (by omega) (by omega))
    go_wp2_with fail
    go_ret
    exact ⟨by rw [HZ.out]; rfl, H3.out⟩
theorem cnt_group (n : Int) (t : ByteArray) (w : World) (b off cap : Nat) (o1 n1 : Int) (t1 : ByteArray) (l1 c1 : Nat) (a1 : Option Addr) (X N Z : Int) (hX0 : 0 ≤ X) (hX1 : X ≤ 100001) (hb : b < w.heap.size) (hcap : 1 ≤ cap)
  (h0 : w.cell? ⟨b, off, none⟩ = some (.int .i64 o1)) (h1 : w.cell? ⟨b, off + 1, none⟩ = some (.int .i64 n1)) (h2 : w.cell? ⟨b, off + 2, none⟩ = some (.string t1)) (h3 : w.cell? ⟨b, off + 3, none⟩ = some (.slice a1 l1 c1))
  (hK : ∀ W, Below w.heap.size w W → Calls Try.prog 95 #[.agg #[.int .i64 o1, .int .i64 n1, .string t1, .slice a1 l1 c1]] W (NumR W X))
  (hO : ∀ W, Below w.heap.size w W → Calls Try.prog 68 #[.agg #[.int .i64 8, .int .i64 n, .string t, .slice (some ⟨b, off, none⟩) 1 cap], .int .i64 5] W (NumR W N))
  (hZ : Z = if N = 0 then min (X + 1) 100001 else X) :
  Calls Try.prog 95 #[.agg #[.int .i64 8, .int .i64 n, .string t, .slice (some ⟨b, off, none⟩) 1 cap]] w (NumR w Z) := by
 have B1 := Lib.hid (show ∀ ob, Below w.heap.size w (w.alloc ob) from fun ob => (Below.refl _ _).alloc (Nat.le_refl _) _)
 have HK := Lib.hid hK
 have HO := Lib.hid hO
 have HZ := Lib.hid hZ
 clear hK hO hZ
 go_enter Try.func95, Try.ntmps95
 go_wp2_with fail
 obtain ⟨W, hW, hbW, lW, lb, x1, xs, x4, x5, x6, x7⟩ := boxed_one (T := 25) 8 n t b off 1 cap hb h0 h1 h2 h3
 have x0 : W.cell? ⟨w.heap.size, 0, none⟩ = some (.int .i64 8) := by rw [← hW, World.cell?_alloc_new]; rfl
 have x2 : W.cell? ⟨w.heap.size, 2, none⟩ = some (.string t) := by rw [← hW, World.cell?_alloc_new]; rfl
 rw [hW]
 have HW := Lib.hid hbW
 clear hW hbW h0 h1 h2 h3
 go_wp2_with fail
 refine (HK.out _ HW.out).mono ?_
 rintro e1 w2 ⟨rfl, hb2⟩
 have H2 := Lib.hid (HW.out.trans (hb2.mono HW.out.size))
 have y0 := (hb2.cell (p := ⟨w.heap.size, 0, none⟩) lW).trans x0
 have y1 := (hb2.cell (p := ⟨w.heap.size, 1, none⟩) lW).trans x1
 have y2 := (hb2.cell (p := ⟨w.heap.size, 2, none⟩) lW).trans x2
 have y3 := (hb2.cell (p := ⟨w.heap.size, 3, none⟩) lW).trans xs
 have l2 : w.heap.size < w2.heap.size := Nat.lt_of_lt_of_le lW hb2.size
 clear hb2 x0 x1 x2 xs x4 x5 x6 x7 lW lb
 go_wp2_with fail
 refine (HO.out _ H2.out).mono ?_
 rintro e2 w3 ⟨rfl, hb3⟩
 have H3 := Lib.hid (H2.out.trans (hb3.mono H2.out.size))
 clear hb3 y0 y1 y2 y3 l2
 by_cases hn : N = 0
 ·subst hn
  by_cases hx : 100000 < X + 1
  ·have HR := Lib.hid (show Z = 100001 by rw [HZ.out, if_pos rfl]; omega)
   go_wp2_with fail
   go_ret
   exact ⟨by rw [HR.out]; rfl, H3.out⟩
  ·have HR := Lib.hid (show Z = X + 1 by rw [HZ.out, if_pos rfl]; omega)
   go_wp2_with fail
   go_ret
   exact ⟨by rw [HR.out]; rfl, H3.out⟩
 ·have hnb : (N == 0) = false := by rw [beq_eq_false_iff_ne]; exact hn
  by_cases hx : 100000 < X
  ·have HR := Lib.hid (show Z = 100001 by rw [HZ.out, if_neg hn]; omega)
   go_wp2_with fail
   go_ret
   exact ⟨by rw [HR.out]; rfl, H3.out⟩
  ·have HR := Lib.hid (show Z = X by rw [HZ.out, if_neg hn])
   go_wp2_with fail
   go_ret
   exact ⟨by rw [HR.out]; rfl, H3.out⟩
def mn (x : Nat) : Int := ((min x 100001 : Nat) : Int)
theorem mn_mul {a b : Nat} (ha : 0 < a) (hb : 0 < b) : (100000 < mn a ∨ 100000 < mn b ∨ 100000 < mn a * mn b → mn (a * b) = 100001) ∧ (mn a ≤ 100000 → mn b ≤ 100000 → mn a * mn b ≤ 100000 → mn (a * b) = mn a * mn b) := by
 have h1 : a ≤ a * b := Nat.le_mul_of_pos_right a hb
 have h2 : b ≤ a * b := Nat.le_mul_of_pos_left b ha
 have hle : a ≤ 100000 → b ≤ 100000 → mn a * mn b = ((a * b : Nat) : Int) := fun h h' => by
  unfold mn; rw [Nat.min_eq_left (by omega), Nat.min_eq_left (by omega)]; simp
 constructor
 ·intro h
  by_cases ha' : a ≤ 100000
  ·by_cases hb' : b ≤ 100000
   ·rw [hle ha' hb'] at h
    unfold mn at h ⊢
    omega
   ·unfold mn; omega
  ·unfold mn; omega
 ·intro h h' h3
  have ha' : a ≤ 100000 := by unfold mn at h; omega
  have hb' : b ≤ 100000 := by unfold mn at h'; omega
  rw [hle ha' hb'] at h3 ⊢
  unfold mn; omega
def cntS (d : Nat) : Prop := ∀ (o n : Int) (t : ByteArray) (k : F), okD d o n t k = true → k.size ≤ 4194304 → ∀ (w : World) (a : Option Addr) (cap : Nat) (fs : List Nat), SubAt w a k fs → (∀ c ∈ fs, c < w.heap.size) → k.len ≤ cap →
 Calls Try.prog 95 #[.agg #[.int .i64 o, .int .i64 n, .string t, .slice a k.len cap]] w (NumR w (mn (ctD o k)))
theorem cntS_all : ∀ d : Nat, cntS d := by
 intro d
 induction d with
 | zero => intro o n t k h; rw [okD_zero] at h; cases h
 | succ d ih =>
   intro o n t k h hsz w a cap fs hs hfs hc
   obtain ⟨hn, hk⟩ := okD_parts h
   rcases node_kinds hn with ⟨rfl, ht, hl⟩ | ⟨ho, rfl, hl⟩ | ⟨rfl, rfl, h0, h9, hl⟩ | ⟨rfl, rfl, hl⟩ | ⟨rfl, rfl, hl⟩
   ·rw [nil_of_len hl, ctD_leaf]
    exact cnt_leaf 2 n t w a _ cap (by decide) (by decide) (by decide) rfl rfl rfl
   ·obtain ⟨h6, h7, h8⟩ := leaf_ne ho
    have b8 : (o == 8) = false := beq_eq_false_iff_ne.2 h8
    rw [nil_of_len hl, ctD_leaf, b8]
    exact cnt_leaf o n _ w a _ cap h6 h7 h8 (beq_eq_false_iff_ne.2 h6) (beq_eq_false_iff_ne.2 h7) b8
   ·obtain ⟨o1, n1, t1, k1, rfl⟩ := one_kid hl
    rw [ok_cons, Bool.and_eq_true] at hk
    simp only [F.size] at hsz
    rcases hs with ⟨e, _⟩ | ⟨b, off, f', rfl, _, rfl, hr⟩
    ·cases e
    ·obtain ⟨a1, c1, f1, f2, q0, q1, q2, q3, q4, q5, _, rfl⟩ := RowAt.cons_iff.1 hr
     rw [ctD_other (by omega), ctF_one]
     exact cnt_nest n _ w b off cap o1 n1 t1 k1.len c1 a1 _ (hfs b (by simp)) hc q0 q1 q2 q3 (fun W hW => ih _ _ _ _ hk.1 (by omega) W a1 c1 f1 (q5.below (fun c hc => hfs c (by simp [hc])) hW) (fun c hc => Nat.lt_of_lt_of_le (hfs c (by simp [hc])) hW.size) q4)
   ·obtain ⟨o1, n1, t1, k1, o2, n2, t2, k2, rfl⟩ := two_kids hl
    rw [ok_cons, ok_cons, Bool.and_eq_true, Bool.and_eq_true] at hk
    simp only [F.size] at hsz
    rcases hs with ⟨e, _⟩ | ⟨b, off, f', rfl, _, rfl, hr⟩
    ·cases e
    ·obtain ⟨a1, c1, f1, f2, q0, q1, q2, q3, q4, q5, q6, rfl⟩ := RowAt.cons_iff.1 hr
     obtain ⟨a2, c2, g1, g2, p0, p1, p2, p3, p4, p5, _, rfl⟩ := RowAt.cons_iff.1 q6
     rw [ctD_other (by omega), ctF_cons, ctF_one]
     have hm := mn_mul (ctD_pos o1 k1) (ctD_pos o2 k2)
     exact cnt_cat n _ w b off cap o1 n1 t1 k1.len c1 a1 o2 n2 t2 k2.len c2 a2 (mn (ctD o1 k1)) (mn (ctD o2 k2)) _ (by unfold mn; omega) (by unfold mn; omega) (by unfold mn; omega) (by unfold mn; omega) (hfs b (by simp)) hc ⟨⟨q0, q1, q2, q3⟩, p0, p1, p2, p3⟩
      (fun W hW => ih _ _ _ _ hk.1 (by omega) W a1 c1 f1 (q5.below (fun c hc => hfs c (by simp [hc])) hW) (fun c hc => Nat.lt_of_lt_of_le (hfs c (by simp [hc])) hW.size) q4)
      (fun W hW => ih _ _ _ _ hk.2.1 (by omega) W a2 c2 g1 (p5.below (fun c hc => hfs c (by simp [hc])) hW) (fun c hc => Nat.lt_of_lt_of_le (hfs c (by simp [hc])) hW.size) p4) hm.1 hm.2
   ·obtain ⟨o1, n1, t1, k1, rfl⟩ := one_kid hl
    rw [ok_cons, Bool.and_eq_true] at hk
    have hsz' := hsz
    simp only [F.size] at hsz'
    have hsub := hs
    rcases hs with ⟨e, _⟩ | ⟨b, off, f', rfl, _, rfl, hr⟩
    ·cases e
    ·obtain ⟨a1, c1, f1, f2, q0, q1, q2, q3, q4, q5, _, rfl⟩ := RowAt.cons_iff.1 hr
     refine cnt_group n _ w b off cap o1 n1 t1 k1.len c1 a1 (mn (ctD o1 k1)) ((opsD 5 8 (.cons o1 n1 t1 k1 .nil) : Nat) : Int) _ (by unfold mn; omega) (by unfold mn; omega) (hfs b (by simp)) hc q0 q1 q2 q3 (fun W hW => ih _ _ _ _ hk.1 (by omega) W a1 c1 f1 (q5.below (fun c hc => hfs c (by simp [hc])) hW) (fun c hc => Nat.lt_of_lt_of_le (hfs c (by simp [hc])) hW.size) q4)
      (fun W hW => specCountOps 5 W 8 n _ (.cons o1 n1 t1 k1 .nil) _ cap _ (hsub.below hfs hW) (fun c hc => Nat.lt_of_lt_of_le (hfs c hc) hW.size) hc hsz) ?_
     have e := noD_ops 8 (.cons o1 n1 t1 k1 .nil)
     have e8 : noD 8 (.cons o1 n1 t1 k1 .nil) = noF (.cons o1 n1 t1 k1 .nil) := by simp [noD]
     rw [e8] at e
     rw [ctD_group, ctF_one]
     by_cases h5 : opsD 5 8 (.cons o1 n1 t1 k1 .nil) = 0
     ·rw [e, h5]; simp only [decide_true, if_true]; unfold mn; simp; omega
     ·rw [e]; simp only [h5, decide_false, Bool.false_eq_true, if_false]
      rw [if_neg (by omega)]
theorem valid_open' {o n : Int} {t : ByteArray} {k : F} (h : validD o n t k = true) : okD 40 o n t k = true ∧ 1 + k.cnt ≤ 80 := by simpa [validD] using h
theorem specCount (w : World) (o n : Int) (t : ByteArray) (k : F) (a : Option Addr) (cap : Nat) (fs : List Nat) (hv : validD o n t k = true) (hs : SubAt w a k fs) (hfs : ∀ c ∈ fs, c < w.heap.size) (hc : k.len ≤ cap) (hsz : k.size ≤ 4194304) :
  Calls Try.prog 95 #[.agg #[.int .i64 o, .int .i64 n, .string t, .slice a k.len cap]] w (NumR w (mn (ctD o k))) :=
 cntS_all 40 o n t k (valid_open' hv).1 hsz w a cap fs hs hfs hc
end Go.Proofs.Ytjcaiecapapceaa.ChS

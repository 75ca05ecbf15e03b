import Derived.Test.YtjcaiecapapceaaNfD
/-
 DropGroups as a plain function; nothing here speaks of the program.
-/
set_option linter.unusedVariables false
set_option linter.unusedSimpArgs false
set_option maxRecDepth 100000
set_option maxHeartbeats 3200000
namespace Go.Proofs.Ytjcaiecapapceaa.Nf
open P1
theorem gr_keep (o n : Int) (t : ByteArray) (k : F) (h : niceD (o, n, t, k) = true) : niceD (grR o n t k) = true ∧ (grR o n t k).2.2.2.cnt ≤ k.cnt := by
 unfold grR
 split
 ·rename_i hq
  obtain ⟨a, rfl⟩ := kids_one h (Or.inr hq.1)
  have hn := (nice_kids h).2
  rw [nice_consD, Bool.and_eq_true] at hn
  exact ⟨hn.1, by show a.2.2.2.cnt ≤ 1 + a.2.2.2.cnt + 0; omega⟩
 ·exact ⟨h, Nat.le_refl _⟩
theorem cntF_consD (m : Int → Bool) (d : D) (r : F) : cntF m (consD d r) = (if m d.1 then 1 else 0) + cntF m d.2.2.2 + cntF m r := rfl
theorem gr_cnt (m : Int → Bool) (h8 : m 8 = false) : ∀ f : F, nice f = true → cntF m (chL grR f) = cntF m f := by
 intro f
 induction f with
 | nil => intro _; rfl
 | cons o n t k r ihk ihr =>
   intro h
   have hD : niceD (o, n, t, k) = true := by simp only [nice, Bool.and_eq_true] at h; exact Bool.and_eq_true_iff.2 h.1
   have hr : nice r = true := by simp only [nice, Bool.and_eq_true] at h; exact h.2
   have hk := ihk (nice_kids hD).2
   rw [chL, cntF_consD, ihr hr]
   show _ = (if m o then 1 else 0) + cntF m k + cntF m r
   obtain ⟨K, hK⟩ : ∃ K, chL grR k = K := ⟨_, rfl⟩
   rw [hK] at hk ⊢
   unfold grR
   split
   ·rename_i hq
    obtain ⟨a, ha⟩ := kids_one hD (Or.inr hq.1)
    have e : ∃ b, K = consD b .nil := ⟨grR a.1 a.2.1 a.2.2.1 (chL grR a.2.2.2), by rw [← hK, ha]; rfl⟩
    obtain ⟨b, rfl⟩ := e
    rw [cntF_consD] at hk
    rw [hd_consD]
    have h0 : cntF m .nil = 0 := rfl
    rw [h0] at hk
    rw [show m o = false by rw [hq.1]; exact h8]
    simp only [Bool.false_eq_true, if_false]
    omega
   ·show (if m o then 1 else 0) + cntF m K + _ = _
    rw [hk]
theorem gr_nl (f : F) (h : nice f = true) : nlF (chL grR f) = nlF f := gr_cnt _ (by decide) f h
theorem gr_hr (f : F) (h : nice f = true) : hrF (chL grR f) = hrF f := gr_cnt _ (by decide) f h
theorem nl_sum : ∀ f : F, nlF f = cntF (fun x => x == 3) f + cntF (fun x => x == 4) f + cntF (fun x => x == 5) f := by
 intro f
 induction f with
 | nil => rfl
 | cons o n t k r ihk ihr =>
   unfold nlF at ihk ihr ⊢
   simp only [cntF, ihk, ihr]
   by_cases h3 : o = 3
   ·subst h3; simp; omega
   ·by_cases h4 : o = 4
    ·subst h4; simp; omega
    ·by_cases h5 : o = 5
     ·subst h5; simp; omega
     ·simp [h3, h4, h5]; omega
theorem nl_le (f : F) : nlF f ≤ f.size := cntF_le _ f
theorem hr_le (f : F) : hrF f ≤ f.size := cntF_le _ f
end Go.Proofs.Ytjcaiecapapceaa.Nf
namespace Go.Proofs.Ytjcaiecapapceaa.Nf
open Go.RowKit P1 Copy CatD
theorem nl_pred (w : World) : OpPred Try.prog 98 #[] (fun x => x == 3 || x == 4 || x == 5) w := by
 refine ⟨enters_of Try.func98 (by kernel_rfl) rfl, fun W x _ => ?_⟩
 show Calls Try.prog 98 #[.int .i64 x] W fun e w' => e = .returned (.bool (x == 3 || x == 4 || x == 5)) ∧ w' = W
 by_cases h : x = 3 ∨ x = 4 ∨ x = 5
 ·rw [show (x == 3 || x == 4 || x == 5) = true by rcases h with rfl | rfl | rfl <;> rfl]
  exact isNew_yes W x h
 ·rw [show (x == 3 || x == 4 || x == 5) = false by simp; omega]
  exact isNew_no W x (by omega) (by omega) (by omega)
theorem nl_group (n : Int) (t : ByteArray) (k : F) : cntF (fun x => x == 3 || x == 4 || x == 5) (.cons 8 n t k .nil) = nlF k := by
 simp [cntF, nlF]
theorem hr_group (k : F) : CntC.opsD 5 8 k = hrF k := by
 simp [CntC.opsD, cntF, hrF]
abbrev Four4 (b off : Nat) (u0 u1 u2 u3 : Value) (w : World) : Prop := w.cell? ⟨b, off, none⟩ = some u0 ∧ w.cell? ⟨b, off + 1, none⟩ = some u1 ∧ w.cell? ⟨b, off + 2, none⟩ = some u2 ∧ w.cell? ⟨b, off + 3, none⟩ = some u3
theorem Four4.below {b off : Nat} {u0 u1 u2 u3 : Value} {W w' : World} (h : Four4 b off u0 u1 u2 u3 W) {B : Nat} (k : Below B W w') (hb : b < B) : Four4 b off u0 u1 u2 u3 w' := by
 obtain ⟨h0, h1, h2, h3⟩ := h
 exact ⟨(k.cell (p := ⟨_, _, _⟩) hb).trans h0, (k.cell (p := ⟨_, _, _⟩) hb).trans h1, (k.cell (p := ⟨_, _, _⟩) hb).trans h2, (k.cell (p := ⟨_, _, _⟩) hb).trans h3⟩
theorem gm_a (w : World) (n : Int) (t : ByteArray) (o1 n1 : Int) (t1 : ByteArray) (k1 : F) (a : Option Addr) (cap : Nat) (fs : List Nat) (hs : SubAt w a (.cons o1 n1 t1 k1 .nil) fs) (hfs : ∀ c ∈ fs, c < w.heap.size ∧ ∀ o, w.frozen? ⟨c, o, none⟩ = false) (hc : 1 ≤ cap) (hsz : (F.cons o1 n1 t1 k1 .nil).size ≤ 2097152) (h1 : o1 = 8) :
  Calls Try.prog 110 #[.agg #[.int .i64 8, .int .i64 n, .string t, .slice a 1 cap]] w fun e w' => e = .returned (.bool false) ∧ Below w.heap.size w w' := by
 have hdv : DocV w (8, n, t, .cons o1 n1 t1 k1 .nil) [.int .i64 8, .int .i64 n, .string t, .slice a 1 cap] := ⟨a, cap, fs, rfl, hc, hs, hfs, hsz⟩
 rcases hs with ⟨h, _⟩ | ⟨b, off, f', rfl, _, rfl, hrow⟩
 ·cases h
 have hb : b < w.heap.size := (hfs b (by simp)).1
 obtain ⟨a1, c1, f1, c0, c1', c2, c3, hc1, hsub1, hin⟩ := row_at (p := .nil) hrow
 simp only [F.len, Nat.zero_mul, Nat.add_zero] at c0 c1' c2 c3
 have q1 : (o1 != 8) = false := by rw [h1]; rfl
 have q2 : (o1 == 8) = true := by rw [h1]; rfl
 clear hdv hrow hfs hsub1 hin hc1 c1' c2 c3 hsz
 go_enter Try.func110, Try.ntmps110
 go_wp2_with fail
 go_ret
 exact ⟨rfl, (Ext.refl w).alloc _⟩
theorem gm_b (w : World) (n : Int) (t : ByteArray) (o1 n1 : Int) (t1 : ByteArray) (k1 : F) (a : Option Addr) (cap : Nat) (fs : List Nat) (hs : SubAt w a (.cons o1 n1 t1 k1 .nil) fs) (hfs : ∀ c ∈ fs, c < w.heap.size ∧ ∀ o, w.frozen? ⟨c, o, none⟩ = false) (hc : 1 ≤ cap) (hsz : (F.cons o1 n1 t1 k1 .nil).size ≤ 2097152) (h1 : o1 ≠ 8) (h2 : nlF (.cons o1 n1 t1 k1 .nil) = 0) :
  Calls Try.prog 110 #[.agg #[.int .i64 8, .int .i64 n, .string t, .slice a 1 cap]] w fun e w' => e = .returned (.bool false) ∧ Below w.heap.size w w' := by
 have hdv : DocV w (8, n, t, .cons o1 n1 t1 k1 .nil) [.int .i64 8, .int .i64 n, .string t, .slice a 1 cap] := ⟨a, cap, fs, rfl, hc, hs, hfs, hsz⟩
 rcases hs with ⟨h, _⟩ | ⟨b, off, f', rfl, _, rfl, hrow⟩
 ·cases h
 have hb : b < w.heap.size := (hfs b (by simp)).1
 obtain ⟨a1, c1, f1, c0, c1', c2, c3, hc1, hsub1, hin⟩ := row_at (p := .nil) hrow
 simp only [F.len, Nat.zero_mul, Nat.add_zero] at c0 c1' c2 c3
 have hcn := fun (W : World) (e : Ext w W) => CntN.countNodes W (8, n, t, .cons o1 n1 t1 k1 .nil) _ (hdv.later e) 98 #[] (fun x => x == 3 || x == 4 || x == 5) (nl_pred W)
 rw [show cntF (fun x => x == 3 || x == 4 || x == 5) (.cons 8 n t (.cons o1 n1 t1 k1 .nil) .nil) = nlF (.cons o1 n1 t1 k1 .nil) from nl_group _ _ _] at hcn
 have hB := Lib.hid (fun (o : Nat) => show ((w.alloc (.cells #[.int .i64 8, .int .i64 n, .string t, .slice (some ⟨b, off, none⟩) 1 cap] 25)).cell? ⟨w.heap.size, o, none⟩ = (#[Value.int .i64 8, .int .i64 n, .string t, .slice (some ⟨b, off, none⟩) 1 cap] : Array Value)[o]?) from World.cell?_alloc_new _ _ _ _)
 obtain ⟨N, hN⟩ : ∃ N, nlF (.cons o1 n1 t1 k1 .nil) = N := ⟨_, rfl⟩
 rw [h2] at hN
 subst hN
 rw [h2, show ((0 : Nat) : Int) = 0 from rfl] at hcn
 have HCN := Lib.hid hcn
 have q1 : (o1 != 8) = true := by simpa using h1
 have q2 : (o1 == 8) = false := by rw [beq_eq_false_iff_ne]; exact h1
 clear hcn h2
 clear hdv hrow hfs hsub1 hin hc1 c1' c2 c3 hsz
 go_enter Try.func110, Try.ntmps110
 go_wp2_with (first
  | (go_at_call 46; refine (HCN.out _ (by exact (Ext.refl w).alloc _)).mono ?_; rintro e1 w1 ⟨rfl, hb1⟩; have E1 := Lib.hid (show Ext w w1 from ((Ext.refl w).alloc _).trans hb1); have l1 : w.heap.size < w1.heap.size := (by have := Ext.size hb1; simp at this; omega); have y0 := (hb1.cell (c := w.heap.size) (o := 0) (by simp)).trans (hB.out 0); have y1 := (hb1.cell (c := w.heap.size) (o := 1) (by simp)).trans (hB.out 1); have y2 := (hb1.cell (c := w.heap.size) (o := 2) (by simp)).trans (hB.out 2); have y3 := (hb1.cell (c := w.heap.size) (o := 3) (by simp)).trans (hB.out 3); simp at y0 y1 y2 y3; clear hb1)
  | fail)
 go_ret
 exact ⟨rfl, E1.out⟩
theorem gm_c (w : World) (n : Int) (t : ByteArray) (o1 n1 : Int) (t1 : ByteArray) (k1 : F) (a : Option Addr) (cap : Nat) (fs : List Nat) (hs : SubAt w a (.cons o1 n1 t1 k1 .nil) fs) (hfs : ∀ c ∈ fs, c < w.heap.size ∧ ∀ o, w.frozen? ⟨c, o, none⟩ = false) (hc : 1 ≤ cap) (hsz : (F.cons o1 n1 t1 k1 .nil).size ≤ 2097152) (h1 : o1 ≠ 8) (h2 : 0 < nlF (.cons o1 n1 t1 k1 .nil)) (h3 : 0 < hrF (.cons o1 n1 t1 k1 .nil)) :
  Calls Try.prog 110 #[.agg #[.int .i64 8, .int .i64 n, .string t, .slice a 1 cap]] w fun e w' => e = .returned (.bool false) ∧ Below w.heap.size w w' := by
 have hdv : DocV w (8, n, t, .cons o1 n1 t1 k1 .nil) [.int .i64 8, .int .i64 n, .string t, .slice a 1 cap] := ⟨a, cap, fs, rfl, hc, hs, hfs, hsz⟩
 rcases hs with ⟨h, _⟩ | ⟨b, off, f', rfl, _, rfl, hrow⟩
 ·cases h
 have hb : b < w.heap.size := (hfs b (by simp)).1
 obtain ⟨a1, c1, f1, c0, c1', c2, c3, hc1, hsub1, hin⟩ := row_at (p := .nil) hrow
 simp only [F.len, Nat.zero_mul, Nat.add_zero] at c0 c1' c2 c3
 have hcn := fun (W : World) (e : Ext w W) => CntN.countNodes W (8, n, t, .cons o1 n1 t1 k1 .nil) _ (hdv.later e) 98 #[] (fun x => x == 3 || x == 4 || x == 5) (nl_pred W)
 rw [show cntF (fun x => x == 3 || x == 4 || x == 5) (.cons 8 n t (.cons o1 n1 t1 k1 .nil) .nil) = nlF (.cons o1 n1 t1 k1 .nil) from nl_group _ _ _] at hcn
 have hB := Lib.hid (fun (o : Nat) => show ((w.alloc (.cells #[.int .i64 8, .int .i64 n, .string t, .slice (some ⟨b, off, none⟩) 1 cap] 25)).cell? ⟨w.heap.size, o, none⟩ = (#[Value.int .i64 8, .int .i64 n, .string t, .slice (some ⟨b, off, none⟩) 1 cap] : Array Value)[o]?) from World.cell?_alloc_new _ _ _ _)
 obtain ⟨N, hN⟩ : ∃ N, nlF (.cons o1 n1 t1 k1 .nil) = N := ⟨_, rfl⟩
 have hco := fun (W : World) (e : Ext w W) => CntC.countOps W (8, n, t, .cons o1 n1 t1 k1 .nil) _ 5 (hdv.later e)
 rw [show CntC.opsD 5 ((8, n, t, .cons o1 n1 t1 k1 .nil) : D).1 ((8, n, t, .cons o1 n1 t1 k1 .nil) : D).2.2.2 = hrF (.cons o1 n1 t1 k1 .nil) from hr_group _] at hco
 obtain ⟨M, hM⟩ : ∃ M, hrF (.cons o1 n1 t1 k1 .nil) = M := ⟨_, rfl⟩
 rw [hN] at hcn h2
 rw [hM] at hco h3
 have HCN := Lib.hid hcn
 have HCO := Lib.hid hco
 have q1 : (o1 != 8) = true := by simpa using h1
 have q2 : (o1 == 8) = false := by rw [beq_eq_false_iff_ne]; exact h1
 have i1 : (0 : Int) < (N : Int) := by omega
 have i2 : ((M : Int) == 0) = false := by rw [beq_eq_false_iff_ne]; omega
 clear hcn hco hN hM h2 h3
 clear hdv hrow hfs hsub1 hin hc1 c1' c2 c3 hsz
 go_enter Try.func110, Try.ntmps110
 go_wp2_with (first
  | (go_at_call 46; refine (HCN.out _ (by exact (Ext.refl w).alloc _)).mono ?_; rintro e1 w1 ⟨rfl, hb1⟩; have E1 := Lib.hid (show Ext w w1 from ((Ext.refl w).alloc _).trans hb1); have l1 : w.heap.size < w1.heap.size := (by have := Ext.size hb1; simp at this; omega); have y0 := (hb1.cell (c := w.heap.size) (o := 0) (by simp)).trans (hB.out 0); have y1 := (hb1.cell (c := w.heap.size) (o := 1) (by simp)).trans (hB.out 1); have y2 := (hb1.cell (c := w.heap.size) (o := 2) (by simp)).trans (hB.out 2); have y3 := (hb1.cell (c := w.heap.size) (o := 3) (by simp)).trans (hB.out 3); simp at y0 y1 y2 y3; clear hb1)
  | (go_at_call 23; refine (HCO.out _ E1.out).mono ?_; rintro e1 w2 ⟨rfl, hb2⟩; have E2 := Lib.hid (E1.out.trans hb2); clear hb2))
 go_ret
 exact ⟨rfl, E2.out⟩
theorem gm_d (w : World) (n : Int) (t : ByteArray) (o1 n1 : Int) (t1 : ByteArray) (k1 : F) (a : Option Addr) (cap : Nat) (fs : List Nat) (hs : SubAt w a (.cons o1 n1 t1 k1 .nil) fs) (hfs : ∀ c ∈ fs, c < w.heap.size ∧ ∀ o, w.frozen? ⟨c, o, none⟩ = false) (hc : 1 ≤ cap) (hsz : (F.cons o1 n1 t1 k1 .nil).size ≤ 2097152) (h1 : o1 ≠ 8) (h2 : 0 < nlF (.cons o1 n1 t1 k1 .nil)) (h3 : hrF (.cons o1 n1 t1 k1 .nil) = 0) :
  Calls Try.prog 110 #[.agg #[.int .i64 8, .int .i64 n, .string t, .slice a 1 cap]] w fun e w' => e = .returned (.bool true) ∧ Below w.heap.size w w' := by
 have hdv : DocV w (8, n, t, .cons o1 n1 t1 k1 .nil) [.int .i64 8, .int .i64 n, .string t, .slice a 1 cap] := ⟨a, cap, fs, rfl, hc, hs, hfs, hsz⟩
 rcases hs with ⟨h, _⟩ | ⟨b, off, f', rfl, _, rfl, hrow⟩
 ·cases h
 have hb : b < w.heap.size := (hfs b (by simp)).1
 obtain ⟨a1, c1, f1, c0, c1', c2, c3, hc1, hsub1, hin⟩ := row_at (p := .nil) hrow
 simp only [F.len, Nat.zero_mul, Nat.add_zero] at c0 c1' c2 c3
 have hcn := fun (W : World) (e : Ext w W) => CntN.countNodes W (8, n, t, .cons o1 n1 t1 k1 .nil) _ (hdv.later e) 98 #[] (fun x => x == 3 || x == 4 || x == 5) (nl_pred W)
 rw [show cntF (fun x => x == 3 || x == 4 || x == 5) (.cons 8 n t (.cons o1 n1 t1 k1 .nil) .nil) = nlF (.cons o1 n1 t1 k1 .nil) from nl_group _ _ _] at hcn
 have hB := Lib.hid (fun (o : Nat) => show ((w.alloc (.cells #[.int .i64 8, .int .i64 n, .string t, .slice (some ⟨b, off, none⟩) 1 cap] 25)).cell? ⟨w.heap.size, o, none⟩ = (#[Value.int .i64 8, .int .i64 n, .string t, .slice (some ⟨b, off, none⟩) 1 cap] : Array Value)[o]?) from World.cell?_alloc_new _ _ _ _)
 obtain ⟨N, hN⟩ : ∃ N, nlF (.cons o1 n1 t1 k1 .nil) = N := ⟨_, rfl⟩
 have hco := fun (W : World) (e : Ext w W) => CntC.countOps W (8, n, t, .cons o1 n1 t1 k1 .nil) _ 5 (hdv.later e)
 rw [show CntC.opsD 5 ((8, n, t, .cons o1 n1 t1 k1 .nil) : D).1 ((8, n, t, .cons o1 n1 t1 k1 .nil) : D).2.2.2 = hrF (.cons o1 n1 t1 k1 .nil) from hr_group _] at hco
 obtain ⟨M, hM⟩ : ∃ M, hrF (.cons o1 n1 t1 k1 .nil) = M := ⟨_, rfl⟩
 rw [hN] at hcn h2
 rw [hM] at hco h3
 have HCN := Lib.hid hcn
 subst h3
 rw [show ((0 : Nat) : Int) = 0 from rfl] at hco
 have HCO := Lib.hid hco
 have q1 : (o1 != 8) = true := by simpa using h1
 have q2 : (o1 == 8) = false := by rw [beq_eq_false_iff_ne]; exact h1
 have i1 : (0 : Int) < (N : Int) := by omega
 clear hcn hco hN hM h2
 clear hdv hrow hfs hsub1 hin hc1 c1' c2 c3 hsz
 go_enter Try.func110, Try.ntmps110
 go_wp2_with (first
  | (go_at_call 46; refine (HCN.out _ (by exact (Ext.refl w).alloc _)).mono ?_; rintro e1 w1 ⟨rfl, hb1⟩; have E1 := Lib.hid (show Ext w w1 from ((Ext.refl w).alloc _).trans hb1); have l1 : w.heap.size < w1.heap.size := (by have := Ext.size hb1; simp at this; omega); have y0 := (hb1.cell (c := w.heap.size) (o := 0) (by simp)).trans (hB.out 0); have y1 := (hb1.cell (c := w.heap.size) (o := 1) (by simp)).trans (hB.out 1); have y2 := (hb1.cell (c := w.heap.size) (o := 2) (by simp)).trans (hB.out 2); have y3 := (hb1.cell (c := w.heap.size) (o := 3) (by simp)).trans (hB.out 3); simp at y0 y1 y2 y3; clear hb1)
  | (go_at_call 23; refine (HCO.out _ E1.out).mono ?_; rintro e1 w2 ⟨rfl, hb2⟩; have E2 := Lib.hid (E1.out.trans hb2); clear hb2))
 go_ret
 exact ⟨rfl, E2.out⟩
theorem wg_vars (w : World) (u0 u1 u2 u3 : Value) {b off : Nat} {v0 v1 v2 v3 : Value} (hb : b < w.heap.size) (h : Four4 b off v0 v1 v2 v3 w) {w1 : World} (k : Ext ((w.alloc (.cells #[u0, u1, u2, u3] 25)).alloc (.cells #[.int .i64 0, .int .i64 0, .string ⟨#[]⟩, .slice none 0 0] 25)) w1) :
  Four w.heap.size u0 u1 u2 u3 w1 ∧ ZBox w1 (w.heap.size + 1) ∧ Four4 b off v0 v1 v2 v3 w1 ∧ Ext w w1 := by
 have h1 : Four w.heap.size u0 u1 u2 u3 (w.alloc (.cells #[u0, u1, u2, u3] 25)) := by
  refine ⟨?_, ?_, ?_, ?_⟩ <;> (rw [World.cell?_alloc_new]; rfl)
 have e : Ext w w1 := Ext.trans (((Ext.refl w).alloc _).alloc _) k
 exact ⟨(h1.below ((Below.refl _ _).alloc (Nat.le_refl _) _) (by simp)).below k (by simp; omega), (zbox_second w _ _).ext k, h.below e hb, e⟩
theorem wg_group (lo : Nat) (W : World) (n : Int) (t : ByteArray) (o1 n1 : Int) (t1 : ByteArray) (k1 : F) (v : Bool) (hgm : ∀ (W1 : World) (a : Option Addr) (cap : Nat) (fs : List Nat), SubAt W1 a (.cons o1 n1 t1 k1 .nil) fs → (∀ c ∈ fs, c < W1.heap.size ∧ ∀ o, W1.frozen? ⟨c, o, none⟩ = false) → 1 ≤ cap → Calls Try.prog 110 #[.agg #[.int .i64 8, .int .i64 n, .string t, .slice a 1 cap]] W1 fun e w' => e = .returned (.bool v) ∧ Below W1.heap.size W1 w')
  (a : Option Addr) (cap : Nat) (fs : List Nat) (hs : SubAt W a (.cons o1 n1 t1 k1 .nil) fs) (hF : Fresh lo W fs) (hc : 1 ≤ cap) :
  Calls Try.prog 75 #[.agg #[.int .i64 8, .int .i64 n, .string t, .slice a 1 cap]] W (RuleOut lo W (if v then (8, n, t, .cons o1 n1 t1 k1 .nil) else (o1, n1, t1, k1))) := by
 have hgc := fun (W1 : World) (e : Ext W W1) => hgm W1 a cap fs (e.sub hs hF.lt) (fun c hc => ⟨Nat.lt_of_lt_of_le (hF.lt c hc) e.size, fun o => by rw [e.frozen (hF.lt c hc)]; exact (hF.2 c hc).2.2 o⟩) hc
 have HS0 := Lib.hid (And.intro hs hF)
 obtain ⟨b, off, f', rfl, hb, hrow, hF'⟩ := sub_row hs hF
 obtain ⟨a1, c1, f1, f2, x0, x1, x2, x3, x4, hs1, hF1, hr2, hF2⟩ := row_first hrow hF'
 obtain ⟨L1, hL1⟩ : ∃ L, k1.len = L := ⟨_, rfl⟩
 rw [hL1] at x3
 have HV := Lib.hid (fun (w1 : World) k => wg_vars W (.int .i64 8) (.int .i64 n) (.string t) (.slice (some ⟨b, off, none⟩) 1 cap) hb (show Four4 b off _ _ _ _ W from ⟨x0, x1, x2, x3⟩) (w1 := w1) k)
 have HQ := Lib.hid (And.intro hs1 (And.intro hF1 (And.intro x4 hL1)))
 have HG := Lib.hid hgc
 clear hs hF hrow hF' hs1 hF1 hr2 hF2 x4 hL1 x0 x1 x2 x3 hgc hgm
 cases v with
 | true =>
   go_enter Try.func75, Try.ntmps75
   go_wp2_with (go_at_call 110; refine (HG.out _ (by exact ((Ext.refl W).alloc _).alloc _)).mono ?_; rintro e1 w1 ⟨rfl, hb1⟩; obtain ⟨⟨y0, y1, y2, y3⟩, ⟨⟨z0, z1, z2, z3⟩, ⟨z4, z5, z6, z7⟩, z8⟩, ⟨x0, x1, x2, x3⟩, e1⟩ := HV.out _ hb1; have E1 := Lib.hid e1; have hl0 : W.heap.size < w1.heap.size := (by omega); clear hb1 e1)
   refine bodyPost_ret (v := .agg #[.int .i64 8, .int .i64 n, .string t, .slice (some ⟨b, off, none⟩) 1 cap]) (by simp [results, Try.results75, go_sem, z0, z1, z2, z3, z4, z5, z6, z7, z8]) rfl ?_
   exact rule_end (d := (8, n, t, .cons o1 n1 t1 k1 .nil)) (by refine Below.setCell (Below.setCell (Below.setCell (Below.setCell E1.out ?_ _) ?_ _) ?_ _) ?_ _ <;> simp) HS0.out.1 HS0.out.2 hc
 | false =>
   go_enter Try.func75, Try.ntmps75
   go_wp2_with (go_at_call 110; refine (HG.out _ (by exact ((Ext.refl W).alloc _).alloc _)).mono ?_; rintro e1 w1 ⟨rfl, hb1⟩; obtain ⟨⟨y0, y1, y2, y3⟩, ⟨⟨z0, z1, z2, z3⟩, ⟨z4, z5, z6, z7⟩, z8⟩, ⟨x0, x1, x2, x3⟩, e1⟩ := HV.out _ hb1; have E1 := Lib.hid e1; have hl0 : W.heap.size < w1.heap.size := (by omega); clear hb1 e1)
   refine bodyPost_ret (v := .agg #[.int .i64 o1, .int .i64 n1, .string t1, .slice a1 L1 c1]) (by simp [results, Try.results75, go_sem, z0, z1, z2, z3, z4, z5, z6, z7, z8]) rfl ?_
   obtain ⟨hs1, hF1, x4, hL1⟩ := HQ.out
   rw [← hL1]
   exact rule_end (d := (o1, n1, t1, k1)) (by refine Below.setCell (Below.setCell (Below.setCell (Below.setCell E1.out ?_ _) ?_ _) ?_ _) ?_ _ <;> simp) hs1 hF1 x4
theorem wg_other (lo : Nat) (W : World) (o n : Int) (t : ByteArray) (k : F) (h8 : o ≠ 8) (a : Option Addr) (cap : Nat) (fs : List Nat) (hs : SubAt W a k fs) (hF : Fresh lo W fs) (hc : k.len ≤ cap) :
  Calls Try.prog 75 #[.agg #[.int .i64 o, .int .i64 n, .string t, .slice a k.len cap]] W (RuleOut lo W (o, n, t, k)) := by
 obtain ⟨L, hL⟩ : ∃ L, k.len = L := ⟨_, rfl⟩
 have HQ := Lib.hid (And.intro hs (And.intro hF (And.intro hc hL)))
 rw [hL]
 clear hs hF hc hL
 have q8 : (o == 8) = false := by rw [beq_eq_false_iff_ne]; exact h8
 go_enter Try.func75, Try.ntmps75
 go_wp2_with fail
 refine bodyPost_ret (v := .agg #[.int .i64 o, .int .i64 n, .string t, .slice a L cap]) (by simp [results, Try.results75, go_sem]) rfl ?_
 obtain ⟨hs, hF, hc, hL⟩ := HQ.out
 rw [← hL]
 exact rule_end (d := (o, n, t, k)) (by repeat (first | exact Below.refl _ _ | refine Below.alloc ?_ (by simp) _ | refine Below.setCell ?_ (by simp) _)) hs hF hc
theorem gr_fn : RuleFn 75 #[] grR := by
 refine ⟨enters_of Try.func75 (by kernel_rfl) rfl, gr_keep, fun lo W o n t k a cap fs hn hcnt hs hF hc hlo => ?_⟩
 show Calls Try.prog 75 #[.agg #[.int .i64 o, .int .i64 n, .string t, .slice a k.len cap]] W _
 by_cases h8 : o = 8
 ·obtain ⟨⟨o1, n1, t1, k1⟩, rfl⟩ := kids_one hn (Or.inr h8)
  subst h8
  have hsz : (F.cons o1 n1 t1 k1 .nil).size ≤ 2097152 := by have := nice_size _ (nice_kids hn).2; have h2 : (F.cons o1 n1 t1 k1 .nil).cnt ≤ 10000 := hcnt; have h3 : (F.cons o1 n1 t1 k1 .nil).size ≤ 13 * (F.cons o1 n1 t1 k1 .nil).cnt := this; omega
  have e : grR 8 n t (consD (o1, n1, t1, k1) .nil) = if (decide (o1 ≠ 8 ∧ 0 < nlF (.cons o1 n1 t1 k1 .nil) ∧ hrF (.cons o1 n1 t1 k1 .nil) = 0)) then (8, n, t, .cons o1 n1 t1 k1 .nil) else (o1, n1, t1, k1) := by
   show (if (8 : Int) = 8 ∧ (o1 = 8 ∨ nlF (.cons o1 n1 t1 k1 .nil) = 0 ∨ 0 < hrF (.cons o1 n1 t1 k1 .nil)) then (o1, n1, t1, k1) else (8, n, t, .cons o1 n1 t1 k1 .nil)) = _
   by_cases h : o1 ≠ 8 ∧ 0 < nlF (.cons o1 n1 t1 k1 .nil) ∧ hrF (.cons o1 n1 t1 k1 .nil) = 0
   ·rw [if_neg (by omega), decide_eq_true h]; rfl
   ·rw [if_pos (by omega), decide_eq_false h]; rfl
  rw [e]
  refine wg_group lo W n t o1 n1 t1 k1 _ (fun W1 a cap fs h1 h2 h3 => ?_) a cap fs hs hF hc
  by_cases g1 : o1 = 8
  ·rw [decide_eq_false (by omega)]; exact gm_a W1 n t o1 n1 t1 k1 a cap fs h1 h2 h3 hsz g1
  ·by_cases g2 : nlF (.cons o1 n1 t1 k1 .nil) = 0
   ·rw [decide_eq_false (by omega)]; exact gm_b W1 n t o1 n1 t1 k1 a cap fs h1 h2 h3 hsz g1 g2
   ·by_cases g3 : hrF (.cons o1 n1 t1 k1 .nil) = 0
    ·rw [decide_eq_true (by omega)]; exact gm_d W1 n t o1 n1 t1 k1 a cap fs h1 h2 h3 hsz g1 (by omega) g3
    ·rw [decide_eq_false (by omega)]; exact gm_c W1 n t o1 n1 t1 k1 a cap fs h1 h2 h3 hsz g1 (by omega) (by omega)
 ·rw [show grR o n t k = (o, n, t, k) by unfold grR; rw [if_neg (fun h => h8 h.1)]]
  exact wg_other lo W o n t k h8 a cap fs hs hF hc
theorem gr_nice {o n : Int} {t : ByteArray} {k : F} (h : niceD (o, n, t, k) = true) : niceD (chD grR o n t k) = true ∧ (chD grR o n t k).2.2.2.cnt ≤ k.cnt := by
 obtain ⟨h1, h2⟩ := gr_fn.doc h
 obtain ⟨h3, h4⟩ := gr_keep o n t (chL grR k) h1
 exact ⟨h3, Nat.le_trans h4 h2⟩
end Go.Proofs.Ytjcaiecapapceaa.Nf
namespace Go.Proofs.Ytjcaiecapapceaa.Nf
open Go.RowKit P1 Copy CatD
theorem wrap_small (x : Int) (h0 : -1000000000 ≤ x) (h1 : x ≤ 1000000000) : IntKind.i64.wrap x = x := by rw [IntKind.wrap_i64]; omega
theorem l7Newlines (w : World) (o n : Int) (t : ByteArray) (k : F) (a : Option Addr) (cap : Nat) (fs : List Nat) (hs : SubAt w a k fs) (hfs : ∀ c ∈ fs, c < w.heap.size) (hc : k.len ≤ cap) (hsz : k.size ≤ 2097152) :
  Calls Try.prog 80 #[.agg #[.int .i64 o, .int .i64 n, .string t, .slice a k.len cap]] w fun e w' => e = .returned (.int .i64 ((nlF (.cons o n t k .nil) : Nat) : Int)) ∧ Below w.heap.size w w' := by
 have hco := fun (op : Int) (W : World) (e : Ext w W) => CntC.specCountOps op W o n t k a cap fs (e.sub hs hfs) (fun c hc => Nat.lt_of_lt_of_le (hfs c hc) e.size) hc (by omega)
 have hsum := nl_sum (.cons o n t k .nil)
 have hle3 := cntF_le (fun x => x == 3) (.cons o 0 ⟨#[]⟩ k .nil)
 have hle4 := cntF_le (fun x => x == 4) (.cons o 0 ⟨#[]⟩ k .nil)
 have hle5 := cntF_le (fun x => x == 5) (.cons o 0 ⟨#[]⟩ k .nil)
 have hz : (F.cons o 0 ⟨#[]⟩ k .nil).size = 1 + k.size := by show 1 + 0 + k.size + 0 = _; omega
 rw [hz] at hle3 hle4 hle5
 have h3 := hco 3
 have h4 := hco 4
 have h5 := hco 5
 obtain ⟨c3, hc3⟩ : ∃ c, CntC.opsD 3 o k = c := ⟨_, rfl⟩
 obtain ⟨c4, hc4⟩ : ∃ c, CntC.opsD 4 o k = c := ⟨_, rfl⟩
 obtain ⟨c5, hc5⟩ : ∃ c, CntC.opsD 5 o k = c := ⟨_, rfl⟩
 have e3 : c3 ≤ 1 + k.size := by rw [← hc3]; exact hle3
 have e4 : c4 ≤ 1 + k.size := by rw [← hc4]; exact hle4
 have e5 : c5 ≤ 1 + k.size := by rw [← hc5]; exact hle5
 have hN : nlF (.cons o n t k .nil) = c3 + c4 + c5 := by rw [← hc3, ← hc4, ← hc5]; exact hsum
 rw [hc3] at h3
 rw [hc4] at h4
 rw [hc5] at h5
 rw [hN]
 obtain ⟨L, hL⟩ : ∃ L, k.len = L := ⟨_, rfl⟩
 rw [hL] at h3 h4 h5 ⊢
 have H3 := Lib.hid h3
 have H4 := Lib.hid h4
 have H5 := Lib.hid h5
 have HW := Lib.hid (show IntKind.i64.wrap (IntKind.i64.wrap ((c3 : Int) + (c4 : Int)) + (c5 : Int)) = ((c3 + c4 + c5 : Nat) : Int) by rw [wrap_small ((c3 : Int) + (c4 : Int)) (by omega) (by omega), wrap_small _ (by omega) (by omega)]; omega)
 have hB : Four w.heap.size (.int .i64 o) (.int .i64 n) (.string t) (.slice a L cap) (w.alloc (.cells #[.int .i64 o, .int .i64 n, .string t, .slice a L cap] 25)) := by
  refine ⟨?_, ?_, ?_, ?_⟩ <;> (rw [World.cell?_alloc_new]; rfl)
 have HB := Lib.hid hB
 have HD := Lib.hid (hB.below (Below.refl (w.heap.size + 1) _).drew (by omega))
 have HE := Lib.hid (show ∀ x, Ext w (w.alloc x) from fun x => (Ext.refl w).alloc x)
 clear hco hsum hle3 hle4 hle5 hz h3 h4 h5 hc3 hc4 hc5 e3 e4 e5 hN hL hs hfs hc hsz hB
 go_enter Try.func80, Try.ntmps80
 go_wp2_with fail
 go_region_held3 (fun w' => w'.cell? ⟨w.heap.size, 0, none⟩ = some (.int .i64 o) ∧ w'.cell? ⟨w.heap.size, 1, none⟩ = some (.int .i64 n) ∧ w'.cell? ⟨w.heap.size, 2, none⟩ = some (.string t) ∧ w'.cell? ⟨w.heap.size, 3, none⟩ = some (.slice a L cap))
  (first | (go_keep; done) | with_reducible exact HB.out.below q5 (by omega) | with_reducible exact HB.out.below q4 (by omega) | with_reducible exact HB.out.below q3 (by omega) | with_reducible exact HD.out)
  (first
   | (go_at_call_of 68 (Value.int .i64 3); refine (H3.out _ (by exact (HE.out _).drew)).mono ?_; rintro e1 w3 ⟨rfl, hb3⟩; have q3 : Below (w.heap.size + 1) _ w3 := (Below.refl _ (w.alloc (.cells #[.int .i64 o, .int .i64 n, .string t, .slice a L cap] 25))).drew.trans (hb3.mono (by simp)))
   | (go_at_call_of 68 (Value.int .i64 4); refine (H4.out _ (by exact Ext.trans (HE.out _) (q3.mono (by simp)))).mono ?_; rintro e1 w4 ⟨rfl, hb4⟩; have q4 : Below (w.heap.size + 1) _ w4 := q3.trans (hb4.mono (by have := q3.size; simp at this; omega)))
   | (go_at_call_of 68 (Value.int .i64 5); refine (H5.out _ (by exact Ext.trans (HE.out _) (q4.mono (by simp)))).mono ?_; rintro e1 w5 ⟨rfl, hb5⟩; have q5 : Below (w.heap.size + 1) _ w5 := q4.trans (hb5.mono (by have := q4.size; simp at this; omega))))
 all_goals
  go_wp2_with fail
  go_ret
  exact ⟨by rw [HW.out]; rfl, Ext.trans (HE.out _) (q5.mono (by simp))⟩
end Go.Proofs.Ytjcaiecapapceaa.Nf

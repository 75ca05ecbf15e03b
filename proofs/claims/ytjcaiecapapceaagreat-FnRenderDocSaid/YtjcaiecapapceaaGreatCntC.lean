import Derived.Test.YtjcaiecapapceaaGreatCntN
import Derived.Test.YtjcaiecapapceaaGreatSpV
/-
 What DocSize, CountOps and CanFlatten come to, of the program and of the model.
-/
set_option linter.unusedVariables false
set_option linter.unusedSimpArgs false
set_option maxRecDepth 100000
set_option maxHeartbeats 1600000
namespace Go.Proofs.YtjcaiecapapceaaGreat.CntC
open Go.RowKit P1 Cnt
theorem ret_int {k : IntKind} {a b : Int} (h : a = b) : Ending.returned (.int k a) = .returned (.int k b) := by rw [h]
def opsD (op : Int) (o : Int) (k : F) : Nat := cntF (fun x => x == op) (.cons o 0 ⟨#[]⟩ k .nil)
theorem opsD_eq (op o : Int) (k : F) : opsD op o k = (if o == op then 1 else 0) + cntF (fun x => x == op) k := by
 unfold opsD; simp [cntF]
theorem opsD_any (op o n : Int) (t : ByteArray) (k : F) : cntF (fun x => x == op) (.cons o n t k .nil) = opsD op o k := rfl
theorem eq_pred (w : World) (b : Nat) (op : Int) (hb : b < w.heap.size) (hc : w.cell? ⟨b, 0, none⟩ = some (.int .i64 op)) : OpPred Tryz.prog 65 #[.pointer (some ⟨b, 0, none⟩)] (fun x => x == op) w := by
 refine ⟨enters_of Tryz.func65 (by kernel_rfl) rfl, fun W x hbW => ?_⟩
 show Calls Tryz.prog 65 #[.int .i64 x, .pointer (some ⟨b, 0, none⟩)] W _
 have c0 := (hbW.cell (p := ⟨b, 0, none⟩) hb).trans hc
 clear hc hbW hb
 go_enter Tryz.func65, Tryz.ntmps65
 go_wp2_with fail
 go_ret
 exact ⟨rfl, rfl⟩
set_option maxHeartbeats 400000 in
theorem countOps (w : World) (A : D) (c1 : List Value) (op : Int) (h1 : DocV w A c1) :
  Calls Tryz.prog 25 #[.agg c1.toArray, .int .i64 op] w fun e w' => e = .returned (.int .i64 ((opsD op A.1 A.2.2.2 : Nat) : Int)) ∧ Below w.heap.size w w' := by
 have hc := fun (ob : Obj) (T : TypeId) => CntN.countNodes ((w.alloc ob).alloc (.cells #[.int .i64 op] T)) A c1 (h1.later (((Ext.refl _).alloc ob).alloc _)) 65 #[.pointer (some ⟨w.heap.size + 1, 0, none⟩)] (fun x => x == op) (eq_pred _ _ op (by simp) (by
  have e : w.heap.size + 1 = (w.alloc ob).heap.size := by simp
  rw [e, World.cell?_alloc_new]; rfl))
 simp only [opsD_any] at hc
 obtain ⟨a1, cap1, f1, rfl, _⟩ := h1
 obtain ⟨z, hz⟩ : ∃ z : Nat, opsD op A.1 A.2.2.2 = z := ⟨_, rfl⟩
 rw [hz] at hc ⊢
 have HC := Lib.hid hc
 have hmf : ∀ (fn : Fn) (first cap : Array Value) (w : World), (Instr.makeFunc fn first cap).run Tryz.prog w = .ok (.func fn first cap) w := fun _ _ _ _ => rfl
 clear hc hz
 go_enter Tryz.func25, Tryz.ntmps25
 go_wp2_with fail
 refine (HC.out _ _).mono ?_
 rintro e1 w1 ⟨rfl, hb1⟩
 go_wp2_with fail
 go_ret
 exact ⟨rfl, (((Ext.refl w).alloc _).alloc _).trans hb1⟩
def OpsS (op : Int) (f : F) : Prop := ∀ (w : World) (o n : Int) (t : ByteArray) (k : F) (p r : F) (a : Option Addr) (cap : Nat) (fs : List Nat), f = p.app (.cons o n t k r) → SubAt w a k fs → (∀ c ∈ fs, c < w.heap.size) → k.len ≤ cap → f.size ≤ 4194304 →
 Calls Tryz.prog 86 #[.agg #[.int .i64 o, .int .i64 n, .string t, .slice a k.len cap], .int .i64 op] w fun e w' => e = .returned (.int .i64 ((opsD op o k : Nat) : Int)) ∧ Below w.heap.size w w'
theorem opsD_app {op o : Int} {p : F} {o1 n1 : Int} {t1 : ByteArray} {k1 r1 : F} : opsD op o (p.app (.cons o1 n1 t1 k1 r1)) = opsD op o p + opsD op o1 k1 + cntF (fun x => x == op) r1 := by
 rw [opsD_eq, opsD_eq, opsD_eq, cntF_app]; simp only [cntF]; omega
theorem specOps_step (op : Int) (w : World) (o n : Int) (t : ByteArray) (k : F) (ih : OpsS op k) (a : Option Addr) (cap : Nat) (fs : List Nat) (hs : SubAt w a k fs) (hfs : ∀ c ∈ fs, c < w.heap.size) (hc : k.len ≤ cap) (hsz : k.size ≤ 4194304) :
  Calls Tryz.prog 86 #[.agg #[.int .i64 o, .int .i64 n, .string t, .slice a k.len cap], .int .i64 op] w fun e w' => e = .returned (.int .i64 ((opsD op o k : Nat) : Int)) ∧ Below w.heap.size w w' := by
 have hlc := F.len_le_size k
 have hcs : opsD op o k ≤ 4194305 := by rw [opsD_eq]; have := cntF_le (fun x => x == op) k; split <;> omega
 obtain ⟨L, hL⟩ : ∃ L, k.len = L := ⟨_, rfl⟩
 rw [hL] at hc hlc ⊢
 have hL4 : L ≤ 4194304 := by omega
 have HL := Lib.hid hL
 clear hL
 have hsub : 0 < L → ∃ b off f', a = some ⟨b, off, none⟩ ∧ RowAt w k b off f' ∧ b < w.heap.size ∧ ∀ c ∈ f', c < w.heap.size := by
  intro h0
  rcases hs with ⟨rfl, rfl⟩ | ⟨b, off, f', rfl, hnil, rfl, hrow⟩
  ·have := HL.out; simp only [F.len] at this; omega
  ·exact ⟨b, off, f', rfl, hrow, hfs b (by simp), fun c hc => hfs c (by simp [hc])⟩
 have HSUB := Lib.hid hsub
 have IH := Lib.hid ih
 have HCS := Lib.hid hcs
 obtain ⟨T0, hT0⟩ : ∃ T0 : Nat, opsD op o .nil = T0 := ⟨_, rfl⟩
 have hT1 : T0 = if o == op then 1 else 0 := by rw [← hT0, opsD_eq]; simp [cntF]
 have HT0 := Lib.hid hT0
 clear hsub hs hfs ih hcs hT0
 cases hoo : (o == op) with
 | false =>
   have hT2 : T0 = 0 := by rw [hT1, hoo]; rfl
   subst hT2
   clear hT1
   go_enter Tryz.func86, Tryz.ntmps86
   go_wp2_with fail
   go_loopw [6, 5] (fun i l wr => ∃ (j : Nat) (c : Int), j ≤ L ∧ i = .int .i64 j ∧ l = .int .i64 c ∧ 0 ≤ c ∧ c ≤ 4194305 ∧ wr.cell? ⟨w.heap.size, 3, none⟩ = some (.slice a L cap) ∧ ∃ p g : F, k = p.app g ∧ p.len = j ∧ c = ((opsD op o p : Nat) : Int) ∧ w.heap.size < wr.heap.size ∧ Below w.heap.size w wr) (fun i _ _ => L - (intOf i).toNat)
   case atStart => exact ⟨0, 0, by omega, rfl, rfl, by omega, by omega, by simp, .nil, k, rfl, rfl, by rw [HT0.out]; rfl, by simp, (Below.refl _ _).alloc (Nat.le_refl _) _⟩
   case round =>
    obtain ⟨j, c, hj, rfl, rfl, hc0, hc1, hbox, p, g, h3, h5, h6, hlt, hbw⟩ := hrel
    have h7 : g.len = L - j := by have := HL.out; rw [h3, F.len_app, h5] at this; omega
    cases g with
    | nil =>
      have hjL : L ≤ j := by simp only [F.len] at h7; omega
      have H := Lib.hid (And.intro h3 (And.intro h6 hbw))
      clear h3 h5 h6 h7 hlt hbw
      go_wp2_with fail
      go_ret
      exact ⟨ret_int (by obtain ⟨h3, h6, _⟩ := H.out; rw [h6, h3, F.app_nil]), H.out.2.2⟩
    | cons o1 n1 t1 k1 r1 =>
      have hjL : j < L := by simp only [F.len] at h7; omega
      obtain ⟨b, off, f', rfl, hrow, hbB, hfB⟩ := HSUB.out (by omega)
      rw [h3] at hrow
      obtain ⟨a1, cap1, f1, c0, c1, c2, c3, hc1', hsub1, hin⟩ := row_at hrow
      rw [h5] at c0 c1 c2 c3
      rw [← hbw.cell (p := ⟨_, _, _⟩) hbB] at c0 c1 c2 c3
      have hd := IH.out wr o1 n1 t1 k1 p r1 a1 cap1 f1 h3 (hsub1.below (fun c hc => hfB c (hin c hc)) hbw) (fun c hc => Nat.lt_of_lt_of_le (hfB c (hin c hc)) hbw.size) hc1' hsz
      have hct : opsD op o p + opsD op o1 k1 + cntF (fun x => x == op) r1 = opsD op o k := by rw [h3, opsD_app]
      have hcb := HCS.out
      obtain ⟨z, hz⟩ : ∃ z : Int, ((opsD op o1 k1 : Nat) : Int) = z := ⟨_, rfl⟩
      rw [hz] at hd
      have hz0 : 0 ≤ z := by omega
      have hz1 : c + z ≤ 4194305 := by omega
      have HD := Lib.hid hd
      have H := Lib.hid (And.intro h3 (And.intro h5 (And.intro h6 (And.intro hlt (And.intro hbw (And.intro hct hz))))))
      have HB := Lib.hid hbox
      clear hd h3 h5 h6 h7 hlt hbw hrow hct hz hlc hcb
      go_wp2_with (go_at_call 86; refine HD.out.mono ?_; rintro e1 w1 ⟨rfl, hb1⟩)
      go_roundw
      case rel =>
       obtain ⟨h3, h5, h6, hlt, hbw, hct, hz⟩ := H.out
       refine ⟨j + 1, c + z, by omega, by go_num, rfl, by omega, by omega, (hb1.cell (p := ⟨w.heap.size, 3, none⟩) hlt).trans HB.out, p.app (.cons o1 n1 t1 k1 .nil), r1, by rw [h3, F.app_assoc]; rfl, by rw [F.len_app, h5]; rfl, ?_, Nat.lt_of_lt_of_le hlt hb1.size, hbw.trans (hb1.mono hbw.size)⟩
       rw [opsD_app, h6, ← hz]; simp only [cntF]; omega
      case measure => simp [intOf]; omega
 | true =>
   have hT2 : T0 = 1 := by rw [hT1, hoo]; rfl
   subst hT2
   clear hT1
   go_enter Tryz.func86, Tryz.ntmps86
   go_wp2_with fail
   go_loopw [6, 5] (fun i l wr => ∃ (j : Nat) (c : Int), j ≤ L ∧ i = .int .i64 j ∧ l = .int .i64 c ∧ 0 ≤ c ∧ c ≤ 4194305 ∧ wr.cell? ⟨w.heap.size, 3, none⟩ = some (.slice a L cap) ∧ ∃ p g : F, k = p.app g ∧ p.len = j ∧ c = ((opsD op o p : Nat) : Int) ∧ w.heap.size < wr.heap.size ∧ Below w.heap.size w wr) (fun i _ _ => L - (intOf i).toNat)
   case atStart => exact ⟨0, 1, by omega, rfl, rfl, by omega, by omega, by simp, .nil, k, rfl, rfl, by rw [HT0.out]; rfl, by simp, (Below.refl _ _).alloc (Nat.le_refl _) _⟩
   case round =>
    obtain ⟨j, c, hj, rfl, rfl, hc0, hc1, hbox, p, g, h3, h5, h6, hlt, hbw⟩ := hrel
    have h7 : g.len = L - j := by have := HL.out; rw [h3, F.len_app, h5] at this; omega
    cases g with
    | nil =>
      have hjL : L ≤ j := by simp only [F.len] at h7; omega
      have H := Lib.hid (And.intro h3 (And.intro h6 hbw))
      clear h3 h5 h6 h7 hlt hbw
      go_wp2_with fail
      go_ret
      exact ⟨ret_int (by obtain ⟨h3, h6, _⟩ := H.out; rw [h6, h3, F.app_nil]), H.out.2.2⟩
    | cons o1 n1 t1 k1 r1 =>
      have hjL : j < L := by simp only [F.len] at h7; omega
      obtain ⟨b, off, f', rfl, hrow, hbB, hfB⟩ := HSUB.out (by omega)
      rw [h3] at hrow
      obtain ⟨a1, cap1, f1, c0, c1, c2, c3, hc1', hsub1, hin⟩ := row_at hrow
      rw [h5] at c0 c1 c2 c3
      rw [← hbw.cell (p := ⟨_, _, _⟩) hbB] at c0 c1 c2 c3
      have hd := IH.out wr o1 n1 t1 k1 p r1 a1 cap1 f1 h3 (hsub1.below (fun c hc => hfB c (hin c hc)) hbw) (fun c hc => Nat.lt_of_lt_of_le (hfB c (hin c hc)) hbw.size) hc1' hsz
      have hct : opsD op o p + opsD op o1 k1 + cntF (fun x => x == op) r1 = opsD op o k := by rw [h3, opsD_app]
      have hcb := HCS.out
      obtain ⟨z, hz⟩ : ∃ z : Int, ((opsD op o1 k1 : Nat) : Int) = z := ⟨_, rfl⟩
      rw [hz] at hd
      have hz0 : 0 ≤ z := by omega
      have hz1 : c + z ≤ 4194305 := by omega
      have HD := Lib.hid hd
      have H := Lib.hid (And.intro h3 (And.intro h5 (And.intro h6 (And.intro hlt (And.intro hbw (And.intro hct hz))))))
      have HB := Lib.hid hbox
      clear hd h3 h5 h6 h7 hlt hbw hrow hct hz hlc hcb
      go_wp2_with (go_at_call 86; refine HD.out.mono ?_; rintro e1 w1 ⟨rfl, hb1⟩)
      go_roundw
      case rel =>
       obtain ⟨h3, h5, h6, hlt, hbw, hct, hz⟩ := H.out
       refine ⟨j + 1, c + z, by omega, by go_num, rfl, by omega, by omega, (hb1.cell (p := ⟨w.heap.size, 3, none⟩) hlt).trans HB.out, p.app (.cons o1 n1 t1 k1 .nil), r1, by rw [h3, F.app_assoc]; rfl, by rw [F.len_app, h5]; rfl, ?_, Nat.lt_of_lt_of_le hlt hb1.size, hbw.trans (hb1.mono hbw.size)⟩
       rw [opsD_app, h6, ← hz]; simp only [cntF]; omega
      case measure => simp [intOf]; omega
theorem opsS (op : Int) (m : Nat) : ∀ f : F, f.deep ≤ m → OpsS op f := by
 induction m with
 | zero =>
   intro f hf w o n t k p r a cap fs he
   rw [he, F.deep_app] at hf; simp only [F.deep] at hf; omega
 | succ m ih =>
   intro f hf w o n t k p r a cap fs he hs hfs hc hsz
   have hk : k.deep ≤ m := by rw [he, F.deep_app] at hf; simp only [F.deep] at hf; omega
   exact specOps_step op w o n t k (ih k hk) a cap fs hs hfs hc (by rw [he, F.size_app] at hsz; simp only [F.size] at hsz; omega)
theorem specCountOps (op : Int) (w : World) (o n : Int) (t : ByteArray) (k : F) (a : Option Addr) (cap : Nat) (fs : List Nat) (hs : SubAt w a k fs) (hfs : ∀ c ∈ fs, c < w.heap.size) (hc : k.len ≤ cap) (hsz : k.size ≤ 4194304) :
  Calls Tryz.prog 86 #[.agg #[.int .i64 o, .int .i64 n, .string t, .slice a k.len cap], .int .i64 op] w fun e w' => e = .returned (.int .i64 ((opsD op o k : Nat) : Int)) ∧ Below w.heap.size w w' :=
 specOps_step op w o n t k (opsS op _ k (Nat.le_refl _)) a cap fs hs hfs hc hsz
def canD (o n : Int) (t : ByteArray) (k : F) : Bool := validD o n t k && decide (opsD 5 o k = 0)
theorem implCanFlatten (w : World) (o n : Int) (t : ByteArray) (k : F) (a : Option Addr) (cap : Nat) (fs : List Nat) (hs : SubAt w a k fs) (hfs : ∀ c ∈ fs, c < w.heap.size ∧ ∀ o, w.frozen? ⟨c, o, none⟩ = false) (hc : k.len ≤ cap) (hsz : k.size ≤ 2097152) (hft : k.Fits) (ht : t.size ≤ maxLen) :
  Calls Tryz.prog 188 #[.agg #[.int .i64 o, .int .i64 n, .string t, .slice a k.len cap]] w fun e w' => e = .returned (.bool (canD o n t k)) ∧ Below w.heap.size w w' := by
 have hl : k.len ≤ maxLen := by have := F.len_le_size k; unfold maxLen; omega
 have B1 : ∀ (ob : Obj), Below w.heap.size w (w.alloc ob) := fun ob => (Below.refl _ _).alloc (Nat.le_refl _) _
 have hi := fun (w1 : World) (hw1 : Below w.heap.size w w1) => PartV.docValid w1 o n t k a cap fs (hs.below (fun c hc => (hfs c hc).1) hw1) (fun c hc => Nat.lt_of_lt_of_le (hfs c hc).1 hw1.size) hc hl hft ht
 have hn : ∀ (w1 : World), Below w.heap.size w w1 → Calls Tryz.prog 25 #[.agg #[.int .i64 o, .int .i64 n, .string t, .slice a k.len cap], .int .i64 5] w1 fun e w' => e = .returned (.int .i64 ((opsD 5 o k : Nat) : Int)) ∧ Below w1.heap.size w1 w' := fun w1 hw1 => countOps w1 (o, n, t, k) [.int .i64 o, .int .i64 n, .string t, .slice a k.len cap] 5 (DocV.later ⟨a, cap, fs, rfl, hc, hs, hfs, hsz⟩ hw1)
 obtain ⟨z, hz⟩ : ∃ z : Nat, opsD 5 o k = z := ⟨_, rfl⟩
 rw [hz] at hn
 cases hk : validD o n t k with
 | false =>
   have hv : canD o n t k = false := by simp [canD, hk]
   rw [hv]
   rw [hk] at hi
   have HI := Lib.hid hi
   clear hi hn hk hv hs hfs hz hft
   go_enter Tryz.func188, Tryz.ntmps188
   go_wp2_with fail
   refine (HI.out _ (B1 _)).mono ?_
   rintro e1 w1 ⟨rfl, hb1⟩
   go_wp2_with fail
   go_ret
   exact ⟨rfl, (B1 _).trans (hb1.mono (by simp))⟩
 | true =>
   have hv : canD o n t k = ((z : Int) == 0) := by
    simp only [canD, hk, hz, Bool.true_and]
    rw [Bool.eq_iff_iff]; simp
   rw [hv]
   rw [hk] at hi
   have HI := Lib.hid hi
   have HN := Lib.hid hn
   clear hi hn hk hv hs hfs hz hft
   go_enter Tryz.func188, Tryz.ntmps188
   go_wp2_with fail
   refine (HI.out _ (B1 _)).mono ?_
   rintro e1 w1 ⟨rfl, hb1⟩
   have hbx : w1.cell? ⟨w.heap.size, 0, none⟩ = some (.int .i64 o) ∧ w1.cell? ⟨w.heap.size, 1, none⟩ = some (.int .i64 n) ∧ w1.cell? ⟨w.heap.size, 2, none⟩ = some (.string t) ∧ w1.cell? ⟨w.heap.size, 3, none⟩ = some (.slice a k.len cap) := by
    refine ⟨?_, ?_, ?_, ?_⟩
    all_goals (rw [hb1.cell (p := ⟨_, _, _⟩) (by simp)]; simp)
   obtain ⟨x0, x1, x2, x3⟩ := hbx
   have hb2 := (B1 _).trans (hb1.mono (by simp))
   have HB := Lib.hid hb2
   clear hb1 hb2
   go_wp2_with (go_at_call 25; refine (HN.out _ HB.out).mono ?_; rintro e1 w1 ⟨rfl, hb1⟩)
   go_ret
   exact ⟨rfl, HB.out.trans (hb1.mono HB.out.size)⟩
end Go.Proofs.YtjcaiecapapceaaGreat.CntC

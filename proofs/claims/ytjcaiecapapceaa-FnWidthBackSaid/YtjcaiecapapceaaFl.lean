import Derived.Test.YtjcaiecapapceaaShelf2
import Derived.Lib.OthersKept
import Derived.Test.YtjcaiecapapceaaCntC
/-
 What the methods of strings.Builder do, by the bytes that it holds (over a shelf laid by shelf4.py).
-/
set_option linter.unusedVariables false
set_option linter.unusedSimpArgs false
set_option maxRecDepth 100000
set_option maxHeartbeats 1600000
namespace Go.Proofs.Ytjcaiecapapceaa.BufB
open Go.RowKit P1
def Holds (B b : Nat) (l : List UInt8) (w : World) : Prop := Lib.IsBuilderF 56 5 B b (Lib.byteCells l) w
def Wrote (B b : Nat) (l : List UInt8) (w w' : World) : Prop := Holds B b l w' ∧ Below B w w' ∧ Lib.OthersKept 5 (some b) w w'
theorem heap_new (w : World) (c : Array Value) (T : TypeId) : (w.alloc (.cells c T)).heap[w.heap.size]? = some (.cells c T (0, 0)) := by show (w.heap.push _)[w.heap.size]? = _; simp
end Go.Proofs.Ytjcaiecapapceaa.BufB
namespace Go.Proofs.Ytjcaiecapapceaa.Flat
open Go.RowKit P1 Cnt CntC
def fl : F → ByteArray
 | .nil => ⟨#[]⟩
 | .cons o _ t k r => (if o == 3 then ⟨#[32]⟩ else t ++ fl k) ++ fl r
def flD (o : Int) (t : ByteArray) (k : F) : ByteArray := if o == 3 then ⟨#[32]⟩ else t ++ fl k
theorem none_app (x : ByteArray) : (⟨#[]⟩ : ByteArray) ++ x = x := ByteArray.empty_append
theorem app_none (x : ByteArray) : x ++ (⟨#[]⟩ : ByteArray) = x := ByteArray.append_empty
theorem fl_app (f g : F) : fl (f.app g) = fl f ++ fl g := by
 induction f with
 | nil => simp only [F.app, fl, none_app]
 | cons o n t k r _ ih => simp only [F.app, fl, ih, ByteArray.append_assoc]
theorem fl_one (o n : Int) (t : ByteArray) (k : F) : fl (.cons o n t k .nil) = flD o t k := by simp only [fl, flD, app_none]
theorem fl_size (f : F) : (fl f).size ≤ f.size := by
 induction f with
 | nil => exact Nat.le_refl 0
 | cons o n t k r ihk ihr =>
   have h1 : (⟨#[32]⟩ : ByteArray).size = 1 := rfl
   simp only [fl, F.size]
   split
   ·rw [ByteArray.size_append, h1]; omega
   ·rw [ByteArray.size_append, ByteArray.size_append]; omega
theorem flD_size (o : Int) (t : ByteArray) (k : F) : (flD o t k).size ≤ 1 + t.size + k.size := by
 have := fl_size (.cons o 0 t k .nil)
 rw [fl_one] at this; simpa [F.size] using this
def wf : F → List UInt8
 | .nil => []
 | .cons o _ t k r => ((if o == 3 then [32] else []) ++ t.data.toList ++ wf k) ++ wf r
def wfD (o : Int) (t : ByteArray) (k : F) : List UInt8 := (if o == 3 then [32] else []) ++ t.data.toList ++ wf k
theorem wf_app (f g : F) : wf (f.app g) = wf f ++ wf g := by
 induction f with
 | nil => rfl
 | cons o n t k r _ ih => simp only [F.app, wf, ih, List.append_assoc]
theorem wf_one (o n : Int) (t : ByteArray) (k : F) : wf (.cons o n t k .nil) = wfD o t k := by simp only [wf, wfD, List.append_nil]
theorem wf_size (f : F) : (wf f).length ≤ f.size := by
 induction f with
 | nil => simp [wf, F.size]
 | cons o n t k r ihk ihr =>
   have h2 : t.data.toList.length = t.size := Array.length_toList
   simp only [wf, F.size, List.length_append, h2]
   split <;> simp <;> omega
theorem node_line {o n : Int} {t : ByteArray} {l : Nat} (h : nodeB o n t l = true) (h3 : (o == 3) = true) : l = 0 ∧ t = ⟨#[]⟩ := by
 have : o = 3 := by simpa using h3
 subst this
 simp [nodeB, kidsOf, textB, numB] at h
 obtain ⟨⟨h1, h2⟩, _⟩ := h
 exact ⟨by omega, h2⟩
theorem nil_of_len {k : F} (h : k.len = 0) : k = .nil := by cases k with | nil => rfl | cons => simp [F.len] at h
theorem wf_fl (f : F) : ∀ d, f.ok d = true → wf f = (fl f).data.toList := by
 induction f with
 | nil => intro d _; rfl
 | cons o n t k r ihk ihr =>
   intro d h
   simp only [F.ok, Bool.and_eq_true] at h
   obtain ⟨⟨⟨_, hn⟩, hk⟩, hr⟩ := h
   simp only [wf, fl, ihr _ hr, ihk _ hk]
   cases h3 : (o == 3) with
   | true =>
     obtain ⟨hl, rfl⟩ := node_line hn h3
     rw [nil_of_len hl]; simp [fl]
   | false => simp
theorem ret_text {s s' : ByteArray} (h : s = s') : Ending.returned (.string s) = .returned (.string s') := by rw [h]
def FlatS (f : F) : Prop := ∀ (w : World) (o n : Int) (t : ByteArray) (k : F) (p r : F) (a : Option Addr) (cap : Nat) (fs : List Nat), f = p.app (.cons o n t k r) → SubAt w a k fs → (∀ c ∈ fs, c < w.heap.size) → k.len ≤ cap → f.size ≤ 4194304 →
 Calls Try.prog 70 #[.agg #[.int .i64 o, .int .i64 n, .string t, .slice a k.len cap]] w fun e w' => e = .returned (.string (flD o t k)) ∧ Below w.heap.size w w'
theorem flat_step (w : World) (o n : Int) (t : ByteArray) (k : F) (ih : FlatS k) (a : Option Addr) (cap : Nat) (fs : List Nat) (hs : SubAt w a k fs) (hfs : ∀ c ∈ fs, c < w.heap.size) (hc : k.len ≤ cap) (hsz : t.size + k.size ≤ 4194304) :
  Calls Try.prog 70 #[.agg #[.int .i64 o, .int .i64 n, .string t, .slice a k.len cap]] w fun e w' => e = .returned (.string (flD o t k)) ∧ Below w.heap.size w w' := by
 have hlc := F.len_le_size k
 obtain ⟨L, hL⟩ : ∃ L, k.len = L := ⟨_, rfl⟩
 rw [hL] at hc hlc ⊢
 have hL4 : L ≤ 4194304 := by omega
 have HL := Lib.hid hL
 clear hL
 have hsub : 0 < L → ∃ b off f', a = some ⟨b, off, none⟩ ∧ RowAt w k b off f' ∧ b < w.heap.size ∧ ∀ c ∈ f', c < w.heap.size := by
  intro h0
  rcases hs with ⟨rfl, rfl⟩ | ⟨b, off, f', rfl, hnil, rfl, hrow⟩
  ·have := HL.out; simp only [F.len] at this; omega
  ·exact ⟨b, off, f', rfl, hrow, hfs b (by simp), fun c hc => hfs c (by simp [hc])⟩
 have HSUB := Lib.hid hsub
 have IH := Lib.hid ih
 have HSZ := Lib.hid hsz
 have hts : t.size ≤ 4194304 := by omega
 cases hoo : (o == 3) with
 | true =>
   have HT := Lib.hid (show flD o t k = ⟨#[32]⟩ by simp [flD, hoo])
   clear hsub hs hfs ih hsz
   go_enter Try.func70, Try.ntmps70
   go_wp2_with fail
   go_ret
   exact ⟨ret_text HT.out.symm, (Below.refl _ _).alloc (Nat.le_refl _) _⟩
 | false =>
   have HT := Lib.hid (show flD o t k = t ++ fl k by simp [flD, hoo])
   clear hsub hs hfs ih hsz
   go_enter Try.func70, Try.ntmps70
   go_wp2_with fail
   go_loopw [4, 3] (fun i s wr => ∃ (j : Nat) (c : ByteArray), j ≤ L ∧ i = .int .i64 j ∧ s = .string c ∧ wr.cell? ⟨w.heap.size, 3, none⟩ = some (.slice a L cap) ∧ c.size ≤ 4194304 ∧ ∃ p g : F, k = p.app g ∧ p.len = j ∧ c = t ++ fl p ∧ w.heap.size < wr.heap.size ∧ Below w.heap.size w wr) (fun i _ _ => L - (intOf i).toNat)
   case atStart => exact ⟨0, t, by omega, rfl, rfl, by simp, hts, .nil, k, rfl, rfl, by rw [fl, app_none], by simp, (Below.refl _ _).alloc (Nat.le_refl _) _⟩
   case round =>
    obtain ⟨j, c, hj, rfl, rfl, hbox, hcs, p, g, h3, h5, h6, hlt, hbw⟩ := hrel
    have h7 : g.len = L - j := by have := HL.out; rw [h3, F.len_app, h5] at this; omega
    cases g with
    | nil =>
      have hjL : L ≤ j := by simp only [F.len] at h7; omega
      have H := Lib.hid (And.intro h3 (And.intro h6 hbw))
      clear h3 h5 h6 h7 hlt hbw
      go_wp2_with fail
      go_ret
      exact ⟨ret_text (by obtain ⟨h3, h6, _⟩ := H.out; rw [HT.out, h6, h3, F.app_nil]), H.out.2.2⟩
    | cons o1 n1 t1 k1 r1 =>
      have hjL : j < L := by simp only [F.len] at h7; omega
      obtain ⟨b, off, f', rfl, hrow, hbB, hfB⟩ := HSUB.out (by omega)
      rw [h3] at hrow
      obtain ⟨a1, cap1, f1, c0, c1, c2, c3, hc1', hsub1, hin⟩ := row_at hrow
      rw [h5] at c0 c1 c2 c3
      rw [← hbw.cell (p := ⟨_, _, _⟩) hbB] at c0 c1 c2 c3
      have hsz := HSZ.out
      have hd := IH.out wr o1 n1 t1 k1 p r1 a1 cap1 f1 h3 (hsub1.below (fun c hc => hfB c (hin c hc)) hbw) (fun c hc => Nat.lt_of_lt_of_le (hfB c (hin c hc)) hbw.size) hc1' (by omega)
      have hzs : c.size + (flD o1 t1 k1).size ≤ 4194304 := by
       have e1 := fl_size p
       have e2 := flD_size o1 t1 k1
       rw [h6, ByteArray.size_append]
       rw [h3, F.size_app] at hsz; simp only [F.size] at hsz; omega
      obtain ⟨z, hz⟩ : ∃ z : ByteArray, flD o1 t1 k1 = z := ⟨_, rfl⟩
      rw [hz] at hd hzs
      have hsum : ¬ (9223372036854775807 < c.size + z.size) := by omega
      have HZ := Lib.hid hzs
      have HD := Lib.hid hd
      have H := Lib.hid (And.intro h3 (And.intro h5 (And.intro h6 (And.intro hlt (And.intro hbw hz)))))
      have HB := Lib.hid hbox
      clear hd h3 h5 h6 h7 hlt hbw hrow hz hlc hsz hzs
      go_wp2_with (go_at_call 70; refine HD.out.mono ?_; rintro e1 w1 ⟨rfl, hb1⟩)
      go_roundw
      case rel =>
       obtain ⟨h3, h5, h6, hlt, hbw, hz⟩ := H.out
       refine ⟨j + 1, c ++ z, by omega, by go_num, rfl, (hb1.cell (p := ⟨w.heap.size, 3, none⟩) hlt).trans HB.out, by rw [ByteArray.size_append]; exact HZ.out, p.app (.cons o1 n1 t1 k1 .nil), r1, by rw [h3, F.app_assoc]; rfl, by rw [F.len_app, h5]; rfl, ?_, Nat.lt_of_lt_of_le hlt hb1.size, hbw.trans (hb1.mono hbw.size)⟩
       rw [fl_app, fl_one, h6, ← hz, ByteArray.append_assoc]
      case measure => simp [intOf]; omega
theorem flatS (m : Nat) : ∀ f : F, f.deep ≤ m → FlatS f := by
 induction m with
 | zero =>
   intro f hf w o n t k p r a cap fs he
   rw [he, F.deep_app] at hf; simp only [F.deep] at hf; omega
 | succ m ih =>
   intro f hf w o n t k p r a cap fs he hs hfs hc hsz
   have hk : k.deep ≤ m := by rw [he, F.deep_app] at hf; simp only [F.deep] at hf; omega
   exact flat_step w o n t k (ih k hk) a cap fs hs hfs hc (by rw [he, F.size_app] at hsz; simp only [F.size] at hsz; omega)
end Go.Proofs.Ytjcaiecapapceaa.Flat
namespace Go.Proofs.Ytjcaiecapapceaa.FlatI
open Go.RowKit P1 Cnt CntC Flat BufB
def WriteI (B b : Nat) (f : F) : Prop := ∀ (w : World) (l : List UInt8) (o n : Int) (t : ByteArray) (k : F) (p r : F) (a : Option Addr) (cap : Nat) (fs : List Nat), f = p.app (.cons o n t k r) → SubAt w a k fs → (∀ c ∈ fs, c < B) → k.len ≤ cap → l.length + (1 + t.size + k.size) ≤ 50000000 → Holds B b l w → B ≤ w.heap.size → b < w.heap.size →
 Calls Try.prog 101 #[.pointer (some ⟨b, 0, none⟩), .agg #[.int .i64 o, .int .i64 n, .string t, .slice a k.len cap]] w fun e w' => e = .returned (.tuple #[]) ∧ Wrote B b (l ++ wfD o t k) w w'
theorem text_len (t : ByteArray) : t.data.toList.length = t.size := Array.length_toList
end Go.Proofs.Ytjcaiecapapceaa.FlatI

import Derived.Test.YtjcaiecapapceaaGreatShelf2
import Derived.Lib.OthersKept
import Derived.Test.YtjcaiecapapceaaGreatCntC
/-
 What the methods of strings.Builder do, by the bytes that it holds (over a shelf laid by shelf4.py).
-/
set_option linter.unusedVariables false
set_option linter.unusedSimpArgs false
set_option maxRecDepth 100000
set_option maxHeartbeats 1600000
namespace Go.Proofs.YtjcaiecapapceaaGreat.BufB
open Go.RowKit P1
def Holds (B b : Nat) (l : List UInt8) (w : World) : Prop := Lib.IsBuilderF 55 5 B b (Lib.byteCells l) w
theorem Holds.new (w : World) : Holds w.heap.size w.heap.size [] (w.alloc (.cells #[.pointer none, .slice none 0 0] 55)) := Lib.IsBuilderF.of (Lib.fresh_isBuilder _ _ w)
theorem Holds.alloc {B b : Nat} {l : List UInt8} {w : World} (h : Holds B b l w) (o : Obj) : Holds B b l (w.alloc o) := Lib.IsBuilderF.alloc h o
def Wrote (B b : Nat) (l : List UInt8) (w w' : World) : Prop := Holds B b l w' ∧ Below B w w' ∧ Lib.OthersKept 5 (some b) w w'
theorem Wrote.refl {B b : Nat} {l : List UInt8} {w : World} (h : Holds B b l w) : Wrote B b l w w := ⟨h, Below.refl _ _, Lib.OthersKept.refl _ _ _⟩
theorem Wrote.trans {B b : Nat} {l l' : List UInt8} {w w1 w2 : World} (h : Wrote B b l w w1) (k : Wrote B b l' w1 w2) : Wrote B b l' w w2 := ⟨k.1, h.2.1.trans k.2.1, h.2.2.trans k.2.2⟩
theorem writeByte (B b : Nat) (l : List UInt8) (c : UInt8) (v : Int) (hv : Lib.byteCells [c] = [.int .u8 v]) (w : World) (h : Holds B b l w) (hl : l.length ≤ 100000000) (hB : B ≤ w.heap.size) :
  Calls Tryz.prog 49 #[.pointer (some ⟨b, 0, none⟩), .int .u8 v] w fun e w' => e = .returned .nilIface ∧ Wrote B b (l ++ [c]) w w' := by
 refine (Any.Builder_WriteByte_k Tryz.layB167 Tryz.extraB B b (Lib.byteCells l) v w h (by rw [Lib.byteCells_length]; omega) hB).mono ?_
 rintro e w' ⟨rfl, h1, h2, h3⟩
 exact ⟨rfl, by unfold Holds; rw [Lib.byteCells_append, hv]; exact Or.inr h1, h2, h3⟩
theorem writeString (B b : Nat) (l : List UInt8) (s : ByteArray) (w : World) (h : Holds B b l w) (hl : l.length ≤ 100000000) (hs : s.size ≤ 100000000) (hB : B ≤ w.heap.size) :
  Calls Tryz.prog 98 #[.pointer (some ⟨b, 0, none⟩), .string s] w fun e w' => e = .returned (.tuple #[.int .i64 s.size, .nilIface]) ∧ Wrote B b (l ++ s.data.toList) w w' := by
 refine (Any.Builder_WriteString_k Tryz.layB166 Tryz.extraB B b (Lib.byteCells l) s w h (by rw [Lib.byteCells_length]; omega) hB).mono ?_
 rintro e w' ⟨rfl, h1, h2, h3⟩
 exact ⟨rfl, by unfold Holds; rw [Lib.byteCells_append]; exact Or.inr h1, h2, h3⟩
theorem string (B b : Nat) (l : List UInt8) (w : World) (h : Holds B b l w) (hB : B ≤ w.heap.size) :
  Calls Tryz.prog 51 #[.pointer (some ⟨b, 0, none⟩)] w fun e w' => e = .returned (.string ⟨l.toArray⟩) ∧ Wrote B b l w w' :=
 by first | exact Any.Builder_String_any_k Tryz.layB169 Tryz.extraB B b l w h hB | exact Tryz.Builder_String_any_k B b l w h hB
theorem Wrote.cell {B b : Nat} {l : List UInt8} {w w' : World} (h : Wrote B b l w w') {k o : Nat} {c : Array Value} {T : TypeId} {fz : Nat × Nat} (hk : w.heap[k]? = some (.cells c T fz)) (hT : T ≠ 5) (hb : k ≠ b) : w'.cell? ⟨k, o, none⟩ = w.cell? ⟨k, o, none⟩ :=
 World.cell?_of_block (w := w) ((h.2.2 k _ hk (by simpa using hb) (fun c' fz' e => hT (by cases e; rfl))).trans hk.symm)
theorem at_below {T e : TypeId} {B b : Nat} {p : Value} {bs : List Value} {w w' : World} (h : Lib.BuilderAtF T e B b p bs w) (k : Below w.heap.size w w') : Lib.BuilderAtF T e B b p bs w' := by
 obtain ⟨hB, v, hb, ⟨hx, ho⟩, hne⟩ := h
 have lt : ∀ {j : Nat} {o : Obj}, w.heap[j]? = some o → w'.heap[j]? = some o := fun {j o} e => (k.block j (Array.getElem?_eq_some_iff.1 e).1).trans e
 refine ⟨hB, v, lt hb, ⟨hx, ?_⟩, hne⟩
 rcases ho with h0 | ⟨g, cap, cur, fz, h1, h2, h3, h4⟩
 ·exact .inl h0
 ·exact .inr ⟨g, cap, cur, fz, h1, h2, lt h3, h4⟩
theorem Holds.below {B b : Nat} {l : List UInt8} {w w' : World} (h : Holds B b l w) (k : Below w.heap.size w w') : Holds B b l w' :=
 Or.elim h (fun x => Or.inl (at_below x k)) (fun x => Or.inr (at_below x k))
theorem Wrote.below {B b : Nat} {l : List UInt8} {w w1 w2 : World} (h : Wrote B b l w w1) (hB : B ≤ w.heap.size) (k : Below w1.heap.size w1 w2) : Wrote B b l w w2 :=
 ⟨h.1.below k, h.2.1.trans (k.mono (Nat.le_trans hB h.2.1.size)), fun i o hi hb ho => by
  have h1 := h.2.2 i o hi hb ho
  exact (k.block i (Array.getElem?_eq_some_iff.1 h1).1).trans h1⟩
theorem Wrote.alloc {B b : Nat} {l : List UInt8} {w : World} (h : Holds B b l w) (hB : B ≤ w.heap.size) (o : Obj) : Wrote B b l w (w.alloc o) :=
 (Wrote.refl h).below hB ((Below.refl _ _).alloc (Nat.le_refl _) _)
theorem heap_new (w : World) (c : Array Value) (T : TypeId) : (w.alloc (.cells c T)).heap[w.heap.size]? = some (.cells c T (0, 0)) := by show (w.heap.push _)[w.heap.size]? = _; simp
end Go.Proofs.YtjcaiecapapceaaGreat.BufB
namespace Go.Proofs.YtjcaiecapapceaaGreat.Flat
open Go.RowKit P1 Cnt CntC
def fl : F → ByteArray
 | .nil => ⟨#[]⟩
 | .cons o _ t k r => (if o == 3 then ⟨#[32]⟩ else t ++ fl k) ++ fl r
def flD (o : Int) (t : ByteArray) (k : F) : ByteArray := if o == 3 then ⟨#[32]⟩ else t ++ fl k
theorem none_app (x : ByteArray) : (⟨#[]⟩ : ByteArray) ++ x = x := ByteArray.empty_append
theorem app_none (x : ByteArray) : x ++ (⟨#[]⟩ : ByteArray) = x := ByteArray.append_empty
theorem fl_app (f g : F) : fl (f.app g) = fl f ++ fl g := by
 induction f with
 | nil => simp only [F.app, fl, none_app]
 | cons o n t k r _ ih => simp only [F.app, fl, ih, ByteArray.append_assoc]
theorem fl_one (o n : Int) (t : ByteArray) (k : F) : fl (.cons o n t k .nil) = flD o t k := by simp only [fl, flD, app_none]
theorem fl_size (f : F) : (fl f).size ≤ f.size := by
 induction f with
 | nil => exact Nat.le_refl 0
 | cons o n t k r ihk ihr =>
   have h1 : (⟨#[32]⟩ : ByteArray).size = 1 := rfl
   simp only [fl, F.size]
   split
   ·rw [ByteArray.size_append, h1]; omega
   ·rw [ByteArray.size_append, ByteArray.size_append]; omega
theorem flD_size (o : Int) (t : ByteArray) (k : F) : (flD o t k).size ≤ 1 + t.size + k.size := by
 have := fl_size (.cons o 0 t k .nil)
 rw [fl_one] at this; simpa [F.size] using this
def wf : F → List UInt8
 | .nil => []
 | .cons o _ t k r => ((if o == 3 then [32] else []) ++ t.data.toList ++ wf k) ++ wf r
def wfD (o : Int) (t : ByteArray) (k : F) : List UInt8 := (if o == 3 then [32] else []) ++ t.data.toList ++ wf k
theorem wf_app (f g : F) : wf (f.app g) = wf f ++ wf g := by
 induction f with
 | nil => rfl
 | cons o n t k r _ ih => simp only [F.app, wf, ih, List.append_assoc]
theorem wf_one (o n : Int) (t : ByteArray) (k : F) : wf (.cons o n t k .nil) = wfD o t k := by simp only [wf, wfD, List.append_nil]
theorem wf_size (f : F) : (wf f).length ≤ f.size := by
 induction f with
 | nil => simp [wf, F.size]
 | cons o n t k r ihk ihr =>
   have h2 : t.data.toList.length = t.size := Array.length_toList
   simp only [wf, F.size, List.length_append, h2]
   split <;> simp <;> omega
theorem node_line {o n : Int} {t : ByteArray} {l : Nat} (h : nodeB o n t l = true) (h3 : (o == 3) = true) : l = 0 ∧ t = ⟨#[]⟩ := by
 have : o = 3 := by simpa using h3
 subst this
 simp [nodeB, kidsOf, textB, numB] at h
 obtain ⟨⟨h1, h2⟩, _⟩ := h
 exact ⟨by omega, h2⟩
theorem nil_of_len {k : F} (h : k.len = 0) : k = .nil := by cases k with | nil => rfl | cons => simp [F.len] at h
theorem wf_fl (f : F) : ∀ d, f.ok d = true → wf f = (fl f).data.toList := by
 induction f with
 | nil => intro d _; rfl
 | cons o n t k r ihk ihr =>
   intro d h
   simp only [F.ok, Bool.and_eq_true] at h
   obtain ⟨⟨⟨_, hn⟩, hk⟩, hr⟩ := h
   simp only [wf, fl, ihr _ hr, ihk _ hk]
   cases h3 : (o == 3) with
   | true =>
     obtain ⟨hl, rfl⟩ := node_line hn h3
     rw [nil_of_len hl]; simp [fl]
   | false => simp
theorem wfD_fl {o n : Int} {t : ByteArray} {k : F} (h : validD o n t k = true) : wfD o t k = (flD o t k).data.toList := by
 have : (F.cons o n t k .nil).ok 40 = true := by
  rw [ok_cons]; simp only [validD, Bool.and_eq_true] at h; rw [h.1]; rfl
 have h2 := wf_fl _ _ this
 rwa [wf_one, fl_one] at h2
def ftD (o n : Int) (t : ByteArray) (k : F) : ByteArray := if canD o n t k then flD o t k else ⟨#[]⟩
theorem ret_text {s s' : ByteArray} (h : s = s') : Ending.returned (.string s) = .returned (.string s') := by rw [h]
theorem ret_flat {s s' : ByteArray} {b : Bool} (h : s = s') : Ending.returned (.tuple #[.string s, .bool b]) = .returned (.tuple #[.string s', .bool b]) := by rw [h]
def FlatS (f : F) : Prop := ∀ (w : World) (o n : Int) (t : ByteArray) (k : F) (p r : F) (a : Option Addr) (cap : Nat) (fs : List Nat), f = p.app (.cons o n t k r) → SubAt w a k fs → (∀ c ∈ fs, c < w.heap.size) → k.len ≤ cap → f.size ≤ 4194304 →
 Calls Tryz.prog 88 #[.agg #[.int .i64 o, .int .i64 n, .string t, .slice a k.len cap]] w fun e w' => e = .returned (.string (flD o t k)) ∧ Below w.heap.size w w'
theorem flat_step (w : World) (o n : Int) (t : ByteArray) (k : F) (ih : FlatS k) (a : Option Addr) (cap : Nat) (fs : List Nat) (hs : SubAt w a k fs) (hfs : ∀ c ∈ fs, c < w.heap.size) (hc : k.len ≤ cap) (hsz : t.size + k.size ≤ 4194304) :
  Calls Tryz.prog 88 #[.agg #[.int .i64 o, .int .i64 n, .string t, .slice a k.len cap]] w fun e w' => e = .returned (.string (flD o t k)) ∧ Below w.heap.size w w' := by
 have hlc := F.len_le_size k
 obtain ⟨L, hL⟩ : ∃ L, k.len = L := ⟨_, rfl⟩
 rw [hL] at hc hlc ⊢
 have hL4 : L ≤ 4194304 := by omega
 have HL := Lib.hid hL
 clear hL
 have hsub : 0 < L → ∃ b off f', a = some ⟨b, off, none⟩ ∧ RowAt w k b off f' ∧ b < w.heap.size ∧ ∀ c ∈ f', c < w.heap.size := by
  intro h0
  rcases hs with ⟨rfl, rfl⟩ | ⟨b, off, f', rfl, hnil, rfl, hrow⟩
  ·have := HL.out; simp only [F.len] at this; omega
  ·exact ⟨b, off, f', rfl, hrow, hfs b (by simp), fun c hc => hfs c (by simp [hc])⟩
 have HSUB := Lib.hid hsub
 have IH := Lib.hid ih
 have HSZ := Lib.hid hsz
 have hts : t.size ≤ 4194304 := by omega
 cases hoo : (o == 3) with
 | true =>
   have HT := Lib.hid (show flD o t k = ⟨#[32]⟩ by simp [flD, hoo])
   clear hsub hs hfs ih hsz
   go_enter Tryz.func88, Tryz.ntmps88
   go_wp2_with fail
   go_ret
   exact ⟨ret_text HT.out.symm, (Below.refl _ _).alloc (Nat.le_refl _) _⟩
 | false =>
   have HT := Lib.hid (show flD o t k = t ++ fl k by simp [flD, hoo])
   clear hsub hs hfs ih hsz
   go_enter Tryz.func88, Tryz.ntmps88
   go_wp2_with fail
   go_loopw [4, 3] (fun i s wr => ∃ (j : Nat) (c : ByteArray), j ≤ L ∧ i = .int .i64 j ∧ s = .string c ∧ wr.cell? ⟨w.heap.size, 3, none⟩ = some (.slice a L cap) ∧ c.size ≤ 4194304 ∧ ∃ p g : F, k = p.app g ∧ p.len = j ∧ c = t ++ fl p ∧ w.heap.size < wr.heap.size ∧ Below w.heap.size w wr) (fun i _ _ => L - (intOf i).toNat)
   case atStart => exact ⟨0, t, by omega, rfl, rfl, by simp, hts, .nil, k, rfl, rfl, by rw [fl, app_none], by simp, (Below.refl _ _).alloc (Nat.le_refl _) _⟩
   case round =>
    obtain ⟨j, c, hj, rfl, rfl, hbox, hcs, p, g, h3, h5, h6, hlt, hbw⟩ := hrel
    have h7 : g.len = L - j := by have := HL.out; rw [h3, F.len_app, h5] at this; omega
    cases g with
    | nil =>
      have hjL : L ≤ j := by simp only [F.len] at h7; omega
      have H := Lib.hid (And.intro h3 (And.intro h6 hbw))
      clear h3 h5 h6 h7 hlt hbw
      go_wp2_with fail
      go_ret
      exact ⟨ret_text (by obtain ⟨h3, h6, _⟩ := H.out; rw [HT.out, h6, h3, F.app_nil]), H.out.2.2⟩
    | cons o1 n1 t1 k1 r1 =>
      have hjL : j < L := by simp only [F.len] at h7; omega
      obtain ⟨b, off, f', rfl, hrow, hbB, hfB⟩ := HSUB.out (by omega)
      rw [h3] at hrow
      obtain ⟨a1, cap1, f1, c0, c1, c2, c3, hc1', hsub1, hin⟩ := row_at hrow
      rw [h5] at c0 c1 c2 c3
      rw [← hbw.cell (p := ⟨_, _, _⟩) hbB] at c0 c1 c2 c3
      have hsz := HSZ.out
      have hd := IH.out wr o1 n1 t1 k1 p r1 a1 cap1 f1 h3 (hsub1.below (fun c hc => hfB c (hin c hc)) hbw) (fun c hc => Nat.lt_of_lt_of_le (hfB c (hin c hc)) hbw.size) hc1' (by omega)
      have hzs : c.size + (flD o1 t1 k1).size ≤ 4194304 := by
       have e1 := fl_size p
       have e2 := flD_size o1 t1 k1
       rw [h6, ByteArray.size_append]
       rw [h3, F.size_app] at hsz; simp only [F.size] at hsz; omega
      obtain ⟨z, hz⟩ : ∃ z : ByteArray, flD o1 t1 k1 = z := ⟨_, rfl⟩
      rw [hz] at hd hzs
      have hsum : ¬ (9223372036854775807 < c.size + z.size) := by omega
      have HZ := Lib.hid hzs
      have HD := Lib.hid hd
      have H := Lib.hid (And.intro h3 (And.intro h5 (And.intro h6 (And.intro hlt (And.intro hbw hz)))))
      have HB := Lib.hid hbox
      clear hd h3 h5 h6 h7 hlt hbw hrow hz hlc hsz hzs
      go_wp2_with (go_at_call 88; refine HD.out.mono ?_; rintro e1 w1 ⟨rfl, hb1⟩)
      go_roundw
      case rel =>
       obtain ⟨h3, h5, h6, hlt, hbw, hz⟩ := H.out
       refine ⟨j + 1, c ++ z, by omega, by go_num, rfl, (hb1.cell (p := ⟨w.heap.size, 3, none⟩) hlt).trans HB.out, by rw [ByteArray.size_append]; exact HZ.out, p.app (.cons o1 n1 t1 k1 .nil), r1, by rw [h3, F.app_assoc]; rfl, by rw [F.len_app, h5]; rfl, ?_, Nat.lt_of_lt_of_le hlt hb1.size, hbw.trans (hb1.mono hbw.size)⟩
       rw [fl_app, fl_one, h6, ← hz, ByteArray.append_assoc]
      case measure => simp [intOf]; omega
theorem flatS (m : Nat) : ∀ f : F, f.deep ≤ m → FlatS f := by
 induction m with
 | zero =>
   intro f hf w o n t k p r a cap fs he
   rw [he, F.deep_app] at hf; simp only [F.deep] at hf; omega
 | succ m ih =>
   intro f hf w o n t k p r a cap fs he hs hfs hc hsz
   have hk : k.deep ≤ m := by rw [he, F.deep_app] at hf; simp only [F.deep] at hf; omega
   exact flat_step w o n t k (ih k hk) a cap fs hs hfs hc (by rw [he, F.size_app] at hsz; simp only [F.size] at hsz; omega)
end Go.Proofs.YtjcaiecapapceaaGreat.Flat
namespace Go.Proofs.YtjcaiecapapceaaGreat.FlatI
open Go.RowKit P1 Cnt CntC Flat BufB
def WriteI (B b : Nat) (f : F) : Prop := ∀ (w : World) (l : List UInt8) (o n : Int) (t : ByteArray) (k : F) (p r : F) (a : Option Addr) (cap : Nat) (fs : List Nat), f = p.app (.cons o n t k r) → SubAt w a k fs → (∀ c ∈ fs, c < B) → k.len ≤ cap → l.length + (1 + t.size + k.size) ≤ 50000000 → Holds B b l w → B ≤ w.heap.size → b < w.heap.size →
 Calls Tryz.prog 132 #[.pointer (some ⟨b, 0, none⟩), .agg #[.int .i64 o, .int .i64 n, .string t, .slice a k.len cap]] w fun e w' => e = .returned (.tuple #[]) ∧ Wrote B b (l ++ wfD o t k) w w'
theorem text_len (t : ByteArray) : t.data.toList.length = t.size := Array.length_toList
theorem write_step (B b : Nat) (w : World) (l : List UInt8) (o n : Int) (t : ByteArray) (k : F) (ih : WriteI B b k) (a : Option Addr) (cap : Nat) (fs : List Nat) (hs : SubAt w a k fs) (hfs : ∀ c ∈ fs, c < B) (hc : k.len ≤ cap) (hsz : l.length + (1 + t.size + k.size) ≤ 50000000) (hH : Holds B b l w) (hB : B ≤ w.heap.size) (hb : b < w.heap.size) :
  Calls Tryz.prog 132 #[.pointer (some ⟨b, 0, none⟩), .agg #[.int .i64 o, .int .i64 n, .string t, .slice a k.len cap]] w fun e w' => e = .returned (.tuple #[]) ∧ Wrote B b (l ++ wfD o t k) w w' := by
 have hlc := F.len_le_size k
 obtain ⟨L, hL⟩ : ∃ L, k.len = L := ⟨_, rfl⟩
 rw [hL] at hc hlc ⊢
 have hL4 : L ≤ 50000000 := by omega
 have HL := Lib.hid hL
 clear hL
 have hsub : 0 < L → ∃ b off f', a = some ⟨b, off, none⟩ ∧ RowAt w k b off f' ∧ b < B ∧ ∀ c ∈ f', c < B := by
  intro h0
  rcases hs with ⟨rfl, rfl⟩ | ⟨b, off, f', rfl, hnil, rfl, hrow⟩
  ·have := HL.out; simp only [F.len] at this; omega
  ·exact ⟨b, off, f', rfl, hrow, hfs b (by simp), fun c hc => hfs c (by simp [hc])⟩
 have HSUB := Lib.hid hsub
 have IH := Lib.hid ih
 have HSZ := Lib.hid hsz
 have HBB := Lib.hid hB
 have HBW := Lib.hid hb
 have hts : t.size ≤ 50000000 := by omega
 have HA := Lib.hid (fun (ob : Obj) => Wrote.alloc hH hB ob)
 have HN := Lib.hid (heap_new w #[.int .i64 o, .int .i64 n, .string t, .slice a L cap] 25)
 have HNC : Hid (∀ T, (w.alloc (.cells #[.int .i64 o, .int .i64 n, .string t, .slice a L cap] T)).cell? ⟨w.heap.size, 2, none⟩ = some (.string t) ∧ (w.alloc (.cells #[.int .i64 o, .int .i64 n, .string t, .slice a L cap] T)).cell? ⟨w.heap.size, 3, none⟩ = some (.slice a L cap)) := Lib.hid (fun T => ⟨by rw [World.cell?_alloc_new]; rfl, by rw [World.cell?_alloc_new]; rfl⟩)
 have HLP := Lib.hid (show l.length + 1 ≤ 50000000 by omega)
 cases hoo : (o == 3) with
 | true =>
   have HT := Lib.hid (show wfD o t k = [32] ++ t.data.toList ++ wf k by simp [wfD, hoo])
   have HW := Lib.hid (fun ob => writeByte B b l 32 32 rfl (w.alloc ob) (hH.alloc ob) (by omega) (by simp; omega))
   clear hsub hs hfs ih hsz hH hB hb hlc
   go_enter Tryz.func132, Tryz.ntmps132
   go_wp2_with fail
   refine (HW.out _).mono ?_
   rintro e1 w1 ⟨rfl, hw1⟩
   have d2 := (hw1.cell (o := 2) HN.out (by decide) (Nat.ne_of_gt HBW.out)).trans (HNC.out _).1
   have d3 := (hw1.cell (o := 3) HN.out (by decide) (Nat.ne_of_gt HBW.out)).trans (HNC.out _).2
   have hw := (HA.out (.cells #[.int .i64 o, .int .i64 n, .string t, .slice a L cap] 25)).trans hw1
   have HWS := Lib.hid (writeString B b (l ++ [32]) t w1 hw.1 (by have := HLP.out; simp; omega) (by omega) (Nat.le_trans HBB.out hw.2.1.size))
   have HN1 := Lib.hid ((hw1.2.2 w.heap.size _ HN.out (by have := HBW.out; simp; omega) (fun c' fz' e => by cases e)))
   have H1 := Lib.hid hw
   clear hw hw1
   go_wp2_with fail
   refine HWS.out.mono ?_
   rintro e2 w2 ⟨rfl, hw2⟩
   have d3' := (hw2.cell (o := 3) HN1.out (by decide) (Nat.ne_of_gt HBW.out)).trans d3
   have H2 := Lib.hid (H1.out.trans hw2)
   clear hw2 d2 d3
   go_wp2_with fail
   go_loopw [18] (fun i wr => ∃ (j : Nat), j ≤ L ∧ i = .int .i64 j ∧ ∃ p g : F, k = p.app g ∧ p.len = j ∧ Wrote B b ((l ++ [32] ++ t.data.toList) ++ wf p) w wr) (fun i _ => L - (intOf i).toNat)
   case atStart => exact ⟨0, by omega, rfl, .nil, k, rfl, rfl, by show Wrote B b ((l ++ [32] ++ t.data.toList) ++ []) w _; rw [List.append_nil]; exact H2.out⟩
   case round =>
    obtain ⟨j, hj, rfl, p, g, h3, h5, h6⟩ := hrel
    have h7 : g.len = L - j := by have := HL.out; rw [h3, F.len_app, h5] at this; omega
    cases g with
    | nil =>
      have hjL : L ≤ j := by simp only [F.len] at h7; omega
      have H := Lib.hid (And.intro h3 h6)
      clear h3 h5 h6 h7
      go_wp2_with fail
      go_end0
      refine ⟨rfl, ?_⟩
      rw [HT.out, ← show l ++ [32] ++ t.data.toList ++ wf k = l ++ ([32] ++ t.data.toList ++ wf k) by simp only [List.append_assoc]]
      obtain ⟨h3, h6⟩ := H.out
      rw [F.app_nil] at h3
      rw [h3]; exact h6
    | cons o1 n1 t1 k1 r1 =>
      have hjL : j < L := by simp only [F.len] at h7; omega
      obtain ⟨b1, off, f', rfl, hrow, hbB, hfB⟩ := HSUB.out (by omega)
      rw [h3] at hrow
      obtain ⟨a1, cap1, f1, c0, c1, c2, c3, hc1', hsub1, hin⟩ := row_at hrow
      rw [h5] at c0 c1 c2 c3
      have hbw := h6.2.1
      rw [← hbw.cell (p := ⟨_, _, _⟩) hbB] at c0 c1 c2 c3
      have hwrs := hbw.size
      have hBB := HBB.out
      have hBW := HBW.out
      have hle : ((l ++ [32] ++ t.data.toList) ++ wf p).length + (1 + t1.size + k1.size) ≤ 50000000 := by
       have := HSZ.out
       have e1 := wf_size p
       rw [h3, F.size_app] at this; simp only [F.size] at this
       simp only [List.length_append, text_len, List.length_cons, List.length_nil]; omega
      have hd := fun (ob : Obj) => IH.out (wr.alloc ob) ((l ++ [32] ++ t.data.toList) ++ wf p) o1 n1 t1 k1 p r1 a1 cap1 f1 h3 (hsub1.below (fun c hc => hfB c (hin c hc)) (hbw.alloc (Nat.le_trans hBB hwrs) ob)) (fun c hc => hfB c (hin c hc)) hc1' hle (h6.1.alloc ob) (by simp; omega) (by simp; omega)
      have HAL := Lib.hid (fun ob => h6.trans (Wrote.alloc h6.1 (Nat.le_trans hBB hwrs) ob))
      have HD := Lib.hid hd
      have H := Lib.hid (And.intro h3 h5)
      clear hd h3 h5 h6 h7 hbw hrow hle hwrs hBB hBW
      go_wp2_with (go_at_call 132; refine (HD.out _).mono ?_; rintro e1 w3 ⟨rfl, hw3⟩)
      have H3 := Lib.hid hw3
      clear hw3
      go_roundw
      case rel =>
       obtain ⟨h3, h5⟩ := H.out
       refine ⟨j + 1, by omega, by go_num, p.app (.cons o1 n1 t1 k1 .nil), r1, by rw [h3, F.app_assoc]; rfl, by rw [F.len_app, h5]; rfl, ?_⟩
       have := (HAL.out _).trans H3.out
       rw [List.append_assoc] at this
       rw [wf_app, wf_one]; exact this
      case measure => simp [intOf]; omega
 | false =>
   have HT := Lib.hid (show wfD o t k = t.data.toList ++ wf k by simp [wfD, hoo])
   have HWS := Lib.hid (fun ob => writeString B b l t (w.alloc ob) (hH.alloc ob) (by omega) (by omega) (by simp; omega))
   clear hsub hs hfs ih hsz hH hB hb hlc
   go_enter Tryz.func132, Tryz.ntmps132
   go_wp2_with fail
   refine (HWS.out _).mono ?_
   rintro e2 w2 ⟨rfl, hw2⟩
   have d3' := (hw2.cell (o := 3) HN.out (by decide) (Nat.ne_of_gt HBW.out)).trans (HNC.out _).2
   have H2 := Lib.hid ((HA.out (.cells #[.int .i64 o, .int .i64 n, .string t, .slice a L cap] 25)).trans hw2)
   clear hw2
   go_wp2_with fail
   go_loopw [18] (fun i wr => ∃ (j : Nat), j ≤ L ∧ i = .int .i64 j ∧ ∃ p g : F, k = p.app g ∧ p.len = j ∧ Wrote B b ((l ++ t.data.toList) ++ wf p) w wr) (fun i _ => L - (intOf i).toNat)
   case atStart => exact ⟨0, by omega, rfl, .nil, k, rfl, rfl, by show Wrote B b ((l ++ t.data.toList) ++ []) w _; rw [List.append_nil]; exact H2.out⟩
   case round =>
    obtain ⟨j, hj, rfl, p, g, h3, h5, h6⟩ := hrel
    have h7 : g.len = L - j := by have := HL.out; rw [h3, F.len_app, h5] at this; omega
    cases g with
    | nil =>
      have hjL : L ≤ j := by simp only [F.len] at h7; omega
      have H := Lib.hid (And.intro h3 h6)
      clear h3 h5 h6 h7
      go_wp2_with fail
      go_end0
      refine ⟨rfl, ?_⟩
      rw [HT.out, ← show l ++ t.data.toList ++ wf k = l ++ (t.data.toList ++ wf k) by simp only [List.append_assoc]]
      obtain ⟨h3, h6⟩ := H.out
      rw [F.app_nil] at h3
      rw [h3]; exact h6
    | cons o1 n1 t1 k1 r1 =>
      have hjL : j < L := by simp only [F.len] at h7; omega
      obtain ⟨b1, off, f', rfl, hrow, hbB, hfB⟩ := HSUB.out (by omega)
      rw [h3] at hrow
      obtain ⟨a1, cap1, f1, c0, c1, c2, c3, hc1', hsub1, hin⟩ := row_at hrow
      rw [h5] at c0 c1 c2 c3
      have hbw := h6.2.1
      rw [← hbw.cell (p := ⟨_, _, _⟩) hbB] at c0 c1 c2 c3
      have hwrs := hbw.size
      have hBB := HBB.out
      have hBW := HBW.out
      have hle : ((l ++ t.data.toList) ++ wf p).length + (1 + t1.size + k1.size) ≤ 50000000 := by
       have := HSZ.out
       have e1 := wf_size p
       rw [h3, F.size_app] at this; simp only [F.size] at this
       simp only [List.length_append, text_len]; omega
      have hd := fun (ob : Obj) => IH.out (wr.alloc ob) ((l ++ t.data.toList) ++ wf p) o1 n1 t1 k1 p r1 a1 cap1 f1 h3 (hsub1.below (fun c hc => hfB c (hin c hc)) (hbw.alloc (Nat.le_trans hBB hwrs) ob)) (fun c hc => hfB c (hin c hc)) hc1' hle (h6.1.alloc ob) (by simp; omega) (by simp; omega)
      have HAL := Lib.hid (fun ob => h6.trans (Wrote.alloc h6.1 (Nat.le_trans hBB hwrs) ob))
      have HD := Lib.hid hd
      have H := Lib.hid (And.intro h3 h5)
      clear hd h3 h5 h6 h7 hbw hrow hle hwrs hBB hBW
      go_wp2_with (go_at_call 132; refine (HD.out _).mono ?_; rintro e1 w3 ⟨rfl, hw3⟩)
      have H3 := Lib.hid hw3
      clear hw3
      go_roundw
      case rel =>
       obtain ⟨h3, h5⟩ := H.out
       refine ⟨j + 1, by omega, by go_num, p.app (.cons o1 n1 t1 k1 .nil), r1, by rw [h3, F.app_assoc]; rfl, by rw [F.len_app, h5]; rfl, ?_⟩
       have := (HAL.out _).trans H3.out
       rw [List.append_assoc] at this
       rw [wf_app, wf_one]; exact this
      case measure => simp [intOf]; omega
theorem writeI (B b : Nat) (m : Nat) : ∀ f : F, f.deep ≤ m → WriteI B b f := by
 induction m with
 | zero =>
   intro f hf w l o n t k p r a cap fs he
   rw [he, F.deep_app] at hf; simp only [F.deep] at hf; omega
 | succ m ih =>
   intro f hf w l o n t k p r a cap fs he hs hfs hc hsz hH hB hb
   have hk : k.deep ≤ m := by rw [he, F.deep_app] at hf; simp only [F.deep] at hf; omega
   exact write_step B b w l o n t k (ih k hk) a cap fs hs hfs hc hsz hH hB hb
theorem implFlatText (w : World) (o n : Int) (t : ByteArray) (k : F) (a : Option Addr) (cap : Nat) (fs : List Nat) (hs : SubAt w a k fs) (hfs : ∀ c ∈ fs, c < w.heap.size ∧ ∀ o, w.frozen? ⟨c, o, none⟩ = false) (hc : k.len ≤ cap) (hsz : t.size + k.size ≤ 2097152) (hft : k.Fits) (ht : t.size ≤ maxLen) :
  Calls Tryz.prog 175 #[.agg #[.int .i64 o, .int .i64 n, .string t, .slice a k.len cap]] w fun e w' => e = .returned (.tuple #[.string (ftD o n t k), .bool (canD o n t k)]) ∧ Below w.heap.size w w' := by
 have B1 : ∀ (ob : Obj), Below w.heap.size w (w.alloc ob) := fun ob => (Below.refl _ _).alloc (Nat.le_refl _) _
 have hi := fun (ob : Obj) => implCanFlatten (w.alloc ob) o n t k a cap fs (hs.below (fun c hc => (hfs c hc).1) (B1 ob)) (fun c hc => ⟨by have := (hfs c hc).1; simp; omega, fun x => ((B1 ob).frozen (p := ⟨c, x, none⟩) (hfs c hc).1).trans ((hfs c hc).2 x)⟩) hc (by omega) hft ht
 have hn := fun (w1 : World) (hw1 : Below w.heap.size w w1) (w2 : World) (hw2 : Below w1.heap.size w1 w2) (hH : Holds w1.heap.size w1.heap.size [] w2) (hlt : w1.heap.size < w2.heap.size) =>
  write_step w1.heap.size w1.heap.size w2 [] o n t k (writeI _ _ _ k (Nat.le_refl _)) a cap fs (hs.below (fun c hc => (hfs c hc).1) (hw1.trans (hw2.mono hw1.size))) (fun c hc => Nat.lt_of_lt_of_le (hfs c hc).1 hw1.size) hc (by simp; omega) hH hw2.size hlt
 unfold ftD
 cases hk : canD o n t k with
 | false =>
   rw [hk] at hi
   have HI := Lib.hid hi
   clear hi hn hk hs hfs hft
   go_enter Tryz.func175, Tryz.ntmps175
   go_wp2_with fail
   refine (HI.out _).mono ?_
   rintro e1 w1 ⟨rfl, hb1⟩
   go_wp2_with fail
   go_ret2
   exact ⟨rfl, (B1 _).trans (hb1.mono (by simp))⟩
 | true =>
   have hva : validD o n t k = true := by simp only [canD, Bool.and_eq_true] at hk; exact hk.1
   have hwf := wfD_fl hva
   rw [hk] at hi
   obtain ⟨y, hy⟩ : ∃ y, wfD o t k = y := ⟨_, rfl⟩
   obtain ⟨z, hz⟩ : ∃ z, flD o t k = z := ⟨_, rfl⟩
   rw [hz, hy] at hwf
   rw [hy] at hn
   rw [hz]
   have HY := Lib.hid (show (⟨([] ++ y).toArray⟩ : ByteArray) = z by rw [List.nil_append, hwf])
   have HI := Lib.hid hi
   have HN := Lib.hid hn
   clear hi hn hk hs hfs hft hz hy hva hwf
   go_enter Tryz.func175, Tryz.ntmps175
   go_wp2_with fail
   refine (HI.out _).mono ?_
   rintro e1 w1 ⟨rfl, hb1⟩
   have hbx : w1.cell? ⟨w.heap.size, 0, none⟩ = some (.int .i64 o) ∧ w1.cell? ⟨w.heap.size, 1, none⟩ = some (.int .i64 n) ∧ w1.cell? ⟨w.heap.size, 2, none⟩ = some (.string t) ∧ w1.cell? ⟨w.heap.size, 3, none⟩ = some (.slice a k.len cap) := by
    refine ⟨?_, ?_, ?_, ?_⟩
    all_goals (rw [hb1.cell (p := ⟨_, _, _⟩) (by simp)]; simp)
   obtain ⟨x0, x1, x2, x3⟩ := hbx
   have hlt : w.heap.size < w1.heap.size := by have := hb1.size; simp at this; omega
   have hb2 := (B1 _).trans (hb1.mono (by simp))
   have HB := Lib.hid hb2
   have HNE := Lib.hid (Holds.new w1)
   have HWR := Lib.hid (fun ob (h : Holds w1.heap.size w1.heap.size [] (w1.alloc ob)) => HN.out w1 hb2 (w1.alloc ob) ((Below.refl _ _).alloc (Nat.le_refl _) _) h (by simp))
   clear hb1 hb2
   go_wp2_with fail
   refine (HWR.out _ HNE.out).mono ?_
   rintro e2 w2 ⟨rfl, hw2⟩
   have HS := Lib.hid (string w1.heap.size w1.heap.size _ w2 hw2.1 (Nat.le_trans (by simp) hw2.2.1.size))
   have H2 := Lib.hid hw2.2.1
   clear hw2
   go_wp2_with fail
   refine HS.out.mono ?_
   rintro e3 w3 ⟨rfl, hw3⟩
   have H3 := Lib.hid hw3.2.1
   clear hw3
   go_wp2_with fail
   go_ret2
   refine ⟨ret_flat HY.out, ?_⟩
   have hb := ((show Below w1.heap.size w1 (w1.alloc _) from (Below.refl _ _).alloc (Nat.le_refl _) _).trans H2.out).trans H3.out
   exact HB.out.trans (hb.mono HB.out.size)
end Go.Proofs.YtjcaiecapapceaaGreat.FlatI

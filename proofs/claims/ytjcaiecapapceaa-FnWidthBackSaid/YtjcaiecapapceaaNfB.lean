import Derived.Test.YtjcaiecapapceaaCpX
import Derived.Test.YtjcaiecapapceaaNfA
import Derived.Laws.EntriesVeiled
import Derived.Shelf.Abstract
import Derived.Deep.RegionWith
/-
 What impl.changeKids comes to, whatever function it is given: each of the Kids changed, in new memory.
-/
set_option linter.unusedVariables false
set_option linter.unusedSimpArgs false
set_option maxRecDepth 100000
set_option maxHeartbeats 3200000
namespace Go.Proofs.Ytjcaiecapapceaa.Nf
open Go.RowKit P1 Copy
def NewD (w : World) (d : D) (e : Ending) (w' : World) : Prop := NewOut w d.1 d.2.1 d.2.2.1 d.2.2.2 e w'
end Go.Proofs.Ytjcaiecapapceaa.Nf
namespace Go.Proofs.Ytjcaiecapapceaa.Nf
open Go.RowKit P1 Copy
def RuleOut (lo : Nat) (w : World) (d : D) (e : Ending) (w' : World) : Prop := ∃ (a : Option Addr) (cap : Nat) (fs : List Nat), e = .returned (.agg #[.int .i64 d.1, .int .i64 d.2.1, .string d.2.2.1, .slice a d.2.2.2.len cap]) ∧ d.2.2.2.len ≤ cap ∧ SubAt w' a d.2.2.2 fs ∧ Fresh lo w' fs ∧ Below w.heap.size w w'
structure RuleFn (g : Nat) (lb : Array Value) (rule : Rule) : Prop where
 enter : ∀ (args : Array Value) (W : World), (callFunc g args).run Try.prog W = .ok (.enter g args) W
 keep : ∀ (o n : Int) (t : ByteArray) (k : F), niceD (o, n, t, k) = true → niceD (rule o n t k) = true ∧ (rule o n t k).2.2.2.cnt ≤ k.cnt
 call : ∀ (lo : Nat) (W : World) (o n : Int) (t : ByteArray) (k : F) (a : Option Addr) (cap : Nat) (fs : List Nat), niceD (o, n, t, k) = true → k.cnt ≤ 10000 → SubAt W a k fs → Fresh lo W fs → k.len ≤ cap → lo ≤ W.heap.size →
  Calls Try.prog g (#[.agg #[.int .i64 o, .int .i64 n, .string t, .slice a k.len cap]] ++ lb) W (RuleOut lo W (rule o n t k))
theorem RuleFn.list {g : Nat} {lb : Array Value} {rule : Rule} (R : RuleFn g lb rule) : ∀ f : F, nice f = true → nice (chL rule f) = true ∧ (chL rule f).cnt ≤ f.cnt := by
 intro f
 induction f with
 | nil => intro _; exact ⟨rfl, Nat.le_refl _⟩
 | cons o n t k r ihk ihr =>
   intro h
   simp only [nice, Bool.and_eq_true] at h
   obtain ⟨h1, h2⟩ := ihk h.1.2
   obtain ⟨h3, h4⟩ := ihr h.2
   obtain ⟨h5, h6⟩ := R.keep o n t (chL rule k) (by unfold niceD; simp only [Bool.and_eq_true]; exact ⟨by rw [len_chL]; exact h.1.1, h1⟩)
   refine ⟨?_, ?_⟩
   ·rw [chL, nice_consD, h5, h3]; rfl
   ·rw [chL]; show 1 + (rule o n t (chL rule k)).2.2.2.cnt + (chL rule r).cnt ≤ 1 + k.cnt + r.cnt; omega
theorem RuleFn.doc {g : Nat} {lb : Array Value} {rule : Rule} (R : RuleFn g lb rule) {o n : Int} {t : ByteArray} {k : F} (h : niceD (o, n, t, k) = true) : niceD (o, n, t, chL rule k) = true ∧ (chL rule k).cnt ≤ k.cnt := by
 unfold niceD at h ⊢
 simp only [Bool.and_eq_true] at h ⊢
 obtain ⟨h1, h2⟩ := R.list k h.2
 exact ⟨⟨by rw [len_chL]; exact h.1, h1⟩, h2⟩
theorem end_new2 {w w3 w4 : World} {lo hi B : Nat} {o n : Int} {t : ByteArray} {k : F} {a : Option Addr} {cap : Nat} {fs : List Nat} (hs : SubAt w3 a k fs) (hF : Fresh B w3 fs) (hc : k.len ≤ cap) (hB : hi ≤ B) (hlo : w.heap.size ≤ lo) (hlh : lo ≤ hi) (hb : Below w.heap.size w w3) (ht : Touch lo hi w3 w4) :
  NewOut w o n t k (.returned (.agg #[.int .i64 o, .int .i64 n, .string t, .slice a k.len cap])) w4 :=
 ⟨a, cap, fs, rfl, hc, ht.sub hs (fun c hc => Or.inr (by have := (hF.2 c hc).1; omega)), ht.fresh (hF.mono (by omega)) (fun c hc => Or.inr (by have := (hF.2 c hc).1; omega)), ht.below hb hlo⟩
theorem zbox_below {w w' : World} {b B : Nat} (h : ZBox w b) (k : Below B w w') (hb : b < B) : ZBox w' b := by
 obtain ⟨⟨h0, h1, h2, h3⟩, ⟨z0, z1, z2, z3⟩, hl⟩ := h
 exact ⟨⟨(k.cell (p := ⟨_, _, _⟩) hb).trans h0, (k.cell (p := ⟨_, _, _⟩) hb).trans h1, (k.cell (p := ⟨_, _, _⟩) hb).trans h2, (k.cell (p := ⟨_, _, _⟩) hb).trans h3⟩, ⟨(k.frozen (p := ⟨_, _, _⟩) hb).trans z0, (k.frozen (p := ⟨_, _, _⟩) hb).trans z1, (k.frozen (p := ⟨_, _, _⟩) hb).trans z2, (k.frozen (p := ⟨_, _, _⟩) hb).trans z3⟩, Nat.lt_of_lt_of_le hl k.size⟩
end Go.Proofs.Ytjcaiecapapceaa.Nf
namespace Go.Proofs.Ytjcaiecapapceaa.Nf
open Go.RowKit P1 Copy CatD
def aggD (d : D) (a : Option Addr) (cap : Nat) : Value := .agg #[.int .i64 d.1, .int .i64 d.2.1, .string d.2.2.1, .slice a d.2.2.2.len cap]
def chR (d d' : D) : Bool × D := if validD d.1 d.2.1 d.2.2.1 d.2.2.2 then (if validD d'.1 d'.2.1 d'.2.2.1 d'.2.2.2 then (true, d') else (false, zeroD)) else (false, zeroD)
theorem end_no {w w3 w4 : World} {lo hi : Nat} (hlo : w.heap.size ≤ lo) (hb : Below w.heap.size w w3) (ht : Touch lo hi w3 w4) :
  DocRes w (false, zeroD) (.returned (.tuple #[.agg #[.int .i64 0, .int .i64 0, .string ⟨#[]⟩, .slice none 0 0], .bool false])) w4 :=
 ⟨none, 0, [], rfl, by simp [zeroD, F.len], Or.inl ⟨rfl, rfl⟩, Fresh.nil w.heap.size w4, ht.below hb hlo⟩
theorem zbox_second (w : World) (x : Obj) (T : TypeId) : ZBox ((w.alloc x).alloc (.cells #[.int .i64 0, .int .i64 0, .string ⟨#[]⟩, .slice none 0 0] T)) (w.heap.size + 1) := by
 have e : (w.alloc x).heap.size = w.heap.size + 1 := by simp
 rw [← e]; exact ZBox.alloc _ _
end Go.Proofs.Ytjcaiecapapceaa.Nf
namespace Go.Proofs.Ytjcaiecapapceaa.Nf
open Go.RowKit P1 Copy CatD
theorem Fresh.left {lo : Nat} {w : World} {f1 f2 : List Nat} (h : Fresh lo w (f1 ++ f2)) : Fresh lo w f1 := ⟨(List.nodup_append.1 h.1).1, fun c hc => h.2 c (List.mem_append_left _ hc)⟩
theorem Fresh.right {lo : Nat} {w : World} {f1 f2 : List Nat} (h : Fresh lo w (f1 ++ f2)) : Fresh lo w f2 := ⟨(List.nodup_append.1 h.1).2.1, fun c hc => h.2 c (List.mem_append_right _ hc)⟩
theorem Fresh.tail {lo b : Nat} {w : World} {fs : List Nat} (h : Fresh lo w (b :: fs)) : Fresh lo w fs := ⟨(List.nodup_cons.1 h.1).2, fun c hc => h.2 c (List.mem_cons_of_mem _ hc)⟩
theorem row_first {w : World} {b off : Nat} {o n : Int} {t : ByteArray} {k r : F} {fs : List Nat} {lo : Nat} (h : RowAt w (.cons o n t k r) b off fs) (hF : Fresh lo w fs) :
  ∃ (a : Option Addr) (cap : Nat) (f1 f2 : List Nat), w.cell? ⟨b, off, none⟩ = some (.int .i64 o) ∧ w.cell? ⟨b, off + 1, none⟩ = some (.int .i64 n) ∧ w.cell? ⟨b, off + 2, none⟩ = some (.string t) ∧ w.cell? ⟨b, off + 3, none⟩ = some (.slice a k.len cap) ∧ k.len ≤ cap ∧
   SubAt w a k f1 ∧ Fresh lo w f1 ∧ RowAt w r b (off + 4) f2 ∧ Fresh lo w f2 := by
 obtain ⟨a, cap, f1, f2, h0, h1, h2, h3, h4, h5, h6, rfl⟩ := RowAt.cons_iff.1 h
 exact ⟨a, cap, f1, f2, h0, h1, h2, h3, h4, h5, Fresh.left hF, h6, Fresh.right hF⟩
theorem sub_row {w : World} {a : Option Addr} {o n : Int} {t : ByteArray} {k r : F} {fs : List Nat} {lo : Nat} (h : SubAt w a (.cons o n t k r) fs) (hF : Fresh lo w fs) :
  ∃ (b off : Nat) (f' : List Nat), a = some ⟨b, off, none⟩ ∧ b < w.heap.size ∧ RowAt w (.cons o n t k r) b off f' ∧ Fresh lo w f' := by
 rcases h with ⟨h, _⟩ | ⟨b, off, f', rfl, _, rfl, h⟩
 ·cases h
 ·exact ⟨b, off, f', rfl, hF.lt b (by simp), h, Fresh.tail hF⟩
theorem rule_end {lo : Nat} {W w4 : World} {d : D} {a : Option Addr} {cap : Nat} {fs : List Nat} (hb : Below W.heap.size W w4) (hs : SubAt W a d.2.2.2 fs) (hF : Fresh lo W fs) (hc : d.2.2.2.len ≤ cap) :
  RuleOut lo W d (.returned (aggD d a cap)) w4 :=
 ⟨a, cap, fs, rfl, hc, hs.below hF.lt hb, hF.below hF.lt hb, hb⟩
theorem em_keep (o n : Int) (t : ByteArray) (k : F) (h : niceD (o, n, t, k) = true) : niceD (emR o n t k) = true ∧ (emR o n t k).2.2.2.cnt ≤ k.cnt := by
 have hn := (nice_kids h).2
 by_cases h7 : o = 7
 ·obtain ⟨a, b, rfl⟩ := kids_two h h7
  rw [nice_consD, nice_consD] at hn
  simp only [Bool.and_eq_true] at hn
  unfold emR
  split
  ·exact ⟨hn.2.1, by show b.2.2.2.cnt ≤ 1 + a.2.2.2.cnt + (1 + b.2.2.2.cnt + 0); omega⟩
  ·split
   ·exact ⟨hn.1, by show a.2.2.2.cnt ≤ 1 + a.2.2.2.cnt + (1 + b.2.2.2.cnt + 0); omega⟩
   ·split
    ·exact ⟨hn.1, by show a.2.2.2.cnt ≤ 1 + a.2.2.2.cnt + (1 + b.2.2.2.cnt + 0); omega⟩
    ·exact ⟨h, Nat.le_refl _⟩
 ·unfold emR
  rw [if_neg (by simp [h7]), if_neg (by simp [h7])]
  split
  ·rename_i hq
   obtain ⟨a, rfl⟩ := kids_one h hq.1
   rw [nice_consD] at hn
   simp only [Bool.and_eq_true] at hn
   exact ⟨hn.1, by show a.2.2.2.cnt ≤ 1 + a.2.2.2.cnt + 0; omega⟩
  ·exact ⟨h, Nat.le_refl _⟩
theorem wo_c1 (lo : Nat) (W : World) (d1 d2 : D) (n : Int) (t : ByteArray) (a : Option Addr) (cap : Nat) (fs : List Nat) (H1 : d1.1 = 1) (hs : SubAt W a (consD d1 (consD d2 .nil)) fs) (hF : Fresh lo W fs) (hc : ((consD d1 (consD d2 .nil))).len ≤ cap) :
  Calls Try.prog 82 #[.agg #[.int .i64 7, .int .i64 n, .string t, .slice a ((consD d1 (consD d2 .nil))).len cap]] W (RuleOut lo W (d2)) := by
 obtain ⟨o1, n1, t1, k1⟩ := d1
 obtain ⟨o2, n2, t2, k2⟩ := d2
 simp only [consD] at hs hc H1 ⊢
 have hl2 : (F.cons o1 n1 t1 k1 (.cons o2 n2 t2 k2 .nil)).len = 2 := rfl
 rw [hl2] at hc ⊢
 have HS0 := Lib.hid (And.intro hs hF)
 obtain ⟨b, off, f', rfl, hb, hrow, hF'⟩ := sub_row hs hF
 obtain ⟨a1, c1, f1, f2, x0, x1, x2, x3, x4, hs1, hF1, hr2, hF2⟩ := row_first hrow hF'
 obtain ⟨a2, c2, f3, f4, y0, y1, y2, y3, y4, hs2, hF3, hr4, hF4⟩ := row_first hr2 hF2
 obtain ⟨L1, hL1⟩ : ∃ L, k1.len = L := ⟨_, rfl⟩
 obtain ⟨L2, hL2⟩ : ∃ L, k2.len = L := ⟨_, rfl⟩
 rw [hL1] at x3
 rw [hL2] at y3
 have HQ := Lib.hid (And.intro hs1 (And.intro hF1 (And.intro x4 (And.intro hs2 (And.intro hF3 (And.intro y4 (And.intro hL1 hL2)))))))
 clear hs hF hrow hF' hs1 hF1 hr2 hF2 hs2 hF3 hr4 hF4 x4 y4 hL1 hL2
 have q1 : (o1 == 1) = true := by rw [beq_iff_eq]; exact H1
 go_enter Try.func82, Try.ntmps82
 go_wp2_with fail
 refine bodyPost_ret (v := .agg #[.int .i64 o2, .int .i64 n2, .string t2, .slice a2 L2 c2]) (by simp [results, Try.results82, go_sem]) rfl ?_
 obtain ⟨_, _, _, hs2, hF3, y4, _, hL2⟩ := HQ.out
 rw [← hL2]
 exact rule_end (d := (o2, n2, t2, k2)) (by repeat (first | exact Below.refl _ _ | refine Below.alloc ?_ (by simp) _ | refine Below.setCell ?_ (by simp) _)) hs2 hF3 y4
theorem wo_c2 (lo : Nat) (W : World) (d1 d2 : D) (n : Int) (t : ByteArray) (a : Option Addr) (cap : Nat) (fs : List Nat) (H1 : d1.1 ≠ 1) (H2 : d2.1 = 1) (hs : SubAt W a (consD d1 (consD d2 .nil)) fs) (hF : Fresh lo W fs) (hc : ((consD d1 (consD d2 .nil))).len ≤ cap) :
  Calls Try.prog 82 #[.agg #[.int .i64 7, .int .i64 n, .string t, .slice a ((consD d1 (consD d2 .nil))).len cap]] W (RuleOut lo W (d1)) := by
 obtain ⟨o1, n1, t1, k1⟩ := d1
 obtain ⟨o2, n2, t2, k2⟩ := d2
 simp only [consD] at hs hc H1 H2 ⊢
 have hl2 : (F.cons o1 n1 t1 k1 (.cons o2 n2 t2 k2 .nil)).len = 2 := rfl
 rw [hl2] at hc ⊢
 have HS0 := Lib.hid (And.intro hs hF)
 obtain ⟨b, off, f', rfl, hb, hrow, hF'⟩ := sub_row hs hF
 obtain ⟨a1, c1, f1, f2, x0, x1, x2, x3, x4, hs1, hF1, hr2, hF2⟩ := row_first hrow hF'
 obtain ⟨a2, c2, f3, f4, y0, y1, y2, y3, y4, hs2, hF3, hr4, hF4⟩ := row_first hr2 hF2
 obtain ⟨L1, hL1⟩ : ∃ L, k1.len = L := ⟨_, rfl⟩
 obtain ⟨L2, hL2⟩ : ∃ L, k2.len = L := ⟨_, rfl⟩
 rw [hL1] at x3
 rw [hL2] at y3
 have HQ := Lib.hid (And.intro hs1 (And.intro hF1 (And.intro x4 (And.intro hs2 (And.intro hF3 (And.intro y4 (And.intro hL1 hL2)))))))
 clear hs hF hrow hF' hs1 hF1 hr2 hF2 hs2 hF3 hr4 hF4 x4 y4 hL1 hL2
 have q1 : (o1 == 1) = false := by rw [beq_eq_false_iff_ne]; exact H1
 have q2 : (o2 == 1) = true := by rw [beq_iff_eq]; exact H2
 go_enter Try.func82, Try.ntmps82
 go_wp2_with fail
 refine bodyPost_ret (v := .agg #[.int .i64 o1, .int .i64 n1, .string t1, .slice a1 L1 c1]) (by simp [results, Try.results82, go_sem]) rfl ?_
 obtain ⟨hs1, hF1, x4, _, _, _, hL1, _⟩ := HQ.out
 rw [← hL1]
 exact rule_end (d := (o1, n1, t1, k1)) (by repeat (first | exact Below.refl _ _ | refine Below.alloc ?_ (by simp) _ | refine Below.setCell ?_ (by simp) _)) hs1 hF1 x4
theorem wo_c3 (lo : Nat) (W : World) (d1 d2 : D) (n : Int) (t : ByteArray) (a : Option Addr) (cap : Nat) (fs : List Nat) (H1 : d1.1 ≠ 1) (H2 : d2.1 ≠ 1) (hs : SubAt W a (consD d1 (consD d2 .nil)) fs) (hF : Fresh lo W fs) (hc : ((consD d1 (consD d2 .nil))).len ≤ cap) :
  Calls Try.prog 82 #[.agg #[.int .i64 7, .int .i64 n, .string t, .slice a ((consD d1 (consD d2 .nil))).len cap]] W (RuleOut lo W (7, n, t, (consD d1 (consD d2 .nil)))) := by
 obtain ⟨o1, n1, t1, k1⟩ := d1
 obtain ⟨o2, n2, t2, k2⟩ := d2
 simp only [consD] at hs hc H1 H2 ⊢
 have hl2 : (F.cons o1 n1 t1 k1 (.cons o2 n2 t2 k2 .nil)).len = 2 := rfl
 rw [hl2] at hc ⊢
 have HS0 := Lib.hid (And.intro hs hF)
 obtain ⟨b, off, f', rfl, hb, hrow, hF'⟩ := sub_row hs hF
 obtain ⟨a1, c1, f1, f2, x0, x1, x2, x3, x4, hs1, hF1, hr2, hF2⟩ := row_first hrow hF'
 obtain ⟨a2, c2, f3, f4, y0, y1, y2, y3, y4, hs2, hF3, hr4, hF4⟩ := row_first hr2 hF2
 obtain ⟨L1, hL1⟩ : ∃ L, k1.len = L := ⟨_, rfl⟩
 obtain ⟨L2, hL2⟩ : ∃ L, k2.len = L := ⟨_, rfl⟩
 rw [hL1] at x3
 rw [hL2] at y3
 have HQ := Lib.hid (And.intro hs1 (And.intro hF1 (And.intro x4 (And.intro hs2 (And.intro hF3 (And.intro y4 (And.intro hL1 hL2)))))))
 clear hs hF hrow hF' hs1 hF1 hr2 hF2 hs2 hF3 hr4 hF4 x4 y4 hL1 hL2
 have q1 : (o1 == 1) = false := by rw [beq_eq_false_iff_ne]; exact H1
 have q2 : (o2 == 1) = false := by rw [beq_eq_false_iff_ne]; exact H2
 go_enter Try.func82, Try.ntmps82
 go_wp2_with fail
 refine bodyPost_ret (v := .agg #[.int .i64 7, .int .i64 n, .string t, .slice (some ⟨b, off, none⟩) 2 cap]) (by simp [results, Try.results82, go_sem]) rfl ?_
 exact rule_end (d := (7, n, t, .cons o1 n1 t1 k1 (.cons o2 n2 t2 k2 .nil))) (by repeat (first | exact Below.refl _ _ | refine Below.alloc ?_ (by simp) _ | refine Below.setCell ?_ (by simp) _)) HS0.out.1 HS0.out.2 hc
theorem wo_d6 (lo : Nat) (W : World) (d1 : D) (n : Int) (t : ByteArray) (a : Option Addr) (cap : Nat) (fs : List Nat) (H1 : d1.1 = 1) (hs : SubAt W a (consD d1 .nil) fs) (hF : Fresh lo W fs) (hc : ((consD d1 .nil)).len ≤ cap) :
  Calls Try.prog 82 #[.agg #[.int .i64 6, .int .i64 n, .string t, .slice a ((consD d1 .nil)).len cap]] W (RuleOut lo W (d1)) := by
 obtain ⟨o1, n1, t1, k1⟩ := d1
 simp only [consD] at hs hc H1 ⊢
 have hl2 : (F.cons o1 n1 t1 k1 .nil).len = 1 := rfl
 rw [hl2] at hc ⊢
 have HS0 := Lib.hid (And.intro hs hF)
 obtain ⟨b, off, f', rfl, hb, hrow, hF'⟩ := sub_row hs hF
 obtain ⟨a1, c1, f1, f2, x0, x1, x2, x3, x4, hs1, hF1, hr2, hF2⟩ := row_first hrow hF'
 obtain ⟨L1, hL1⟩ : ∃ L, k1.len = L := ⟨_, rfl⟩
 rw [hL1] at x3
 have HQ := Lib.hid (And.intro hs1 (And.intro hF1 (And.intro x4 hL1)))
 clear hs hF hrow hF' hs1 hF1 hr2 hF2 x4 hL1
 have q1 : (o1 == 1) = true := by rw [beq_iff_eq]; exact H1
 go_enter Try.func82, Try.ntmps82
 go_wp2_with fail
 refine bodyPost_ret (v := .agg #[.int .i64 o1, .int .i64 n1, .string t1, .slice a1 L1 c1]) (by simp [results, Try.results82, go_sem, show o1 = 1 from H1]) rfl ?_
 obtain ⟨hs1, hF1, x4, hL1⟩ := HQ.out
 rw [← hL1]
 exact rule_end (d := (o1, n1, t1, k1)) (by repeat (first | exact Below.refl _ _ | refine Below.alloc ?_ (by simp) _ | refine Below.setCell ?_ (by simp) _)) hs1 hF1 x4
theorem wo_e6 (lo : Nat) (W : World) (d1 : D) (n : Int) (t : ByteArray) (a : Option Addr) (cap : Nat) (fs : List Nat) (H1 : d1.1 ≠ 1) (hs : SubAt W a (consD d1 .nil) fs) (hF : Fresh lo W fs) (hc : ((consD d1 .nil)).len ≤ cap) :
  Calls Try.prog 82 #[.agg #[.int .i64 6, .int .i64 n, .string t, .slice a ((consD d1 .nil)).len cap]] W (RuleOut lo W (6, n, t, (consD d1 .nil))) := by
 obtain ⟨o1, n1, t1, k1⟩ := d1
 simp only [consD] at hs hc H1 ⊢
 have hl2 : (F.cons o1 n1 t1 k1 .nil).len = 1 := rfl
 rw [hl2] at hc ⊢
 have HS0 := Lib.hid (And.intro hs hF)
 obtain ⟨b, off, f', rfl, hb, hrow, hF'⟩ := sub_row hs hF
 obtain ⟨a1, c1, f1, f2, x0, x1, x2, x3, x4, hs1, hF1, hr2, hF2⟩ := row_first hrow hF'
 obtain ⟨L1, hL1⟩ : ∃ L, k1.len = L := ⟨_, rfl⟩
 rw [hL1] at x3
 have HQ := Lib.hid (And.intro hs1 (And.intro hF1 (And.intro x4 hL1)))
 clear hs hF hrow hF' hs1 hF1 hr2 hF2 x4 hL1
 have q1 : (o1 == 1) = false := by rw [beq_eq_false_iff_ne]; exact H1
 go_enter Try.func82, Try.ntmps82
 go_wp2_with fail
 refine bodyPost_ret (v := .agg #[.int .i64 6, .int .i64 n, .string t, .slice (some ⟨b, off, none⟩) 1 cap]) (by simp [results, Try.results82, go_sem]) rfl ?_
 exact rule_end (d := (6, n, t, .cons o1 n1 t1 k1 .nil)) (by repeat (first | exact Below.refl _ _ | refine Below.alloc ?_ (by simp) _ | refine Below.setCell ?_ (by simp) _)) HS0.out.1 HS0.out.2 hc
theorem wo_d8 (lo : Nat) (W : World) (d1 : D) (n : Int) (t : ByteArray) (a : Option Addr) (cap : Nat) (fs : List Nat) (H1 : d1.1 = 1) (hs : SubAt W a (consD d1 .nil) fs) (hF : Fresh lo W fs) (hc : ((consD d1 .nil)).len ≤ cap) :
  Calls Try.prog 82 #[.agg #[.int .i64 8, .int .i64 n, .string t, .slice a ((consD d1 .nil)).len cap]] W (RuleOut lo W (d1)) := by
 obtain ⟨o1, n1, t1, k1⟩ := d1
 simp only [consD] at hs hc H1 ⊢
 have hl2 : (F.cons o1 n1 t1 k1 .nil).len = 1 := rfl
 rw [hl2] at hc ⊢
 have HS0 := Lib.hid (And.intro hs hF)
 obtain ⟨b, off, f', rfl, hb, hrow, hF'⟩ := sub_row hs hF
 obtain ⟨a1, c1, f1, f2, x0, x1, x2, x3, x4, hs1, hF1, hr2, hF2⟩ := row_first hrow hF'
 obtain ⟨L1, hL1⟩ : ∃ L, k1.len = L := ⟨_, rfl⟩
 rw [hL1] at x3
 have HQ := Lib.hid (And.intro hs1 (And.intro hF1 (And.intro x4 hL1)))
 clear hs hF hrow hF' hs1 hF1 hr2 hF2 x4 hL1
 have q1 : (o1 == 1) = true := by rw [beq_iff_eq]; exact H1
 go_enter Try.func82, Try.ntmps82
 go_wp2_with fail
 refine bodyPost_ret (v := .agg #[.int .i64 o1, .int .i64 n1, .string t1, .slice a1 L1 c1]) (by simp [results, Try.results82, go_sem, show o1 = 1 from H1]) rfl ?_
 obtain ⟨hs1, hF1, x4, hL1⟩ := HQ.out
 rw [← hL1]
 exact rule_end (d := (o1, n1, t1, k1)) (by repeat (first | exact Below.refl _ _ | refine Below.alloc ?_ (by simp) _ | refine Below.setCell ?_ (by simp) _)) hs1 hF1 x4
theorem wo_e8 (lo : Nat) (W : World) (d1 : D) (n : Int) (t : ByteArray) (a : Option Addr) (cap : Nat) (fs : List Nat) (H1 : d1.1 ≠ 1) (hs : SubAt W a (consD d1 .nil) fs) (hF : Fresh lo W fs) (hc : ((consD d1 .nil)).len ≤ cap) :
  Calls Try.prog 82 #[.agg #[.int .i64 8, .int .i64 n, .string t, .slice a ((consD d1 .nil)).len cap]] W (RuleOut lo W (8, n, t, (consD d1 .nil))) := by
 obtain ⟨o1, n1, t1, k1⟩ := d1
 simp only [consD] at hs hc H1 ⊢
 have hl2 : (F.cons o1 n1 t1 k1 .nil).len = 1 := rfl
 rw [hl2] at hc ⊢
 have HS0 := Lib.hid (And.intro hs hF)
 obtain ⟨b, off, f', rfl, hb, hrow, hF'⟩ := sub_row hs hF
 obtain ⟨a1, c1, f1, f2, x0, x1, x2, x3, x4, hs1, hF1, hr2, hF2⟩ := row_first hrow hF'
 obtain ⟨L1, hL1⟩ : ∃ L, k1.len = L := ⟨_, rfl⟩
 rw [hL1] at x3
 have HQ := Lib.hid (And.intro hs1 (And.intro hF1 (And.intro x4 hL1)))
 clear hs hF hrow hF' hs1 hF1 hr2 hF2 x4 hL1
 have q1 : (o1 == 1) = false := by rw [beq_eq_false_iff_ne]; exact H1
 go_enter Try.func82, Try.ntmps82
 go_wp2_with fail
 refine bodyPost_ret (v := .agg #[.int .i64 8, .int .i64 n, .string t, .slice (some ⟨b, off, none⟩) 1 cap]) (by simp [results, Try.results82, go_sem]) rfl ?_
 exact rule_end (d := (8, n, t, .cons o1 n1 t1 k1 .nil)) (by repeat (first | exact Below.refl _ _ | refine Below.alloc ?_ (by simp) _ | refine Below.setCell ?_ (by simp) _)) HS0.out.1 HS0.out.2 hc
theorem wo_f (lo : Nat) (W : World) (o : Int) (k : F) (n : Int) (t : ByteArray) (a : Option Addr) (cap : Nat) (fs : List Nat) (h6 : o ≠ 6) (h7 : o ≠ 7) (h8 : o ≠ 8) (hs : SubAt W a k fs) (hF : Fresh lo W fs) (hc : (k).len ≤ cap) :
  Calls Try.prog 82 #[.agg #[.int .i64 o, .int .i64 n, .string t, .slice a (k).len cap]] W (RuleOut lo W (o, n, t, k)) := by
 obtain ⟨L, hL⟩ : ∃ L, k.len = L := ⟨_, rfl⟩
 have HQ := Lib.hid (And.intro hs (And.intro hF (And.intro hc hL)))
 rw [hL]
 clear hs hF hc hL
 have q6 : (o == 6) = false := by rw [beq_eq_false_iff_ne]; exact h6
 have q7 : (o == 7) = false := by rw [beq_eq_false_iff_ne]; exact h7
 have q8 : (o == 8) = false := by rw [beq_eq_false_iff_ne]; exact h8
 go_enter Try.func82, Try.ntmps82
 go_wp2_with fail
 refine bodyPost_ret (v := .agg #[.int .i64 o, .int .i64 n, .string t, .slice a L cap]) (by simp [results, Try.results82, go_sem]) rfl ?_
 obtain ⟨hs, hF, hc, hL⟩ := HQ.out
 rw [← hL]
 exact rule_end (d := (o, n, t, k)) (by repeat (first | exact Below.refl _ _ | refine Below.alloc ?_ (by simp) _ | refine Below.setCell ?_ (by simp) _)) hs hF hc
theorem em_fn : RuleFn 82 #[] emR := by
 refine ⟨enters_of Try.func82 (by kernel_rfl) rfl, em_keep, fun lo W o n t k a cap fs hn hcnt hs hF hc hlo => ?_⟩
 show Calls Try.prog 82 #[.agg #[.int .i64 o, .int .i64 n, .string t, .slice a k.len cap]] W _
 by_cases h7 : o = 7
 ·obtain ⟨d1, d2, rfl⟩ := kids_two hn h7
  subst h7
  by_cases h1 : d1.1 = 1
  ·rw [show emR 7 n t (consD d1 (consD d2 .nil)) = d2 by unfold emR; rw [if_pos ⟨rfl, h1⟩]; rfl]
   exact wo_c1 lo W d1 d2 n t a cap fs h1 hs hF hc
  ·by_cases h2 : d2.1 = 1
   ·rw [show emR 7 n t (consD d1 (consD d2 .nil)) = d1 by unfold emR; rw [if_neg (fun h => h1 h.2), if_pos ⟨rfl, h2⟩]; rfl]
    exact wo_c2 lo W d1 d2 n t a cap fs h1 h2 hs hF hc
   ·rw [show emR 7 n t (consD d1 (consD d2 .nil)) = (7, n, t, consD d1 (consD d2 .nil)) by unfold emR; rw [if_neg (fun h => h1 h.2), if_neg (fun h => h2 h.2), if_neg (by omega)]]
    exact wo_c3 lo W d1 d2 n t a cap fs h1 h2 hs hF hc
 ·by_cases h6 : o = 6
  ·obtain ⟨d1, rfl⟩ := kids_one hn (Or.inl h6)
   subst h6
   by_cases h1 : d1.1 = 1
   ·rw [show emR 6 n t (consD d1 .nil) = d1 by unfold emR; rw [if_neg (by omega), if_neg (by omega), if_pos ⟨Or.inl rfl, h1⟩]; rfl]
    exact wo_d6 lo W d1 n t a cap fs h1 hs hF hc
   ·rw [show emR 6 n t (consD d1 .nil) = (6, n, t, consD d1 .nil) by unfold emR; rw [if_neg (by omega), if_neg (by omega), if_neg (fun h => h1 h.2)]]
    exact wo_e6 lo W d1 n t a cap fs h1 hs hF hc
  ·by_cases h8 : o = 8
   ·obtain ⟨d1, rfl⟩ := kids_one hn (Or.inr h8)
    subst h8
    by_cases h1 : d1.1 = 1
    ·rw [show emR 8 n t (consD d1 .nil) = d1 by unfold emR; rw [if_neg (by omega), if_neg (by omega), if_pos ⟨Or.inr rfl, h1⟩]; rfl]
     exact wo_d8 lo W d1 n t a cap fs h1 hs hF hc
    ·rw [show emR 8 n t (consD d1 .nil) = (8, n, t, consD d1 .nil) by unfold emR; rw [if_neg (by omega), if_neg (by omega), if_neg (fun h => h1 h.2)]]
     exact wo_e8 lo W d1 n t a cap fs h1 hs hF hc
   ·rw [show emR o n t k = (o, n, t, k) by unfold emR; rw [if_neg (fun h => h7 h.1), if_neg (fun h => h7 h.1), if_neg (fun h => h.1.elim h6 h8)]]
    exact wo_f lo W o k n t a cap fs h6 h7 h8 hs hF hc
theorem end_pair {w w3 w4 : World} {d : D} {ok : Bool} {lo hi B : Nat} {a : Option Addr} {cap : Nat} {fs : List Nat} (hs : SubAt w3 a d.2.2.2 fs) (hF : Fresh B w3 fs) (hc : d.2.2.2.len ≤ cap) (hB : hi ≤ B) (hlo : w.heap.size ≤ lo) (hlh : lo ≤ hi) (hb : Below w.heap.size w w3) (ht : Touch lo hi w3 w4) :
  DocRes w (ok, d) (.returned (.tuple #[aggD d a cap, .bool ok])) w4 :=
 ⟨a, cap, fs, rfl, hc, ht.sub hs (fun c hc => Or.inr (by have := (hF.2 c hc).1; omega)), (ht.fresh hF (fun c hc => Or.inr (by have := (hF.2 c hc).1; omega))).mono (by omega), ht.below hb hlo⟩
theorem nice_fit {d : D} (h : niceD d = true) (hc : d.2.2.2.cnt ≤ 10000) : d.2.2.2.size ≤ 1048576 ∧ d.2.2.1.size ≤ 1048576 := by
 unfold niceD at h
 rw [Bool.and_eq_true] at h
 have h1 := nice_size _ h.2
 have h2 := nice_text h.1
 omega
theorem em_nice {o n : Int} {t : ByteArray} {k : F} (h : niceD (o, n, t, k) = true) : niceD (chD emR o n t k) = true ∧ (chD emR o n t k).2.2.2.cnt ≤ k.cnt := by
 obtain ⟨h1, h2⟩ := em_fn.doc h
 obtain ⟨h3, h4⟩ := em_keep o n t (chL emR k) h1
 exact ⟨h3, Nat.le_trans h4 h2⟩
end Go.Proofs.Ytjcaiecapapceaa.Nf
namespace Go.Proofs.Ytjcaiecapapceaa.Nf
open Go.RowKit P1 Copy CatD
abbrev Four (b : Nat) (u0 u1 u2 u3 : Value) (w : World) : Prop := w.cell? ⟨b, 0, none⟩ = some u0 ∧ w.cell? ⟨b, 1, none⟩ = some u1 ∧ w.cell? ⟨b, 2, none⟩ = some u2 ∧ w.cell? ⟨b, 3, none⟩ = some u3
theorem Four.below {b : Nat} {u0 u1 u2 u3 : Value} {W w' : World} (h : Four b u0 u1 u2 u3 W) {B : Nat} (k : Below B W w') (hb : b < B) : Four b u0 u1 u2 u3 w' := by
 obtain ⟨h0, h1, h2, h3⟩ := h
 exact ⟨(k.cell (p := ⟨_, _, _⟩) hb).trans h0, (k.cell (p := ⟨_, _, _⟩) hb).trans h1, (k.cell (p := ⟨_, _, _⟩) hb).trans h2, (k.cell (p := ⟨_, _, _⟩) hb).trans h3⟩
def KdAt (w : World) (o n : Int) (t : ByteArray) (u : Value) (φ : Rule) (k : F) (v i : Value) (wr : World) : Prop :=
 ∃ (j : Nat) (p g : F) (fs : List Nat), i = .int .i64 j ∧ k = p.app g ∧ p.len = j ∧ Grow wr 25 (w.heap.size + 2) v (mapL φ p) fs ∧ Below w.heap.size w wr ∧ Four w.heap.size (.int .i64 o) (.int .i64 n) (.string t) u wr ∧ ZBox wr (w.heap.size + 1)
theorem kd_start (w : World) (o n : Int) (t : ByteArray) (u : Value) (φ : Rule) (k : F) (T : TypeId) : KdAt w o n t u φ k (.slice (some ⟨w.heap.size + 1 + 1, 0, none⟩) 0 0) (.int .i64 0)
  (((w.alloc (.cells #[.int .i64 o, .int .i64 n, .string t, u] T)).alloc (.cells #[.int .i64 0, .int .i64 0, .string ⟨#[]⟩, .slice none 0 0] T)).alloc (.cells #[] 25)) := by
 have e : ((w.alloc (.cells #[.int .i64 o, .int .i64 n, .string t, u] T)).alloc (.cells #[.int .i64 0, .int .i64 0, .string ⟨#[]⟩, .slice none 0 0] T)).heap.size = w.heap.size + 1 + 1 := by simp
 refine ⟨0, .nil, k, [], rfl, rfl, rfl, ?_, (((Ext.refl w).alloc _).alloc _).alloc _, ?_, ?_⟩
 ·have := Grow.made ((w.alloc (.cells #[.int .i64 o, .int .i64 n, .string t, u] T)).alloc (.cells #[.int .i64 0, .int .i64 0, .string ⟨#[]⟩, .slice none 0 0] T)) 25 (w.heap.size + 2) (by rw [e]; omega)
  rw [e] at this
  exact this
 ·have h1 : Four w.heap.size (.int .i64 o) (.int .i64 n) (.string t) u (w.alloc (.cells #[.int .i64 o, .int .i64 n, .string t, u] T)) := by
   refine ⟨?_, ?_, ?_, ?_⟩ <;> (rw [World.cell?_alloc_new]; rfl)
  exact (h1.below ((Below.refl _ _).alloc (Nat.le_refl _) _) (by simp)).below ((Below.refl _ _).alloc (Nat.le_refl _) _) (by simp; omega)
 ·exact (zbox_second w _ T).ext ((Ext.refl _).alloc _)
theorem mid_d {wr w1 : World} {ob : Obj} {T : TypeId} {lo : Nat} {v : Value} {p : F} {fs : List Nat} (hG : Grow wr T lo v p fs) (hb : Below wr.heap.size wr w1) :
  Grow (w1.alloc ob) T lo v p fs ∧ lo ≤ wr.heap.size ∧ (∀ q ∈ fs, q < wr.heap.size) ∧ (∀ q, v.ownBlock = some q → q < wr.heap.size) ∧ Below wr.heap.size wr w1 :=
 ⟨(hG.below (Nat.le_refl _) hb).alloc ob, hG.2.2.2, fun q hq => hG.fresh.lt q hq, fun q hq => (hG.own_lt q hq).2, hb⟩
theorem mid_end {wr w1 w2 : World} {ob : Obj} {lo : Nat} (hb : Below wr.heap.size wr w1) (hb' : Below lo (w1.alloc ob) w2) (hlo : lo ≤ wr.heap.size) : Below lo wr w2 :=
 (((hb.mono hlo).alloc (Nat.le_trans hlo hb.size) ob)).trans hb'
theorem end_but {w w3 w4 : World} {x lo : Nat} {o n : Int} {t : ByteArray} {k : F} {a : Option Addr} {cap l : Nat} {fs : List Nat} (hl : k.len = l) (hs : SubAt w3 a k fs) (hF : Fresh lo w3 fs) (hc : k.len ≤ cap) (hx : x < lo) (hw : w.heap.size ≤ x) (hb : Below w.heap.size w w3) (hB : But w3.heap.size x w3 w4) :
  NewOut w o n t k (.returned (.agg #[.int .i64 o, .int .i64 n, .string t, .slice a l cap])) w4 := by
 subst hl
 have h1 : ∀ c ∈ fs, c < w3.heap.size ∧ c ≠ x := fun c hc => ⟨hF.lt c hc, fun e => by have := (hF.2 c hc).1; omega⟩
 exact ⟨a, cap, fs, rfl, hc, hB.sub hs h1, (hF.alike hB.size (fun c hc o => hB.frozen (h1 c hc).1 (h1 c hc).2)).mono (by omega), hb.trans (hB.below hb.size hw)⟩
theorem specEmpty (W : World) (o n : Int) (t : ByteArray) (a : Option Addr) (l cap : Nat) :
  Calls Try.prog 122 #[.agg #[.int .i64 o, .int .i64 n, .string t, .slice a l cap]] W fun e w' => e = .returned (.bool (o == 1)) ∧ w' = W.alloc (.cells #[.int .i64 o, .int .i64 n, .string t, .slice a l cap] 25) := by
 go_enter Try.func122, Try.ntmps122
 go_wp2_with fail
 go_ret
 exact ⟨rfl, rfl⟩
theorem specMap (W : World) (o n : Int) (t : ByteArray) (a : Option Addr) (l cap : Nat) (a2 : Option Addr) (l2 cap2 : Nat) :
  Calls Try.prog 79 #[.agg #[.int .i64 o, .int .i64 n, .string t, .slice a l cap], .slice a2 l2 cap2] W fun e w' => e = .returned (.agg #[.int .i64 o, .int .i64 n, .string t, .slice a2 l2 cap2]) ∧ Below W.heap.size W w' := by
 go_enter Try.func79, Try.ntmps79
 go_wp2_with fail
 refine bodyPost_ret (v := .agg #[.int .i64 o, .int .i64 n, .string t, .slice a2 l2 cap2]) (by simp [results, Try.results79, go_sem]) rfl ?_
 exact ⟨rfl, by repeat (first | exact Below.refl _ _ | refine Below.alloc ?_ (by simp) _ | refine Below.setCell ?_ (by simp) _)⟩
theorem spec_end {w w3 w4 : World} {d : D} {lo hi B : Nat} {a : Option Addr} {cap : Nat} {fs : List Nat} (hc : d.2.2.2.len ≤ cap) (hs : SubAt w3 a d.2.2.2 fs) (hF : Fresh B w3 fs) (hB : hi ≤ B) (hlh : lo ≤ hi) (hlo : w.heap.size ≤ lo) (hb : Below w.heap.size w w3) (ht : Touch lo hi w3 w4) {ok : Bool} :
  DocRes w (ok, d) (.returned (.tuple #[aggD d a cap, .bool ok])) w4 := end_pair hs hF hc hB hlo hlh hb ht
theorem specDone (w : World) (o n : Int) (t : ByteArray) (k : F) (a : Option Addr) (cap : Nat) (fs : List Nat) (hs : SubAt w a k fs) (hfs : ∀ c ∈ fs, c < w.heap.size) (hc : k.len ≤ cap) (hsz : k.size ≤ 1048576) (ht : t.size ≤ 1048576) :
  Calls Try.prog 42 #[.agg #[.int .i64 o, .int .i64 n, .string t, .slice a k.len cap], .bool true] w (DocRes w (if validD o n t k then (true, (o, n, t, k)) else (false, zeroD))) := by
 have hl := F.len_le_size k
 have hft : k.Fits := fits_of_size (m := 1048576) (by unfold maxLen; omega) k (by omega)
 have hval := fun (W : World) (e : Ext w W) => SpecC.docValid W o n t k a cap fs (e.sub hs hfs) (fun c hc => Nat.lt_of_lt_of_le (hfs c hc) e.size) hc (by omega) hft (by unfold maxLen; omega)
 have hcpy := fun (W : World) (e : Ext w W) => CopyS.l1Copy W o n t k a cap fs (e.sub hs hfs) (fun c hc => Nat.lt_of_lt_of_le (hfs c hc) e.size) hc (by omega) (by omega)
 have HE := Lib.hid (show ∀ x y, Ext w ((w.alloc x).alloc y) from fun x y => ((Ext.refl w).alloc x).alloc y)
 have HZ := Lib.hid (fun x => zbox_second w x 25)
 obtain ⟨L, hL⟩ : ∃ L, k.len = L := ⟨_, rfl⟩
 have HL := Lib.hid hL
 rw [hL] at hval hcpy ⊢
 cases hv : validD o n t k with
 | false =>
   rw [hv] at hval
   rw [show (if false = true then (true, ((o, n, t, k) : D)) else (false, zeroD)) = (false, zeroD) from rfl]
   have HV := Lib.hid hval
   clear hval hcpy hs hfs hc hsz ht hl hft hv hL
   go_enter Try.func42, Try.ntmps42
   go_wp2_with fail
   refine (HV.out _ (HE.out _ _)).mono ?_
   rintro e1 w1 ⟨rfl, hb⟩
   have E1 := Lib.hid (Ext.trans (HE.out _ _) hb)
   obtain ⟨⟨z0, z1, z2, z3⟩, ⟨z4, z5, z6, z7⟩, z8⟩ := (HZ.out _).ext hb
   clear hb
   go_wp2_with fail
   refine bodyPost_ret (v := .tuple #[.agg #[.int .i64 0, .int .i64 0, .string ⟨#[]⟩, .slice none 0 0], .bool false]) (by simp [results, Try.results42, go_sem, z0, z1, z2, z3, z4, z5, z6, z7, z8]) rfl ?_
   refine end_no (lo := w.heap.size + 1) (hi := w.heap.size + 2) (by omega) E1.out ?_
   repeat (first | exact Touch.refl _ _ _ | refine Touch.setCell ?_ (by simp) (by simp) _)
 | true =>
   rw [hv] at hval
   rw [show (if true = true then (true, ((o, n, t, k) : D)) else (false, zeroD)) = (true, (o, n, t, k)) from rfl]
   have HV := Lib.hid hval
   have HC := Lib.hid hcpy
   clear hval hcpy hs hfs hc hsz ht hl hft hv hL
   go_enter Try.func42, Try.ntmps42
   go_wp2_with fail
   refine (HV.out _ (HE.out _ _)).mono ?_
   rintro e1 w1 ⟨rfl, hb⟩
   have E1 := Lib.hid (Ext.trans (HE.out _ _) hb)
   have Z1 := Lib.hid ((HZ.out _).ext hb)
   have hs1 : w.heap.size + 2 ≤ w1.heap.size := by have := hb.size; simp at this; omega
   have C1 := fun o => hb.cell (p := ⟨w.heap.size, o, none⟩) (by simp; omega)
   clear hb
   go_wp2_with fail
   refine (HC.out _ E1.out).mono ?_
   rintro e2 w2 ⟨a2, cap2, f2, rfl, hc2, hs2, hfr2, hb2⟩
   rw [HL.out] at hc2 ⊢
   obtain ⟨⟨z0, z1, z2, z3⟩, ⟨z4, z5, z6, z7⟩, z8⟩ := Z1.out.ext hb2
   have H2 := Lib.hid (And.intro hc2 (And.intro hs2 (And.intro hfr2 hb2)))
   clear hc2 hs2 hfr2 hb2 C1
   go_wp2_with fail
   refine bodyPost_ret (v := .tuple #[.agg #[.int .i64 o, .int .i64 n, .string t, .slice a2 L cap2], .bool true]) (by simp [results, Try.results42, go_sem, z0, z1, z2, z3, z4, z5, z6, z7, z8]) rfl ?_
   obtain ⟨hc2, hs2, hfr2, hb2⟩ := H2.out
   rw [← HL.out] at hc2 ⊢
   refine spec_end (d := (o, n, t, k)) (lo := w.heap.size + 1) (hi := w.heap.size + 2) hc2 hs2 hfr2 hs1 (by omega) (by omega) (E1.out.trans hb2) ?_
   repeat (first | exact Touch.refl _ _ _ | refine Touch.setCell ?_ (by simp) (by simp) _)
end Go.Proofs.Ytjcaiecapapceaa.Nf
namespace Go.Proofs.Ytjcaiecapapceaa.Nf
open Go.RowKit P1 Copy CatD
def DrS (f : F) : Prop := ∀ (w : World) (o n : Int) (t : ByteArray) (k : F) (p r : F) (a : Option Addr) (cap : Nat) (fs : List Nat), f = p.app (.cons o n t k r) → nice f = true → f.cnt ≤ 10000 → SubAt w a k fs → (∀ c ∈ fs, c < w.heap.size) → k.len ≤ cap →
 Calls Try.prog 87 #[.agg #[.int .i64 o, .int .i64 n, .string t, .slice a k.len cap]] w (NewD w (chD emR o n t k))
theorem dr_step_c1 (w : World) (o n : Int) (t : ByteArray) (k : F) (ih : DrS k) (hn : niceD (o, n, t, k) = true) (hcnt : k.cnt ≤ 10000) (a : Option Addr) (cap : Nat) (fs : List Nat) (hs : SubAt w a k fs) (hfs : ∀ c ∈ fs, c < w.heap.size) (hc : k.len ≤ cap) (h7 : o = 7) (d1 d2 : D) (hK : mapL (chD emR) k = consD d1 (consD d2 .nil)) (h1 : d1.1 = 1) :
  Calls Try.prog 87 #[.agg #[.int .i64 o, .int .i64 n, .string t, .slice a k.len cap]] w (NewD w d2) := by
 have hnk : nice k = true := (nice_kids hn).2
 obtain ⟨φ, hφφ⟩ : ∃ φ, chD emR = φ := ⟨_, rfl⟩
 have ih := fun (w : World) (o n : Int) (t : ByteArray) (k1 : F) (p r : F) (a : Option Addr) (cap : Nat) (fs : List Nat) (h : k = p.app (.cons o n t k1 r)) => ih w o n t k1 p r a cap fs h hnk hcnt
 rw [hφφ] at ih
 subst h7
 rw [hφφ] at hK
 have HK0 := Lib.hid hK
 clear hK
 obtain ⟨i0, hi, hz0, hz1, hz2⟩ := info_parts To.info
 obtain ⟨L, hL⟩ : ∃ L, k.len = L := ⟨_, rfl⟩
 rw [hL] at hc ⊢
 have HL := Lib.hid hL
 have HML := Lib.hid (show (mapL φ k).len = L by rw [len_mapL, hL])
 have hL4 : L ≤ 4194304 := by have := F.len_le_cnt k; omega
 clear hL
 have hsub : 0 < L → ∃ b off f', a = some ⟨b, off, none⟩ ∧ RowAt w k b off f' ∧ b < w.heap.size ∧ ∀ c ∈ f', c < w.heap.size := by
  intro h0
  rcases hs with ⟨rfl, rfl⟩ | ⟨b, off, f', rfl, hnil, rfl, hrow⟩
  ·have := HL.out; simp only [F.len] at this; omega
  ·exact ⟨b, off, f', rfl, hrow, hfs b (by simp), fun c hc => hfs c (by simp [hc])⟩
 have HSUB := Lib.hid hsub
 have IH := Lib.hid ih
 have HI := Lib.hid (And.intro hi (And.intro hz0 (And.intro hz1 hz2)))
 have HST := Lib.hid (kd_start w 7 n t (.slice a L cap) φ k 25)
 clear hsub hs hfs ih hi hz0 hz1 hz2 hnk hn hcnt
 go_enter Try.func87, Try.ntmps87
 go_wp2_with fail
 go_loopw [3, 4] (fun v i wr => KdAt w 7 n t (.slice a L cap) φ k v i wr) (fun _ i _ => L - (intOf i).toNat)
 case atStart => exact HST.out
 case round =>
  obtain ⟨j, p, g, fs1, rfl, h3, h5, hG, hbw, hfv, hzb⟩ := hrel
  have h7 : g.len = L - j := by have := HL.out; rw [h3, F.len_app, h5] at this; omega
  have hjL0 : j ≤ L := by have := HL.out; rw [h3, F.len_app, h5] at this; omega
  obtain ⟨x0, x1, x2, x3⟩ := hfv
  have hsz0 : w.heap.size + 1 < wr.heap.size := hzb.2.2
  cases g with
  | nil =>
    have hjL : L = j := by simp only [F.len] at h7; omega
    subst hjL
    rw [F.app_nil] at h3
    subst h3
    obtain ⟨a', cap', rfl, hcap', hsub', hcm⟩ := hG.slice
    obtain ⟨⟨z0, z1, z2, z3⟩, ⟨z4, z5, z6, z7⟩, z8⟩ := hzb
    have HQ := Lib.hid (And.intro hsub' (And.intro hG.fresh (And.intro hbw hcap')))
    clear hG hbw hsub' h7 hcm hcap' h5 hjL0
    rw [HML.out]
    have hsubK := HQ.out.1
    have hl0 : w.heap.size < wr.heap.size := by omega
    have HZB := Lib.hid (show ZBox wr (w.heap.size + 1) from ⟨⟨z0, z1, z2, z3⟩, ⟨z4, z5, z6, z7⟩, z8⟩)
    have hlk : (2 : Nat) = L := by have := HML.out; rw [HK0.out] at this; exact this
    subst hlk
    obtain ⟨o1, n1, t1, k1⟩ := d1
    obtain ⟨o2, n2, t2, k2⟩ := d2
    have HK := Lib.hid (show mapL φ k = .cons o1 n1 t1 k1 (.cons o2 n2 t2 k2 .nil) from HK0.out)
    rw [HK.out] at hsubK
    have hFK := HQ.out.2.1
    obtain ⟨b, off, f', rfl, hb, hrow, hF'⟩ := sub_row hsubK hFK
    obtain ⟨a1, c1, f1, f2, u0, u1, u2, u3, u4, hs1, hF1, hr2, hF2⟩ := row_first hrow hF'
    obtain ⟨L1, hL1⟩ : ∃ L, k1.len = L := ⟨_, rfl⟩
    rw [hL1] at u3
    have HQ1 := Lib.hid (And.intro hs1 (And.intro hF1 (And.intro u4 hL1)))
    obtain ⟨a2, c2, f3, f4, v0, v1, v2, v3, v4, hs2, hF3, hr4, hF4⟩ := row_first hr2 hF2
    obtain ⟨L2, hL2⟩ : ∃ L, k2.len = L := ⟨_, rfl⟩
    rw [hL2] at v3
    have HQ2 := Lib.hid (And.intro hs2 (And.intro hF3 (And.intro v4 hL2)))
    clear hs2 hF3 hr4 hF4 v4 hL2
    clear hsubK hFK hrow hF' hs1 hF1 hr2 hF2 u4 hL1
    have q1 : (o1 == 1) = true := by rw [beq_iff_eq]; exact h1
    go_wp2_with (first
     | (go_at_call 122; refine (specEmpty _ _ _ _ _ _ _).mono ?_; rintro e1 w3 ⟨rfl, rfl⟩)
     | (go_at_call 79; refine (specMap _ _ _ _ _ _ _ _ _ _).mono ?_; rintro e1 w3 ⟨rfl, hb3⟩; have q3 : Ext wr w3 := (by first | exact hb3 | exact ((Ext.refl wr).alloc _).trans hb3 | exact (((Ext.refl wr).alloc _).alloc _).trans hb3); obtain ⟨⟨z0, z1, z2, z3⟩, ⟨z4, z5, z6, z7⟩, z8⟩ := HZB.out.ext q3))
    refine bodyPost_ret (v := .agg #[.int .i64 o2, .int .i64 n2, .string t2, .slice a2 L2 c2]) (by simp [results, Try.results87, go_sem, z0, z1, z2, z3, z4, z5, z6, z7, z8, hl0]) rfl ?_
    obtain ⟨hs2, hF3, v4, hL2⟩ := HQ2.out
    refine end_but (x := w.heap.size + 1) (lo := w.heap.size + 2) (w3 := wr) hL2 hs2 hF3 v4 (by omega) (by omega) HQ.out.2.2.1 (by repeat (first | exact But.of_below q3 | exact But.refl _ _ _ | refine But.setCell ?_ (Or.inl (by rfl)) _ | refine But.alloc ?_ (by simp) _))
  | cons o1 n1 t1 k1 r1 =>
    have hjL : j < L := by simp only [F.len] at h7; omega
    obtain ⟨b, off, f', rfl, hrow, hbB, hfB⟩ := HSUB.out (by omega)
    rw [h3] at hrow
    obtain ⟨a1, cap1, f1, c0, c1, c2, c3, hc1', hsub1, hin⟩ := row_at hrow
    rw [h5] at c0 c1 c2 c3
    rw [← hbw.cell (p := ⟨_, _, _⟩) hbB] at c0 c1 c2 c3
    have hd := fun (W1 : World) (hw1 : Ext wr W1) => IH.out W1 o1 n1 t1 k1 p r1 a1 cap1 f1 h3 (hsub1.below (fun c hc => hfB c (hin c hc)) (hbw.trans (hw1.mono hbw.size))) (fun c hc => Nat.lt_of_lt_of_le (hfB c (hin c hc)) (Nat.le_trans hbw.size hw1.size)) hc1'
    obtain ⟨⟨o2, n2, t2, k2⟩, hφ⟩ : ∃ d : D, φ o1 n1 t1 k1 = d := ⟨_, rfl⟩
    rw [hφ] at hd
    have HD := Lib.hid hd
    have H := Lib.hid (And.intro h3 (And.intro h5 (And.intro hG (And.intro hbw hzb))))
    have HF := Lib.hid hφ
    have i0' : (0 : Int) ≤ (j : Int) := Int.natCast_nonneg _
    have i1 : (j : Int) < (L : Int) := by omega
    have HX := Lib.hid (show Four w.heap.size (.int .i64 7) (.int .i64 n) (.string t) (.slice (some ⟨b, off, none⟩) L cap) wr from ⟨x0, x1, x2, x3⟩)
    clear hd h3 h5 h7 hbw hrow hG hφ hzb
    go_wp2_with (first
     | (go_at_call 87; refine (HD.out _ (by exact Ext.refl _)).mono ?_; rintro e1 w1 ⟨a2, cap2, f2, rfl, hc2, hs2, hfr2, hb2⟩; have HST2 := Lib.hid (fun ob => mid_d (ob := ob) H.out.2.2.1 hb2); have H2 := Lib.hid (And.intro hs2 (And.intro hfr2 (And.intro hb2 hc2))); clear hs2 hfr2 hb2 hc2 c0 c1 c2 c3)
     | (at_builtin; refine append_doc rfl (.tmp 13) (.tmp 20) 23 rfl Try.underlying23 HI.out.1 HI.out.2.1 HI.out.2.2.1 HI.out.2.2.2 rfl rfl (HST2.out _).1 (d := w1.heap.size) (c := 1) rfl (cell_new w1 _ _ 0 _ rfl) (cell_new w1 _ _ 1 _ rfl) (cell_new w1 _ _ 2 _ rfl) (cell_new w1 _ _ 3 _ rfl) H2.out.2.2.2 (H2.out.1.below H2.out.2.1.lt ((Below.refl _ _).alloc (Nat.le_refl _) _)) (H2.out.2.1.below H2.out.2.1.lt ((Below.refl _ _).alloc (Nat.le_refl _) _)) (HST2.out (.cells #[] 0)).2.1 (HST2.out (.cells #[] 0)).2.2.1 (HST2.out (.cells #[] 0)).2.2.2.1 (by rw [len_mapL]; have := H.out.2.1; omega) ?_; intro v' w2 fs' hG' hb' hg'))
    go_roundw
    case rel =>
     obtain ⟨h3, h5, hG, hbw, hzb⟩ := H.out
     have hch := mid_end H2.out.2.2.1 hb' hG.2.2.2
     refine ⟨j + 1, p.app (.cons o1 n1 t1 k1 .nil), r1, fs', by go_num, by rw [h3, F.app_assoc]; rfl, by rw [F.len_app, h5]; rfl, ?_, hbw.trans (hch.mono (by omega)), HX.out.below hch (by omega), zbox_below hzb hch (by omega)⟩
     rw [mapL_app, show mapL φ (.cons o1 n1 t1 k1 .nil) = .cons o2 n2 t2 k2 .nil by rw [mapL, HF.out]; rfl]
     exact hG'
    case measure => simp [intOf]; omega
theorem dr_step_c2 (w : World) (o n : Int) (t : ByteArray) (k : F) (ih : DrS k) (hn : niceD (o, n, t, k) = true) (hcnt : k.cnt ≤ 10000) (a : Option Addr) (cap : Nat) (fs : List Nat) (hs : SubAt w a k fs) (hfs : ∀ c ∈ fs, c < w.heap.size) (hc : k.len ≤ cap) (h7 : o = 7) (d1 d2 : D) (hK : mapL (chD emR) k = consD d1 (consD d2 .nil)) (h1 : d1.1 ≠ 1) (h2 : d2.1 = 1) :
  Calls Try.prog 87 #[.agg #[.int .i64 o, .int .i64 n, .string t, .slice a k.len cap]] w (NewD w d1) := by
 have hnk : nice k = true := (nice_kids hn).2
 obtain ⟨φ, hφφ⟩ : ∃ φ, chD emR = φ := ⟨_, rfl⟩
 have ih := fun (w : World) (o n : Int) (t : ByteArray) (k1 : F) (p r : F) (a : Option Addr) (cap : Nat) (fs : List Nat) (h : k = p.app (.cons o n t k1 r)) => ih w o n t k1 p r a cap fs h hnk hcnt
 rw [hφφ] at ih
 subst h7
 rw [hφφ] at hK
 have HK0 := Lib.hid hK
 clear hK
 obtain ⟨i0, hi, hz0, hz1, hz2⟩ := info_parts To.info
 obtain ⟨L, hL⟩ : ∃ L, k.len = L := ⟨_, rfl⟩
 rw [hL] at hc ⊢
 have HL := Lib.hid hL
 have HML := Lib.hid (show (mapL φ k).len = L by rw [len_mapL, hL])
 have hL4 : L ≤ 4194304 := by have := F.len_le_cnt k; omega
 clear hL
 have hsub : 0 < L → ∃ b off f', a = some ⟨b, off, none⟩ ∧ RowAt w k b off f' ∧ b < w.heap.size ∧ ∀ c ∈ f', c < w.heap.size := by
  intro h0
  rcases hs with ⟨rfl, rfl⟩ | ⟨b, off, f', rfl, hnil, rfl, hrow⟩
  ·have := HL.out; simp only [F.len] at this; omega
  ·exact ⟨b, off, f', rfl, hrow, hfs b (by simp), fun c hc => hfs c (by simp [hc])⟩
 have HSUB := Lib.hid hsub
 have IH := Lib.hid ih
 have HI := Lib.hid (And.intro hi (And.intro hz0 (And.intro hz1 hz2)))
 have HST := Lib.hid (kd_start w 7 n t (.slice a L cap) φ k 25)
 clear hsub hs hfs ih hi hz0 hz1 hz2 hnk hn hcnt
 go_enter Try.func87, Try.ntmps87
 go_wp2_with fail
 go_loopw [3, 4] (fun v i wr => KdAt w 7 n t (.slice a L cap) φ k v i wr) (fun _ i _ => L - (intOf i).toNat)
 case atStart => exact HST.out
 case round =>
  obtain ⟨j, p, g, fs1, rfl, h3, h5, hG, hbw, hfv, hzb⟩ := hrel
  have h7 : g.len = L - j := by have := HL.out; rw [h3, F.len_app, h5] at this; omega
  have hjL0 : j ≤ L := by have := HL.out; rw [h3, F.len_app, h5] at this; omega
  obtain ⟨x0, x1, x2, x3⟩ := hfv
  have hsz0 : w.heap.size + 1 < wr.heap.size := hzb.2.2
  cases g with
  | nil =>
    have hjL : L = j := by simp only [F.len] at h7; omega
    subst hjL
    rw [F.app_nil] at h3
    subst h3
    obtain ⟨a', cap', rfl, hcap', hsub', hcm⟩ := hG.slice
    obtain ⟨⟨z0, z1, z2, z3⟩, ⟨z4, z5, z6, z7⟩, z8⟩ := hzb
    have HQ := Lib.hid (And.intro hsub' (And.intro hG.fresh (And.intro hbw hcap')))
    clear hG hbw hsub' h7 hcm hcap' h5 hjL0
    rw [HML.out]
    have hsubK := HQ.out.1
    have hl0 : w.heap.size < wr.heap.size := by omega
    have HZB := Lib.hid (show ZBox wr (w.heap.size + 1) from ⟨⟨z0, z1, z2, z3⟩, ⟨z4, z5, z6, z7⟩, z8⟩)
    have hlk : (2 : Nat) = L := by have := HML.out; rw [HK0.out] at this; exact this
    subst hlk
    obtain ⟨o1, n1, t1, k1⟩ := d1
    obtain ⟨o2, n2, t2, k2⟩ := d2
    have HK := Lib.hid (show mapL φ k = .cons o1 n1 t1 k1 (.cons o2 n2 t2 k2 .nil) from HK0.out)
    rw [HK.out] at hsubK
    have hFK := HQ.out.2.1
    obtain ⟨b, off, f', rfl, hb, hrow, hF'⟩ := sub_row hsubK hFK
    obtain ⟨a1, c1, f1, f2, u0, u1, u2, u3, u4, hs1, hF1, hr2, hF2⟩ := row_first hrow hF'
    obtain ⟨L1, hL1⟩ : ∃ L, k1.len = L := ⟨_, rfl⟩
    rw [hL1] at u3
    have HQ1 := Lib.hid (And.intro hs1 (And.intro hF1 (And.intro u4 hL1)))
    obtain ⟨a2, c2, f3, f4, v0, v1, v2, v3, v4, hs2, hF3, hr4, hF4⟩ := row_first hr2 hF2
    obtain ⟨L2, hL2⟩ : ∃ L, k2.len = L := ⟨_, rfl⟩
    rw [hL2] at v3
    have HQ2 := Lib.hid (And.intro hs2 (And.intro hF3 (And.intro v4 hL2)))
    clear hs2 hF3 hr4 hF4 v4 hL2
    clear hsubK hFK hrow hF' hs1 hF1 hr2 hF2 u4 hL1
    have q1 : (o1 == 1) = false := by rw [beq_eq_false_iff_ne]; exact h1
    have q2 : (o2 == 1) = true := by rw [beq_iff_eq]; exact h2
    go_wp2_with (first
     | (go_at_call 122; refine (specEmpty _ _ _ _ _ _ _).mono ?_; rintro e1 w3 ⟨rfl, rfl⟩)
     | (go_at_call 79; refine (specMap _ _ _ _ _ _ _ _ _ _).mono ?_; rintro e1 w3 ⟨rfl, hb3⟩; have q3 : Ext wr w3 := (by first | exact hb3 | exact ((Ext.refl wr).alloc _).trans hb3 | exact (((Ext.refl wr).alloc _).alloc _).trans hb3); obtain ⟨⟨z0, z1, z2, z3⟩, ⟨z4, z5, z6, z7⟩, z8⟩ := HZB.out.ext q3))
    refine bodyPost_ret (v := .agg #[.int .i64 o1, .int .i64 n1, .string t1, .slice a1 L1 c1]) (by simp [results, Try.results87, go_sem, z0, z1, z2, z3, z4, z5, z6, z7, z8, hl0]) rfl ?_
    obtain ⟨hs1, hF1, u4, hL1⟩ := HQ1.out
    refine end_but (x := w.heap.size + 1) (lo := w.heap.size + 2) (w3 := wr) hL1 hs1 hF1 u4 (by omega) (by omega) HQ.out.2.2.1 (by repeat (first | exact But.of_below q3 | exact But.refl _ _ _ | refine But.setCell ?_ (Or.inl (by rfl)) _ | refine But.alloc ?_ (by simp) _))
  | cons o1 n1 t1 k1 r1 =>
    have hjL : j < L := by simp only [F.len] at h7; omega
    obtain ⟨b, off, f', rfl, hrow, hbB, hfB⟩ := HSUB.out (by omega)
    rw [h3] at hrow
    obtain ⟨a1, cap1, f1, c0, c1, c2, c3, hc1', hsub1, hin⟩ := row_at hrow
    rw [h5] at c0 c1 c2 c3
    rw [← hbw.cell (p := ⟨_, _, _⟩) hbB] at c0 c1 c2 c3
    have hd := fun (W1 : World) (hw1 : Ext wr W1) => IH.out W1 o1 n1 t1 k1 p r1 a1 cap1 f1 h3 (hsub1.below (fun c hc => hfB c (hin c hc)) (hbw.trans (hw1.mono hbw.size))) (fun c hc => Nat.lt_of_lt_of_le (hfB c (hin c hc)) (Nat.le_trans hbw.size hw1.size)) hc1'
    obtain ⟨⟨o2, n2, t2, k2⟩, hφ⟩ : ∃ d : D, φ o1 n1 t1 k1 = d := ⟨_, rfl⟩
    rw [hφ] at hd
    have HD := Lib.hid hd
    have H := Lib.hid (And.intro h3 (And.intro h5 (And.intro hG (And.intro hbw hzb))))
    have HF := Lib.hid hφ
    have i0' : (0 : Int) ≤ (j : Int) := Int.natCast_nonneg _
    have i1 : (j : Int) < (L : Int) := by omega
    have HX := Lib.hid (show Four w.heap.size (.int .i64 7) (.int .i64 n) (.string t) (.slice (some ⟨b, off, none⟩) L cap) wr from ⟨x0, x1, x2, x3⟩)
    clear hd h3 h5 h7 hbw hrow hG hφ hzb
    go_wp2_with (first
     | (go_at_call 87; refine (HD.out _ (by exact Ext.refl _)).mono ?_; rintro e1 w1 ⟨a2, cap2, f2, rfl, hc2, hs2, hfr2, hb2⟩; have HST2 := Lib.hid (fun ob => mid_d (ob := ob) H.out.2.2.1 hb2); have H2 := Lib.hid (And.intro hs2 (And.intro hfr2 (And.intro hb2 hc2))); clear hs2 hfr2 hb2 hc2 c0 c1 c2 c3)
     | (at_builtin; refine append_doc rfl (.tmp 13) (.tmp 20) 23 rfl Try.underlying23 HI.out.1 HI.out.2.1 HI.out.2.2.1 HI.out.2.2.2 rfl rfl (HST2.out _).1 (d := w1.heap.size) (c := 1) rfl (cell_new w1 _ _ 0 _ rfl) (cell_new w1 _ _ 1 _ rfl) (cell_new w1 _ _ 2 _ rfl) (cell_new w1 _ _ 3 _ rfl) H2.out.2.2.2 (H2.out.1.below H2.out.2.1.lt ((Below.refl _ _).alloc (Nat.le_refl _) _)) (H2.out.2.1.below H2.out.2.1.lt ((Below.refl _ _).alloc (Nat.le_refl _) _)) (HST2.out (.cells #[] 0)).2.1 (HST2.out (.cells #[] 0)).2.2.1 (HST2.out (.cells #[] 0)).2.2.2.1 (by rw [len_mapL]; have := H.out.2.1; omega) ?_; intro v' w2 fs' hG' hb' hg'))
    go_roundw
    case rel =>
     obtain ⟨h3, h5, hG, hbw, hzb⟩ := H.out
     have hch := mid_end H2.out.2.2.1 hb' hG.2.2.2
     refine ⟨j + 1, p.app (.cons o1 n1 t1 k1 .nil), r1, fs', by go_num, by rw [h3, F.app_assoc]; rfl, by rw [F.len_app, h5]; rfl, ?_, hbw.trans (hch.mono (by omega)), HX.out.below hch (by omega), zbox_below hzb hch (by omega)⟩
     rw [mapL_app, show mapL φ (.cons o1 n1 t1 k1 .nil) = .cons o2 n2 t2 k2 .nil by rw [mapL, HF.out]; rfl]
     exact hG'
    case measure => simp [intOf]; omega
theorem dr_step_c3 (w : World) (o n : Int) (t : ByteArray) (k : F) (ih : DrS k) (hn : niceD (o, n, t, k) = true) (hcnt : k.cnt ≤ 10000) (a : Option Addr) (cap : Nat) (fs : List Nat) (hs : SubAt w a k fs) (hfs : ∀ c ∈ fs, c < w.heap.size) (hc : k.len ≤ cap) (h7 : o = 7) (d1 d2 : D) (hK : mapL (chD emR) k = consD d1 (consD d2 .nil)) (h1 : d1.1 ≠ 1) (h2 : d2.1 ≠ 1) :
  Calls Try.prog 87 #[.agg #[.int .i64 o, .int .i64 n, .string t, .slice a k.len cap]] w (NewD w (7, n, t, mapL (chD emR) k)) := by
 have hnk : nice k = true := (nice_kids hn).2
 obtain ⟨φ, hφφ⟩ : ∃ φ, chD emR = φ := ⟨_, rfl⟩
 have ih := fun (w : World) (o n : Int) (t : ByteArray) (k1 : F) (p r : F) (a : Option Addr) (cap : Nat) (fs : List Nat) (h : k = p.app (.cons o n t k1 r)) => ih w o n t k1 p r a cap fs h hnk hcnt
 rw [hφφ] at ih
 subst h7
 rw [hφφ] at hK
 have HK0 := Lib.hid hK
 clear hK
 rw [hφφ]
 obtain ⟨i0, hi, hz0, hz1, hz2⟩ := info_parts To.info
 obtain ⟨L, hL⟩ : ∃ L, k.len = L := ⟨_, rfl⟩
 rw [hL] at hc ⊢
 have HL := Lib.hid hL
 have HML := Lib.hid (show (mapL φ k).len = L by rw [len_mapL, hL])
 have hL4 : L ≤ 4194304 := by have := F.len_le_cnt k; omega
 clear hL
 have hsub : 0 < L → ∃ b off f', a = some ⟨b, off, none⟩ ∧ RowAt w k b off f' ∧ b < w.heap.size ∧ ∀ c ∈ f', c < w.heap.size := by
  intro h0
  rcases hs with ⟨rfl, rfl⟩ | ⟨b, off, f', rfl, hnil, rfl, hrow⟩
  ·have := HL.out; simp only [F.len] at this; omega
  ·exact ⟨b, off, f', rfl, hrow, hfs b (by simp), fun c hc => hfs c (by simp [hc])⟩
 have HSUB := Lib.hid hsub
 have IH := Lib.hid ih
 have HI := Lib.hid (And.intro hi (And.intro hz0 (And.intro hz1 hz2)))
 have HST := Lib.hid (kd_start w 7 n t (.slice a L cap) φ k 25)
 clear hsub hs hfs ih hi hz0 hz1 hz2 hnk hn hcnt
 go_enter Try.func87, Try.ntmps87
 go_wp2_with fail
 go_loopw [3, 4] (fun v i wr => KdAt w 7 n t (.slice a L cap) φ k v i wr) (fun _ i _ => L - (intOf i).toNat)
 case atStart => exact HST.out
 case round =>
  obtain ⟨j, p, g, fs1, rfl, h3, h5, hG, hbw, hfv, hzb⟩ := hrel
  have h7 : g.len = L - j := by have := HL.out; rw [h3, F.len_app, h5] at this; omega
  have hjL0 : j ≤ L := by have := HL.out; rw [h3, F.len_app, h5] at this; omega
  obtain ⟨x0, x1, x2, x3⟩ := hfv
  have hsz0 : w.heap.size + 1 < wr.heap.size := hzb.2.2
  cases g with
  | nil =>
    have hjL : L = j := by simp only [F.len] at h7; omega
    subst hjL
    rw [F.app_nil] at h3
    subst h3
    obtain ⟨a', cap', rfl, hcap', hsub', hcm⟩ := hG.slice
    obtain ⟨⟨z0, z1, z2, z3⟩, ⟨z4, z5, z6, z7⟩, z8⟩ := hzb
    have HQ := Lib.hid (And.intro hsub' (And.intro hG.fresh (And.intro hbw hcap')))
    clear hG hbw hsub' h7 hcm hcap' h5 hjL0
    rw [HML.out]
    have hsubK := HQ.out.1
    have hl0 : w.heap.size < wr.heap.size := by omega
    have HZB := Lib.hid (show ZBox wr (w.heap.size + 1) from ⟨⟨z0, z1, z2, z3⟩, ⟨z4, z5, z6, z7⟩, z8⟩)
    have hlk : (2 : Nat) = L := by have := HML.out; rw [HK0.out] at this; exact this
    subst hlk
    obtain ⟨o1, n1, t1, k1⟩ := d1
    obtain ⟨o2, n2, t2, k2⟩ := d2
    have HK := Lib.hid (show mapL φ k = .cons o1 n1 t1 k1 (.cons o2 n2 t2 k2 .nil) from HK0.out)
    rw [HK.out] at hsubK
    have hFK := HQ.out.2.1
    obtain ⟨b, off, f', rfl, hb, hrow, hF'⟩ := sub_row hsubK hFK
    obtain ⟨a1, c1, f1, f2, u0, u1, u2, u3, u4, hs1, hF1, hr2, hF2⟩ := row_first hrow hF'
    obtain ⟨L1, hL1⟩ : ∃ L, k1.len = L := ⟨_, rfl⟩
    rw [hL1] at u3
    have HQ1 := Lib.hid (And.intro hs1 (And.intro hF1 (And.intro u4 hL1)))
    obtain ⟨a2, c2, f3, f4, v0, v1, v2, v3, v4, hs2, hF3, hr4, hF4⟩ := row_first hr2 hF2
    obtain ⟨L2, hL2⟩ : ∃ L, k2.len = L := ⟨_, rfl⟩
    rw [hL2] at v3
    have HQ2 := Lib.hid (And.intro hs2 (And.intro hF3 (And.intro v4 hL2)))
    clear hs2 hF3 hr4 hF4 v4 hL2
    clear hsubK hFK hrow hF' hs1 hF1 hr2 hF2 u4 hL1
    have q1 : (o1 == 1) = false := by rw [beq_eq_false_iff_ne]; exact h1
    have q2 : (o2 == 1) = false := by rw [beq_eq_false_iff_ne]; exact h2
    go_wp2_with (first
     | (go_at_call 122; refine (specEmpty _ _ _ _ _ _ _).mono ?_; rintro e1 w3 ⟨rfl, rfl⟩)
     | (go_at_call 79; refine (specMap _ _ _ _ _ _ _ _ _ _).mono ?_; rintro e1 w3 ⟨rfl, hb3⟩; have q3 : Ext wr w3 := (by first | exact hb3 | exact ((Ext.refl wr).alloc _).trans hb3 | exact (((Ext.refl wr).alloc _).alloc _).trans hb3); obtain ⟨⟨z0, z1, z2, z3⟩, ⟨z4, z5, z6, z7⟩, z8⟩ := HZB.out.ext q3))
    refine bodyPost_ret (v := .agg #[.int .i64 7, .int .i64 n, .string t, .slice (some ⟨b, off, none⟩) 2 cap']) (by simp [results, Try.results87, go_sem, z0, z1, z2, z3, z4, z5, z6, z7, z8, hl0]) rfl ?_
    obtain ⟨hs9, hF9, _, hc9⟩ := HQ.out
    refine end_but (x := w.heap.size + 1) (lo := w.heap.size + 2) (w3 := wr) HML.out hs9 hF9 hc9 (by omega) (by omega) HQ.out.2.2.1 (by repeat (first | exact But.of_below q3 | exact But.refl _ _ _ | refine But.setCell ?_ (Or.inl (by rfl)) _ | refine But.alloc ?_ (by simp) _))
  | cons o1 n1 t1 k1 r1 =>
    have hjL : j < L := by simp only [F.len] at h7; omega
    obtain ⟨b, off, f', rfl, hrow, hbB, hfB⟩ := HSUB.out (by omega)
    rw [h3] at hrow
    obtain ⟨a1, cap1, f1, c0, c1, c2, c3, hc1', hsub1, hin⟩ := row_at hrow
    rw [h5] at c0 c1 c2 c3
    rw [← hbw.cell (p := ⟨_, _, _⟩) hbB] at c0 c1 c2 c3
    have hd := fun (W1 : World) (hw1 : Ext wr W1) => IH.out W1 o1 n1 t1 k1 p r1 a1 cap1 f1 h3 (hsub1.below (fun c hc => hfB c (hin c hc)) (hbw.trans (hw1.mono hbw.size))) (fun c hc => Nat.lt_of_lt_of_le (hfB c (hin c hc)) (Nat.le_trans hbw.size hw1.size)) hc1'
    obtain ⟨⟨o2, n2, t2, k2⟩, hφ⟩ : ∃ d : D, φ o1 n1 t1 k1 = d := ⟨_, rfl⟩
    rw [hφ] at hd
    have HD := Lib.hid hd
    have H := Lib.hid (And.intro h3 (And.intro h5 (And.intro hG (And.intro hbw hzb))))
    have HF := Lib.hid hφ
    have i0' : (0 : Int) ≤ (j : Int) := Int.natCast_nonneg _
    have i1 : (j : Int) < (L : Int) := by omega
    have HX := Lib.hid (show Four w.heap.size (.int .i64 7) (.int .i64 n) (.string t) (.slice (some ⟨b, off, none⟩) L cap) wr from ⟨x0, x1, x2, x3⟩)
    clear hd h3 h5 h7 hbw hrow hG hφ hzb
    go_wp2_with (first
     | (go_at_call 87; refine (HD.out _ (by exact Ext.refl _)).mono ?_; rintro e1 w1 ⟨a2, cap2, f2, rfl, hc2, hs2, hfr2, hb2⟩; have HST2 := Lib.hid (fun ob => mid_d (ob := ob) H.out.2.2.1 hb2); have H2 := Lib.hid (And.intro hs2 (And.intro hfr2 (And.intro hb2 hc2))); clear hs2 hfr2 hb2 hc2 c0 c1 c2 c3)
     | (at_builtin; refine append_doc rfl (.tmp 13) (.tmp 20) 23 rfl Try.underlying23 HI.out.1 HI.out.2.1 HI.out.2.2.1 HI.out.2.2.2 rfl rfl (HST2.out _).1 (d := w1.heap.size) (c := 1) rfl (cell_new w1 _ _ 0 _ rfl) (cell_new w1 _ _ 1 _ rfl) (cell_new w1 _ _ 2 _ rfl) (cell_new w1 _ _ 3 _ rfl) H2.out.2.2.2 (H2.out.1.below H2.out.2.1.lt ((Below.refl _ _).alloc (Nat.le_refl _) _)) (H2.out.2.1.below H2.out.2.1.lt ((Below.refl _ _).alloc (Nat.le_refl _) _)) (HST2.out (.cells #[] 0)).2.1 (HST2.out (.cells #[] 0)).2.2.1 (HST2.out (.cells #[] 0)).2.2.2.1 (by rw [len_mapL]; have := H.out.2.1; omega) ?_; intro v' w2 fs' hG' hb' hg'))
    go_roundw
    case rel =>
     obtain ⟨h3, h5, hG, hbw, hzb⟩ := H.out
     have hch := mid_end H2.out.2.2.1 hb' hG.2.2.2
     refine ⟨j + 1, p.app (.cons o1 n1 t1 k1 .nil), r1, fs', by go_num, by rw [h3, F.app_assoc]; rfl, by rw [F.len_app, h5]; rfl, ?_, hbw.trans (hch.mono (by omega)), HX.out.below hch (by omega), zbox_below hzb hch (by omega)⟩
     rw [mapL_app, show mapL φ (.cons o1 n1 t1 k1 .nil) = .cons o2 n2 t2 k2 .nil by rw [mapL, HF.out]; rfl]
     exact hG'
    case measure => simp [intOf]; omega
theorem dr_step_d6 (w : World) (o n : Int) (t : ByteArray) (k : F) (ih : DrS k) (hn : niceD (o, n, t, k) = true) (hcnt : k.cnt ≤ 10000) (a : Option Addr) (cap : Nat) (fs : List Nat) (hs : SubAt w a k fs) (hfs : ∀ c ∈ fs, c < w.heap.size) (hc : k.len ≤ cap) (h7 : o = 6) (d1 : D) (hK : mapL (chD emR) k = consD d1 .nil) (h1 : d1.1 = 1) :
  Calls Try.prog 87 #[.agg #[.int .i64 o, .int .i64 n, .string t, .slice a k.len cap]] w (NewD w d1) := by
 have hnk : nice k = true := (nice_kids hn).2
 obtain ⟨φ, hφφ⟩ : ∃ φ, chD emR = φ := ⟨_, rfl⟩
 have ih := fun (w : World) (o n : Int) (t : ByteArray) (k1 : F) (p r : F) (a : Option Addr) (cap : Nat) (fs : List Nat) (h : k = p.app (.cons o n t k1 r)) => ih w o n t k1 p r a cap fs h hnk hcnt
 rw [hφφ] at ih
 subst h7
 rw [hφφ] at hK
 have HK0 := Lib.hid hK
 clear hK
 obtain ⟨i0, hi, hz0, hz1, hz2⟩ := info_parts To.info
 obtain ⟨L, hL⟩ : ∃ L, k.len = L := ⟨_, rfl⟩
 rw [hL] at hc ⊢
 have HL := Lib.hid hL
 have HML := Lib.hid (show (mapL φ k).len = L by rw [len_mapL, hL])
 have hL4 : L ≤ 4194304 := by have := F.len_le_cnt k; omega
 clear hL
 have hsub : 0 < L → ∃ b off f', a = some ⟨b, off, none⟩ ∧ RowAt w k b off f' ∧ b < w.heap.size ∧ ∀ c ∈ f', c < w.heap.size := by
  intro h0
  rcases hs with ⟨rfl, rfl⟩ | ⟨b, off, f', rfl, hnil, rfl, hrow⟩
  ·have := HL.out; simp only [F.len] at this; omega
  ·exact ⟨b, off, f', rfl, hrow, hfs b (by simp), fun c hc => hfs c (by simp [hc])⟩
 have HSUB := Lib.hid hsub
 have IH := Lib.hid ih
 have HI := Lib.hid (And.intro hi (And.intro hz0 (And.intro hz1 hz2)))
 have HST := Lib.hid (kd_start w 6 n t (.slice a L cap) φ k 25)
 clear hsub hs hfs ih hi hz0 hz1 hz2 hnk hn hcnt
 go_enter Try.func87, Try.ntmps87
 go_wp2_with fail
 go_loopw [3, 4] (fun v i wr => KdAt w 6 n t (.slice a L cap) φ k v i wr) (fun _ i _ => L - (intOf i).toNat)
 case atStart => exact HST.out
 case round =>
  obtain ⟨j, p, g, fs1, rfl, h3, h5, hG, hbw, hfv, hzb⟩ := hrel
  have h7 : g.len = L - j := by have := HL.out; rw [h3, F.len_app, h5] at this; omega
  have hjL0 : j ≤ L := by have := HL.out; rw [h3, F.len_app, h5] at this; omega
  obtain ⟨x0, x1, x2, x3⟩ := hfv
  have hsz0 : w.heap.size + 1 < wr.heap.size := hzb.2.2
  cases g with
  | nil =>
    have hjL : L = j := by simp only [F.len] at h7; omega
    subst hjL
    rw [F.app_nil] at h3
    subst h3
    obtain ⟨a', cap', rfl, hcap', hsub', hcm⟩ := hG.slice
    obtain ⟨⟨z0, z1, z2, z3⟩, ⟨z4, z5, z6, z7⟩, z8⟩ := hzb
    have HQ := Lib.hid (And.intro hsub' (And.intro hG.fresh (And.intro hbw hcap')))
    clear hG hbw hsub' h7 hcm hcap' h5 hjL0
    rw [HML.out]
    have hsubK := HQ.out.1
    have hl0 : w.heap.size < wr.heap.size := by omega
    have HZB := Lib.hid (show ZBox wr (w.heap.size + 1) from ⟨⟨z0, z1, z2, z3⟩, ⟨z4, z5, z6, z7⟩, z8⟩)
    have hlk : (1 : Nat) = L := by have := HML.out; rw [HK0.out] at this; exact this
    subst hlk
    obtain ⟨o1, n1, t1, k1⟩ := d1
    have HK := Lib.hid (show mapL φ k = .cons o1 n1 t1 k1 .nil from HK0.out)
    rw [HK.out] at hsubK
    have hFK := HQ.out.2.1
    obtain ⟨b, off, f', rfl, hb, hrow, hF'⟩ := sub_row hsubK hFK
    obtain ⟨a1, c1, f1, f2, u0, u1, u2, u3, u4, hs1, hF1, hr2, hF2⟩ := row_first hrow hF'
    obtain ⟨L1, hL1⟩ : ∃ L, k1.len = L := ⟨_, rfl⟩
    rw [hL1] at u3
    have HQ1 := Lib.hid (And.intro hs1 (And.intro hF1 (And.intro u4 hL1)))
    clear hsubK hFK hrow hF' hs1 hF1 hr2 hF2 u4 hL1
    have q1 : (o1 == 1) = true := by rw [beq_iff_eq]; exact h1
    go_wp2_with (first
     | (go_at_call 122; refine (specEmpty _ _ _ _ _ _ _).mono ?_; rintro e1 w3 ⟨rfl, rfl⟩)
     | (go_at_call 79; refine (specMap _ _ _ _ _ _ _ _ _ _).mono ?_; rintro e1 w3 ⟨rfl, hb3⟩; have q3 : Ext wr w3 := (by first | exact hb3 | exact ((Ext.refl wr).alloc _).trans hb3 | exact (((Ext.refl wr).alloc _).alloc _).trans hb3); obtain ⟨⟨z0, z1, z2, z3⟩, ⟨z4, z5, z6, z7⟩, z8⟩ := HZB.out.ext q3))
    refine bodyPost_ret (v := .agg #[.int .i64 o1, .int .i64 n1, .string t1, .slice a1 L1 c1]) (by simp [results, Try.results87, go_sem, z0, z1, z2, z3, z4, z5, z6, z7, z8, hl0, show o1 = 1 from h1]) rfl ?_
    obtain ⟨hs1, hF1, u4, hL1⟩ := HQ1.out
    refine end_but (x := w.heap.size + 1) (lo := w.heap.size + 2) (w3 := wr) hL1 hs1 hF1 u4 (by omega) (by omega) HQ.out.2.2.1 (by repeat (first | exact But.of_below q3 | exact But.refl _ _ _ | refine But.setCell ?_ (Or.inl (by rfl)) _ | refine But.alloc ?_ (by simp) _))
  | cons o1 n1 t1 k1 r1 =>
    have hjL : j < L := by simp only [F.len] at h7; omega
    obtain ⟨b, off, f', rfl, hrow, hbB, hfB⟩ := HSUB.out (by omega)
    rw [h3] at hrow
    obtain ⟨a1, cap1, f1, c0, c1, c2, c3, hc1', hsub1, hin⟩ := row_at hrow
    rw [h5] at c0 c1 c2 c3
    rw [← hbw.cell (p := ⟨_, _, _⟩) hbB] at c0 c1 c2 c3
    have hd := fun (W1 : World) (hw1 : Ext wr W1) => IH.out W1 o1 n1 t1 k1 p r1 a1 cap1 f1 h3 (hsub1.below (fun c hc => hfB c (hin c hc)) (hbw.trans (hw1.mono hbw.size))) (fun c hc => Nat.lt_of_lt_of_le (hfB c (hin c hc)) (Nat.le_trans hbw.size hw1.size)) hc1'
    obtain ⟨⟨o2, n2, t2, k2⟩, hφ⟩ : ∃ d : D, φ o1 n1 t1 k1 = d := ⟨_, rfl⟩
    rw [hφ] at hd
    have HD := Lib.hid hd
    have H := Lib.hid (And.intro h3 (And.intro h5 (And.intro hG (And.intro hbw hzb))))
    have HF := Lib.hid hφ
    have i0' : (0 : Int) ≤ (j : Int) := Int.natCast_nonneg _
    have i1 : (j : Int) < (L : Int) := by omega
    have HX := Lib.hid (show Four w.heap.size (.int .i64 6) (.int .i64 n) (.string t) (.slice (some ⟨b, off, none⟩) L cap) wr from ⟨x0, x1, x2, x3⟩)
    clear hd h3 h5 h7 hbw hrow hG hφ hzb
    go_wp2_with (first
     | (go_at_call 87; refine (HD.out _ (by exact Ext.refl _)).mono ?_; rintro e1 w1 ⟨a2, cap2, f2, rfl, hc2, hs2, hfr2, hb2⟩; have HST2 := Lib.hid (fun ob => mid_d (ob := ob) H.out.2.2.1 hb2); have H2 := Lib.hid (And.intro hs2 (And.intro hfr2 (And.intro hb2 hc2))); clear hs2 hfr2 hb2 hc2 c0 c1 c2 c3)
     | (at_builtin; refine append_doc rfl (.tmp 13) (.tmp 20) 23 rfl Try.underlying23 HI.out.1 HI.out.2.1 HI.out.2.2.1 HI.out.2.2.2 rfl rfl (HST2.out _).1 (d := w1.heap.size) (c := 1) rfl (cell_new w1 _ _ 0 _ rfl) (cell_new w1 _ _ 1 _ rfl) (cell_new w1 _ _ 2 _ rfl) (cell_new w1 _ _ 3 _ rfl) H2.out.2.2.2 (H2.out.1.below H2.out.2.1.lt ((Below.refl _ _).alloc (Nat.le_refl _) _)) (H2.out.2.1.below H2.out.2.1.lt ((Below.refl _ _).alloc (Nat.le_refl _) _)) (HST2.out (.cells #[] 0)).2.1 (HST2.out (.cells #[] 0)).2.2.1 (HST2.out (.cells #[] 0)).2.2.2.1 (by rw [len_mapL]; have := H.out.2.1; omega) ?_; intro v' w2 fs' hG' hb' hg'))
    go_roundw
    case rel =>
     obtain ⟨h3, h5, hG, hbw, hzb⟩ := H.out
     have hch := mid_end H2.out.2.2.1 hb' hG.2.2.2
     refine ⟨j + 1, p.app (.cons o1 n1 t1 k1 .nil), r1, fs', by go_num, by rw [h3, F.app_assoc]; rfl, by rw [F.len_app, h5]; rfl, ?_, hbw.trans (hch.mono (by omega)), HX.out.below hch (by omega), zbox_below hzb hch (by omega)⟩
     rw [mapL_app, show mapL φ (.cons o1 n1 t1 k1 .nil) = .cons o2 n2 t2 k2 .nil by rw [mapL, HF.out]; rfl]
     exact hG'
    case measure => simp [intOf]; omega
theorem dr_step_e6 (w : World) (o n : Int) (t : ByteArray) (k : F) (ih : DrS k) (hn : niceD (o, n, t, k) = true) (hcnt : k.cnt ≤ 10000) (a : Option Addr) (cap : Nat) (fs : List Nat) (hs : SubAt w a k fs) (hfs : ∀ c ∈ fs, c < w.heap.size) (hc : k.len ≤ cap) (h7 : o = 6) (d1 : D) (hK : mapL (chD emR) k = consD d1 .nil) (h1 : d1.1 ≠ 1) :
  Calls Try.prog 87 #[.agg #[.int .i64 o, .int .i64 n, .string t, .slice a k.len cap]] w (NewD w (6, n, t, mapL (chD emR) k)) := by
 have hnk : nice k = true := (nice_kids hn).2
 obtain ⟨φ, hφφ⟩ : ∃ φ, chD emR = φ := ⟨_, rfl⟩
 have ih := fun (w : World) (o n : Int) (t : ByteArray) (k1 : F) (p r : F) (a : Option Addr) (cap : Nat) (fs : List Nat) (h : k = p.app (.cons o n t k1 r)) => ih w o n t k1 p r a cap fs h hnk hcnt
 rw [hφφ] at ih
 subst h7
 rw [hφφ] at hK
 have HK0 := Lib.hid hK
 clear hK
 rw [hφφ]
 obtain ⟨i0, hi, hz0, hz1, hz2⟩ := info_parts To.info
 obtain ⟨L, hL⟩ : ∃ L, k.len = L := ⟨_, rfl⟩
 rw [hL] at hc ⊢
 have HL := Lib.hid hL
 have HML := Lib.hid (show (mapL φ k).len = L by rw [len_mapL, hL])
 have hL4 : L ≤ 4194304 := by have := F.len_le_cnt k; omega
 clear hL
 have hsub : 0 < L → ∃ b off f', a = some ⟨b, off, none⟩ ∧ RowAt w k b off f' ∧ b < w.heap.size ∧ ∀ c ∈ f', c < w.heap.size := by
  intro h0
  rcases hs with ⟨rfl, rfl⟩ | ⟨b, off, f', rfl, hnil, rfl, hrow⟩
  ·have := HL.out; simp only [F.len] at this; omega
  ·exact ⟨b, off, f', rfl, hrow, hfs b (by simp), fun c hc => hfs c (by simp [hc])⟩
 have HSUB := Lib.hid hsub
 have IH := Lib.hid ih
 have HI := Lib.hid (And.intro hi (And.intro hz0 (And.intro hz1 hz2)))
 have HST := Lib.hid (kd_start w 6 n t (.slice a L cap) φ k 25)
 clear hsub hs hfs ih hi hz0 hz1 hz2 hnk hn hcnt
 go_enter Try.func87, Try.ntmps87
 go_wp2_with fail
 go_loopw [3, 4] (fun v i wr => KdAt w 6 n t (.slice a L cap) φ k v i wr) (fun _ i _ => L - (intOf i).toNat)
 case atStart => exact HST.out
 case round =>
  obtain ⟨j, p, g, fs1, rfl, h3, h5, hG, hbw, hfv, hzb⟩ := hrel
  have h7 : g.len = L - j := by have := HL.out; rw [h3, F.len_app, h5] at this; omega
  have hjL0 : j ≤ L := by have := HL.out; rw [h3, F.len_app, h5] at this; omega
  obtain ⟨x0, x1, x2, x3⟩ := hfv
  have hsz0 : w.heap.size + 1 < wr.heap.size := hzb.2.2
  cases g with
  | nil =>
    have hjL : L = j := by simp only [F.len] at h7; omega
    subst hjL
    rw [F.app_nil] at h3
    subst h3
    obtain ⟨a', cap', rfl, hcap', hsub', hcm⟩ := hG.slice
    obtain ⟨⟨z0, z1, z2, z3⟩, ⟨z4, z5, z6, z7⟩, z8⟩ := hzb
    have HQ := Lib.hid (And.intro hsub' (And.intro hG.fresh (And.intro hbw hcap')))
    clear hG hbw hsub' h7 hcm hcap' h5 hjL0
    rw [HML.out]
    have hsubK := HQ.out.1
    have hl0 : w.heap.size < wr.heap.size := by omega
    have HZB := Lib.hid (show ZBox wr (w.heap.size + 1) from ⟨⟨z0, z1, z2, z3⟩, ⟨z4, z5, z6, z7⟩, z8⟩)
    have hlk : (1 : Nat) = L := by have := HML.out; rw [HK0.out] at this; exact this
    subst hlk
    obtain ⟨o1, n1, t1, k1⟩ := d1
    have HK := Lib.hid (show mapL φ k = .cons o1 n1 t1 k1 .nil from HK0.out)
    rw [HK.out] at hsubK
    have hFK := HQ.out.2.1
    obtain ⟨b, off, f', rfl, hb, hrow, hF'⟩ := sub_row hsubK hFK
    obtain ⟨a1, c1, f1, f2, u0, u1, u2, u3, u4, hs1, hF1, hr2, hF2⟩ := row_first hrow hF'
    obtain ⟨L1, hL1⟩ : ∃ L, k1.len = L := ⟨_, rfl⟩
    rw [hL1] at u3
    have HQ1 := Lib.hid (And.intro hs1 (And.intro hF1 (And.intro u4 hL1)))
    clear hsubK hFK hrow hF' hs1 hF1 hr2 hF2 u4 hL1
    have q1 : (o1 == 1) = false := by rw [beq_eq_false_iff_ne]; exact h1
    go_wp2_with (first
     | (go_at_call 122; refine (specEmpty _ _ _ _ _ _ _).mono ?_; rintro e1 w3 ⟨rfl, rfl⟩)
     | (go_at_call 79; refine (specMap _ _ _ _ _ _ _ _ _ _).mono ?_; rintro e1 w3 ⟨rfl, hb3⟩; have q3 : Ext wr w3 := (by first | exact hb3 | exact ((Ext.refl wr).alloc _).trans hb3 | exact (((Ext.refl wr).alloc _).alloc _).trans hb3); obtain ⟨⟨z0, z1, z2, z3⟩, ⟨z4, z5, z6, z7⟩, z8⟩ := HZB.out.ext q3))
    refine bodyPost_ret (v := .agg #[.int .i64 6, .int .i64 n, .string t, .slice (some ⟨b, off, none⟩) 1 cap']) (by simp [results, Try.results87, go_sem, z0, z1, z2, z3, z4, z5, z6, z7, z8, hl0]) rfl ?_
    obtain ⟨hs9, hF9, _, hc9⟩ := HQ.out
    refine end_but (x := w.heap.size + 1) (lo := w.heap.size + 2) (w3 := wr) HML.out hs9 hF9 hc9 (by omega) (by omega) HQ.out.2.2.1 (by repeat (first | exact But.of_below q3 | exact But.refl _ _ _ | refine But.setCell ?_ (Or.inl (by rfl)) _ | refine But.alloc ?_ (by simp) _))
  | cons o1 n1 t1 k1 r1 =>
    have hjL : j < L := by simp only [F.len] at h7; omega
    obtain ⟨b, off, f', rfl, hrow, hbB, hfB⟩ := HSUB.out (by omega)
    rw [h3] at hrow
    obtain ⟨a1, cap1, f1, c0, c1, c2, c3, hc1', hsub1, hin⟩ := row_at hrow
    rw [h5] at c0 c1 c2 c3
    rw [← hbw.cell (p := ⟨_, _, _⟩) hbB] at c0 c1 c2 c3
    have hd := fun (W1 : World) (hw1 : Ext wr W1) => IH.out W1 o1 n1 t1 k1 p r1 a1 cap1 f1 h3 (hsub1.below (fun c hc => hfB c (hin c hc)) (hbw.trans (hw1.mono hbw.size))) (fun c hc => Nat.lt_of_lt_of_le (hfB c (hin c hc)) (Nat.le_trans hbw.size hw1.size)) hc1'
    obtain ⟨⟨o2, n2, t2, k2⟩, hφ⟩ : ∃ d : D, φ o1 n1 t1 k1 = d := ⟨_, rfl⟩
    rw [hφ] at hd
    have HD := Lib.hid hd
    have H := Lib.hid (And.intro h3 (And.intro h5 (And.intro hG (And.intro hbw hzb))))
    have HF := Lib.hid hφ
    have i0' : (0 : Int) ≤ (j : Int) := Int.natCast_nonneg _
    have i1 : (j : Int) < (L : Int) := by omega
    have HX := Lib.hid (show Four w.heap.size (.int .i64 6) (.int .i64 n) (.string t) (.slice (some ⟨b, off, none⟩) L cap) wr from ⟨x0, x1, x2, x3⟩)
    clear hd h3 h5 h7 hbw hrow hG hφ hzb
    go_wp2_with (first
     | (go_at_call 87; refine (HD.out _ (by exact Ext.refl _)).mono ?_; rintro e1 w1 ⟨a2, cap2, f2, rfl, hc2, hs2, hfr2, hb2⟩; have HST2 := Lib.hid (fun ob => mid_d (ob := ob) H.out.2.2.1 hb2); have H2 := Lib.hid (And.intro hs2 (And.intro hfr2 (And.intro hb2 hc2))); clear hs2 hfr2 hb2 hc2 c0 c1 c2 c3)
     | (at_builtin; refine append_doc rfl (.tmp 13) (.tmp 20) 23 rfl Try.underlying23 HI.out.1 HI.out.2.1 HI.out.2.2.1 HI.out.2.2.2 rfl rfl (HST2.out _).1 (d := w1.heap.size) (c := 1) rfl (cell_new w1 _ _ 0 _ rfl) (cell_new w1 _ _ 1 _ rfl) (cell_new w1 _ _ 2 _ rfl) (cell_new w1 _ _ 3 _ rfl) H2.out.2.2.2 (H2.out.1.below H2.out.2.1.lt ((Below.refl _ _).alloc (Nat.le_refl _) _)) (H2.out.2.1.below H2.out.2.1.lt ((Below.refl _ _).alloc (Nat.le_refl _) _)) (HST2.out (.cells #[] 0)).2.1 (HST2.out (.cells #[] 0)).2.2.1 (HST2.out (.cells #[] 0)).2.2.2.1 (by rw [len_mapL]; have := H.out.2.1; omega) ?_; intro v' w2 fs' hG' hb' hg'))
    go_roundw
    case rel =>
     obtain ⟨h3, h5, hG, hbw, hzb⟩ := H.out
     have hch := mid_end H2.out.2.2.1 hb' hG.2.2.2
     refine ⟨j + 1, p.app (.cons o1 n1 t1 k1 .nil), r1, fs', by go_num, by rw [h3, F.app_assoc]; rfl, by rw [F.len_app, h5]; rfl, ?_, hbw.trans (hch.mono (by omega)), HX.out.below hch (by omega), zbox_below hzb hch (by omega)⟩
     rw [mapL_app, show mapL φ (.cons o1 n1 t1 k1 .nil) = .cons o2 n2 t2 k2 .nil by rw [mapL, HF.out]; rfl]
     exact hG'
    case measure => simp [intOf]; omega
theorem dr_step_d8 (w : World) (o n : Int) (t : ByteArray) (k : F) (ih : DrS k) (hn : niceD (o, n, t, k) = true) (hcnt : k.cnt ≤ 10000) (a : Option Addr) (cap : Nat) (fs : List Nat) (hs : SubAt w a k fs) (hfs : ∀ c ∈ fs, c < w.heap.size) (hc : k.len ≤ cap) (h7 : o = 8) (d1 : D) (hK : mapL (chD emR) k = consD d1 .nil) (h1 : d1.1 = 1) :
  Calls Try.prog 87 #[.agg #[.int .i64 o, .int .i64 n, .string t, .slice a k.len cap]] w (NewD w d1) := by
 have hnk : nice k = true := (nice_kids hn).2
 obtain ⟨φ, hφφ⟩ : ∃ φ, chD emR = φ := ⟨_, rfl⟩
 have ih := fun (w : World) (o n : Int) (t : ByteArray) (k1 : F) (p r : F) (a : Option Addr) (cap : Nat) (fs : List Nat) (h : k = p.app (.cons o n t k1 r)) => ih w o n t k1 p r a cap fs h hnk hcnt
 rw [hφφ] at ih
 subst h7
 rw [hφφ] at hK
 have HK0 := Lib.hid hK
 clear hK
 obtain ⟨i0, hi, hz0, hz1, hz2⟩ := info_parts To.info
 obtain ⟨L, hL⟩ : ∃ L, k.len = L := ⟨_, rfl⟩
 rw [hL] at hc ⊢
 have HL := Lib.hid hL
 have HML := Lib.hid (show (mapL φ k).len = L by rw [len_mapL, hL])
 have hL4 : L ≤ 4194304 := by have := F.len_le_cnt k; omega
 clear hL
 have hsub : 0 < L → ∃ b off f', a = some ⟨b, off, none⟩ ∧ RowAt w k b off f' ∧ b < w.heap.size ∧ ∀ c ∈ f', c < w.heap.size := by
  intro h0
  rcases hs with ⟨rfl, rfl⟩ | ⟨b, off, f', rfl, hnil, rfl, hrow⟩
  ·have := HL.out; simp only [F.len] at this; omega
  ·exact ⟨b, off, f', rfl, hrow, hfs b (by simp), fun c hc => hfs c (by simp [hc])⟩
 have HSUB := Lib.hid hsub
 have IH := Lib.hid ih
 have HI := Lib.hid (And.intro hi (And.intro hz0 (And.intro hz1 hz2)))
 have HST := Lib.hid (kd_start w 8 n t (.slice a L cap) φ k 25)
 clear hsub hs hfs ih hi hz0 hz1 hz2 hnk hn hcnt
 go_enter Try.func87, Try.ntmps87
 go_wp2_with fail
 go_loopw [3, 4] (fun v i wr => KdAt w 8 n t (.slice a L cap) φ k v i wr) (fun _ i _ => L - (intOf i).toNat)
 case atStart => exact HST.out
 case round =>
  obtain ⟨j, p, g, fs1, rfl, h3, h5, hG, hbw, hfv, hzb⟩ := hrel
  have h7 : g.len = L - j := by have := HL.out; rw [h3, F.len_app, h5] at this; omega
  have hjL0 : j ≤ L := by have := HL.out; rw [h3, F.len_app, h5] at this; omega
  obtain ⟨x0, x1, x2, x3⟩ := hfv
  have hsz0 : w.heap.size + 1 < wr.heap.size := hzb.2.2
  cases g with
  | nil =>
    have hjL : L = j := by simp only [F.len] at h7; omega
    subst hjL
    rw [F.app_nil] at h3
    subst h3
    obtain ⟨a', cap', rfl, hcap', hsub', hcm⟩ := hG.slice
    obtain ⟨⟨z0, z1, z2, z3⟩, ⟨z4, z5, z6, z7⟩, z8⟩ := hzb
    have HQ := Lib.hid (And.intro hsub' (And.intro hG.fresh (And.intro hbw hcap')))
    clear hG hbw hsub' h7 hcm hcap' h5 hjL0
    rw [HML.out]
    have hsubK := HQ.out.1
    have hl0 : w.heap.size < wr.heap.size := by omega
    have HZB := Lib.hid (show ZBox wr (w.heap.size + 1) from ⟨⟨z0, z1, z2, z3⟩, ⟨z4, z5, z6, z7⟩, z8⟩)
    have hlk : (1 : Nat) = L := by have := HML.out; rw [HK0.out] at this; exact this
    subst hlk
    obtain ⟨o1, n1, t1, k1⟩ := d1
    have HK := Lib.hid (show mapL φ k = .cons o1 n1 t1 k1 .nil from HK0.out)
    rw [HK.out] at hsubK
    have hFK := HQ.out.2.1
    obtain ⟨b, off, f', rfl, hb, hrow, hF'⟩ := sub_row hsubK hFK
    obtain ⟨a1, c1, f1, f2, u0, u1, u2, u3, u4, hs1, hF1, hr2, hF2⟩ := row_first hrow hF'
    obtain ⟨L1, hL1⟩ : ∃ L, k1.len = L := ⟨_, rfl⟩
    rw [hL1] at u3
    have HQ1 := Lib.hid (And.intro hs1 (And.intro hF1 (And.intro u4 hL1)))
    clear hsubK hFK hrow hF' hs1 hF1 hr2 hF2 u4 hL1
    have q1 : (o1 == 1) = true := by rw [beq_iff_eq]; exact h1
    go_wp2_with (first
     | (go_at_call 122; refine (specEmpty _ _ _ _ _ _ _).mono ?_; rintro e1 w3 ⟨rfl, rfl⟩)
     | (go_at_call 79; refine (specMap _ _ _ _ _ _ _ _ _ _).mono ?_; rintro e1 w3 ⟨rfl, hb3⟩; have q3 : Ext wr w3 := (by first | exact hb3 | exact ((Ext.refl wr).alloc _).trans hb3 | exact (((Ext.refl wr).alloc _).alloc _).trans hb3); obtain ⟨⟨z0, z1, z2, z3⟩, ⟨z4, z5, z6, z7⟩, z8⟩ := HZB.out.ext q3))
    refine bodyPost_ret (v := .agg #[.int .i64 o1, .int .i64 n1, .string t1, .slice a1 L1 c1]) (by simp [results, Try.results87, go_sem, z0, z1, z2, z3, z4, z5, z6, z7, z8, hl0, show o1 = 1 from h1]) rfl ?_
    obtain ⟨hs1, hF1, u4, hL1⟩ := HQ1.out
    refine end_but (x := w.heap.size + 1) (lo := w.heap.size + 2) (w3 := wr) hL1 hs1 hF1 u4 (by omega) (by omega) HQ.out.2.2.1 (by repeat (first | exact But.of_below q3 | exact But.refl _ _ _ | refine But.setCell ?_ (Or.inl (by rfl)) _ | refine But.alloc ?_ (by simp) _))
  | cons o1 n1 t1 k1 r1 =>
    have hjL : j < L := by simp only [F.len] at h7; omega
    obtain ⟨b, off, f', rfl, hrow, hbB, hfB⟩ := HSUB.out (by omega)
    rw [h3] at hrow
    obtain ⟨a1, cap1, f1, c0, c1, c2, c3, hc1', hsub1, hin⟩ := row_at hrow
    rw [h5] at c0 c1 c2 c3
    rw [← hbw.cell (p := ⟨_, _, _⟩) hbB] at c0 c1 c2 c3
    have hd := fun (W1 : World) (hw1 : Ext wr W1) => IH.out W1 o1 n1 t1 k1 p r1 a1 cap1 f1 h3 (hsub1.below (fun c hc => hfB c (hin c hc)) (hbw.trans (hw1.mono hbw.size))) (fun c hc => Nat.lt_of_lt_of_le (hfB c (hin c hc)) (Nat.le_trans hbw.size hw1.size)) hc1'
    obtain ⟨⟨o2, n2, t2, k2⟩, hφ⟩ : ∃ d : D, φ o1 n1 t1 k1 = d := ⟨_, rfl⟩
    rw [hφ] at hd
    have HD := Lib.hid hd
    have H := Lib.hid (And.intro h3 (And.intro h5 (And.intro hG (And.intro hbw hzb))))
    have HF := Lib.hid hφ
    have i0' : (0 : Int) ≤ (j : Int) := Int.natCast_nonneg _
    have i1 : (j : Int) < (L : Int) := by omega
    have HX := Lib.hid (show Four w.heap.size (.int .i64 8) (.int .i64 n) (.string t) (.slice (some ⟨b, off, none⟩) L cap) wr from ⟨x0, x1, x2, x3⟩)
    clear hd h3 h5 h7 hbw hrow hG hφ hzb
    go_wp2_with (first
     | (go_at_call 87; refine (HD.out _ (by exact Ext.refl _)).mono ?_; rintro e1 w1 ⟨a2, cap2, f2, rfl, hc2, hs2, hfr2, hb2⟩; have HST2 := Lib.hid (fun ob => mid_d (ob := ob) H.out.2.2.1 hb2); have H2 := Lib.hid (And.intro hs2 (And.intro hfr2 (And.intro hb2 hc2))); clear hs2 hfr2 hb2 hc2 c0 c1 c2 c3)
     | (at_builtin; refine append_doc rfl (.tmp 13) (.tmp 20) 23 rfl Try.underlying23 HI.out.1 HI.out.2.1 HI.out.2.2.1 HI.out.2.2.2 rfl rfl (HST2.out _).1 (d := w1.heap.size) (c := 1) rfl (cell_new w1 _ _ 0 _ rfl) (cell_new w1 _ _ 1 _ rfl) (cell_new w1 _ _ 2 _ rfl) (cell_new w1 _ _ 3 _ rfl) H2.out.2.2.2 (H2.out.1.below H2.out.2.1.lt ((Below.refl _ _).alloc (Nat.le_refl _) _)) (H2.out.2.1.below H2.out.2.1.lt ((Below.refl _ _).alloc (Nat.le_refl _) _)) (HST2.out (.cells #[] 0)).2.1 (HST2.out (.cells #[] 0)).2.2.1 (HST2.out (.cells #[] 0)).2.2.2.1 (by rw [len_mapL]; have := H.out.2.1; omega) ?_; intro v' w2 fs' hG' hb' hg'))
    go_roundw
    case rel =>
     obtain ⟨h3, h5, hG, hbw, hzb⟩ := H.out
     have hch := mid_end H2.out.2.2.1 hb' hG.2.2.2
     refine ⟨j + 1, p.app (.cons o1 n1 t1 k1 .nil), r1, fs', by go_num, by rw [h3, F.app_assoc]; rfl, by rw [F.len_app, h5]; rfl, ?_, hbw.trans (hch.mono (by omega)), HX.out.below hch (by omega), zbox_below hzb hch (by omega)⟩
     rw [mapL_app, show mapL φ (.cons o1 n1 t1 k1 .nil) = .cons o2 n2 t2 k2 .nil by rw [mapL, HF.out]; rfl]
     exact hG'
    case measure => simp [intOf]; omega
theorem dr_step_e8 (w : World) (o n : Int) (t : ByteArray) (k : F) (ih : DrS k) (hn : niceD (o, n, t, k) = true) (hcnt : k.cnt ≤ 10000) (a : Option Addr) (cap : Nat) (fs : List Nat) (hs : SubAt w a k fs) (hfs : ∀ c ∈ fs, c < w.heap.size) (hc : k.len ≤ cap) (h7 : o = 8) (d1 : D) (hK : mapL (chD emR) k = consD d1 .nil) (h1 : d1.1 ≠ 1) :
  Calls Try.prog 87 #[.agg #[.int .i64 o, .int .i64 n, .string t, .slice a k.len cap]] w (NewD w (8, n, t, mapL (chD emR) k)) := by
 have hnk : nice k = true := (nice_kids hn).2
 obtain ⟨φ, hφφ⟩ : ∃ φ, chD emR = φ := ⟨_, rfl⟩
 have ih := fun (w : World) (o n : Int) (t : ByteArray) (k1 : F) (p r : F) (a : Option Addr) (cap : Nat) (fs : List Nat) (h : k = p.app (.cons o n t k1 r)) => ih w o n t k1 p r a cap fs h hnk hcnt
 rw [hφφ] at ih
 subst h7
 rw [hφφ] at hK
 have HK0 := Lib.hid hK
 clear hK
 rw [hφφ]
 obtain ⟨i0, hi, hz0, hz1, hz2⟩ := info_parts To.info
 obtain ⟨L, hL⟩ : ∃ L, k.len = L := ⟨_, rfl⟩
 rw [hL] at hc ⊢
 have HL := Lib.hid hL
 have HML := Lib.hid (show (mapL φ k).len = L by rw [len_mapL, hL])
 have hL4 : L ≤ 4194304 := by have := F.len_le_cnt k; omega
 clear hL
 have hsub : 0 < L → ∃ b off f', a = some ⟨b, off, none⟩ ∧ RowAt w k b off f' ∧ b < w.heap.size ∧ ∀ c ∈ f', c < w.heap.size := by
  intro h0
  rcases hs with ⟨rfl, rfl⟩ | ⟨b, off, f', rfl, hnil, rfl, hrow⟩
  ·have := HL.out; simp only [F.len] at this; omega
  ·exact ⟨b, off, f', rfl, hrow, hfs b (by simp), fun c hc => hfs c (by simp [hc])⟩
 have HSUB := Lib.hid hsub
 have IH := Lib.hid ih
 have HI := Lib.hid (And.intro hi (And.intro hz0 (And.intro hz1 hz2)))
 have HST := Lib.hid (kd_start w 8 n t (.slice a L cap) φ k 25)
 clear hsub hs hfs ih hi hz0 hz1 hz2 hnk hn hcnt
 go_enter Try.func87, Try.ntmps87
 go_wp2_with fail
 go_loopw [3, 4] (fun v i wr => KdAt w 8 n t (.slice a L cap) φ k v i wr) (fun _ i _ => L - (intOf i).toNat)
 case atStart => exact HST.out
 case round =>
  obtain ⟨j, p, g, fs1, rfl, h3, h5, hG, hbw, hfv, hzb⟩ := hrel
  have h7 : g.len = L - j := by have := HL.out; rw [h3, F.len_app, h5] at this; omega
  have hjL0 : j ≤ L := by have := HL.out; rw [h3, F.len_app, h5] at this; omega
  obtain ⟨x0, x1, x2, x3⟩ := hfv
  have hsz0 : w.heap.size + 1 < wr.heap.size := hzb.2.2
  cases g with
  | nil =>
    have hjL : L = j := by simp only [F.len] at h7; omega
    subst hjL
    rw [F.app_nil] at h3
    subst h3
    obtain ⟨a', cap', rfl, hcap', hsub', hcm⟩ := hG.slice
    obtain ⟨⟨z0, z1, z2, z3⟩, ⟨z4, z5, z6, z7⟩, z8⟩ := hzb
    have HQ := Lib.hid (And.intro hsub' (And.intro hG.fresh (And.intro hbw hcap')))
    clear hG hbw hsub' h7 hcm hcap' h5 hjL0
    rw [HML.out]
    have hsubK := HQ.out.1
    have hl0 : w.heap.size < wr.heap.size := by omega
    have HZB := Lib.hid (show ZBox wr (w.heap.size + 1) from ⟨⟨z0, z1, z2, z3⟩, ⟨z4, z5, z6, z7⟩, z8⟩)
    have hlk : (1 : Nat) = L := by have := HML.out; rw [HK0.out] at this; exact this
    subst hlk
    obtain ⟨o1, n1, t1, k1⟩ := d1
    have HK := Lib.hid (show mapL φ k = .cons o1 n1 t1 k1 .nil from HK0.out)
    rw [HK.out] at hsubK
    have hFK := HQ.out.2.1
    obtain ⟨b, off, f', rfl, hb, hrow, hF'⟩ := sub_row hsubK hFK
    obtain ⟨a1, c1, f1, f2, u0, u1, u2, u3, u4, hs1, hF1, hr2, hF2⟩ := row_first hrow hF'
    obtain ⟨L1, hL1⟩ : ∃ L, k1.len = L := ⟨_, rfl⟩
    rw [hL1] at u3
    have HQ1 := Lib.hid (And.intro hs1 (And.intro hF1 (And.intro u4 hL1)))
    clear hsubK hFK hrow hF' hs1 hF1 hr2 hF2 u4 hL1
    have q1 : (o1 == 1) = false := by rw [beq_eq_false_iff_ne]; exact h1
    go_wp2_with (first
     | (go_at_call 122; refine (specEmpty _ _ _ _ _ _ _).mono ?_; rintro e1 w3 ⟨rfl, rfl⟩)
     | (go_at_call 79; refine (specMap _ _ _ _ _ _ _ _ _ _).mono ?_; rintro e1 w3 ⟨rfl, hb3⟩; have q3 : Ext wr w3 := (by first | exact hb3 | exact ((Ext.refl wr).alloc _).trans hb3 | exact (((Ext.refl wr).alloc _).alloc _).trans hb3); obtain ⟨⟨z0, z1, z2, z3⟩, ⟨z4, z5, z6, z7⟩, z8⟩ := HZB.out.ext q3))
    refine bodyPost_ret (v := .agg #[.int .i64 8, .int .i64 n, .string t, .slice (some ⟨b, off, none⟩) 1 cap']) (by simp [results, Try.results87, go_sem, z0, z1, z2, z3, z4, z5, z6, z7, z8, hl0]) rfl ?_
    obtain ⟨hs9, hF9, _, hc9⟩ := HQ.out
    refine end_but (x := w.heap.size + 1) (lo := w.heap.size + 2) (w3 := wr) HML.out hs9 hF9 hc9 (by omega) (by omega) HQ.out.2.2.1 (by repeat (first | exact But.of_below q3 | exact But.refl _ _ _ | refine But.setCell ?_ (Or.inl (by rfl)) _ | refine But.alloc ?_ (by simp) _))
  | cons o1 n1 t1 k1 r1 =>
    have hjL : j < L := by simp only [F.len] at h7; omega
    obtain ⟨b, off, f', rfl, hrow, hbB, hfB⟩ := HSUB.out (by omega)
    rw [h3] at hrow
    obtain ⟨a1, cap1, f1, c0, c1, c2, c3, hc1', hsub1, hin⟩ := row_at hrow
    rw [h5] at c0 c1 c2 c3
    rw [← hbw.cell (p := ⟨_, _, _⟩) hbB] at c0 c1 c2 c3
    have hd := fun (W1 : World) (hw1 : Ext wr W1) => IH.out W1 o1 n1 t1 k1 p r1 a1 cap1 f1 h3 (hsub1.below (fun c hc => hfB c (hin c hc)) (hbw.trans (hw1.mono hbw.size))) (fun c hc => Nat.lt_of_lt_of_le (hfB c (hin c hc)) (Nat.le_trans hbw.size hw1.size)) hc1'
    obtain ⟨⟨o2, n2, t2, k2⟩, hφ⟩ : ∃ d : D, φ o1 n1 t1 k1 = d := ⟨_, rfl⟩
    rw [hφ] at hd
    have HD := Lib.hid hd
    have H := Lib.hid (And.intro h3 (And.intro h5 (And.intro hG (And.intro hbw hzb))))
    have HF := Lib.hid hφ
    have i0' : (0 : Int) ≤ (j : Int) := Int.natCast_nonneg _
    have i1 : (j : Int) < (L : Int) := by omega
    have HX := Lib.hid (show Four w.heap.size (.int .i64 8) (.int .i64 n) (.string t) (.slice (some ⟨b, off, none⟩) L cap) wr from ⟨x0, x1, x2, x3⟩)
    clear hd h3 h5 h7 hbw hrow hG hφ hzb
    go_wp2_with (first
     | (go_at_call 87; refine (HD.out _ (by exact Ext.refl _)).mono ?_; rintro e1 w1 ⟨a2, cap2, f2, rfl, hc2, hs2, hfr2, hb2⟩; have HST2 := Lib.hid (fun ob => mid_d (ob := ob) H.out.2.2.1 hb2); have H2 := Lib.hid (And.intro hs2 (And.intro hfr2 (And.intro hb2 hc2))); clear hs2 hfr2 hb2 hc2 c0 c1 c2 c3)
     | (at_builtin; refine append_doc rfl (.tmp 13) (.tmp 20) 23 rfl Try.underlying23 HI.out.1 HI.out.2.1 HI.out.2.2.1 HI.out.2.2.2 rfl rfl (HST2.out _).1 (d := w1.heap.size) (c := 1) rfl (cell_new w1 _ _ 0 _ rfl) (cell_new w1 _ _ 1 _ rfl) (cell_new w1 _ _ 2 _ rfl) (cell_new w1 _ _ 3 _ rfl) H2.out.2.2.2 (H2.out.1.below H2.out.2.1.lt ((Below.refl _ _).alloc (Nat.le_refl _) _)) (H2.out.2.1.below H2.out.2.1.lt ((Below.refl _ _).alloc (Nat.le_refl _) _)) (HST2.out (.cells #[] 0)).2.1 (HST2.out (.cells #[] 0)).2.2.1 (HST2.out (.cells #[] 0)).2.2.2.1 (by rw [len_mapL]; have := H.out.2.1; omega) ?_; intro v' w2 fs' hG' hb' hg'))
    go_roundw
    case rel =>
     obtain ⟨h3, h5, hG, hbw, hzb⟩ := H.out
     have hch := mid_end H2.out.2.2.1 hb' hG.2.2.2
     refine ⟨j + 1, p.app (.cons o1 n1 t1 k1 .nil), r1, fs', by go_num, by rw [h3, F.app_assoc]; rfl, by rw [F.len_app, h5]; rfl, ?_, hbw.trans (hch.mono (by omega)), HX.out.below hch (by omega), zbox_below hzb hch (by omega)⟩
     rw [mapL_app, show mapL φ (.cons o1 n1 t1 k1 .nil) = .cons o2 n2 t2 k2 .nil by rw [mapL, HF.out]; rfl]
     exact hG'
    case measure => simp [intOf]; omega
theorem dr_step_f (w : World) (o n : Int) (t : ByteArray) (k : F) (ih : DrS k) (hn : niceD (o, n, t, k) = true) (hcnt : k.cnt ≤ 10000) (a : Option Addr) (cap : Nat) (fs : List Nat) (hs : SubAt w a k fs) (hfs : ∀ c ∈ fs, c < w.heap.size) (hc : k.len ≤ cap) (h6 : o ≠ 6) (h7 : o ≠ 7) (h8 : o ≠ 8) :
  Calls Try.prog 87 #[.agg #[.int .i64 o, .int .i64 n, .string t, .slice a k.len cap]] w (NewD w (o, n, t, mapL (chD emR) k)) := by
 have hnk : nice k = true := (nice_kids hn).2
 obtain ⟨φ, hφφ⟩ : ∃ φ, chD emR = φ := ⟨_, rfl⟩
 have ih := fun (w : World) (o n : Int) (t : ByteArray) (k1 : F) (p r : F) (a : Option Addr) (cap : Nat) (fs : List Nat) (h : k = p.app (.cons o n t k1 r)) => ih w o n t k1 p r a cap fs h hnk hcnt
 rw [hφφ] at ih
 rw [hφφ]
 have q6 : (o == 6) = false := by rw [beq_eq_false_iff_ne]; exact h6
 have q7 : (o == 7) = false := by rw [beq_eq_false_iff_ne]; exact h7
 have q8 : (o == 8) = false := by rw [beq_eq_false_iff_ne]; exact h8
 obtain ⟨i0, hi, hz0, hz1, hz2⟩ := info_parts To.info
 obtain ⟨L, hL⟩ : ∃ L, k.len = L := ⟨_, rfl⟩
 rw [hL] at hc ⊢
 have HL := Lib.hid hL
 have HML := Lib.hid (show (mapL φ k).len = L by rw [len_mapL, hL])
 have hL4 : L ≤ 4194304 := by have := F.len_le_cnt k; omega
 clear hL
 have hsub : 0 < L → ∃ b off f', a = some ⟨b, off, none⟩ ∧ RowAt w k b off f' ∧ b < w.heap.size ∧ ∀ c ∈ f', c < w.heap.size := by
  intro h0
  rcases hs with ⟨rfl, rfl⟩ | ⟨b, off, f', rfl, hnil, rfl, hrow⟩
  ·have := HL.out; simp only [F.len] at this; omega
  ·exact ⟨b, off, f', rfl, hrow, hfs b (by simp), fun c hc => hfs c (by simp [hc])⟩
 have HSUB := Lib.hid hsub
 have IH := Lib.hid ih
 have HI := Lib.hid (And.intro hi (And.intro hz0 (And.intro hz1 hz2)))
 have HST := Lib.hid (kd_start w o n t (.slice a L cap) φ k 25)
 clear hsub hs hfs ih hi hz0 hz1 hz2 hnk hn hcnt
 go_enter Try.func87, Try.ntmps87
 go_wp2_with fail
 go_loopw [3, 4] (fun v i wr => KdAt w o n t (.slice a L cap) φ k v i wr) (fun _ i _ => L - (intOf i).toNat)
 case atStart => exact HST.out
 case round =>
  obtain ⟨j, p, g, fs1, rfl, h3, h5, hG, hbw, hfv, hzb⟩ := hrel
  have h7 : g.len = L - j := by have := HL.out; rw [h3, F.len_app, h5] at this; omega
  have hjL0 : j ≤ L := by have := HL.out; rw [h3, F.len_app, h5] at this; omega
  obtain ⟨x0, x1, x2, x3⟩ := hfv
  have hsz0 : w.heap.size + 1 < wr.heap.size := hzb.2.2
  cases g with
  | nil =>
    have hjL : L = j := by simp only [F.len] at h7; omega
    subst hjL
    rw [F.app_nil] at h3
    subst h3
    obtain ⟨a', cap', rfl, hcap', hsub', hcm⟩ := hG.slice
    obtain ⟨⟨z0, z1, z2, z3⟩, ⟨z4, z5, z6, z7⟩, z8⟩ := hzb
    have HQ := Lib.hid (And.intro hsub' (And.intro hG.fresh (And.intro hbw hcap')))
    clear hG hbw hsub' h7 hcm hcap' h5 hjL0
    rw [HML.out]
    have hsubK := HQ.out.1
    have hl0 : w.heap.size < wr.heap.size := by omega
    have HZB := Lib.hid (show ZBox wr (w.heap.size + 1) from ⟨⟨z0, z1, z2, z3⟩, ⟨z4, z5, z6, z7⟩, z8⟩)
    go_wp2_with (first
     | (go_at_call 122; refine (specEmpty _ _ _ _ _ _ _).mono ?_; rintro e1 w3 ⟨rfl, rfl⟩)
     | (go_at_call 79; refine (specMap _ _ _ _ _ _ _ _ _ _).mono ?_; rintro e1 w3 ⟨rfl, hb3⟩; have q3 : Ext wr w3 := (by first | exact hb3 | exact ((Ext.refl wr).alloc _).trans hb3 | exact (((Ext.refl wr).alloc _).alloc _).trans hb3); obtain ⟨⟨z0, z1, z2, z3⟩, ⟨z4, z5, z6, z7⟩, z8⟩ := HZB.out.ext q3))
    refine bodyPost_ret (v := .agg #[.int .i64 o, .int .i64 n, .string t, .slice a' L cap']) (by simp [results, Try.results87, go_sem, z0, z1, z2, z3, z4, z5, z6, z7, z8, hl0]) rfl ?_
    obtain ⟨hs9, hF9, _, hc9⟩ := HQ.out
    refine end_but (x := w.heap.size + 1) (lo := w.heap.size + 2) (w3 := wr) HML.out hs9 hF9 hc9 (by omega) (by omega) HQ.out.2.2.1 (by repeat (first | exact But.of_below q3 | exact But.refl _ _ _ | refine But.setCell ?_ (Or.inl (by rfl)) _ | refine But.alloc ?_ (by simp) _))
  | cons o1 n1 t1 k1 r1 =>
    have hjL : j < L := by simp only [F.len] at h7; omega
    obtain ⟨b, off, f', rfl, hrow, hbB, hfB⟩ := HSUB.out (by omega)
    rw [h3] at hrow
    obtain ⟨a1, cap1, f1, c0, c1, c2, c3, hc1', hsub1, hin⟩ := row_at hrow
    rw [h5] at c0 c1 c2 c3
    rw [← hbw.cell (p := ⟨_, _, _⟩) hbB] at c0 c1 c2 c3
    have hd := fun (W1 : World) (hw1 : Ext wr W1) => IH.out W1 o1 n1 t1 k1 p r1 a1 cap1 f1 h3 (hsub1.below (fun c hc => hfB c (hin c hc)) (hbw.trans (hw1.mono hbw.size))) (fun c hc => Nat.lt_of_lt_of_le (hfB c (hin c hc)) (Nat.le_trans hbw.size hw1.size)) hc1'
    obtain ⟨⟨o2, n2, t2, k2⟩, hφ⟩ : ∃ d : D, φ o1 n1 t1 k1 = d := ⟨_, rfl⟩
    rw [hφ] at hd
    have HD := Lib.hid hd
    have H := Lib.hid (And.intro h3 (And.intro h5 (And.intro hG (And.intro hbw hzb))))
    have HF := Lib.hid hφ
    have i0' : (0 : Int) ≤ (j : Int) := Int.natCast_nonneg _
    have i1 : (j : Int) < (L : Int) := by omega
    have HX := Lib.hid (show Four w.heap.size (.int .i64 o) (.int .i64 n) (.string t) (.slice (some ⟨b, off, none⟩) L cap) wr from ⟨x0, x1, x2, x3⟩)
    clear hd h3 h5 h7 hbw hrow hG hφ hzb
    go_wp2_with (first
     | (go_at_call 87; refine (HD.out _ (by exact Ext.refl _)).mono ?_; rintro e1 w1 ⟨a2, cap2, f2, rfl, hc2, hs2, hfr2, hb2⟩; have HST2 := Lib.hid (fun ob => mid_d (ob := ob) H.out.2.2.1 hb2); have H2 := Lib.hid (And.intro hs2 (And.intro hfr2 (And.intro hb2 hc2))); clear hs2 hfr2 hb2 hc2 c0 c1 c2 c3)
     | (at_builtin; refine append_doc rfl (.tmp 13) (.tmp 20) 23 rfl Try.underlying23 HI.out.1 HI.out.2.1 HI.out.2.2.1 HI.out.2.2.2 rfl rfl (HST2.out _).1 (d := w1.heap.size) (c := 1) rfl (cell_new w1 _ _ 0 _ rfl) (cell_new w1 _ _ 1 _ rfl) (cell_new w1 _ _ 2 _ rfl) (cell_new w1 _ _ 3 _ rfl) H2.out.2.2.2 (H2.out.1.below H2.out.2.1.lt ((Below.refl _ _).alloc (Nat.le_refl _) _)) (H2.out.2.1.below H2.out.2.1.lt ((Below.refl _ _).alloc (Nat.le_refl _) _)) (HST2.out (.cells #[] 0)).2.1 (HST2.out (.cells #[] 0)).2.2.1 (HST2.out (.cells #[] 0)).2.2.2.1 (by rw [len_mapL]; have := H.out.2.1; omega) ?_; intro v' w2 fs' hG' hb' hg'))
    go_roundw
    case rel =>
     obtain ⟨h3, h5, hG, hbw, hzb⟩ := H.out
     have hch := mid_end H2.out.2.2.1 hb' hG.2.2.2
     refine ⟨j + 1, p.app (.cons o1 n1 t1 k1 .nil), r1, fs', by go_num, by rw [h3, F.app_assoc]; rfl, by rw [F.len_app, h5]; rfl, ?_, hbw.trans (hch.mono (by omega)), HX.out.below hch (by omega), zbox_below hzb hch (by omega)⟩
     rw [mapL_app, show mapL φ (.cons o1 n1 t1 k1 .nil) = .cons o2 n2 t2 k2 .nil by rw [mapL, HF.out]; rfl]
     exact hG'
    case measure => simp [intOf]; omega
theorem dr_step (w : World) (o n : Int) (t : ByteArray) (k : F) (ih : DrS k) (hn : niceD (o, n, t, k) = true) (hcnt : k.cnt ≤ 10000) (a : Option Addr) (cap : Nat) (fs : List Nat) (hs : SubAt w a k fs) (hfs : ∀ c ∈ fs, c < w.heap.size) (hc : k.len ≤ cap) :
  Calls Try.prog 87 #[.agg #[.int .i64 o, .int .i64 n, .string t, .slice a k.len cap]] w (NewD w (chD emR o n t k)) := by
 show Calls _ _ _ w (NewD w (emR o n t (chL emR k)))
 rw [chL_map]
 by_cases h7 : o = 7
 ·obtain ⟨a1, a2, hk⟩ := kids_two hn h7
  obtain ⟨d1, hd1⟩ : ∃ d, chD emR a1.1 a1.2.1 a1.2.2.1 a1.2.2.2 = d := ⟨_, rfl⟩
  obtain ⟨d2, hd2⟩ : ∃ d, chD emR a2.1 a2.2.1 a2.2.2.1 a2.2.2.2 = d := ⟨_, rfl⟩
  have hK : mapL (chD emR) k = consD d1 (consD d2 .nil) := by rw [hk, ← hd1, ← hd2]; rfl
  by_cases h1 : d1.1 = 1
  ·rw [show emR o n t (mapL (chD emR) k) = d2 by rw [hK]; unfold emR; rw [if_pos ⟨h7, h1⟩]; rfl]
   exact dr_step_c1 w o n t k ih hn hcnt a cap fs hs hfs hc h7 d1 d2 hK h1
  ·by_cases h2 : d2.1 = 1
   ·rw [show emR o n t (mapL (chD emR) k) = d1 by rw [hK]; unfold emR; rw [if_neg (fun h => h1 h.2), if_pos ⟨h7, h2⟩]; rfl]
    exact dr_step_c2 w o n t k ih hn hcnt a cap fs hs hfs hc h7 d1 d2 hK h1 h2
   ·have hh1 : (hd (mapL (chD emR) k)).1 ≠ 1 := by rw [hK]; exact h1
    have hh2 : (hd (tl (mapL (chD emR) k))).1 ≠ 1 := by rw [hK]; exact h2
    rw [show emR o n t (mapL (chD emR) k) = (7, n, t, mapL (chD emR) k) by subst h7; unfold emR; rw [if_neg (fun h => hh1 h.2), if_neg (fun h => hh2 h.2), if_neg (by omega)]]
    exact dr_step_c3 w o n t k ih hn hcnt a cap fs hs hfs hc h7 d1 d2 hK h1 h2
 ·by_cases h6 : o = 6
  ·obtain ⟨a1, hk⟩ := kids_one hn (Or.inl h6)
   obtain ⟨d1, hd1⟩ : ∃ d, chD emR a1.1 a1.2.1 a1.2.2.1 a1.2.2.2 = d := ⟨_, rfl⟩
   have hK : mapL (chD emR) k = consD d1 .nil := by rw [hk, ← hd1]; rfl
   by_cases h1 : d1.1 = 1
   ·rw [show emR o n t (mapL (chD emR) k) = d1 by rw [hK]; unfold emR; rw [if_neg (by omega), if_neg (by omega), if_pos ⟨Or.inl h6, h1⟩]; rfl]
    exact dr_step_d6 w o n t k ih hn hcnt a cap fs hs hfs hc h6 d1 hK h1
   ·have hh1 : (hd (mapL (chD emR) k)).1 ≠ 1 := by rw [hK]; exact h1
    rw [show emR o n t (mapL (chD emR) k) = (6, n, t, mapL (chD emR) k) by subst h6; unfold emR; rw [if_neg (by omega), if_neg (by omega), if_neg (fun h => hh1 h.2)]]
    exact dr_step_e6 w o n t k ih hn hcnt a cap fs hs hfs hc h6 d1 hK h1
  ·by_cases h8 : o = 8
   ·obtain ⟨a1, hk⟩ := kids_one hn (Or.inr h8)
    obtain ⟨d1, hd1⟩ : ∃ d, chD emR a1.1 a1.2.1 a1.2.2.1 a1.2.2.2 = d := ⟨_, rfl⟩
    have hK : mapL (chD emR) k = consD d1 .nil := by rw [hk, ← hd1]; rfl
    by_cases h1 : d1.1 = 1
    ·rw [show emR o n t (mapL (chD emR) k) = d1 by rw [hK]; unfold emR; rw [if_neg (by omega), if_neg (by omega), if_pos ⟨Or.inr h8, h1⟩]; rfl]
     exact dr_step_d8 w o n t k ih hn hcnt a cap fs hs hfs hc h8 d1 hK h1
    ·have hh1 : (hd (mapL (chD emR) k)).1 ≠ 1 := by rw [hK]; exact h1
     rw [show emR o n t (mapL (chD emR) k) = (8, n, t, mapL (chD emR) k) by subst h8; unfold emR; rw [if_neg (by omega), if_neg (by omega), if_neg (fun h => hh1 h.2)]]
     exact dr_step_e8 w o n t k ih hn hcnt a cap fs hs hfs hc h8 d1 hK h1
   ·rw [show emR o n t (mapL (chD emR) k) = (o, n, t, mapL (chD emR) k) by unfold emR; rw [if_neg (fun h => h7 h.1), if_neg (fun h => h7 h.1), if_neg (fun h => h.1.elim h6 h8)]]
    exact dr_step_f w o n t k ih hn hcnt a cap fs hs hfs hc h6 h7 h8
theorem drS (m : Nat) : ∀ f : F, f.deep ≤ m → DrS f := by
 induction m with
 | zero =>
   intro f hf w o n t k p r a cap fs he
   rw [he, F.deep_app] at hf; simp only [F.deep] at hf; omega
 | succ m ih =>
   intro f hf w o n t k p r a cap fs he hn hcnt hs hfs hc
   have hk : k.deep ≤ m := by rw [he, F.deep_app] at hf; simp only [F.deep] at hf; omega
   have hn' : niceD (o, n, t, k) = true := by
    rw [he, nice_app, Bool.and_eq_true] at hn
    exact (Bool.and_eq_true_iff.1 hn.2).1
   rw [he, F.cnt_app] at hcnt
   simp only [F.cnt] at hcnt
   exact dr_step w o n t k (ih k hk) hn' (by omega) a cap fs hs hfs hc
theorem l7Drop (w : World) (o n : Int) (t : ByteArray) (k : F) (hn : niceD (o, n, t, k) = true) (hcnt : k.cnt ≤ 10000) (a : Option Addr) (cap : Nat) (fs : List Nat) (hs : SubAt w a k fs) (hfs : ∀ c ∈ fs, c < w.heap.size) (hc : k.len ≤ cap) :
  Calls Try.prog 87 #[.agg #[.int .i64 o, .int .i64 n, .string t, .slice a k.len cap]] w (NewD w (chD emR o n t k)) :=
 dr_step w o n t k (drS _ k (Nat.le_refl _)) hn hcnt a cap fs hs hfs hc
end Go.Proofs.Ytjcaiecapapceaa.Nf
namespace Go.Proofs.Ytjcaiecapapceaa.Nf
open Go.RowKit P1 Copy CatD
end Go.Proofs.Ytjcaiecapapceaa.Nf
namespace Go.Proofs.Ytjcaiecapapceaa.Nf
open Go.RowKit P1 Copy CatD
theorem hd_deep (f : F) : (hd f).2.2.2.deep ≤ f.deep := by
 cases f with
 | nil => exact Nat.le_refl _
 | cons o n t k r => show k.deep ≤ max (k.deep + 1) r.deep; omega
theorem tl_deep (f : F) : (tl f).deep ≤ f.deep := by
 cases f with
 | nil => exact Nat.le_refl _
 | cons o n t k r => show r.deep ≤ max (k.deep + 1) r.deep; omega
theorem em_deep1 (o n : Int) (t : ByteArray) (k : F) : (emR o n t k).2.2.2.deep ≤ k.deep := by
 unfold emR
 split
 ·exact Nat.le_trans (hd_deep _) (tl_deep _)
 ·split
  ·exact hd_deep _
  ·split
   ·exact hd_deep _
   ·exact Nat.le_refl _
theorem em_deep : ∀ f : F, (chL emR f).deep ≤ f.deep := by
 intro f
 induction f with
 | nil => exact Nat.le_refl _
 | cons o n t k r ihk ihr =>
   have h1 := em_deep1 o n t (chL emR k)
   show max ((emR o n t (chL emR k)).2.2.2.deep + 1) (chL emR r).deep ≤ max (k.deep + 1) r.deep
   omega
def ap (φ : Rule) (d : D) : D := φ d.1 d.2.1 d.2.2.1 d.2.2.2
def n1D (d : D) : D := ap (chD emR) d
theorem no_1 {d : D} (h : validD d.1 d.2.1 d.2.2.1 d.2.2.2 = true) : niceD (n1D d) = true ∧ 1 + (n1D d).2.2.2.cnt ≤ 80 ∧ (n1D d).2.2.2.deep ≤ 39 := by
 obtain ⟨o, n, t, k⟩ := d
 obtain ⟨h1, h2, h3⟩ := valid_nice h
 obtain ⟨h4, h5⟩ := em_nice h1
 refine ⟨h4, ?_, ?_⟩
 ·have e : (n1D (o, n, t, k)).2.2.2.cnt ≤ k.cnt := h5
  have h3' : 1 + k.cnt ≤ 80 := h3
  omega
 ·have e1 := em_deep1 o n t (chL emR k)
  have e2 := em_deep k
  have e3 : (n1D (o, n, t, k)).2.2.2.deep ≤ (chL emR k).deep := e1
  have h2' : k.deep ≤ 39 := h2
  omega
end Go.Proofs.Ytjcaiecapapceaa.Nf

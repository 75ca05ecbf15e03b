import Derived.Test.YtafhefmjnjibdaaNfK
import Derived.Deep.RegionWith
/-
  What impl.changeNodes comes to, whatever rule it is given: every node changed by the rule, its Kids first, in new memory.
-/
set_option linter.unusedVariables false
set_option linter.unusedSimpArgs false
namespace Go.Proofs.Ytafhefmjnjibdaa.Nf
open Go.RowKit P1 Copy

/-- a rule's function value: what it makes of a document in new memory lies in that memory -/
def RuleOut (lo : Nat) (w : World) (d : D) (e : Ending) (w' : World) : Prop := ∃ (a : Option Addr) (cap : Nat) (fs : List Nat), e = .returned (.agg #[.int .i64 d.1, .int .i64 d.2.1, .string d.2.2.1, .slice a d.2.2.2.len cap]) ∧ d.2.2.2.len ≤ cap ∧ SubAt w' a d.2.2.2 fs ∧ Fresh lo w' fs ∧ Below w.heap.size w w'

structure RuleFn (g : Nat) (lb : Array Value) (rule : Rule) : Prop where
  enter : ∀ (args : Array Value) (W : World), (callFunc g args).run Try.prog W = .ok (.enter g args) W
  keep : ∀ (o n : Int) (t : ByteArray) (k : F), niceD (o, n, t, k) = true → niceD (rule o n t k) = true ∧ (rule o n t k).2.2.2.cnt ≤ k.cnt
  call : ∀ (lo : Nat) (W : World) (o n : Int) (t : ByteArray) (k : F) (a : Option Addr) (cap : Nat) (fs : List Nat), niceD (o, n, t, k) = true → k.cnt ≤ 10000 → SubAt W a k fs → Fresh lo W fs → k.len ≤ cap → lo ≤ W.heap.size →
    Calls Try.prog g (#[.agg #[.int .i64 o, .int .i64 n, .string t, .slice a k.len cap]] ++ lb) W (RuleOut lo W (rule o n t k))

/-- the rule at a list -/
theorem RuleFn.list {g : Nat} {lb : Array Value} {rule : Rule} (R : RuleFn g lb rule) : ∀ f : F, nice f = true → nice (chL rule f) = true ∧ (chL rule f).cnt ≤ f.cnt := by
  intro f
  induction f with
  | nil => intro _; exact ⟨rfl, Nat.le_refl _⟩
  | cons o n t k r ihk ihr =>
    intro h
    simp only [nice, Bool.and_eq_true] at h
    obtain ⟨h1, h2⟩ := ihk h.1.2
    obtain ⟨h3, h4⟩ := ihr h.2
    obtain ⟨h5, h6⟩ := R.keep o n t (chL rule k) (by unfold niceD; simp only [Bool.and_eq_true]; exact ⟨by rw [len_chL]; exact h.1.1, h1⟩)
    refine ⟨?_, ?_⟩
    · rw [chL, nice_consD, h5, h3]; rfl
    · rw [chL]; show 1 + (rule o n t (chL rule k)).2.2.2.cnt + (chL rule r).cnt ≤ 1 + k.cnt + r.cnt; omega
theorem RuleFn.doc {g : Nat} {lb : Array Value} {rule : Rule} (R : RuleFn g lb rule) {o n : Int} {t : ByteArray} {k : F} (h : niceD (o, n, t, k) = true) : niceD (o, n, t, chL rule k) = true ∧ (chL rule k).cnt ≤ k.cnt := by
  unfold niceD at h ⊢
  simp only [Bool.and_eq_true] at h ⊢
  obtain ⟨h1, h2⟩ := R.list k h.2
  exact ⟨⟨by rw [len_chL]; exact h.1, h1⟩, h2⟩

/-- the contract of changeNodes at the documents of a list -/
def CnS (g : Nat) (lb : Array Value) (rule : Rule) (f : F) : Prop := ∀ (w : World) (o n : Int) (t : ByteArray) (k : F) (p r : F) (a : Option Addr) (cap : Nat) (fs : List Nat), f = p.app (.cons o n t k r) → nice f = true → f.cnt ≤ 10000 → SubAt w a k fs → (∀ c ∈ fs, c < w.heap.size) → k.len ≤ cap →
  Calls Try.prog 91 #[.agg #[.int .i64 o, .int .i64 n, .string t, .slice a k.len cap], .func (.func g) #[] lb] w (NewD w (chD rule o n t k))

/-- a result that lies in new memory, in a variable of the call's own -/
theorem end_new2 {w w3 w4 : World} {lo hi B : Nat} {o n : Int} {t : ByteArray} {k : F} {a : Option Addr} {cap : Nat} {fs : List Nat} (hs : SubAt w3 a k fs) (hF : Fresh B w3 fs) (hc : k.len ≤ cap) (hB : hi ≤ B) (hlo : w.heap.size ≤ lo) (hlh : lo ≤ hi) (hb : Below w.heap.size w w3) (ht : Touch lo hi w3 w4) :
    NewOut w o n t k (.returned (.agg #[.int .i64 o, .int .i64 n, .string t, .slice a k.len cap])) w4 :=
  ⟨a, cap, fs, rfl, hc, ht.sub hs (fun c hc => Or.inr (by have := (hF.2 c hc).1; omega)), ht.fresh (hF.mono (by omega)) (fun c hc => Or.inr (by have := (hF.2 c hc).1; omega)), ht.below hb hlo⟩

set_option maxRecDepth 100000 in
set_option maxHeartbeats 1600000 in
theorem kid_fn {g : Nat} {lb : Array Value} {rule : Rule} {k : F} (ih : CnS g lb rule k) (hn : nice k = true) (hcnt : k.cnt ≤ 10000) {w : World} {b : Nat} (hb : b < w.heap.size) (hc : w.cell? ⟨b, 0, none⟩ = some (.func (.func g) #[] lb)) :
    KidFn 130 #[.pointer (some ⟨b, 0, none⟩)] (chD rule) k w := by
  refine ⟨enters_of Try.func130 (by kernel_rfl) rfl, fun W p o n t q r a cap fs hk he hs hfs hc' => ?_⟩
  show Calls Try.prog 130 #[.agg #[.int .i64 o, .int .i64 n, .string t, .slice a q.len cap], .pointer (some ⟨b, 0, none⟩)] W _
  have c0 := (he.cell (o := 0) hb).trans hc
  have hbW : b < W.heap.size := Nat.lt_of_lt_of_le hb he.size
  have hd := fun (W1 : World) (h1 : Ext W W1) => ih W1 o n t q p r a cap fs hk hn hcnt (h1.sub hs hfs) (fun c hc => Nat.lt_of_lt_of_le (hfs c hc) h1.size) hc'
  obtain ⟨⟨o2, n2, t2, k2⟩, hφ⟩ : ∃ d : D, chD rule o n t q = d := ⟨_, rfl⟩
  rw [hφ] at hd ⊢
  have HD := Lib.hid hd
  have HE := Lib.hid (show ∀ x y, Ext W ((W.alloc x).alloc y) from fun x y => ((Ext.refl W).alloc x).alloc y)
  obtain ⟨L, hL⟩ : ∃ L, q.len = L := ⟨_, rfl⟩
  rw [hL] at HD ⊢
  clear hd he hs hfs hc' hk ih hn hcnt hb hc hφ
  go_enter Try.func130, Try.ntmps130
  go_wp2_with fail
  refine (HD.out _ (HE.out _ _)).mono ?_
  rintro e1 w1 ⟨a2, cap2, f2, rfl, hc2, hs2, hfr2, hb2⟩
  simp only at hc2 hs2 ⊢
  have hcell : ∀ o, w1.cell? ⟨W.heap.size + 1, o, none⟩ = _ := fun o => hb2.cell (p := ⟨W.heap.size + 1, o, none⟩) (by simp)
  have hfz : ∀ o, w1.frozen? ⟨W.heap.size + 1, o, none⟩ = _ := fun o => hb2.frozen (p := ⟨W.heap.size + 1, o, none⟩) (by simp)
  have hz1 : W.heap.size + 2 ≤ w1.heap.size := by have := hb2.size; simp at this; omega
  have H2 := Lib.hid (And.intro hc2 (And.intro hs2 (And.intro hfr2 hb2)))
  clear hc2 hs2 hfr2 hb2
  go_wp2_with fail
  refine bodyPost_ret (v := .agg #[.int .i64 o2, .int .i64 n2, .string t2, .slice a2 k2.len cap2]) (by simp [results, Try.results130, go_sem, hcell, hfz, show W.heap.size + 1 < w1.heap.size by omega]) rfl ?_
  obtain ⟨hc2, hs2, hfr2, hb2⟩ := H2.out
  refine end_new2 (lo := W.heap.size + 1) (hi := W.heap.size + 2) hs2 (hfr2.mono (lo' := W.heap.size + 2) (by simp)) hc2 (Nat.le_refl _) (by omega) (by omega) (Below.trans (HE.out _ _) (hb2.mono (by simp; omega))) ?_
  repeat (first | exact Touch.refl _ _ _ | refine Touch.setCell ?_ (by simp) (by simp) _)

/-- five cells that stay -/
abbrev Five (b : Nat) (u0 u1 u2 u3 u4 : Value) (w : World) : Prop := w.cell? ⟨b, 0, none⟩ = some u0 ∧ w.cell? ⟨b, 1, none⟩ = some u1 ∧ w.cell? ⟨b, 2, none⟩ = some u2 ∧ w.cell? ⟨b, 3, none⟩ = some u3 ∧ w.cell? ⟨b + 1, 0, none⟩ = some u4
theorem Five.below {b : Nat} {u0 u1 u2 u3 u4 : Value} {W w' : World} (h : Five b u0 u1 u2 u3 u4 W) {B : Nat} (k : Below B W w') (hb : b + 1 < B) : Five b u0 u1 u2 u3 u4 w' := by
  obtain ⟨h0, h1, h2, h3, h4⟩ := h
  exact ⟨(k.cell (p := ⟨_, _, _⟩) (show b < B by omega)).trans h0, (k.cell (p := ⟨_, _, _⟩) (show b < B by omega)).trans h1, (k.cell (p := ⟨_, _, _⟩) (show b < B by omega)).trans h2, (k.cell (p := ⟨_, _, _⟩) (show b < B by omega)).trans h3, (k.cell (p := ⟨_, _, _⟩) hb).trans h4⟩
theorem Five.stored {b : Nat} {u0 u1 u2 u3 u4 : Value} {W w' : World} (h : Five b u0 u1 u2 u3 u4 W) {B : Nat} (k : Below B W w') (hb : b + 2 ≤ B) {v0 v1 v2 v3 : Value} : Five b u0 u1 u2 u3 u4 ((((w'.setCell ⟨b + 1 + 1, 0, none⟩ v0).setCell ⟨b + 1 + 1, 1, none⟩ v1).setCell ⟨b + 1 + 1, 2, none⟩ v2).setCell ⟨b + 1 + 1, 3, none⟩ v3) :=
  h.below (B := b + 2) (((((k.mono hb).setCell (show b + 2 ≤ b + 1 + 1 by omega) _).setCell (show b + 2 ≤ b + 1 + 1 by omega) _).setCell (show b + 2 ≤ b + 1 + 1 by omega) _).setCell (show b + 2 ≤ b + 1 + 1 by omega) _) (by omega)
theorem zbox_below {w w' : World} {b B : Nat} (h : ZBox w b) (k : Below B w w') (hb : b < B) : ZBox w' b := by
  obtain ⟨⟨h0, h1, h2, h3⟩, ⟨z0, z1, z2, z3⟩, hl⟩ := h
  exact ⟨⟨(k.cell (p := ⟨_, _, _⟩) hb).trans h0, (k.cell (p := ⟨_, _, _⟩) hb).trans h1, (k.cell (p := ⟨_, _, _⟩) hb).trans h2, (k.cell (p := ⟨_, _, _⟩) hb).trans h3⟩, ⟨(k.frozen (p := ⟨_, _, _⟩) hb).trans z0, (k.frozen (p := ⟨_, _, _⟩) hb).trans z1, (k.frozen (p := ⟨_, _, _⟩) hb).trans z2, (k.frozen (p := ⟨_, _, _⟩) hb).trans z3⟩, Nat.lt_of_lt_of_le hl k.size⟩
theorem zbox_third (w : World) (x y : Obj) (T : TypeId) : ZBox (((w.alloc x).alloc y).alloc (.cells #[.int .i64 0, .int .i64 0, .string ⟨#[]⟩, .slice none 0 0] T)) (w.heap.size + 1 + 1) := by
  have e : ((w.alloc x).alloc y).heap.size = w.heap.size + 1 + 1 := by simp
  rw [← e]; exact ZBox.alloc _ _
theorem five_new (w : World) (u0 u1 u2 u3 u4 : Value) (T T' : TypeId) (ob : Obj) : Five w.heap.size u0 u1 u2 u3 u4 (((w.alloc (.cells #[u0, u1, u2, u3] T)).alloc (.cells #[u4] T')).alloc ob) := by
  have e : (w.alloc (.cells #[u0, u1, u2, u3] T)).heap.size = w.heap.size + 1 := by simp
  have h : Five w.heap.size u0 u1 u2 u3 u4 ((w.alloc (.cells #[u0, u1, u2, u3] T)).alloc (.cells #[u4] T')) := by
    refine ⟨?_, ?_, ?_, ?_, ?_⟩
    · rw [World.cell?_alloc_lt _ _ _ (by simp), World.cell?_alloc_new]; rfl
    · rw [World.cell?_alloc_lt _ _ _ (by simp), World.cell?_alloc_new]; rfl
    · rw [World.cell?_alloc_lt _ _ _ (by simp), World.cell?_alloc_new]; rfl
    · rw [World.cell?_alloc_lt _ _ _ (by simp), World.cell?_alloc_new]; rfl
    · rw [← e, World.cell?_alloc_new]; rfl
  exact h.below ((Below.refl _ _).alloc (Nat.le_refl _) _) (by simp)

set_option maxRecDepth 100000 in
set_option maxHeartbeats 3200000 in
theorem cn_step {g : Nat} {lb : Array Value} {rule : Rule} (R : RuleFn g lb rule) (w : World) (o n : Int) (t : ByteArray) (k : F) (ih : CnS g lb rule k) (hn : niceD (o, n, t, k) = true) (hcnt : k.cnt ≤ 10000) (a : Option Addr) (cap : Nat) (fs : List Nat) (hs : SubAt w a k fs) (hfs : ∀ c ∈ fs, c < w.heap.size) (hc : k.len ≤ cap) :
    Calls Try.prog 91 #[.agg #[.int .i64 o, .int .i64 n, .string t, .slice a k.len cap], .func (.func g) #[] lb] w (NewD w (chD rule o n t k)) := by
  have hnk : nice k = true := (nice_kids hn).2
  have hl := F.len_le_cnt k
  have hkid := fun (W : World) (hW : Ext w W) (b : Nat) (hb : b < W.heap.size) (c : W.cell? ⟨b, 0, none⟩ = some (.func (.func g) #[] lb)) => changeKids W o n t k (chD rule) _ _ (kid_fn ih hnk hcnt hb c) a cap fs (hW.sub hs hfs) (fun c hc => Nat.lt_of_lt_of_le (hfs c hc) hW.size) hc (by omega)
  rw [← chL_map] at hkid
  obtain ⟨hn2, hc2⟩ := R.doc hn
  have hrule := fun (lo : Nat) (W : World) (a : Option Addr) (cap : Nat) (fs : List Nat) => R.call lo W o n t (chL rule k) a cap fs hn2 (by omega)
  obtain ⟨⟨o2, n2, t2, k2⟩, hφ⟩ : ∃ d : D, rule o n t (chL rule k) = d := ⟨_, rfl⟩
  show Calls _ _ _ w (NewD w (rule o n t (chL rule k)))
  rw [hφ] at hrule ⊢
  obtain ⟨K, hK⟩ : ∃ K, chL rule k = K := ⟨_, rfl⟩
  rw [hK] at hkid hrule
  obtain ⟨L, hL⟩ : ∃ L, k.len = L := ⟨_, rfl⟩
  rw [hL] at hkid ⊢
  have he := R.enter
  have HK := Lib.hid hkid
  have HR := Lib.hid hrule
  have HE := Lib.hid (show ∀ x y z, Ext w (((w.alloc x).alloc y).alloc z) from fun x y z => (((Ext.refl w).alloc x).alloc y).alloc z)
  clear hkid hrule hφ hK hL hn2 hc2 hn hcnt hs hfs hc hnk hl ih R
  go_enter Try.func91, Try.ntmps91
  go_wp2_with fail
  have HB := Lib.hid (five_new w (.int .i64 o) (.int .i64 n) (.string t) (.slice a L cap) (.func (.func g) #[] lb) 25 54 (.cells #[.int .i64 0, .int .i64 0, .string ⟨#[]⟩, .slice none 0 0] 25))
  have HZ := Lib.hid (zbox_third w (.cells #[.int .i64 o, .int .i64 n, .string t, .slice a L cap] 25) (.cells #[.func (.func g) #[] lb] 54) 25)
  have HD := Lib.hid (HB.out.below (Below.refl (w.heap.size + 3) _).drew (by omega))
  go_region_held3 (fun w' => w'.cell? ⟨w.heap.size, 0, none⟩ = some (.int .i64 o) ∧ w'.cell? ⟨w.heap.size, 1, none⟩ = some (.int .i64 n) ∧ w'.cell? ⟨w.heap.size, 2, none⟩ = some (.string t) ∧ w'.cell? ⟨w.heap.size, 3, none⟩ = some (.slice a L cap) ∧ w'.cell? ⟨w.heap.size + 1, 0, none⟩ = some (.func (.func g) #[] lb))
    (first | (go_keep; done) | with_reducible exact HB.out.stored q4 (by omega) | with_reducible exact (HB.out.below q4 (by omega)) | with_reducible exact (HB.out.below q3 (by omega)) | with_reducible exact HD.out)
    (first
      | (go_at_call 129; refine (HK.out _ (by exact (HE.out _ _ _).drew) (w.heap.size + 1) (by simp) (by exact HD.out.2.2.2.2)).mono ?_; rintro e1 w3 ⟨a3, cap3, f3, rfl, hc3, hs3, hfr3, hb3⟩; have q3 : Below (w.heap.size + 3) _ w3 := (Below.refl _ _).drew.trans (hb3.mono (by simp)))
      | (go_at_fn g; refine (HR.out _ w3 _ _ _ hs3 hfr3 hc3 (by exact hb3.size)).mono ?_; rintro e1 w4 ⟨a4, cap4, f4, rfl, hc4, hs4, hfr4, hb4⟩; have q4 : Below (w.heap.size + 3) _ w4 := q3.trans (hb4.mono (by have := q3.size; simp at this; omega)); obtain ⟨⟨z0, z1, z2, z3⟩, ⟨z4, z5, z6, z7⟩, z8⟩ := zbox_below HZ.out q4 (by omega)))
  go_wp2_with fail
  refine bodyPost_ret (v := .agg #[.int .i64 o2, .int .i64 n2, .string t2, .slice a4 k2.len cap4]) (by simp [results, Try.results91, go_sem, z0, z1, z2, z3, z4, z5, z6, z7, z8]) rfl ?_
  refine end_new2 (lo := w.heap.size + 1 + 1) (hi := w.heap.size + 3) (w3 := w4) hs4 (hfr4.mono (lo' := w.heap.size + 3) (by simp)) hc4 (Nat.le_refl _) (by omega) (by omega) (Below.trans (HE.out _ _ _) (q4.mono (by omega))) ?_
  repeat (first | exact Touch.refl _ _ _ | refine Touch.setCell ?_ (by simp) (by simp) _)

/-- The contract of changeNodes, at the documents of every list. -/
theorem cnS {g : Nat} {lb : Array Value} {rule : Rule} (R : RuleFn g lb rule) (m : Nat) : ∀ f : F, f.deep ≤ m → CnS g lb rule f := by
  induction m with
  | zero =>
    intro f hf w o n t k p r a cap fs he
    rw [he, F.deep_app] at hf; simp only [F.deep] at hf; omega
  | succ m ih =>
    intro f hf w o n t k p r a cap fs he hn hcnt hs hfs hc
    have hk : k.deep ≤ m := by rw [he, F.deep_app] at hf; simp only [F.deep] at hf; omega
    have hn' : niceD (o, n, t, k) = true := by
      rw [he, nice_app, Bool.and_eq_true] at hn
      exact (Bool.and_eq_true_iff.1 hn.2).1
    rw [he, F.cnt_app] at hcnt
    simp only [F.cnt] at hcnt
    exact cn_step R w o n t k (ih k hk) hn' (by omega) a cap fs hs hfs hc

theorem changeNodes {g : Nat} {lb : Array Value} {rule : Rule} (R : RuleFn g lb rule) (w : World) (o n : Int) (t : ByteArray) (k : F) (hn : niceD (o, n, t, k) = true) (hcnt : k.cnt ≤ 10000) (a : Option Addr) (cap : Nat) (fs : List Nat) (hs : SubAt w a k fs) (hfs : ∀ c ∈ fs, c < w.heap.size) (hc : k.len ≤ cap) :
    Calls Try.prog 91 #[.agg #[.int .i64 o, .int .i64 n, .string t, .slice a k.len cap], .func (.func g) #[] lb] w (NewD w (chD rule o n t k)) :=
  cn_step R w o n t k (cnS R _ k (Nat.le_refl _)) hn hcnt a cap fs hs hfs hc

end Go.Proofs.Ytafhefmjnjibdaa.Nf


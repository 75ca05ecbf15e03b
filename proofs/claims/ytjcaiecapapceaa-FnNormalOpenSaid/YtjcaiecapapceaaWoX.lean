import Derived.Test.YtjcaiecapapceaaChP
import Derived.Test.YtjcaiecapapceaaNfB
import Derived.Test.YtjcaiecapapceaaOpX
/-
 A document without its groups, as a plain function: it is valid when the document is, and has no group; nothing here speaks of the program.
-/
set_option linter.unusedVariables false
set_option linter.unusedSimpArgs false
set_option maxRecDepth 100000
set_option maxHeartbeats 1600000
namespace Go.Proofs.Ytjcaiecapapceaa.Nf
open P1
def woR : Rule := fun o n t k => if o = 8 then hd k else (o, n, t, k)
theorem wo_keep (o n : Int) (t : ByteArray) (k : F) (h : niceD (o, n, t, k) = true) : niceD (woR o n t k) = true ∧ (woR o n t k).2.2.2.cnt ≤ k.cnt := by
 unfold woR
 split
 ·rename_i hq
  obtain ⟨a, rfl⟩ := kids_one h (Or.inr hq)
  have hn := (nice_kids h).2
  rw [nice_consD, Bool.and_eq_true] at hn
  exact ⟨hn.1, by show a.2.2.2.cnt ≤ 1 + a.2.2.2.cnt + 0; omega⟩
 ·exact ⟨h, Nat.le_refl _⟩
theorem wo_list : ∀ f : F, nice f = true → nice (chL woR f) = true ∧ (chL woR f).cnt + cntF (fun x => x == 8) f = f.cnt ∧ (chL woR f).deep ≤ f.deep ∧ cntF (fun x => x == 8) (chL woR f) = 0 := by
 intro f
 induction f with
 | nil => intro _; exact ⟨rfl, rfl, Nat.le_refl _, rfl⟩
 | cons o n t k r ihk ihr =>
   intro h
   have hD : niceD (o, n, t, k) = true := by simp only [nice, Bool.and_eq_true] at h; exact Bool.and_eq_true_iff.2 h.1
   have hr : nice r = true := by simp only [nice, Bool.and_eq_true] at h; exact h.2
   obtain ⟨a1, a2, a3, a4⟩ := ihk (nice_kids hD).2
   obtain ⟨b1, b2, b3, b4⟩ := ihr hr
   have hl := len_chL woR k
   have hK : niceD (o, n, t, chL woR k) = true := by
    unfold niceD at hD ⊢
    rw [Bool.and_eq_true] at hD ⊢
    exact ⟨by rw [hl]; exact hD.1, a1⟩
   rw [chL]
   obtain ⟨K, hKK⟩ : ∃ K, chL woR k = K := ⟨_, rfl⟩
   rw [hKK] at a1 a2 a3 a4 hK ⊢
   have e2 : cntF (fun x => x == 8) (.cons o n t k r) = (if o == 8 then 1 else 0) + cntF (fun x => x == 8) k + cntF (fun x => x == 8) r := rfl
   have e3 : (F.cons o n t k r).cnt = 1 + k.cnt + r.cnt := rfl
   have e4 : (F.cons o n t k r).deep = max (k.deep + 1) r.deep := rfl
   rw [e2, e3, e4]
   by_cases h8 : o = 8
   ·obtain ⟨⟨o1, n1, t1, k1⟩, ha⟩ := kids_one hK (Or.inr h8)
    have ew : woR o n t K = (o1, n1, t1, k1) := by unfold woR; rw [if_pos h8, ha]; rfl
    rw [ha] at a1 a2 a3 a4
    rw [ew]
    have c1 : cntF (fun x => x == 8) (consD (o1, n1, t1, k1) .nil) = (if o1 == 8 then 1 else 0) + cntF (fun x => x == 8) k1 + 0 := rfl
    have c2 : (consD ((o1, n1, t1, k1) : D) .nil).cnt = 1 + k1.cnt + 0 := rfl
    have c3 : (consD ((o1, n1, t1, k1) : D) .nil).deep = max (k1.deep + 1) 0 := rfl
    have d1 : (consD ((o1, n1, t1, k1) : D) (chL woR r)).cnt = 1 + k1.cnt + (chL woR r).cnt := rfl
    have d2 : (consD ((o1, n1, t1, k1) : D) (chL woR r)).deep = max (k1.deep + 1) (chL woR r).deep := rfl
    have d3 : cntF (fun x => x == 8) (consD (o1, n1, t1, k1) (chL woR r)) = (if o1 == 8 then 1 else 0) + cntF (fun x => x == 8) k1 + cntF (fun x => x == 8) (chL woR r) := rfl
    rw [c2] at a2
    rw [c3] at a3
    rw [c1] at a4
    rw [nice_consD, Bool.and_eq_true] at a1
    rw [d1, d2, d3, nice_consD, a1.1, b1, show (o == 8) = true by rw [beq_iff_eq]; exact h8]
    refine ⟨rfl, ?_, by omega, by omega⟩
    simp only [if_true]
    omega
   ·have ew : woR o n t K = (o, n, t, K) := by unfold woR; rw [if_neg h8]
    rw [ew]
    have d1 : (consD ((o, n, t, K) : D) (chL woR r)).cnt = 1 + K.cnt + (chL woR r).cnt := rfl
    have d2 : (consD ((o, n, t, K) : D) (chL woR r)).deep = max (K.deep + 1) (chL woR r).deep := rfl
    have d3 : cntF (fun x => x == 8) (consD (o, n, t, K) (chL woR r)) = (if o == 8 then 1 else 0) + cntF (fun x => x == 8) K + cntF (fun x => x == 8) (chL woR r) := rfl
    have q8 : (o == 8) = false := by rw [beq_eq_false_iff_ne]; exact h8
    rw [d1, d2, d3, nice_consD, hK, b1, q8]
    simp only [Bool.false_eq_true, if_false]
    exact ⟨rfl, by omega, by omega, by omega⟩
def woD (d : D) : D := chD woR d.1 d.2.1 d.2.2.1 d.2.2.2
theorem wo_one (d : D) : chL woR (consD d .nil) = consD (woD d) .nil := rfl
theorem wo_doc {d : D} (h : niceD d = true) : niceD (woD d) = true ∧ (woD d).2.2.2.cnt + cntF (fun x => x == 8) (consD d .nil) = d.2.2.2.cnt ∧ (woD d).2.2.2.deep ≤ d.2.2.2.deep ∧ cntF (fun x => x == 8) (consD (woD d) .nil) = 0 := by
 obtain ⟨a1, a2, a3, a4⟩ := wo_list (consD d .nil) (by rw [nice_consD, h]; rfl)
 rw [wo_one] at a1 a2 a3 a4
 rw [nice_consD, Bool.and_eq_true] at a1
 have e1 : (consD (woD d) .nil).cnt = 1 + (woD d).2.2.2.cnt + 0 := rfl
 have e2 : (consD d .nil).cnt = 1 + d.2.2.2.cnt + 0 := rfl
 have e3 : (consD (woD d) .nil).deep = max ((woD d).2.2.2.deep + 1) 0 := rfl
 have e4 : (consD d .nil).deep = max (d.2.2.2.deep + 1) 0 := rfl
 exact ⟨a1.1, by omega, by omega, a4⟩
theorem wo_valid {o n : Int} {t : ByteArray} {k : F} (h : validD o n t k = true) : validD (chD woR o n t k).1 (chD woR o n t k).2.1 (chD woR o n t k).2.2.1 (chD woR o n t k).2.2.2 = true := by
 obtain ⟨h1, h2, h3⟩ := valid_nice h
 obtain ⟨g1, g2, g3, _⟩ := wo_doc h1
 have hcn : (woD (o, n, t, k)).2.2.2.cnt ≤ k.cnt := by have : ((o, n, t, k) : D).2.2.2.cnt = k.cnt := rfl; omega
 have hdp : (woD (o, n, t, k)).2.2.2.deep ≤ k.deep := g3
 show validD (woD (o, n, t, k)).1 (woD (o, n, t, k)).2.1 (woD (o, n, t, k)).2.2.1 (woD (o, n, t, k)).2.2.2 = true
 obtain ⟨d, hd⟩ : ∃ d, woD (o, n, t, k) = d := ⟨_, rfl⟩
 rw [hd] at g1 hcn hdp ⊢
 obtain ⟨o', n', t', k'⟩ := d
 unfold niceD at g1
 rw [Bool.and_eq_true] at g1
 have q1 : nodeB o' n' t' k'.len = true := g1.1
 have q2 : nice k' = true := g1.2
 have q3 : k'.deep ≤ 39 := by have : k'.deep ≤ k.deep := hdp; omega
 have q4 : 1 + k'.cnt ≤ 80 := by have : k'.cnt ≤ k.cnt := hcn; omega
 show (okD 40 o' n' t' k' && decide (1 + k'.cnt ≤ 80)) = true
 unfold okD
 rw [ok_nice]
 simp [q1, q2, q3, q4]
end Go.Proofs.Ytjcaiecapapceaa.Nf
namespace Go.Proofs.Ytjcaiecapapceaa.Nf
open P1 ChP
theorem g8_cons (o n : Int) (t : ByteArray) (k r : F) : cntF (fun x => x == 8) (.cons o n t k r) = (if (o == 8) = true then 1 else 0) + cntF (fun x => x == 8) k + cntF (fun x => x == 8) r := rfl
theorem wo_id : ∀ f : F, cntF (fun x => x == 8) f = 0 → chL woR f = f := by
 intro f
 induction f with
 | nil => intro _; rfl
 | cons o n t k r ihk ihr =>
   intro h
   rw [g8_cons] at h
   have h8 : o ≠ 8 := by intro h8; subst h8; simp at h
   show consD (woR o n t (chL woR k)) (chL woR r) = consD (o, n, t, k) r
   rw [ihk (by omega), ihr (by omega)]
   unfold woR
   rw [if_neg h8]
theorem consD_inj {d d' : D} (h : consD d .nil = consD d' .nil) : d = d' := by
 have := congrArg hd h
 exact this
theorem wo_again {d : D} (h : niceD d = true) : woD (woD d) = woD d := by
 have h1 := (wo_doc h).2.2.2
 have h2 := wo_id _ h1
 rw [wo_one] at h2
 exact consD_inj h2
theorem wo_opens : ∀ f : F, nice f = true → opens (chL woR f) = opens f := by
 intro f
 induction f with
 | nil => intro _; rfl
 | cons o n t k r ihk ihr =>
   intro h
   have hD : niceD (o, n, t, k) = true := by simp only [nice, Bool.and_eq_true] at h; exact Bool.and_eq_true_iff.2 h.1
   have hr : nice r = true := by simp only [nice, Bool.and_eq_true] at h; exact h.2
   have e1 := ihk (nice_kids hD).2
   show opens (consD (woR o n t (chL woR k)) (chL woR r)) = opn o n t (opens k) :: opens r
   have e2 : ∀ d : D, opens (consD d (chL woR r)) = opn d.1 d.2.1 d.2.2.1 (opens d.2.2.2) :: opens (chL woR r) := fun _ => rfl
   rw [e2, ihr hr]
   by_cases h8 : o = 8
   ·obtain ⟨a, ha⟩ := kids_one hD (Or.inr h8)
    have hK : chL woR k = consD (woD a) .nil := by rw [ha]; rfl
    have e3 : woR o n t (chL woR k) = woD a := by
     show (if o = 8 then hd (chL woR k) else (o, n, t, chL woR k)) = _
     rw [if_pos h8, hK]; rfl
    rw [e3, h8]
    rw [hK] at e1
    have e4 : opens (consD (woD a) .nil) = [opn (woD a).1 (woD a).2.1 (woD a).2.2.1 (opens (woD a).2.2.2)] := rfl
    rw [← e1, e4]
    rfl
   ·have e3 : woR o n t (chL woR k) = (o, n, t, chL woR k) := by
     show (if o = 8 then hd (chL woR k) else (o, n, t, chL woR k)) = _
     rw [if_neg h8]
    rw [e3]
    show opn o n t (opens (chL woR k)) :: _ = _
    rw [e1]
theorem wo_openD {d : D} (h : niceD d = true) : openD (woD d).1 (woD d).2.1 (woD d).2.2.1 (woD d).2.2.2 = openD d.1 d.2.1 d.2.2.1 d.2.2.2 := by
 have h1 := wo_opens (consD d .nil) (by rw [nice_consD, h]; rfl)
 rw [wo_one] at h1
 exact (List.cons.inj h1).1
theorem ct_none : ∀ f : F, cntF (fun x => x == 8) f = 0 → ctF f = 1 := by
 intro f
 induction f with
 | nil => intro _; rfl
 | cons o n t k r ihk ihr =>
   intro h
   rw [g8_cons] at h
   have h8 : o ≠ 8 := by intro h8; subst h8; simp at h
   rw [ctF_cons, ctD_other h8, ihk (by omega), ihr (by omega)]
theorem wo_ct {d : D} (h : niceD d = true) : ctD (woD d).1 (woD d).2.2.2 = 1 := by
 have h1 := ct_none _ (wo_doc h).2.2.2
 have e : ctF (consD (woD d) .nil) = ctD (woD d).1 (woD d).2.2.2 := ctF_one _ _ _ _
 rw [← e]; exact h1
end Go.Proofs.Ytjcaiecapapceaa.Nf
namespace Go.Proofs.Ytjcaiecapapceaa.Nf
open Go.RowKit P1 Copy CatD
theorem wo_g (lo : Nat) (W : World) (d1 : D) (n : Int) (t : ByteArray) (a : Option Addr) (cap : Nat) (fs : List Nat)  (hs : SubAt W a (consD d1 .nil) fs) (hF : Fresh lo W fs) (hc : ((consD d1 .nil)).len ≤ cap) :
  Calls Try.prog 89 #[.agg #[.int .i64 8, .int .i64 n, .string t, .slice a ((consD d1 .nil)).len cap]] W (RuleOut lo W (d1)) := by
 obtain ⟨o1, n1, t1, k1⟩ := d1
 simp only [consD] at hs hc ⊢
 have hl2 : (F.cons o1 n1 t1 k1 .nil).len = 1 := rfl
 rw [hl2] at hc ⊢
 have HS0 := Lib.hid (And.intro hs hF)
 obtain ⟨b, off, f', rfl, hb, hrow, hF'⟩ := sub_row hs hF
 obtain ⟨a1, c1, f1, f2, x0, x1, x2, x3, x4, hs1, hF1, hr2, hF2⟩ := row_first hrow hF'
 obtain ⟨L1, hL1⟩ : ∃ L, k1.len = L := ⟨_, rfl⟩
 rw [hL1] at x3
 have HQ := Lib.hid (And.intro hs1 (And.intro hF1 (And.intro x4 hL1)))
 clear hs hF hrow hF' hs1 hF1 hr2 hF2 x4 hL1
 go_enter Try.func89, Try.ntmps89
 go_wp2_with fail
 refine bodyPost_ret (v := .agg #[.int .i64 o1, .int .i64 n1, .string t1, .slice a1 L1 c1]) (by simp [results, Try.results89, go_sem]) rfl ?_
 obtain ⟨hs1, hF1, x4, hL1⟩ := HQ.out
 rw [← hL1]
 exact rule_end (d := (o1, n1, t1, k1)) (by repeat (first | exact Below.refl _ _ | refine Below.alloc ?_ (by simp) _ | refine Below.setCell ?_ (by simp) _)) hs1 hF1 x4
theorem wo_h (lo : Nat) (W : World) (o : Int) (k : F) (n : Int) (t : ByteArray) (a : Option Addr) (cap : Nat) (fs : List Nat) (h8 : o ≠ 8) (hs : SubAt W a k fs) (hF : Fresh lo W fs) (hc : (k).len ≤ cap) :
  Calls Try.prog 89 #[.agg #[.int .i64 o, .int .i64 n, .string t, .slice a (k).len cap]] W (RuleOut lo W (o, n, t, k)) := by
 obtain ⟨L, hL⟩ : ∃ L, k.len = L := ⟨_, rfl⟩
 have HQ := Lib.hid (And.intro hs (And.intro hF (And.intro hc hL)))
 rw [hL]
 clear hs hF hc hL
 have q8 : (o == 8) = false := by rw [beq_eq_false_iff_ne]; exact h8
 go_enter Try.func89, Try.ntmps89
 go_wp2_with fail
 refine bodyPost_ret (v := .agg #[.int .i64 o, .int .i64 n, .string t, .slice a L cap]) (by simp [results, Try.results89, go_sem]) rfl ?_
 obtain ⟨hs, hF, hc, hL⟩ := HQ.out
 rw [← hL]
 exact rule_end (d := (o, n, t, k)) (by repeat (first | exact Below.refl _ _ | refine Below.alloc ?_ (by simp) _ | refine Below.setCell ?_ (by simp) _)) hs hF hc
theorem wo_fn : RuleFn 89 #[] woR := by
 refine ⟨enters_of Try.func89 (by kernel_rfl) rfl, wo_keep, fun lo W o n t k a cap fs hn hcnt hs hF hc hlo => ?_⟩
 show Calls Try.prog 89 #[.agg #[.int .i64 o, .int .i64 n, .string t, .slice a k.len cap]] W _
 by_cases h8 : o = 8
 ·obtain ⟨d1, rfl⟩ := kids_one hn (Or.inr h8)
  subst h8
  rw [show woR 8 n t (consD d1 .nil) = d1 by unfold woR; rw [if_pos rfl]; rfl]
  exact wo_g lo W d1 n t a cap fs hs hF hc
 ·rw [show woR o n t k = (o, n, t, k) by unfold woR; rw [if_neg h8]]
  exact wo_h lo W o k n t a cap fs h8 hs hF hc
theorem wo_nice {o n : Int} {t : ByteArray} {k : F} (h : niceD (o, n, t, k) = true) : niceD (chD woR o n t k) = true ∧ (chD woR o n t k).2.2.2.cnt ≤ k.cnt := by
 obtain ⟨h1, h2, _⟩ := wo_doc h
 exact ⟨h1, by have e : (chD woR o n t k).2.2.2.cnt = (woD (o, n, t, k)).2.2.2.cnt := rfl; have : ((o, n, t, k) : D).2.2.2.cnt = k.cnt := rfl; omega⟩
theorem wo_pass (o n : Int) (t : ByteArray) (k : F) (hn : niceD (o, n, t, k) = true) (hcnt : k.cnt ≤ 10000) : PassAt 52 (o, n, t, k) (chD woR o n t k) := by
 refine ⟨enters_of Try.func52 (by kernel_rfl) rfl, fun W a cap fs hs hfs hc => ?_⟩
 show Calls Try.prog 52 #[.agg #[.int .i64 o, .int .i64 n, .string t, .slice a k.len cap]] W _
 have hd := fun (W1 : World) (h1 : Ext W W1) => changeNodes wo_fn W1 o n t k hn hcnt a cap fs (h1.sub hs (fun c hc => (hfs c hc).1)) (fun c hc => Nat.lt_of_lt_of_le (hfs c hc).1 h1.size) hc
 obtain ⟨⟨o2, n2, t2, k2⟩, hφ⟩ : ∃ d : D, chD woR o n t k = d := ⟨_, rfl⟩
 rw [hφ] at hd ⊢
 have HD := Lib.hid hd
 have HE := Lib.hid (show ∀ x y, Ext W ((W.alloc x).alloc y) from fun x y => ((Ext.refl W).alloc x).alloc y)
 have HZ := Lib.hid (fun x => zbox_second W x 25)
 obtain ⟨L, hL⟩ : ∃ L, k.len = L := ⟨_, rfl⟩
 rw [hL] at HD ⊢
 clear hd hs hfs hc hn hcnt hφ hL
 go_enter Try.func52, Try.ntmps52
 go_wp2_with fail
 refine (HD.out _ (HE.out _ _)).mono ?_
 rintro e1 w1 ⟨a2, cap2, f2, rfl, hc2, hs2, hfr2, hb2⟩
 simp only at hc2 hs2 ⊢
 obtain ⟨⟨z0, z1, z2, z3⟩, ⟨z4, z5, z6, z7⟩, z8⟩ := (HZ.out _).ext hb2
 have H2 := Lib.hid (And.intro hc2 (And.intro hs2 (And.intro hfr2 hb2)))
 clear hc2 hs2 hfr2 hb2
 go_wp2_with fail
 refine bodyPost_ret (v := .agg #[.int .i64 o2, .int .i64 n2, .string t2, .slice a2 k2.len cap2]) (by simp [results, Try.results52, go_sem, z0, z1, z2, z3, z4, z5, z6, z7, z8]) rfl ?_
 obtain ⟨hc2, hs2, hfr2, hb2⟩ := H2.out
 refine end_new2 (lo := W.heap.size + 1) (hi := W.heap.size + 2) hs2 (hfr2.mono (lo' := W.heap.size + 2) (by simp)) hc2 (Nat.le_refl _) (by omega) (by omega) (Below.trans (HE.out _ _) (hb2.mono (by simp; omega))) ?_
 repeat (first | exact Touch.refl _ _ _ | refine Touch.setCell ?_ (by simp) (by simp) _)
def woRes (o n : Int) (t : ByteArray) (k : F) : Bool × D := chR (o, n, t, k) (chD woR o n t k)
theorem implWithoutGroups (w : World) (o n : Int) (t : ByteArray) (k : F) (a : Option Addr) (cap : Nat) (fs : List Nat) (hs : SubAt w a k fs) (hfs : ∀ c ∈ fs, c < w.heap.size ∧ ∀ o, w.frozen? ⟨c, o, none⟩ = false) (hc : k.len ≤ cap) (hle : t.size + k.size ≤ 1048576) :
  Calls Try.prog 21 #[.agg #[.int .i64 o, .int .i64 n, .string t, .slice a k.len cap]] w (DocRes w (woRes o n t k)) := by
 have hpass : validD o n t k = true → PassAt 52 (o, n, t, k) (chD woR o n t k) := fun hv => wo_pass o n t k (valid_nice hv).1 (by have := (valid_nice hv).2.2; omega)
 have hfit : validD o n t k = true → (chD woR o n t k).2.2.2.size ≤ 1048576 ∧ (chD woR o n t k).2.2.1.size ≤ 1048576 := fun hv => nice_fit (wo_nice (valid_nice hv).1).1 (by have := (wo_nice (valid_nice hv).1).2; have := (valid_nice hv).2.2; omega)
 have hd := fun (W : World) (e : Ext w W) (bp : Nat) (hb : bp < W.heap.size) (hcell : W.cell? ⟨bp, 0, none⟩ = some (.func (.func 52) #[] #[])) => changed W o n t k a cap fs (e.sub hs (fun c hc => (hfs c hc).1)) (fun c hc => Nat.lt_of_lt_of_le (hfs c hc).1 e.size) hc hle [(52, chD woR o n t k)] bp 1 hb (fun j hj => by have e : j = 0 := (by simpa using hj); subst e; exact hcell) (Nat.le_refl _) (by simp) (fun hv => ⟨hpass hv, trivial⟩) hfit
 obtain ⟨⟨ok, o2, n2, t2, k2⟩, hR⟩ : ∃ R, woRes o n t k = R := ⟨_, rfl⟩
 rw [hR]
 rw [show chR (o, n, t, k) (lastD [(52, chD woR o n t k)] (o, n, t, k)) = (ok, o2, n2, t2, k2) from hR] at hd
 have HD := Lib.hid hd
 have HE := Lib.hid (show ∀ x y z, Ext w (((w.alloc x).alloc y).alloc z) from fun x y z => (((Ext.refl w).alloc x).alloc y).alloc z)
 have HZ := Lib.hid (fun x => zbox_second w x 25)
 obtain ⟨L, hL⟩ : ∃ L, k.len = L := ⟨_, rfl⟩
 rw [hL] at HD ⊢
 clear hd hs hfs hc hR hL hle hpass hfit
 go_enter Try.func21, Try.ntmps21
 go_wp2_with fail
 refine (HD.out _ (HE.out _ _ _) (w.heap.size + 1 + 1) (by simp) (by
  have e : ((w.alloc (.cells #[.int .i64 o, .int .i64 n, .string t, .slice a L cap] 25)).alloc (.cells #[.int .i64 0, .int .i64 0, .string ⟨#[]⟩, .slice none 0 0] 25)).heap.size = w.heap.size + 1 + 1 := by simp
  rw [← e]; exact cell_new _ _ _ 0 _ rfl)).mono ?_
 rintro e1 w1 ⟨a3, cap3, f3, rfl, hc3, hs3, hfr3, hb3⟩
 obtain ⟨⟨z0, z1, z2, z3⟩, ⟨z4, z5, z6, z7⟩, z8⟩ := ((HZ.out _).ext ((Ext.refl _).alloc _)).ext hb3
 have H2 := Lib.hid (And.intro hc3 (And.intro hs3 (And.intro hfr3 hb3)))
 clear hc3 hs3 hfr3 hb3
 go_wp2_with fail
 refine bodyPost_ret (v := .tuple #[.agg #[.int .i64 o2, .int .i64 n2, .string t2, .slice a3 k2.len cap3], .bool ok]) (by simp [results, Try.results21, go_sem, z0, z1, z2, z3, z4, z5, z6, z7, z8]) rfl ?_
 obtain ⟨hc3, hs3, hfr3, hb3⟩ := H2.out
 refine end_pair (d := (o2, n2, t2, k2)) (lo := w.heap.size + 1) (hi := w.heap.size + 2) hs3 (hfr3.mono (lo' := w.heap.size + 2) (by simp)) hc3 (Nat.le_refl _) (by omega) (by omega) (Below.trans (HE.out _ _ _) (hb3.mono (by simp; omega))) ?_
 repeat (first | exact Touch.refl _ _ _ | refine Touch.setCell ?_ (by simp) (by simp) _)
theorem wo_yes {o n : Int} {t : ByteArray} {k : F} (h : validD o n t k = true) : woRes o n t k = (true, chD woR o n t k) := by
 unfold woRes chR
 simp only [h, wo_valid h, if_true]
end Go.Proofs.Ytjcaiecapapceaa.Nf
namespace Go.Proofs.Ytjcaiecapapceaa.Nf
open Go.RowKit P1 Copy CatD
end Go.Proofs.Ytjcaiecapapceaa.Nf
namespace Go.Proofs.Ytjcaiecapapceaa.Nf
open P1 ChP CatD CntC OpenR
theorem ops8 (d : D) : cntF (fun x => x == 8) (consD d .nil) = opsD 8 d.1 d.2.2.2 := rfl
theorem wo_all {o n : Int} {t : ByteArray} {k : F} (h : (woRes o n t k).1 = true) :
  validD o n t k = true ∧ validD (woRes o n t k).2.1 (woRes o n t k).2.2.1 (woRes o n t k).2.2.2.1 (woRes o n t k).2.2.2.2 = true ∧
  woRes (woRes o n t k).2.1 (woRes o n t k).2.2.1 (woRes o n t k).2.2.2.1 (woRes o n t k).2.2.2.2 = woRes o n t k ∧
  opsD 8 (woRes o n t k).2.1 (woRes o n t k).2.2.2.2 = 0 ∧ ctD (woRes o n t k).2.1 (woRes o n t k).2.2.2.2 = 1 ∧
  openRes (woRes o n t k).2.1 (woRes o n t k).2.2.1 (woRes o n t k).2.2.2.1 (woRes o n t k).2.2.2.2 = openRes o n t k ∧
  (1 + (woRes o n t k).2.2.2.2.cnt) + opsD 8 o k = 1 + k.cnt := by
 obtain ⟨hv, hv', _⟩ := ch_ok h
 have e := wo_yes hv
 have hn := (valid_nice hv).1
 have hag := wo_again hn
 obtain ⟨_, h2, _, h4⟩ := wo_doc hn
 have hop := wo_openD hn
 have hct := wo_ct hn
 rw [e]
 rw [ops8] at h2 h4
 have hw : chD woR o n t k = woD (o, n, t, k) := rfl
 have hv2 := wo_valid hv
 rw [hw] at hv2 ⊢
 obtain ⟨x, hx⟩ : ∃ x, woD (o, n, t, k) = x := ⟨_, rfl⟩
 rw [hx] at hag h2 h4 hop hct hv2 ⊢
 refine ⟨hv, hv2, ?_, h4, hct, ?_, ?_⟩
 ·rw [wo_yes hv2]
  show (true, woD x) = _
  rw [hag]
 ·rw [openRes_yes hv2, openRes_yes hv]
  show (openD x.1 x.2.1 x.2.2.1 x.2.2.2, true) = _
  rw [hop]
 ·have : ((o, n, t, k) : D).2.2.2.cnt = k.cnt := rfl
  show 1 + x.2.2.2.cnt + opsD 8 o k = 1 + k.cnt
  have h2' : x.2.2.2.cnt + opsD 8 o k = k.cnt := h2
  omega
end Go.Proofs.Ytjcaiecapapceaa.Nf

import Derived.Test.YtclifbjnooilmaaGreatNfX
import Derived.Test.YtclifbjnooilmaaGreatOpX
/-
 A document without its groups, as a plain function: it is valid when the document is, and has no group; nothing here speaks of the program.
-/
set_option linter.unusedVariables false
set_option linter.unusedSimpArgs false
set_option maxRecDepth 100000
set_option maxHeartbeats 3200000
namespace Go.Proofs.YtclifbjnooilmaaGreat.Nf
open P1
def woR : Rule := fun o n t k => if o = 8 then hd k else (o, n, t, k)
theorem wo_keep (o n : Int) (t : ByteArray) (k : F) (h : niceD (o, n, t, k) = true) : niceD (woR o n t k) = true ∧ (woR o n t k).2.2.2.cnt ≤ k.cnt := by
 unfold woR
 split
 ·rename_i hq
  obtain ⟨a, rfl⟩ := kids_one h (Or.inr hq)
  have hn := (nice_kids h).2
  rw [nice_consD, Bool.and_eq_true] at hn
  exact ⟨hn.1, by show a.2.2.2.cnt ≤ 1 + a.2.2.2.cnt + 0; omega⟩
 ·exact ⟨h, Nat.le_refl _⟩
theorem wo_list : ∀ f : F, nice f = true → nice (chL woR f) = true ∧ (chL woR f).cnt + cntF (fun x => x == 8) f = f.cnt ∧ (chL woR f).deep ≤ f.deep ∧ cntF (fun x => x == 8) (chL woR f) = 0 := by
 intro f
 induction f with
 | nil => intro _; exact ⟨rfl, rfl, Nat.le_refl _, rfl⟩
 | cons o n t k r ihk ihr =>
   intro h
   have hD : niceD (o, n, t, k) = true := by simp only [nice, Bool.and_eq_true] at h; exact Bool.and_eq_true_iff.2 h.1
   have hr : nice r = true := by simp only [nice, Bool.and_eq_true] at h; exact h.2
   obtain ⟨a1, a2, a3, a4⟩ := ihk (nice_kids hD).2
   obtain ⟨b1, b2, b3, b4⟩ := ihr hr
   have hl := len_chL woR k
   have hK : niceD (o, n, t, chL woR k) = true := by
    unfold niceD at hD ⊢
    rw [Bool.and_eq_true] at hD ⊢
    exact ⟨by rw [hl]; exact hD.1, a1⟩
   rw [chL]
   obtain ⟨K, hKK⟩ : ∃ K, chL woR k = K := ⟨_, rfl⟩
   rw [hKK] at a1 a2 a3 a4 hK ⊢
   have e2 : cntF (fun x => x == 8) (.cons o n t k r) = (if o == 8 then 1 else 0) + cntF (fun x => x == 8) k + cntF (fun x => x == 8) r := rfl
   have e3 : (F.cons o n t k r).cnt = 1 + k.cnt + r.cnt := rfl
   have e4 : (F.cons o n t k r).deep = max (k.deep + 1) r.deep := rfl
   rw [e2, e3, e4]
   by_cases h8 : o = 8
   ·obtain ⟨⟨o1, n1, t1, k1⟩, ha⟩ := kids_one hK (Or.inr h8)
    have ew : woR o n t K = (o1, n1, t1, k1) := by unfold woR; rw [if_pos h8, ha]; rfl
    rw [ha] at a1 a2 a3 a4
    rw [ew]
    have c1 : cntF (fun x => x == 8) (consD (o1, n1, t1, k1) .nil) = (if o1 == 8 then 1 else 0) + cntF (fun x => x == 8) k1 + 0 := rfl
    have c2 : (consD ((o1, n1, t1, k1) : D) .nil).cnt = 1 + k1.cnt + 0 := rfl
    have c3 : (consD ((o1, n1, t1, k1) : D) .nil).deep = max (k1.deep + 1) 0 := rfl
    have d1 : (consD ((o1, n1, t1, k1) : D) (chL woR r)).cnt = 1 + k1.cnt + (chL woR r).cnt := rfl
    have d2 : (consD ((o1, n1, t1, k1) : D) (chL woR r)).deep = max (k1.deep + 1) (chL woR r).deep := rfl
    have d3 : cntF (fun x => x == 8) (consD (o1, n1, t1, k1) (chL woR r)) = (if o1 == 8 then 1 else 0) + cntF (fun x => x == 8) k1 + cntF (fun x => x == 8) (chL woR r) := rfl
    rw [c2] at a2
    rw [c3] at a3
    rw [c1] at a4
    rw [nice_consD, Bool.and_eq_true] at a1
    rw [d1, d2, d3, nice_consD, a1.1, b1, show (o == 8) = true by rw [beq_iff_eq]; exact h8]
    refine ⟨rfl, ?_, by omega, by omega⟩
    simp only [if_true]
    omega
   ·have ew : woR o n t K = (o, n, t, K) := by unfold woR; rw [if_neg h8]
    rw [ew]
    have d1 : (consD ((o, n, t, K) : D) (chL woR r)).cnt = 1 + K.cnt + (chL woR r).cnt := rfl
    have d2 : (consD ((o, n, t, K) : D) (chL woR r)).deep = max (K.deep + 1) (chL woR r).deep := rfl
    have d3 : cntF (fun x => x == 8) (consD (o, n, t, K) (chL woR r)) = (if o == 8 then 1 else 0) + cntF (fun x => x == 8) K + cntF (fun x => x == 8) (chL woR r) := rfl
    have q8 : (o == 8) = false := by rw [beq_eq_false_iff_ne]; exact h8
    rw [d1, d2, d3, nice_consD, hK, b1, q8]
    simp only [Bool.false_eq_true, if_false]
    exact ⟨rfl, by omega, by omega, by omega⟩
def woD (d : D) : D := chD woR d.1 d.2.1 d.2.2.1 d.2.2.2
theorem wo_one (d : D) : chL woR (consD d .nil) = consD (woD d) .nil := rfl
theorem wo_doc {d : D} (h : niceD d = true) : niceD (woD d) = true ∧ (woD d).2.2.2.cnt + cntF (fun x => x == 8) (consD d .nil) = d.2.2.2.cnt ∧ (woD d).2.2.2.deep ≤ d.2.2.2.deep ∧ cntF (fun x => x == 8) (consD (woD d) .nil) = 0 := by
 obtain ⟨a1, a2, a3, a4⟩ := wo_list (consD d .nil) (by rw [nice_consD, h]; rfl)
 rw [wo_one] at a1 a2 a3 a4
 rw [nice_consD, Bool.and_eq_true] at a1
 have e1 : (consD (woD d) .nil).cnt = 1 + (woD d).2.2.2.cnt + 0 := rfl
 have e2 : (consD d .nil).cnt = 1 + d.2.2.2.cnt + 0 := rfl
 have e3 : (consD (woD d) .nil).deep = max ((woD d).2.2.2.deep + 1) 0 := rfl
 have e4 : (consD d .nil).deep = max (d.2.2.2.deep + 1) 0 := rfl
 exact ⟨a1.1, by omega, by omega, a4⟩
theorem wo_valid {o n : Int} {t : ByteArray} {k : F} (h : validD o n t k = true) : validD (chD woR o n t k).1 (chD woR o n t k).2.1 (chD woR o n t k).2.2.1 (chD woR o n t k).2.2.2 = true := by
 obtain ⟨h1, h2, h3⟩ := valid_nice h
 obtain ⟨g1, g2, g3, _⟩ := wo_doc h1
 have hcn : (woD (o, n, t, k)).2.2.2.cnt ≤ k.cnt := by have : ((o, n, t, k) : D).2.2.2.cnt = k.cnt := rfl; omega
 have hdp : (woD (o, n, t, k)).2.2.2.deep ≤ k.deep := g3
 show validD (woD (o, n, t, k)).1 (woD (o, n, t, k)).2.1 (woD (o, n, t, k)).2.2.1 (woD (o, n, t, k)).2.2.2 = true
 obtain ⟨d, hd⟩ : ∃ d, woD (o, n, t, k) = d := ⟨_, rfl⟩
 rw [hd] at g1 hcn hdp ⊢
 obtain ⟨o', n', t', k'⟩ := d
 unfold niceD at g1
 rw [Bool.and_eq_true] at g1
 have q1 : nodeB o' n' t' k'.len = true := g1.1
 have q2 : nice k' = true := g1.2
 have q3 : k'.deep ≤ 39 := by have : k'.deep ≤ k.deep := hdp; omega
 have q4 : 1 + k'.cnt ≤ 80 := by have : k'.cnt ≤ k.cnt := hcn; omega
 show (okD 40 o' n' t' k' && decide (1 + k'.cnt ≤ 80)) = true
 unfold okD
 rw [ok_nice]
 simp [q1, q2, q3, q4]
end Go.Proofs.YtclifbjnooilmaaGreat.Nf
namespace Go.Proofs.YtclifbjnooilmaaGreat.Nf
open P1 ChP
theorem g8_cons (o n : Int) (t : ByteArray) (k r : F) : cntF (fun x => x == 8) (.cons o n t k r) = (if (o == 8) = true then 1 else 0) + cntF (fun x => x == 8) k + cntF (fun x => x == 8) r := rfl
theorem wo_id : ∀ f : F, cntF (fun x => x == 8) f = 0 → chL woR f = f := by
 intro f
 induction f with
 | nil => intro _; rfl
 | cons o n t k r ihk ihr =>
   intro h
   rw [g8_cons] at h
   have h8 : o ≠ 8 := by intro h8; subst h8; simp at h
   show consD (woR o n t (chL woR k)) (chL woR r) = consD (o, n, t, k) r
   rw [ihk (by omega), ihr (by omega)]
   unfold woR
   rw [if_neg h8]
theorem consD_inj {d d' : D} (h : consD d .nil = consD d' .nil) : d = d' := by
 have := congrArg hd h
 exact this
theorem wo_again {d : D} (h : niceD d = true) : woD (woD d) = woD d := by
 have h1 := (wo_doc h).2.2.2
 have h2 := wo_id _ h1
 rw [wo_one] at h2
 exact consD_inj h2
theorem wo_opens : ∀ f : F, nice f = true → opens (chL woR f) = opens f := by
 intro f
 induction f with
 | nil => intro _; rfl
 | cons o n t k r ihk ihr =>
   intro h
   have hD : niceD (o, n, t, k) = true := by simp only [nice, Bool.and_eq_true] at h; exact Bool.and_eq_true_iff.2 h.1
   have hr : nice r = true := by simp only [nice, Bool.and_eq_true] at h; exact h.2
   have e1 := ihk (nice_kids hD).2
   show opens (consD (woR o n t (chL woR k)) (chL woR r)) = opn o n t (opens k) :: opens r
   have e2 : ∀ d : D, opens (consD d (chL woR r)) = opn d.1 d.2.1 d.2.2.1 (opens d.2.2.2) :: opens (chL woR r) := fun _ => rfl
   rw [e2, ihr hr]
   by_cases h8 : o = 8
   ·obtain ⟨a, ha⟩ := kids_one hD (Or.inr h8)
    have hK : chL woR k = consD (woD a) .nil := by rw [ha]; rfl
    have e3 : woR o n t (chL woR k) = woD a := by
     show (if o = 8 then hd (chL woR k) else (o, n, t, chL woR k)) = _
     rw [if_pos h8, hK]; rfl
    rw [e3, h8]
    rw [hK] at e1
    have e4 : opens (consD (woD a) .nil) = [opn (woD a).1 (woD a).2.1 (woD a).2.2.1 (opens (woD a).2.2.2)] := rfl
    rw [← e1, e4]
    rfl
   ·have e3 : woR o n t (chL woR k) = (o, n, t, chL woR k) := by
     show (if o = 8 then hd (chL woR k) else (o, n, t, chL woR k)) = _
     rw [if_neg h8]
    rw [e3]
    show opn o n t (opens (chL woR k)) :: _ = _
    rw [e1]
theorem wo_openD {d : D} (h : niceD d = true) : openD (woD d).1 (woD d).2.1 (woD d).2.2.1 (woD d).2.2.2 = openD d.1 d.2.1 d.2.2.1 d.2.2.2 := by
 have h1 := wo_opens (consD d .nil) (by rw [nice_consD, h]; rfl)
 rw [wo_one] at h1
 exact (List.cons.inj h1).1
theorem ct_none : ∀ f : F, cntF (fun x => x == 8) f = 0 → ctF f = 1 := by
 intro f
 induction f with
 | nil => intro _; rfl
 | cons o n t k r ihk ihr =>
   intro h
   rw [g8_cons] at h
   have h8 : o ≠ 8 := by intro h8; subst h8; simp at h
   rw [ctF_cons, ctD_other h8, ihk (by omega), ihr (by omega)]
theorem wo_ct {d : D} (h : niceD d = true) : ctD (woD d).1 (woD d).2.2.2 = 1 := by
 have h1 := ct_none _ (wo_doc h).2.2.2
 have e : ctF (consD (woD d) .nil) = ctD (woD d).1 (woD d).2.2.2 := ctF_one _ _ _ _
 rw [← e]; exact h1
end Go.Proofs.YtclifbjnooilmaaGreat.Nf
namespace Go.Proofs.YtclifbjnooilmaaGreat.Nf
open Go.RowKit P1 Copy CatD
theorem wo_g (lo : Nat) (W : World) (d1 : D) (n : Int) (t : ByteArray) (a : Option Addr) (cap : Nat) (fs : List Nat)  (hs : SubAt W a (consD d1 .nil) fs) (hF : Fresh lo W fs) (hc : ((consD d1 .nil)).len ≤ cap) :
  Calls Tryz.prog 103 #[.agg #[.int .i64 8, .int .i64 n, .string t, .slice a ((consD d1 .nil)).len cap]] W (RuleOut lo W (d1)) := by
 obtain ⟨o1, n1, t1, k1⟩ := d1
 simp only [consD] at hs hc ⊢
 have hl2 : (F.cons o1 n1 t1 k1 .nil).len = 1 := rfl
 rw [hl2] at hc ⊢
 have HS0 := Lib.hid (And.intro hs hF)
 obtain ⟨b, off, f', rfl, hb, hrow, hF'⟩ := sub_row hs hF
 obtain ⟨a1, c1, f1, f2, x0, x1, x2, x3, x4, hs1, hF1, hr2, hF2⟩ := row_first hrow hF'
 obtain ⟨L1, hL1⟩ : ∃ L, k1.len = L := ⟨_, rfl⟩
 rw [hL1] at x3
 have HQ := Lib.hid (And.intro hs1 (And.intro hF1 (And.intro x4 hL1)))
 clear hs hF hrow hF' hs1 hF1 hr2 hF2 x4 hL1
 go_enter Tryz.func103, Tryz.ntmps103
 go_wp2_with fail
 refine bodyPost_ret (v := .agg #[.int .i64 o1, .int .i64 n1, .string t1, .slice a1 L1 c1]) (by simp [results, Tryz.results103, go_sem]) rfl ?_
 obtain ⟨hs1, hF1, x4, hL1⟩ := HQ.out
 rw [← hL1]
 exact rule_end (d := (o1, n1, t1, k1)) (by repeat (first | exact Below.refl _ _ | refine Below.alloc ?_ (by simp) _ | refine Below.setCell ?_ (by simp) _)) hs1 hF1 x4
theorem wo_h (lo : Nat) (W : World) (o : Int) (k : F) (n : Int) (t : ByteArray) (a : Option Addr) (cap : Nat) (fs : List Nat) (h8 : o ≠ 8) (hs : SubAt W a k fs) (hF : Fresh lo W fs) (hc : (k).len ≤ cap) :
  Calls Tryz.prog 103 #[.agg #[.int .i64 o, .int .i64 n, .string t, .slice a (k).len cap]] W (RuleOut lo W (o, n, t, k)) := by
 obtain ⟨L, hL⟩ : ∃ L, k.len = L := ⟨_, rfl⟩
 have HQ := Lib.hid (And.intro hs (And.intro hF (And.intro hc hL)))
 rw [hL]
 clear hs hF hc hL
 have q8 : (o == 8) = false := by rw [beq_eq_false_iff_ne]; exact h8
 go_enter Tryz.func103, Tryz.ntmps103
 go_wp2_with fail
 refine bodyPost_ret (v := .agg #[.int .i64 o, .int .i64 n, .string t, .slice a L cap]) (by simp [results, Tryz.results103, go_sem]) rfl ?_
 obtain ⟨hs, hF, hc, hL⟩ := HQ.out
 rw [← hL]
 exact rule_end (d := (o, n, t, k)) (by repeat (first | exact Below.refl _ _ | refine Below.alloc ?_ (by simp) _ | refine Below.setCell ?_ (by simp) _)) hs hF hc
theorem wo_fn : RuleFn 103 #[] woR := by
 refine ⟨enters_of Tryz.func103 (by kernel_rfl) rfl, wo_keep, fun lo W o n t k a cap fs hn hcnt hs hF hc hlo => ?_⟩
 show Calls Tryz.prog 103 #[.agg #[.int .i64 o, .int .i64 n, .string t, .slice a k.len cap]] W _
 by_cases h8 : o = 8
 ·obtain ⟨d1, rfl⟩ := kids_one hn (Or.inr h8)
  subst h8
  rw [show woR 8 n t (consD d1 .nil) = d1 by unfold woR; rw [if_pos rfl]; rfl]
  exact wo_g lo W d1 n t a cap fs hs hF hc
 ·rw [show woR o n t k = (o, n, t, k) by unfold woR; rw [if_neg h8]]
  exact wo_h lo W o k n t a cap fs h8 hs hF hc
theorem wo_nice {o n : Int} {t : ByteArray} {k : F} (h : niceD (o, n, t, k) = true) : niceD (chD woR o n t k) = true ∧ (chD woR o n t k).2.2.2.cnt ≤ k.cnt := by
 obtain ⟨h1, h2, _⟩ := wo_doc h
 exact ⟨h1, by have e : (chD woR o n t k).2.2.2.cnt = (woD (o, n, t, k)).2.2.2.cnt := rfl; have : ((o, n, t, k) : D).2.2.2.cnt = k.cnt := rfl; omega⟩
theorem wo_pass (o n : Int) (t : ByteArray) (k : F) (hn : niceD (o, n, t, k) = true) (hcnt : k.cnt ≤ 10000) : PassAt 64 (o, n, t, k) (chD woR o n t k) := by
 refine ⟨enters_of Tryz.func64 (by kernel_rfl) rfl, fun W a cap fs hs hfs hc => ?_⟩
 show Calls Tryz.prog 64 #[.agg #[.int .i64 o, .int .i64 n, .string t, .slice a k.len cap]] W _
 have hd := fun (W1 : World) (h1 : Ext W W1) => changeNodes wo_fn W1 o n t k hn hcnt a cap fs (h1.sub hs (fun c hc => (hfs c hc).1)) (fun c hc => Nat.lt_of_lt_of_le (hfs c hc).1 h1.size) hc
 obtain ⟨⟨o2, n2, t2, k2⟩, hφ⟩ : ∃ d : D, chD woR o n t k = d := ⟨_, rfl⟩
 rw [hφ] at hd ⊢
 have HD := Lib.hid hd
 have HE := Lib.hid (show ∀ x y, Ext W ((W.alloc x).alloc y) from fun x y => ((Ext.refl W).alloc x).alloc y)
 have HZ := Lib.hid (fun x => zbox_second W x 25)
 obtain ⟨L, hL⟩ : ∃ L, k.len = L := ⟨_, rfl⟩
 rw [hL] at HD ⊢
 clear hd hs hfs hc hn hcnt hφ hL
 go_enter Tryz.func64, Tryz.ntmps64
 go_wp2_with fail
 refine (HD.out _ (HE.out _ _)).mono ?_
 rintro e1 w1 ⟨a2, cap2, f2, rfl, hc2, hs2, hfr2, hb2⟩
 simp only at hc2 hs2 ⊢
 obtain ⟨⟨z0, z1, z2, z3⟩, ⟨z4, z5, z6, z7⟩, z8⟩ := (HZ.out _).ext hb2
 have H2 := Lib.hid (And.intro hc2 (And.intro hs2 (And.intro hfr2 hb2)))
 clear hc2 hs2 hfr2 hb2
 go_wp2_with fail
 refine bodyPost_ret (v := .agg #[.int .i64 o2, .int .i64 n2, .string t2, .slice a2 k2.len cap2]) (by simp [results, Tryz.results64, go_sem, z0, z1, z2, z3, z4, z5, z6, z7, z8]) rfl ?_
 obtain ⟨hc2, hs2, hfr2, hb2⟩ := H2.out
 refine end_new2 (lo := W.heap.size + 1) (hi := W.heap.size + 2) hs2 (hfr2.mono (lo' := W.heap.size + 2) (by simp)) hc2 (Nat.le_refl _) (by omega) (by omega) (Below.trans (HE.out _ _) (hb2.mono (by simp; omega))) ?_
 repeat (first | exact Touch.refl _ _ _ | refine Touch.setCell ?_ (by simp) (by simp) _)
def woRes (o n : Int) (t : ByteArray) (k : F) : Bool × D := chR (o, n, t, k) (chD woR o n t k)
theorem implWithoutGroups (w : World) (o n : Int) (t : ByteArray) (k : F) (a : Option Addr) (cap : Nat) (fs : List Nat) (hs : SubAt w a k fs) (hfs : ∀ c ∈ fs, c < w.heap.size ∧ ∀ o, w.frozen? ⟨c, o, none⟩ = false) (hc : k.len ≤ cap) (hle : t.size + k.size ≤ 1048576) :
  Calls Tryz.prog 30 #[.agg #[.int .i64 o, .int .i64 n, .string t, .slice a k.len cap]] w (DocRes w (woRes o n t k)) := by
 have hpass : validD o n t k = true → PassAt 64 (o, n, t, k) (chD woR o n t k) := fun hv => wo_pass o n t k (valid_nice hv).1 (by have := (valid_nice hv).2.2; omega)
 have hfit : validD o n t k = true → (chD woR o n t k).2.2.2.size ≤ 1048576 ∧ (chD woR o n t k).2.2.1.size ≤ 1048576 := fun hv => nice_fit (wo_nice (valid_nice hv).1).1 (by have := (wo_nice (valid_nice hv).1).2; have := (valid_nice hv).2.2; omega)
 have hd := fun (W : World) (e : Ext w W) (bp : Nat) (hb : bp < W.heap.size) (hcell : W.cell? ⟨bp, 0, none⟩ = some (.func (.func 64) #[] #[])) => changed W o n t k a cap fs (e.sub hs (fun c hc => (hfs c hc).1)) (fun c hc => Nat.lt_of_lt_of_le (hfs c hc).1 e.size) hc hle [(64, chD woR o n t k)] bp 1 hb (fun j hj => by have e : j = 0 := (by simpa using hj); subst e; exact hcell) (Nat.le_refl _) (by simp) (fun hv => ⟨hpass hv, trivial⟩) hfit
 obtain ⟨⟨ok, o2, n2, t2, k2⟩, hR⟩ : ∃ R, woRes o n t k = R := ⟨_, rfl⟩
 rw [hR]
 rw [show chR (o, n, t, k) (lastD [(64, chD woR o n t k)] (o, n, t, k)) = (ok, o2, n2, t2, k2) from hR] at hd
 have HD := Lib.hid hd
 have HE := Lib.hid (show ∀ x y z, Ext w (((w.alloc x).alloc y).alloc z) from fun x y z => (((Ext.refl w).alloc x).alloc y).alloc z)
 have HZ := Lib.hid (fun x => zbox_second w x 25)
 obtain ⟨L, hL⟩ : ∃ L, k.len = L := ⟨_, rfl⟩
 rw [hL] at HD ⊢
 clear hd hs hfs hc hR hL hle hpass hfit
 go_enter Tryz.func30, Tryz.ntmps30
 go_wp2_with fail
 refine (HD.out _ (HE.out _ _ _) (w.heap.size + 1 + 1) (by simp) (by
  have e : ((w.alloc (.cells #[.int .i64 o, .int .i64 n, .string t, .slice a L cap] 25)).alloc (.cells #[.int .i64 0, .int .i64 0, .string ⟨#[]⟩, .slice none 0 0] 25)).heap.size = w.heap.size + 1 + 1 := by simp
  rw [← e]; exact cell_new _ _ _ 0 _ rfl)).mono ?_
 rintro e1 w1 ⟨a3, cap3, f3, rfl, hc3, hs3, hfr3, hb3⟩
 obtain ⟨⟨z0, z1, z2, z3⟩, ⟨z4, z5, z6, z7⟩, z8⟩ := ((HZ.out _).ext ((Ext.refl _).alloc _)).ext hb3
 have H2 := Lib.hid (And.intro hc3 (And.intro hs3 (And.intro hfr3 hb3)))
 clear hc3 hs3 hfr3 hb3
 go_wp2_with fail
 refine bodyPost_ret (v := .tuple #[.agg #[.int .i64 o2, .int .i64 n2, .string t2, .slice a3 k2.len cap3], .bool ok]) (by simp [results, Tryz.results30, go_sem, z0, z1, z2, z3, z4, z5, z6, z7, z8]) rfl ?_
 obtain ⟨hc3, hs3, hfr3, hb3⟩ := H2.out
 refine end_pair (d := (o2, n2, t2, k2)) (lo := w.heap.size + 1) (hi := w.heap.size + 2) hs3 (hfr3.mono (lo' := w.heap.size + 2) (by simp)) hc3 (Nat.le_refl _) (by omega) (by omega) (Below.trans (HE.out _ _ _) (hb3.mono (by simp; omega))) ?_
 repeat (first | exact Touch.refl _ _ _ | refine Touch.setCell ?_ (by simp) (by simp) _)
theorem wo_yes {o n : Int} {t : ByteArray} {k : F} (h : validD o n t k = true) : woRes o n t k = (true, chD woR o n t k) := by
 unfold woRes chR
 simp only [h, wo_valid h, if_true]
theorem wo_no {o n : Int} {t : ByteArray} {k : F} (h : validD o n t k = false) : woRes o n t k = (false, zeroD) := by
 unfold woRes chR
 simp only [h]
 rfl
end Go.Proofs.YtclifbjnooilmaaGreat.Nf
namespace Go.Proofs.YtclifbjnooilmaaGreat.Nf
open Go.RowKit P1 Copy CatD
def WoS (f : F) : Prop := ∀ (w : World) (o n : Int) (t : ByteArray) (k : F) (p r : F) (a : Option Addr) (cap : Nat) (fs : List Nat), f = p.app (.cons o n t k r) → nice f = true → f.cnt ≤ 10000 → SubAt w a k fs → (∀ c ∈ fs, c < w.heap.size) → k.len ≤ cap →
 Calls Tryz.prog 66 #[.agg #[.int .i64 o, .int .i64 n, .string t, .slice a k.len cap]] w (NewD w (chD woR o n t k))
def WoMid (w : World) (φ : Rule) (k : F) (j : Nat) (v : Value) (wr : World) : Prop := ∃ (p g : F) (fs : List Nat), k = p.app g ∧ p.len = j ∧ Grow wr 25 (w.heap.size + 3) v (mapL φ p) fs ∧ Below w.heap.size w wr
theorem wo_step (w : World) (o n : Int) (t : ByteArray) (k : F) (ih : WoS k) (hn : nice k = true) (hcnt : k.cnt ≤ 10000) (h8 : o ≠ 8) (a : Option Addr) (cap : Nat) (fs : List Nat) (hs : SubAt w a k fs) (hfs : ∀ c ∈ fs, c < w.heap.size) (hc : k.len ≤ cap) (hsz : k.size ≤ 4194304) :
  Calls Tryz.prog 66 #[.agg #[.int .i64 o, .int .i64 n, .string t, .slice a k.len cap]] w (NewD w (o, n, t, mapL (chD woR) k)) := by
 obtain ⟨i0, hi, hz0, hz1, hz2⟩ := info_parts To.info
 have hl4 := F.len_le_size k
 obtain ⟨φ, hφφ⟩ : ∃ φ, chD woR = φ := ⟨_, rfl⟩
 have ih := fun (w : World) (o n : Int) (t : ByteArray) (k1 : F) (p r : F) (a : Option Addr) (cap : Nat) (fs : List Nat) (h : k = p.app (.cons o n t k1 r)) => ih w o n t k1 p r a cap fs h hn hcnt
 rw [hφφ] at ih ⊢
 have q8 : (o == 8) = false := by rw [beq_eq_false_iff_ne]; exact h8
 obtain ⟨L, hL⟩ : ∃ L, k.len = L := ⟨_, rfl⟩
 rw [hL] at hc hl4 ⊢
 have hL4 : L ≤ 4194304 := by omega
 have HL := Lib.hid hL
 have HML := Lib.hid (show (mapL φ k).len = L by rw [len_mapL, hL])
 clear hL hl4
 have hsub : 0 < L → ∃ b off f', a = some ⟨b, off, none⟩ ∧ RowAt w k b off f' ∧ b < w.heap.size ∧ ∀ c ∈ f', c < w.heap.size := by
  intro h0
  rcases hs with ⟨rfl, rfl⟩ | ⟨b, off, f', rfl, hnil, rfl, hrow⟩
  ·have := HL.out; simp only [F.len] at this; omega
  ·exact ⟨b, off, f', rfl, hrow, hfs b (by simp), fun c hc => hfs c (by simp [hc])⟩
 have HSUB := Lib.hid hsub
 have IH := Lib.hid ih
 have HI := Lib.hid (And.intro hi (And.intro hz0 (And.intro hz1 hz2)))
 have hbox : ∀ (C2 : Array Value), C2.size = 4 → CopyS.CpBox w o n t (.slice a L cap) (.slice none 0 0) (((w.alloc (.cells #[.int .i64 o, .int .i64 n, .string t, .slice a L cap] 25)).alloc (.cells C2 25)).alloc (.cells #[.int .i64 o, .int .i64 n, .string t, .slice none 0 0] 25)) := by
  intro C2 h2
  have s2 : ((w.alloc (.cells #[.int .i64 o, .int .i64 n, .string t, .slice a L cap] 25)).alloc (.cells C2 25)).heap.size = w.heap.size + 2 := by simp
  refine ⟨?_, ?_, ?_, ?_, ?_, ?_, ?_, by simp⟩
  ·rw [World.cell?_alloc_lt _ _ _ (by simp; omega), World.cell?_alloc_lt _ _ _ (by simp), World.cell?_alloc_new]; rfl
  ·have := there_new (w.alloc (.cells #[.int .i64 o, .int .i64 n, .string t, .slice a L cap] 25)) C2 25 4 (by omega)
   refine there_below (by simpa using this) (B := w.heap.size + 2) (by omega) ((Below.refl _ _).alloc (by simp) _)
  ·rw [← s2, World.cell?_alloc_new]; rfl
  ·rw [← s2, World.cell?_alloc_new]; rfl
  ·rw [← s2, World.cell?_alloc_new]; rfl
  ·rw [← s2, World.cell?_alloc_new]; rfl
  ·rw [← s2, World.frozen?_alloc_new]
 have HBOX := Lib.hid hbox
 clear hn hcnt h8 hsub hs hfs ih hi hz0 hz1 hz2 hbox
 go_enter Tryz.func66, Tryz.ntmps66
 go_wp2_with fail
 go_loopw [4] (fun i wr => ∃ (j : Nat) (v : Value), j ≤ L ∧ i = .int .i64 j ∧ WoMid w φ k j v wr ∧ CopyS.CpBox w o n t (.slice a L cap) v wr) (fun i _ => L - (intOf i).toNat)
 case atStart => exact ⟨0, .slice none 0 0, by omega, rfl, ⟨.nil, k, [], rfl, rfl, Grow.start _ _ _ (by simp), (((Below.refl _ _).alloc (Nat.le_refl _) _).alloc (by simp) _).alloc (by simp; omega) _⟩, HBOX.out _ rfl⟩
 case round =>
  obtain ⟨j, v, hj, rfl, ⟨p, g, fs1, h3, h5, hG, hbw⟩, hbx⟩ := hrel
  have h7 : g.len = L - j := by have := HL.out; rw [h3, F.len_app, h5] at this; omega
  cases g with
  | nil =>
    have hjL : L ≤ j := by simp only [F.len] at h7; omega
    rw [F.app_nil] at h3
    subst h3
    obtain ⟨a', cap', rfl, hcap', hsub', hcm⟩ := hG.slice
    rw [HML.out] at hcap' hbx
    obtain ⟨x3, hth, x4, x5, x6, x7, x8, hsz2⟩ := hbx
    obtain ⟨⟨u0, u1, u2, u3, y0, y1, y2, y3⟩, z0, z1, z2, z3⟩ := there_at hth
    have H := Lib.hid (And.intro hG (And.intro hbw (And.intro hsub' (And.intro hcap' h5))))
    have hl1 : w.heap.size + 1 < wr.heap.size := by omega
    clear hG hbw hsub' hth h7 hcm hcap' h5
    go_wp2_with fail
    refine bodyPost_ret (v := .agg #[.int .i64 o, .int .i64 n, .string t, .slice a' L cap']) (by simp [results, Tryz.results66, go_sem, y0, y1, y2, y3, hl1]) rfl ?_
    obtain ⟨hG, hbw, hsub', hcap', h5⟩ := H.out
    show NewOut w o n t (mapL φ _) (.returned (.agg #[.int .i64 o, .int .i64 n, .string t, .slice a' L cap'])) _
    rw [← HML.out] at hcap' ⊢
    refine CopyS.end_new3 hG hsub' hcap' hbw ?_
    repeat (first | exact Touch.refl _ _ _ | refine Touch.setCell ?_ (by simp) (by simp) _)
  | cons o1 n1 t1 k1 r1 =>
    have hjL : j < L := by simp only [F.len] at h7; omega
    obtain ⟨b, off, f', rfl, hrow, hbB, hfB⟩ := HSUB.out (by omega)
    rw [h3] at hrow
    obtain ⟨a1, cap1, f1, c0, c1, c2, c3, hc1', hsub1, hin⟩ := row_at hrow
    rw [h5] at c0 c1 c2 c3
    rw [← hbw.cell (p := ⟨_, _, _⟩) hbB] at c0 c1 c2 c3
    have hd := fun (w1 : World) (hw1 : Below wr.heap.size wr w1) => IH.out w1 o1 n1 t1 k1 p r1 a1 cap1 f1 h3 (hsub1.below (fun c hc => hfB c (hin c hc)) (hbw.trans (hw1.mono hbw.size))) (fun c hc => Nat.lt_of_lt_of_le (hfB c (hin c hc)) (Nat.le_trans hbw.size hw1.size)) hc1'
    obtain ⟨⟨o2, n2, t2, k2⟩, hφ⟩ : ∃ d : D, φ o1 n1 t1 k1 = d := ⟨_, rfl⟩
    rw [hφ] at hd
    have HF := Lib.hid hφ
    have HD := Lib.hid hd
    have H := Lib.hid (And.intro h3 (And.intro h5 (And.intro hG (And.intro hbw hbx))))
    obtain ⟨x3, _, _, _, _, x7, x8, hsz3⟩ := hbx
    have i0' : (0 : Int) ≤ (j : Int) := Int.natCast_nonneg _
    have i1 : (j : Int) < (L : Int) := by omega
    clear hd h3 h5 h7 hbw hrow hG hφ
    go_wp2_with fail
    go_region_law (first
     | (refine CopyS.step_append_doc rfl (.tmp 28) (.tmp 35) 23 rfl Tryz.underlying23 HI.out.1 HI.out.2.1 HI.out.2.2.1 HI.out.2.2.2 rfl rfl (HST.out _).1 (d := w1.heap.size) (c := 1) rfl (cell_new w1 _ _ 0 _ rfl) (cell_new w1 _ _ 1 _ rfl) (cell_new w1 _ _ 2 _ rfl) (cell_new w1 _ _ 3 _ rfl) H2.out.2.2.2 (H2.out.1.below H2.out.2.1.lt ((Below.refl _ _).alloc (Nat.le_refl _) _)) (H2.out.2.1.below H2.out.2.1.lt ((Below.refl _ _).alloc (Nat.le_refl _) _)) (HST.out (.cells #[] 0)).2.1 (HST.out (.cells #[] 0)).2.2.1 (HST.out (.cells #[] 0)).2.2.2 (by rw [len_mapL]; have := H.out.2.1; omega) ?_; intro v' w2 fs' hG' hb'; obtain ⟨av, cpv, rfl, _, _, _⟩ := hG'.slice; have HE := Lib.hid (And.intro hG' (CopyS.mid_box H.out.2.2.2.2 H2.out.2.2.1 hb')); obtain ⟨_, _, _, _, _, q7, q8, l8⟩ := HE.out.2.2; clear hG' hb')
     | (go_simp; go_at_call 66; refine (HD.out _ (by first | exact Below.refl _ _ | exact (Below.refl _ _).drew)).mono ?_; rintro e1 w1 ⟨a2, cap2, f2, rfl, hc2, hs2, hfr2, hb2⟩; have H2 := Lib.hid (And.intro hs2 (And.intro hfr2 (And.intro hb2 hc2))); have HST := Lib.hid (fun ob => CopyS.mid3 (ob := ob) H.out.2.2.1 hb2); obtain ⟨p7, p8, p9⟩ := CopyS.mid_cell H.out.2.2.2.2 hb2; clear hs2 hfr2 hb2 hc2))
    all_goals
     go_wp2_with fail
     go_roundw
     case rel =>
      obtain ⟨h3, h5, hG, hbw, hbx⟩ := H.out
      obtain ⟨hG', hch, hbx'⟩ := HE.out
      refine ⟨j + 1, _, by omega, by go_num, ⟨p.app (.cons o1 n1 t1 k1 .nil), r1, fs', by rw [h3, F.app_assoc]; rfl, by rw [F.len_app, h5]; rfl, (by rw [mapL_app, show mapL φ (.cons o1 n1 t1 k1 .nil) = .cons o2 n2 t2 k2 .nil by rw [mapL, HF.out]; rfl]; exact CopyS.Grow.setOld hG' (by simp) _), ?_⟩, hbx'.put⟩
      exact (hbw.trans (hch.mono (by omega))).setCell (by simp; omega) _
     case measure => simp [intOf]; omega
theorem wo_group (w : World) (n : Int) (t : ByteArray) (d1 : D) (d : D) (hd : ∀ (W : World) (a : Option Addr) (cap : Nat) (fs : List Nat), SubAt W a d1.2.2.2 fs → (∀ c ∈ fs, c < W.heap.size) → d1.2.2.2.len ≤ cap → Calls Tryz.prog 66 #[.agg #[.int .i64 d1.1, .int .i64 d1.2.1, .string d1.2.2.1, .slice a d1.2.2.2.len cap]] W (NewD W d))
  (a : Option Addr) (cap : Nat) (fs : List Nat) (hs : SubAt w a (consD d1 .nil) fs) (hfs : ∀ c ∈ fs, c < w.heap.size) (hc : 1 ≤ cap) :
  Calls Tryz.prog 66 #[.agg #[.int .i64 8, .int .i64 n, .string t, .slice a 1 cap]] w (NewD w d) := by
 obtain ⟨o1, n1, t1, k1⟩ := d1
 obtain ⟨o2, n2, t2, k2⟩ := d
 simp only [consD] at hs hd
 have hfs' : ∀ c ∈ fs, c < w.heap.size := hfs
 rcases hs with ⟨h, _⟩ | ⟨b, off, f', rfl, _, rfl, hrow⟩
 ·cases h
 have hb : b < w.heap.size := hfs b (by simp)
 obtain ⟨a1, c1, f1, x0, x1, x2, x3, hc1, hsub1, hin⟩ := row_at (p := .nil) hrow
 simp only [F.len, Nat.zero_mul, Nat.add_zero] at x0 x1 x2 x3
 have hd := fun (W : World) (e : Ext w W) => hd W a1 c1 f1 (e.sub hsub1 (fun c hc => hfs c (by simp [hin c hc]))) (fun c hc => Nat.lt_of_lt_of_le (hfs c (by simp [hin c hc])) e.size) hc1
 obtain ⟨L1, hL1⟩ : ∃ L, k1.len = L := ⟨_, rfl⟩
 rw [hL1] at hd x3
 have HD := Lib.hid hd
 have HE := Lib.hid (show ∀ x y, Ext w ((w.alloc x).alloc y) from fun x y => ((Ext.refl w).alloc x).alloc y)
 have HZ := Lib.hid (fun x => zbox_second w x 25)
 clear hd hfs hfs' hrow hsub1 hin hc1 hL1
 go_enter Tryz.func66, Tryz.ntmps66
 go_wp2_with fail
 refine (HD.out _ (HE.out _ _)).mono ?_
 rintro e1 w1 ⟨a2, cap2, f2, rfl, hc2, hs2, hfr2, hb2⟩
 simp only at hc2 hs2 ⊢
 obtain ⟨⟨z0, z1, z2, z3⟩, ⟨z4, z5, z6, z7⟩, z8⟩ := (HZ.out _).ext hb2
 have H2 := Lib.hid (And.intro hc2 (And.intro hs2 (And.intro hfr2 hb2)))
 clear hc2 hs2 hfr2 hb2
 go_wp2_with fail
 refine bodyPost_ret (v := .agg #[.int .i64 o2, .int .i64 n2, .string t2, .slice a2 k2.len cap2]) (by simp [results, Tryz.results66, go_sem, z0, z1, z2, z3, z4, z5, z6, z7, z8]) rfl ?_
 obtain ⟨hc2, hs2, hfr2, hb2⟩ := H2.out
 refine end_new2 (lo := w.heap.size + 1) (hi := w.heap.size + 2) hs2 (hfr2.mono (lo' := w.heap.size + 2) (by simp)) hc2 (Nat.le_refl _) (by omega) (by omega) (Below.trans (HE.out _ _) (hb2.mono (by simp; omega))) ?_
 repeat (first | exact Touch.refl _ _ _ | refine Touch.setCell ?_ (by simp) (by simp) _)
theorem woS (m : Nat) : ∀ f : F, f.deep ≤ m → WoS f := by
 induction m with
 | zero =>
   intro f hf w o n t k p r a cap fs he
   rw [he, F.deep_app] at hf; simp only [F.deep] at hf; omega
 | succ m ih =>
   intro f hf w o n t k p r a cap fs he hn hcnt hs hfs hc
   have hk : k.deep ≤ m := by rw [he, F.deep_app] at hf; simp only [F.deep] at hf; omega
   have hn' : niceD (o, n, t, k) = true := by
    rw [he, nice_app, Bool.and_eq_true] at hn
    exact (Bool.and_eq_true_iff.1 hn.2).1
   rw [he, F.cnt_app] at hcnt
   simp only [F.cnt] at hcnt
   have hnk := (nice_kids hn').2
   by_cases h8 : o = 8
   ·obtain ⟨d1, rfl⟩ := kids_one hn' (Or.inr h8)
    subst h8
    exact wo_group w n t d1 _ (fun W a cap fs h1 h2 h3 => ih _ hk W d1.1 d1.2.1 d1.2.2.1 d1.2.2.2 .nil .nil a cap fs rfl hnk (by omega) h1 h2 h3) a cap fs hs hfs hc
   ·have e : chD woR o n t k = (o, n, t, mapL (chD woR) k) := by
     show woR o n t (chL woR k) = _
     unfold woR
     rw [if_neg h8, chL_map]
    rw [e]
    exact wo_step w o n t k (ih k hk) hnk (by omega) h8 a cap fs hs hfs hc (by have := nice_size k hnk; omega)
theorem l8Without (w : World) (o n : Int) (t : ByteArray) (k : F) (hn : niceD (o, n, t, k) = true) (hcnt : k.cnt ≤ 9999) (a : Option Addr) (cap : Nat) (fs : List Nat) (hs : SubAt w a k fs) (hfs : ∀ c ∈ fs, c < w.heap.size) (hc : k.len ≤ cap) :
  Calls Tryz.prog 66 #[.agg #[.int .i64 o, .int .i64 n, .string t, .slice a k.len cap]] w (NewD w (chD woR o n t k)) :=
 woS _ (.cons o n t k .nil) (Nat.le_refl _) w o n t k .nil .nil a cap fs rfl (by rw [show nice (.cons o n t k .nil) = (niceD (o, n, t, k) && nice .nil) from rfl, hn]; rfl) (by show 1 + k.cnt + 0 ≤ 10000; omega) hs hfs hc
theorem specWithoutGroups (w : World) (o n : Int) (t : ByteArray) (k : F) (a : Option Addr) (cap : Nat) (fs : List Nat) (hs : SubAt w a k fs) (hfs : ∀ c ∈ fs, c < w.heap.size ∧ ∀ o, w.frozen? ⟨c, o, none⟩ = false) (hc : k.len ≤ cap) (hle : t.size + k.size ≤ 1048576) :
  Calls Tryz.prog 31 #[.agg #[.int .i64 o, .int .i64 n, .string t, .slice a k.len cap]] w (DocRes w (woRes o n t k)) := by
 have hl := F.len_le_size k
 have hft : k.Fits := fits_of_size (m := 1048576) (by unfold maxLen; omega) k (by omega)
 have hval := fun (W : World) (e : Ext w W) => SpecC.docValid W o n t k a cap fs (e.sub hs (fun c hc => (hfs c hc).1)) (fun c hc => Nat.lt_of_lt_of_le (hfs c hc).1 e.size) hc (by omega) hft (by unfold maxLen; omega)
 have hin := fun (hv : validD o n t k = true) (W : World) (e : Ext w W) => l8Without W o n t k (valid_nice hv).1 (by have := (valid_nice hv).2.2; omega) a cap fs (e.sub hs (fun c hc => (hfs c hc).1)) (fun c hc => Nat.lt_of_lt_of_le (hfs c hc).1 e.size) hc
 have HE := Lib.hid (show ∀ x y, Ext w ((w.alloc x).alloc y) from fun x y => ((Ext.refl w).alloc x).alloc y)
 have HZ := Lib.hid (fun x => zbox_second w x 25)
 obtain ⟨L, hL⟩ : ∃ L, k.len = L := ⟨_, rfl⟩
 rw [hL] at hval ⊢
 cases hv : validD o n t k with
 | false =>
   rw [hv] at hval
   rw [wo_no hv]
   have HV := Lib.hid hval
   clear hval hin hs hfs hc hl hft hv hL hle
   go_enter Tryz.func31, Tryz.ntmps31
   go_wp2_with fail
   refine (HV.out _ (HE.out _ _)).mono ?_
   rintro e1 w1 ⟨rfl, hb⟩
   have E1 := Lib.hid (Ext.trans (HE.out _ _) hb)
   obtain ⟨⟨z0, z1, z2, z3⟩, ⟨z4, z5, z6, z7⟩, z8⟩ := (HZ.out _).ext hb
   clear hb
   go_wp2_with fail
   refine bodyPost_ret (v := .tuple #[.agg #[.int .i64 0, .int .i64 0, .string ⟨#[]⟩, .slice none 0 0], .bool false]) (by simp [results, Tryz.results31, go_sem, z0, z1, z2, z3, z4, z5, z6, z7, z8]) rfl ?_
   refine end_no (lo := w.heap.size + 1) (hi := w.heap.size + 2) (by omega) E1.out ?_
   repeat (first | exact Touch.refl _ _ _ | refine Touch.setCell ?_ (by simp) (by simp) _)
 | true =>
   rw [hv] at hval
   have hin := hin hv
   rw [wo_yes hv]
   obtain ⟨⟨o2, n2, t2, k2⟩, hφ⟩ : ∃ d : D, chD woR o n t k = d := ⟨_, rfl⟩
   rw [hφ] at hin ⊢
   rw [hL] at hin
   have HV := Lib.hid hval
   have HI := Lib.hid hin
   clear hval hin hs hfs hc hl hft hv hL hle hφ
   go_enter Tryz.func31, Tryz.ntmps31
   go_wp2_with fail
   refine (HV.out _ (HE.out _ _)).mono ?_
   rintro e1 w1 ⟨rfl, hb⟩
   have E1 := Lib.hid (Ext.trans (HE.out _ _) hb)
   have Z1 := Lib.hid ((HZ.out _).ext hb)
   have hs1 : w.heap.size + 2 ≤ w1.heap.size := by have := hb.size; simp at this; omega
   have C1 := fun o => hb.cell (p := ⟨w.heap.size, o, none⟩) (by simp; omega)
   clear hb
   go_wp2_with fail
   refine (HI.out _ E1.out).mono ?_
   rintro e2 w2 ⟨a2, cap2, f2, rfl, hc2, hs2, hfr2, hb2⟩
   simp only at hc2 hs2 ⊢
   obtain ⟨⟨z0, z1, z2, z3⟩, ⟨z4, z5, z6, z7⟩, z8⟩ := Z1.out.ext hb2
   have H2 := Lib.hid (And.intro hc2 (And.intro hs2 (And.intro hfr2 hb2)))
   clear hc2 hs2 hfr2 hb2 C1
   go_wp2_with fail
   refine bodyPost_ret (v := .tuple #[.agg #[.int .i64 o2, .int .i64 n2, .string t2, .slice a2 k2.len cap2], .bool true]) (by simp [results, Tryz.results31, go_sem, z0, z1, z2, z3, z4, z5, z6, z7, z8]) rfl ?_
   obtain ⟨hc2, hs2, hfr2, hb2⟩ := H2.out
   refine end_pair (d := (o2, n2, t2, k2)) (lo := w.heap.size + 1) (hi := w.heap.size + 2) hs2 hfr2 hc2 hs1 (by omega) (by omega) (Below.trans E1.out (hb2.mono (by have := Ext.size E1.out; omega))) ?_
   repeat (first | exact Touch.refl _ _ _ | refine Touch.setCell ?_ (by simp) (by simp) _)
end Go.Proofs.YtclifbjnooilmaaGreat.Nf
namespace Go.Proofs.YtclifbjnooilmaaGreat.Nf
open P1 ChP CatD CntC OpenR
theorem ops8 (d : D) : cntF (fun x => x == 8) (consD d .nil) = opsD 8 d.1 d.2.2.2 := rfl
theorem wo_all {o n : Int} {t : ByteArray} {k : F} (h : (woRes o n t k).1 = true) :
  validD o n t k = true ∧ validD (woRes o n t k).2.1 (woRes o n t k).2.2.1 (woRes o n t k).2.2.2.1 (woRes o n t k).2.2.2.2 = true ∧
  woRes (woRes o n t k).2.1 (woRes o n t k).2.2.1 (woRes o n t k).2.2.2.1 (woRes o n t k).2.2.2.2 = woRes o n t k ∧
  opsD 8 (woRes o n t k).2.1 (woRes o n t k).2.2.2.2 = 0 ∧ ctD (woRes o n t k).2.1 (woRes o n t k).2.2.2.2 = 1 ∧
  openRes (woRes o n t k).2.1 (woRes o n t k).2.2.1 (woRes o n t k).2.2.2.1 (woRes o n t k).2.2.2.2 = openRes o n t k ∧
  (1 + (woRes o n t k).2.2.2.2.cnt) + opsD 8 o k = 1 + k.cnt := by
 obtain ⟨hv, hv', _⟩ := ch_ok h
 have e := wo_yes hv
 have hn := (valid_nice hv).1
 have hag := wo_again hn
 obtain ⟨_, h2, _, h4⟩ := wo_doc hn
 have hop := wo_openD hn
 have hct := wo_ct hn
 rw [e]
 rw [ops8] at h2 h4
 have hw : chD woR o n t k = woD (o, n, t, k) := rfl
 have hv2 := wo_valid hv
 rw [hw] at hv2 ⊢
 obtain ⟨x, hx⟩ : ∃ x, woD (o, n, t, k) = x := ⟨_, rfl⟩
 rw [hx] at hag h2 h4 hop hct hv2 ⊢
 refine ⟨hv, hv2, ?_, h4, hct, ?_, ?_⟩
 ·rw [wo_yes hv2]
  show (true, woD x) = _
  rw [hag]
 ·rw [openRes_yes hv2, openRes_yes hv]
  show (openD x.1 x.2.1 x.2.2.1 x.2.2.2, true) = _
  rw [hop]
 ·have : ((o, n, t, k) : D).2.2.2.cnt = k.cnt := rfl
  show 1 + x.2.2.2.cnt + opsD 8 o k = 1 + k.cnt
  have h2' : x.2.2.2.cnt + opsD 8 o k = k.cnt := h2
  omega
end Go.Proofs.YtclifbjnooilmaaGreat.Nf

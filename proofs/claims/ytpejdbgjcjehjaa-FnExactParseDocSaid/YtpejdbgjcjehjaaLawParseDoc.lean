/-
  For every text, ParseDoc of the program answers as ParseDoc of the model, and its answer owns its memory: the law FnExactParseDoc returns true, and its argument reads as it did. No condition of ours.
-/
import Derived.Test.YtpejdbgjcjehjaaLawKit
import Derived.Test.YtpejdbgjcjehjaaParseD
import Derived.Test.YtpejdbgjcjehjaaHeld
import Derived.Test.YtpejdbgjcjehjaaEq
import Derived.Test.YtpejdbgjcjehjaaFacts
import Derived.Test.YtpejdbgjcjehjaaRows
import Derived.HandedShaped
import Derived.ProofKit
set_option linter.unusedVariables false
set_option linter.unusedSimpArgs false
namespace Go.Proofs.Ytpejdbgjcjehjaa.lawParseDoc
open Go.ChangeShapes Go.WideShapes Go.ChangeAt Go.RowKit P1 CatD ParseD ReadDocs
open Go.ChangeMaps (open_string shut_string)

theorem eqDoc_self (o n : Int) (t : ByteArray) (k : F) (h0 : k.size ≤ 2097152) (w1 : World) (a1 a2 : Option Addr) (c1 c2 : Nat) (f1 f2 : List Nat) (h1 : SubAt w1 a1 k f1) (h2 : SubAt w1 a2 k f2) (h3 : ∀ c ∈ f1, c < w1.heap.size) (h4 : ∀ c ∈ f2, c < w1.heap.size) (h5 : k.len ≤ c1) (h6 : k.len ≤ c2) :
    Calls Try.prog 43 #[.agg #[.int .i64 o, .int .i64 n, .string t, .slice a1 k.len c1], .agg #[.int .i64 o, .int .i64 n, .string t, .slice a2 k.len c2]] w1 fun e w' => e = .returned (.bool true) ∧ Below w1.heap.size w1 w' := by
  have := F.len_le_size k
  have h := Eq.eqDoc (Eq.eqS_any k k) o n o n t t w1 a1 a2 c1 c2 f1 f2 h1 h2 h3 h4 h5 h6 (by unfold maxLen; omega) (by unfold maxLen; omega) (fits_of_size (m := 2097152) (by unfold maxLen; omega) k h0) (fits_of_size (m := 2097152) (by unfold maxLen; omega) k h0)
  rw [sameD_yes, F.same_self] at h
  exact h

theorem G0.ext {w w' : World} (h : G0 w) (e : Ext w w') : G0 w' := by
  have h0 := h.lt
  obtain ⟨m, h⟩ := h
  exact ⟨m, (e.cell h0).trans h⟩
theorem G0.only {w w' : World} {fs : List Nat} (h : G0 w) (e : Only fs w w') (hf : 0 ∉ fs) : G0 w' := by
  have h0 := h.lt
  obtain ⟨m, h⟩ := h
  exact ⟨m, (e.cell h0 hf 0).trans h⟩

theorem par_size {chk : Bool} {l : List UInt8} {r : Bool × D} (h : parR chk l = r) (hl : l.length ≤ 1048576) : r.2.2.2.2.size ≤ 1048576 := by
  unfold parR parse at h
  cases hr : rdD chk 40 l with
  | none => rw [hr] at h; rw [← h]; simp [zeroD, F.size]
  | some q =>
    obtain ⟨⟨o, n, t, k⟩, l'⟩ := q
    have := rdD_size chk 40 l o n t k l' hr
    rw [hr] at h
    cases l' with
    | cons c r' => rw [← h]; simp [zeroD, F.size]
    | nil =>
      by_cases hv : validD o n t k = true
      · simp [hv] at h; rw [← h]; simp; omega
      · simp [hv] at h; rw [← h]; simp [zeroD, F.size]

set_option maxRecDepth 100000 in
set_option maxHeartbeats 6400000 in
theorem walk_good (w : World) (l : List UInt8) (hl : l.length ≤ 1048576) (hg : G0 w) :
    Calls Try.prog 15 #[.string ⟨l.toArray⟩] w fun e w' => e = .returned (.bool true) ∧ Below w.heap.size w w' := by
  have hsl : (⟨l.toArray⟩ : ByteArray).size = l.length := strSize l
  obtain ⟨r, hr⟩ : ∃ r, parR true l = r := ⟨_, rfl⟩
  have hsz := par_size hr hl
  have himpl := fun (w1 : World) (h1 : G0 w1) => implParseDoc w1 l hl h1
  have hspec := fun (w1 : World) => specParseDoc w1 l hl
  rw [← parR_same] at hspec
  rw [hr] at himpl hspec
  obtain ⟨ok, o, n, t, k⟩ := r
  simp only at hsz
  have hkc := F.cnt_le_size k
  obtain ⟨m3, hm3⟩ : ∃ m, 1 + 3 * k.cnt = m := ⟨_, rfl⟩
  have hmkG := MarkDocs.markDocI o n t k 1 m3 1 rfl hm3 (Nat.le_refl _) (by omega)
  have hhdG := Held.heldDocI o n t k 1 m3 k.len 1 rfl hm3 rfl (Nat.le_refl _) (by omega)
  have hks : k.size ≤ 2097152 := by omega
  have HIM := Lib.hid himpl
  have HSP := Lib.hid hspec
  have HEQ := Lib.hid (@eqDoc_self)
  have HMG := Lib.hid hmkG
  have HHG := Lib.hid hhdG
  have HG := Lib.hid hg
  have hw0 : 0 < w.heap.size := hg.lt
  have hvv : (ok != ok) = false := by simp
  have hm3n : ¬ ((m3 : Int) < 0) := by omega
  have hm3e : ((m3 : Int) != (m3 : Int)) = false := by simp
  clear himpl hspec hmkG hhdG hm3 hr hg
  go_enter Try.func15, Try.ntmps15
  go_wp2_with fail
  refine (HSP.out _).mono ?_
  rintro e1 w1 ⟨a1, c1, f1, rfl, hc1, hs1, hfr1, hb1⟩
  have e1 : Ext w w1 := hb1
  have H1 := Lib.hid (And.intro hs1 (And.intro hfr1 (And.intro hc1 (And.intro e1 (HG.out |> fun g => G0.ext g e1)))))
  clear hs1 hfr1 hc1 hb1 e1
  go_wp2_with fail
  refine (HIM.out _ (G0.ext H1.out.2.2.2.2 ((Ext.refl w1).alloc _))).mono ?_
  rintro e2 w2 ⟨a2, c2, f2, rfl, hc2, hs2, hfr2, hb2⟩
  have e2 : Ext w1 w2 := ((Ext.refl w1).alloc _).trans hb2
  have hW := (DocAt.new H1.out.1 H1.out.2.1.lt H1.out.2.2.1 o n t _).ext hb2
  have hI2 : In (w1.heap.size + 1) w2.heap.size f2 := fun c hc => ⟨by have := (hfr2.2 c hc).1; simp at this; omega, hfr2.lt c hc⟩
  have H2 := Lib.hid (And.intro hs2 (And.intro hfr2 (And.intro hc2 (And.intro e2 (And.intro hW hI2)))))
  obtain ⟨y0, y1, y2, y3⟩ := hW.box
  have l2 := hW.blt
  clear hs2 hfr2 hc2 hb2 e2 hW hI2
  go_wp2_with fail
  refine (HEQ.out o n t k hks _ a2 a1 c2 c1 f2 f1 (by exact (Ext.alloc (Ext.refl w2) _).sub H2.out.1 H2.out.2.1.lt) (by exact (Ext.alloc (Ext.refl w2) _).sub H2.out.2.2.2.2.1.sub H2.out.2.2.2.2.1.lt) (fun c hc => by have := H2.out.2.1.lt c hc; simp; omega) (fun c hc => by have := H2.out.2.2.2.2.1.lt c hc; simp; omega) H2.out.2.2.1 H2.out.2.2.2.2.1.cap_le).mono ?_
  rintro e3 w3 ⟨rfl, hb3⟩
  have e3 : Ext w2 w3 := ((Ext.refl w2).alloc _).trans hb3
  have hG := (DocAt.new H2.out.1 H2.out.2.1.lt H2.out.2.2.1 o n t _).ext hb3
  have hF3 := e3.fresh H2.out.2.1
  have H3 := Lib.hid (And.intro (H2.out.2.2.2.2.1.ext e3) (And.intro hG (And.intro hF3 (And.intro ((H1.out.2.2.2.1.trans H2.out.2.2.2.1).trans e3) (G0.ext H1.out.2.2.2.2 (H2.out.2.2.2.1.trans e3))))))
  obtain ⟨x0, x1, x2, x3⟩ := hG.box
  clear y0 y1 y2 y3 l2 hb3 e3 hG hF3
  go_wp2_with fail
  refine (HMG.out w3 a2 c2 f2 _ H3.out.2.1.sub H3.out.2.2.1 H3.out.2.1.cap_le).mono ?_
  rintro e4 w4 ⟨rfl, hs4, hO4⟩
  have hwle : w.heap.size ≤ w1.heap.size := H1.out.2.2.2.1.size
  have hin : ∀ c ∈ f2, w1.heap.size + 1 ≤ c ∧ c < w2.heap.size := H2.out.2.2.2.2.2
  have hG4 := H3.out.2.1.marked hO4 (fun hm => by have := hin _ hm; omega) hs4
  have hx4 : Box w4 w2.heap.size o n t a2 k.len c2 := by have := hG4.box; rw [F.len_mk] at this; exact this
  have hW4 := H3.out.1.only hO4 (fun hm => by have := hin _ hm; omega) (fun c hc hm => by have h1 := H1.out.2.1.lt c hc; have h2 := hin c hm; omega)
  have H4 := Lib.hid (And.intro hW4 (And.intro hG4 (And.intro H3.out.2.1.cap_le (And.intro (H3.out.2.2.2.1.only hO4 (fun c hc => by have := hin c hc; omega)) (G0.only H3.out.2.2.2.2 hO4 (fun hm => by have := hin _ hm; omega))))))
  clear x0 x1 x2 x3 hs4 hO4 hG4 hW4 hin H3
  obtain ⟨x0, x1, x2, x3⟩ := hx4
  go_wp2_with fail
  refine (HHG.out w4 a2 c2 f2 H4.out.2.1.sub H4.out.2.1.lt H4.out.2.2.1).mono ?_
  rintro e5 w5 ⟨rfl, hb5⟩
  have e5 : Ext w4 w5 := hb5
  have H5 := Lib.hid (And.intro (H4.out.1.ext e5) (And.intro (H4.out.2.1.ext e5) (And.intro H4.out.2.2.1 (And.intro (H4.out.2.2.2.1.trans e5) (G0.ext H4.out.2.2.2.2 e5)))))
  clear x0 x1 x2 x3 hb5 e5 H4
  go_wp2_with fail
  refine (HIM.out w5 H5.out.2.2.2.2).mono ?_
  rintro e6 w6 ⟨a6, c6, f6, rfl, hc6, hs6, hfr6, hb6⟩
  have e6 : Ext w5 w6 := hb6
  have hW6 := H5.out.1.ext e6
  have H6 := Lib.hid (And.intro hW6 (And.intro (H5.out.2.1.ext e6) (And.intro H5.out.2.2.1 (And.intro (H5.out.2.2.2.1.trans e6) (And.intro hs6 (And.intro hfr6 hc6))))))
  obtain ⟨y0, y1, y2, y3⟩ := hW6.box
  have l6 := hW6.blt
  clear hc6 hs6 hfr6 hb6 e6 hW6 H5
  go_wp2_with fail
  refine (HEQ.out o n t k hks _ a6 a1 c6 c1 f6 f1 (by exact (Ext.alloc (Ext.refl w6) _).sub H6.out.2.2.2.2.1 H6.out.2.2.2.2.2.1.lt) (by exact (Ext.alloc (Ext.refl w6) _).sub H6.out.1.sub H6.out.1.lt) (fun c hc => by have := H6.out.2.2.2.2.2.1.lt c hc; simp; omega) (fun c hc => by have := H6.out.1.lt c hc; simp; omega) H6.out.2.2.2.2.2.2 H6.out.1.cap_le).mono ?_
  rintro e7 w7 ⟨rfl, hb7⟩
  have e7 : Ext w6 w7 := ((Ext.refl w6).alloc _).trans hb7
  have hG7 := H6.out.2.1.ext e7
  have hx7 : Box w7 w2.heap.size o n t a2 k.len c2 := by have := hG7.box; rw [F.len_mk] at this; exact this
  have H7 := Lib.hid (And.intro hG7 (And.intro H6.out.2.2.1 (H6.out.2.2.2.1.trans e7)))
  clear y0 y1 y2 y3 l6 hb7 e7 hG7 H6
  obtain ⟨x0, x1, x2, x3⟩ := hx7
  go_wp2_with fail
  refine (HHG.out w7 a2 c2 f2 H7.out.1.sub H7.out.1.lt H7.out.2.1).mono ?_
  rintro e8 w8 ⟨rfl, hb8⟩
  have H8 := Lib.hid (Ext.trans H7.out.2.2 hb8)
  clear x0 x1 x2 x3 hb8 H7
  go_wp2_with fail
  go_ret
  exact ⟨rfl, H8.out⟩

set_option maxHeartbeats 800000 in
theorem walk_big (w : World) (s : ByteArray) (hs : s.size ≤ maxLen) (hbig : 1048576 < s.size) :
    Calls Try.prog 15 #[.string s] w fun e w' => e = .returned (.bool true) ∧ Below w.heap.size w w' := by
  unfold maxLen at hs
  go_enter Try.func15, Try.ntmps15
  go_wp2_with fail
  go_ret
  exact ⟨rfl, Below.refl _ _⟩

theorem walk (w : World) (s : ByteArray) (hs : s.size ≤ maxLen) (hg : G0 w) :
    Calls Try.prog 15 #[.string s] w fun e w' => e = .returned (.bool true) ∧ Below w.heap.size w w' := by
  by_cases hbig : 1048576 < s.size
  · exact walk_big w s hs hbig
  · obtain ⟨l, rfl⟩ : ∃ l : List UInt8, s = ⟨l.toArray⟩ := ⟨s.data.toList, by cases s; simp⟩
    exact walk_good w l (by rw [strSize] at hbig; omega) hg

set_option maxRecDepth 100000 in
theorem lifted (os : Os) (started : os.Started) (H : Type) (enc : TypeId × Value → H) :
    ReturnsInHanded {} Try.checked os 15 .any (Rows.fnExactParseDocSpec.pre6 enc Try.prog Try.f15 Rows.fnExactParseDocRow.domain false) (Rows.fnExactParseDocSpec.post enc Try.prog Try.f15 false true false false) := by
  refine returnsInHanded_of_change_shaped (C := Try.checked) Facts.own started (by kernel_rfl) Try.func15
    (ChangeSpec.witness6 (enc := enc) (C := Try.checked) false ⟨#[], #[.string ⟨#[]⟩], []⟩ 8 (by kernel_rfl) (by kernel_rfl) (by kernel_rfl) (by kernel_rfl)) ?_
  intro W base args ds gs before hval0 hW hcnd0 _ hsh _
  clear hcnd0
  have hval : ∀ (j : Nat) t v, Try.f15.params[j]? = some t → args[j]? = some v → Value.okWide Try.prog W .any base t v := hval0
  have hW' := hW
  obtain ⟨p, q, hA0, hV, rfl, hfz, hnd⟩ := hW
  have hA : DataW.TrodAll enc Try.prog W 0 (fun _ => true) true Try.f15.params.toList args.toList ds p := hA0
  rw [Try.params15] at hA hval
  obtain ⟨v0, d0, rfl, rfl, h0⟩ := trodAll_one hA
  obtain ⟨rfl, rfl⟩ := trodVars_none hV
  have h0' := h0
  obtain ⟨s, rfl, rfl, rfl, ws⟩ := open_string Try.underlying9 (hval 0 9 v0 rfl rfl) h0
  clear hA0 hval0
  simp only [List.append_nil] at hW'
  have hlt : ∀ x ∈ ([] : List MemPlace), x.block < W.heap.size := fun x hx => by cases hx
  refine (walk W s ws (Try.laysM145.s1_3 W hsh)).mono fun e W' ⟨he, hb⟩ => ?_
  subst he
  refine ⟨_, rfl, [_], [], [], [], [], [], hW', trodAll_mk1 (shut_bool Try.underlying4 _), ?_, rfl, hb.frame _, fun h => by cases h⟩
  exact trodAll_mk1 (Below.trod Facts.laidOut (by kernel_rfl) (of_decide_eq_true (by kernel_rfl)) h0' hb hlt)

theorem named : Try.prog.funcNamed Rows.fnExactParseDocRow.func = some 15 := by kernel_rfl
theorem closed : joinedFacts Try.prog 15 Try.f15 Rows.fnExactParseDocSpec Rows.fnExactParseDocRow = true :=
  Facts.closed_of rfl rfl rfl rfl (h28b := rfl) (by kernel_rfl) (by kernel_rfl) (by kernel_rfl) (by kernel_rfl) (by kernel_rfl) (by kernel_rfl) (by kernel_rfl) (by kernel_rfl) (by kernel_rfl) (by kernel_rfl) (by kernel_rfl) (by kernel_rfl) (by kernel_rfl) (by kernel_rfl) (by kernel_rfl) (by kernel_rfl) (by kernel_rfl) (by kernel_rfl) (by kernel_rfl) (by kernel_rfl) (by kernel_rfl) (by kernel_rfl) (by kernel_rfl) (by kernel_rfl)
theorem instanced : Try.f15.isInstance Try.prog Rows.fnExactParseDocRow.origin Rows.fnExactParseDocRow.targs := of_decide_eq_true (by kernel_rfl)
theorem wrapped : Try.f15.isWrapper Try.prog Rows.fnExactParseDocRow.wrapper Rows.fnExactParseDocRow.mainSum := by
  unfold Func.isWrapper
  rw [if_neg (of_decide_eq_false (by kernel_rfl))]
  exact ⟨rfl, rfl⟩

theorem holds : Rows.FnExactParseDocSaid :=
  OpenClaim.holds_of_wide 15 Try.f15 rfl rfl rfl rfl rfl rfl rfl ⟨rfl, rfl, rfl, rfl, rfl⟩ rfl rfl rfl rfl rfl named Try.func15 closed instanced wrapped
    (fun os started H enc _ => lifted os started H enc)

end Go.Proofs.Ytpejdbgjcjehjaa.lawParseDoc

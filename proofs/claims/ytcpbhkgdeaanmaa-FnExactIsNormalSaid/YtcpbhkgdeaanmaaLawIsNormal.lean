import Derived.Test.YtcpbhkgdeaanmaaOpen
import Derived.Test.YtcpbhkgdeaanmaaSz
import Derived.Test.YtcpbhkgdeaanmaaTo
import Derived.Test.YtcpbhkgdeaanmaaEq
import Derived.Test.YtcpbhkgdeaanmaaNfN2
import Derived.Test.YtcpbhkgdeaanmaaFacts
import Derived.Test.YtcpbhkgdeaanmaaRows
import Derived.Deep.RegionHeld3
/-
  For every document that can be read as data, IsNormal of the program answers as IsNormal of the model and changes nothing of its argument: the law FnExactIsNormal returns true, and its argument reads as it did. No condition of ours; as the row says, a document that leads back into itself is not read.
-/
set_option linter.unusedVariables false
set_option linter.unusedSimpArgs false
namespace Go.Proofs.Ytcpbhkgdeaanmaa.lawIsNormal
open Go.ChangeShapes Go.WideShapes Go.ChangeAt Go.RowKit P1

def Box (w : World) (b : Nat) (o n : Int) (t : ByteArray) (a : Option Addr) (l cap : Nat) : Prop :=
  w.cell? ⟨b, 0, none⟩ = some (.int .i64 o) ∧ w.cell? ⟨b, 1, none⟩ = some (.int .i64 n) ∧ w.cell? ⟨b, 2, none⟩ = some (.string t) ∧ w.cell? ⟨b, 3, none⟩ = some (.slice a l cap)
theorem Box.new (w : World) (o n : Int) (t : ByteArray) (a : Option Addr) (l cap : Nat) (T : TypeId) : Box (w.alloc (.cells #[.int .i64 o, .int .i64 n, .string t, .slice a l cap] T)) w.heap.size o n t a l cap := by
  refine ⟨?_, ?_, ?_, ?_⟩ <;> (rw [World.cell?_alloc_new]; rfl)
theorem Box.below {w w' : World} {b : Nat} {o n : Int} {t : ByteArray} {a : Option Addr} {l cap B : Nat} (h : Box w b o n t a l cap) (hb : b < B) (k : Below B w w') : Box w' b o n t a l cap := by
  obtain ⟨h0, h1, h2, h3⟩ := h
  exact ⟨(k.cell (p := ⟨b, 0, none⟩) hb).trans h0, (k.cell (p := ⟨b, 1, none⟩) hb).trans h1, (k.cell (p := ⟨b, 2, none⟩) hb).trans h2, (k.cell (p := ⟨b, 3, none⟩) hb).trans h3⟩

theorem sub_drew {w : World} {a : Option Addr} {f : F} {fs : List Nat} (h : SubAt w a f fs) : SubAt w.drew a f fs := h.congr (fun _ _ _ => rfl)

theorem fits_of_size : ∀ f : F, f.size ≤ 1048576 → f.Fits
  | .nil, _ => trivial
  | .cons o n t k r, h => by
    have h1 : t.size ≤ maxLen := by simp only [F.size] at h; unfold maxLen; omega
    have h2 : k.len ≤ maxLen := by have := F.len_le_size k; simp only [F.size] at h; unfold maxLen; omega
    exact ⟨h1, h2, fits_of_size k (by simp only [F.size] at h; omega), fits_of_size r (by simp only [F.size] at h; omega)⟩

set_option maxRecDepth 100000 in
set_option maxHeartbeats 1600000 in
theorem walk (w : World) (o n : Int) (t : ByteArray) (k : F) (a : Option Addr) (cap : Nat) (fs : List Nat) (hs : SubAt w a k fs) (hfs : ∀ c ∈ fs, c < w.heap.size) (hc : k.len ≤ cap) (hl : k.len ≤ maxLen) (hft : k.Fits) (ht : t.size ≤ maxLen) :
    Calls Try.prog 11 #[.agg #[.int .i64 o, .int .i64 n, .string t, .slice a k.len cap]] w fun e w' => e = .returned (.bool true) ∧ Below w.heap.size w w' := by
  obtain ⟨W, hW⟩ : ∃ W : World, W = w.alloc (.cells #[.int .i64 o, .int .i64 n, .string t, .slice a k.len cap] 46) := ⟨_, rfl⟩
  have hbW : Below w.heap.size w W := hW ▸ (Below.refl _ _).alloc (Nat.le_refl _) _
  have hxW : Box W w.heap.size o n t a k.len cap := hW ▸ Box.new w o n t a k.len cap _
  have hlt : w.heap.size < W.heap.size := by rw [hW]; simp
  have hsz := Sz.szDoc (Sz.szS_any k) o n t W a cap fs 1048576 (hs.below hfs hbW) (fun c hc => Nat.lt_of_lt_of_le (hfs c hc) hbW.size) hc hl hft ht (by omega) (by omega)
  by_cases hbig : (1048576 : Int) < ((t.size + k.size : Nat) : Int)
  · rw [Sz.szR_no hbig, hW] at hsz
    have HS := Lib.hid hsz
    clear hsz hW hbW hxW hlt hs hfs hft hbig
    go_enter Try.func11, Try.ntmps11
    go_wp2_with fail
    refine HS.out.mono ?_
    rintro e1 w1 ⟨rfl, hb1⟩
    have HB := Lib.hid hb1
    clear hb1
    go_wp2_with fail
    go_ret
    exact ⟨rfl, ((Below.refl _ _).alloc (Nat.le_refl _) _).trans (HB.out.mono (by simp))⟩
  · have hle : k.size ≤ 1048576 := by omega
    rw [Sz.szR_yes (Int.not_lt.1 hbig)] at hsz
    obtain ⟨z, hz⟩ : ∃ z : Int, (1048576 : Int) - ((t.size + k.size : Nat) : Int) = z := ⟨_, rfl⟩
    have hz0 : 0 ≤ z := by omega
    rw [hz] at hsz
    -- each call by its contract, at whatever world lies above
    have hto := fun (w1 : World) (h1 : Below w.heap.size w w1) => To.toDoc (To.toS_any k) o n t w1 a cap fs (hs.below hfs h1) (fun c hc => Nat.lt_of_lt_of_le (hfs c hc) h1.size) hc hle
    have hspec : ∀ (w1 : World) (a1 : Option Addr) (f1 : List Nat) (h1 : SubAt w1 a1 k f1) (h2 : ∀ c ∈ f1, c < w1.heap.size ∧ ∀ o, w1.frozen? ⟨c, o, none⟩ = false), Calls Try.prog 15 #[.agg #[.int .i64 o, .int .i64 n, .string t, .slice a1 k.len k.len]] w1 fun e w2 => e = .returned (.bool (Nf.isB o n t k)) ∧ Below w1.heap.size w1 w2 := fun w1 a1 f1 h1 h2 => Nf.specIsNormal w1 o n t k a1 k.len f1 h1 h2 (Nat.le_refl _) (by omega)
    have himpl : ∀ (w1 : World) (a1 : Option Addr) (f1 : List Nat) (h1 : SubAt w1 a1 k f1) (h2 : ∀ c ∈ f1, c < w1.heap.size ∧ ∀ o, w1.frozen? ⟨c, o, none⟩ = false), Calls Try.prog 13 #[.agg #[.int .i64 o, .int .i64 n, .string t, .slice a1 k.len k.len]] w1 fun e w2 => e = .returned (.bool (Nf.isB o n t k)) ∧ Below w1.heap.size w1 w2 := fun w1 a1 f1 h1 h2 => Nf.implIsNormal w1 o n t k a1 k.len f1 h1 h2 (Nat.le_refl _) (by omega)
    have heq := fun (w1 : World) (a1 a2 : Option Addr) (f1 f2 : List Nat) (h1 : SubAt w1 a1 k f1) (h2 : SubAt w1 a2 k f2) (h3 : ∀ c ∈ f1, c < w1.heap.size) (h4 : ∀ c ∈ f2, c < w1.heap.size) => Eq.eqDoc (Eq.eqS_any k k) o n o n t t w1 a1 a2 k.len k.len f1 f2 h1 h2 h3 h4 (Nat.le_refl _) (Nat.le_refl _) hl hl hft hft
    have hsame : sameD o n t k o n t k = true := by rw [sameD_yes, F.same_self]
    rw [hsame] at heq
    obtain ⟨v, hv⟩ : ∃ v, Nf.isB o n t k = v := ⟨_, rfl⟩
    rw [hv] at hspec himpl
    rw [hW] at hsz
    have HSZ := Lib.hid hsz
    have HTO := Lib.hid hto
    have HSP := Lib.hid hspec
    have HIM := Lib.hid himpl
    have HEQ := Lib.hid heq
    clear hsz hto hspec himpl heq hW hbW hxW hlt hs hfs hft hz hbig hsame hv hle ht hl
    go_enter Try.func11, Try.ntmps11
    go_wp2_with fail
    refine HSZ.out.mono ?_
    rintro e1 w1 ⟨rfl, hb1⟩
    have hb1' : Below w.heap.size w w1 := ((Below.refl _ _).alloc (Nat.le_refl _) _).trans (hb1.mono (by simp))
    have hx1 : Box w1 w.heap.size o n t a k.len cap := (Box.new w o n t a k.len cap _).below (by simp) hb1
    have hl1 : w.heap.size < w1.heap.size := by have := hb1.size; simp at this; omega
    have H1 := Lib.hid (And.intro hb1' (And.intro hx1 hl1))
    obtain ⟨x0, x1, x2, x3⟩ := hx1
    clear hb1 hb1' hl1
    go_wp2_with fail
    refine (HTO.out w1 H1.out.1).mono ?_
    rintro e1 w2 ⟨a2, f2, rfl, hs2, hfr2, hb2⟩
    have H2 := Lib.hid (And.intro hs2 (And.intro hfr2 hb2))
    clear hs2 hfr2 hb2 x0 x1 x2 x3
    go_wp2_with fail
    refine (HSP.out w2 a2 f2 H2.out.1 (fun c hc => ⟨H2.out.2.1.lt c hc, (H2.out.2.1.2 c hc).2.2⟩)).mono ?_
    rintro e1 w3 ⟨rfl, hb3⟩
    have hB3 : Below w1.heap.size w1 w3 := H2.out.2.2.trans (hb3.mono H2.out.2.2.size)
    have hx3 : Box w3 w.heap.size o n t a k.len cap := H1.out.2.1.below H1.out.2.2 hB3
    have H3 := Lib.hid (And.intro (H1.out.1.trans (hB3.mono H1.out.1.size)) (And.intro hx3 (Nat.lt_of_lt_of_le H1.out.2.2 hB3.size)))
    obtain ⟨x0, x1, x2, x3⟩ := hx3
    clear hb3 hB3 H2 H1
    go_wp2_with fail
    refine (HTO.out w3 H3.out.1).mono ?_
    rintro e1 w4 ⟨a4, f4, rfl, hs4, hfr4, hb4⟩
    have H4 := Lib.hid (And.intro hs4 (And.intro hfr4 hb4))
    clear hs4 hfr4 hb4 x0 x1 x2 x3
    go_wp2_with fail
    have hA5 : ∀ ob, Below w4.heap.size w4 (w4.alloc ob) := fun ob => (Below.refl _ _).alloc (Nat.le_refl _) _
    refine (HIM.out _ a4 f4 (H4.out.1.below H4.out.2.1.lt (hA5 _)) (fun c hc => ⟨Nat.lt_of_lt_of_le (H4.out.2.1.lt c hc) (hA5 _).size, fun o => ((hA5 _).frozen (p := ⟨c, o, none⟩) (H4.out.2.1.lt c hc)).trans ((H4.out.2.1.2 c hc).2.2 o)⟩)).mono ?_
    rintro e1 w6 ⟨rfl, hb6⟩
    have hxa : Box w6 w4.heap.size o n t a4 k.len k.len := (Box.new w4 o n t a4 k.len k.len _).below (by simp) hb6
    have hB6 : Below w4.heap.size w4 w6 := (hA5 _).trans (hb6.mono (by simp))
    have hB36 : Below w3.heap.size w3 w6 := H4.out.2.2.trans (hB6.mono H4.out.2.2.size)
    have hxb : Box w6 w.heap.size o n t a k.len cap := H3.out.2.1.below H3.out.2.2 hB36
    have hs6 : SubAt w6 a4 k f4 := H4.out.1.below H4.out.2.1.lt hB6
    have hf6 : ∀ c ∈ f4, c < w6.heap.size := fun c hc => Nat.lt_of_lt_of_le (H4.out.2.1.lt c hc) hB6.size
    have H6 := Lib.hid (And.intro (H3.out.1.trans (hB36.mono H3.out.1.size)) (And.intro hs6 hf6))
    obtain ⟨x0, x1, x2, x3⟩ := hxb
    obtain ⟨y0, y1, y2, y3⟩ := hxa
    clear hb6 hA5 hB6 hB36 hs6 hf6 H3 H4
    have hvv : (v != v) = false := by simp
    have l6a : w.heap.size < w6.heap.size := World.block_lt_of_cell? w6 _ x0
    have l6b : w4.heap.size < w6.heap.size := World.block_lt_of_cell? w6 _ y0
    go_wp2_with fail
    go_region_held3 (fun w' => w'.cell? ⟨w4.heap.size, 0, none⟩ = some (.int .i64 o) ∧ w'.cell? ⟨w4.heap.size, 1, none⟩ = some (.int .i64 n) ∧ w'.cell? ⟨w4.heap.size, 2, none⟩ = some (.string t) ∧ w'.cell? ⟨w4.heap.size, 3, none⟩ = some (.slice a4 k.len k.len) ∧ w'.cell? ⟨w.heap.size, 0, none⟩ = some (.int .i64 o) ∧ w'.cell? ⟨w.heap.size, 1, none⟩ = some (.int .i64 n) ∧ w'.cell? ⟨w.heap.size, 2, none⟩ = some (.string t) ∧ w'.cell? ⟨w.heap.size, 3, none⟩ = some (.slice a k.len cap))
      (first
        | go_keep
        | (refine ⟨?_, ?_, ?_, ?_, ?_, ?_, ?_, ?_⟩ <;> (first | assumption | (rw [hb7.cell (p := ⟨_, _, _⟩) (by simp; omega)]; assumption) | (rw [hb8.cell (p := ⟨_, _, _⟩) (by have := hb7.size; simp at this ⊢; omega)]; assumption) | (rw [hb8.cell (p := ⟨_, _, _⟩) (by have := hb7.size; simp at this ⊢; omega), hb7.cell (p := ⟨_, _, _⟩) (by simp; omega)]; assumption))))
      (first
        | (go_at_call 38; refine (HTO.out _ (by first | exact H6.out.1 | exact H6.out.1.drew)).mono ?_; rintro e1 w7 ⟨a7, f7, rfl, hs7, hfr7, hb7⟩)
        | (go_at_call 39; refine (HEQ.out _ _ _ f4 f7 (by first | exact H6.out.2.1.below H6.out.2.2 hb7 | exact (sub_drew H6.out.2.1).below H6.out.2.2 hb7 | exact sub_drew ((sub_drew H6.out.2.1).below H6.out.2.2 hb7)) (by first | exact hs7 | exact sub_drew hs7) (fun c hc => Nat.lt_of_lt_of_le (H6.out.2.2 c hc) hb7.size) hfr7.lt).mono ?_; rintro e1 w8 ⟨rfl, hb8⟩))
    go_wp2_with fail
    go_ret
    have q7 : Below w.heap.size w w7 := H6.out.1.drew.trans (hb7.mono (by have := H6.out.1.size; simp; omega))
    exact ⟨rfl, by first | exact q7.trans (hb8.mono q7.size) | exact q7.drew.trans (hb8.mono (by have := q7.size; simp; omega))⟩

set_option maxRecDepth 100000 in
theorem lifted (os : Os) (started : os.Started) (H : Type) (enc : TypeId × Value → H) :
    ReturnsInHanded {} Try.checked os 11 .any (Rows.fnExactIsNormalSpec.pre6 enc Try.prog Try.f11 Rows.fnExactIsNormalRow.domain false) (Rows.fnExactIsNormalSpec.post enc Try.prog Try.f11 false true false false) := by
  refine returnsInHanded_of_change (C := Try.checked) Facts.own started (by kernel_rfl) Try.func11
    (ChangeSpec.witness6 (enc := enc) (C := Try.checked) false ⟨#[], #[.agg #[.int .i64 0, .int .i64 0, .string ⟨#[]⟩, .slice none 0 0]], []⟩ 8 (by kernel_rfl) (by kernel_rfl) (by kernel_rfl) (by kernel_rfl)) ?_
  intro W base args ds gs before hval0 hW hcnd0 _
  clear hcnd0
  have hval : ∀ (j : Nat) t v, Try.f11.params[j]? = some t → args[j]? = some v → Value.okWide Try.prog W .any base t v := hval0
  have hW' := hW
  obtain ⟨p, q, hA0, hV, rfl, hfz, hnd⟩ := hW
  have hA : DataW.TrodAll enc Try.prog W 0 (fun _ => true) true Try.f11.params.toList args.toList ds p := hA0
  rw [Try.params11] at hA hval
  obtain ⟨v0, d0, rfl, rfl, h0⟩ := trodAll_one hA
  obtain ⟨rfl, rfl⟩ := trodVars_none hV
  obtain ⟨o, n, t, k, a, cap, fs, rfl, ht, hl, hft, hc, hs, hfs⟩ := Open.open_doc (hval 0 46 v0 rfl rfl) h0
  clear hA0 hval0
  simp only [List.append_nil] at hW'
  have hlt : ∀ x ∈ p, x.block < W.heap.size := fun x hx => by simpa using hW'.lt x hx
  refine (walk W o n t k a cap fs hs hfs hc hl hft ht).mono fun e W' ⟨he, hb⟩ => ?_
  subst he
  refine ⟨_, rfl, [d0], [], p, [], p, [], hW', trodAll_mk1 (shut_bool Try.underlying4 _), ?_, rfl, hb.frame _, fun h => by cases h⟩
  exact trodAll_mk1 (Below.trod Facts.laidOut (by kernel_rfl) (of_decide_eq_true (by kernel_rfl)) h0 hb hlt)

theorem named : Try.prog.funcNamed Rows.fnExactIsNormalRow.func = some 11 := by kernel_rfl
theorem closed : joinedFacts Try.prog 11 Try.f11 Rows.fnExactIsNormalSpec Rows.fnExactIsNormalRow = true :=
  Facts.closed_of rfl rfl rfl rfl (h28b := rfl) (by kernel_rfl) (by kernel_rfl) (by kernel_rfl) (by kernel_rfl) (by kernel_rfl) (by kernel_rfl) (by kernel_rfl) (by kernel_rfl) (by kernel_rfl) (by kernel_rfl) (by kernel_rfl) (by kernel_rfl) (by kernel_rfl) (by kernel_rfl) (by kernel_rfl) (by kernel_rfl) (by kernel_rfl) (by kernel_rfl) (by kernel_rfl) (by kernel_rfl) (by kernel_rfl) (by kernel_rfl) (by kernel_rfl) (by kernel_rfl)
theorem instanced : Try.f11.isInstance Try.prog Rows.fnExactIsNormalRow.origin Rows.fnExactIsNormalRow.targs := of_decide_eq_true (by kernel_rfl)
theorem wrapped : Try.f11.isWrapper Try.prog Rows.fnExactIsNormalRow.wrapper Rows.fnExactIsNormalRow.mainSum := by
  unfold Func.isWrapper
  rw [if_neg (of_decide_eq_false (by kernel_rfl))]
  exact ⟨rfl, rfl⟩

theorem holds : Rows.FnExactIsNormalSaid :=
  OpenClaim.holds_of_wide 11 Try.f11 rfl rfl rfl rfl rfl rfl rfl ⟨rfl, rfl, rfl, rfl, rfl⟩ rfl rfl rfl rfl rfl named Try.func11 closed instanced wrapped
    (fun os started H enc _ => lifted os started H enc)

end Go.Proofs.Ytcpbhkgdeaanmaa.lawIsNormal


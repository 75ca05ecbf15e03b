import Derived.Test.YtjcaiecapapceaaNfG3
/-
 DropGroups of the model.
-/
set_option linter.unusedVariables false
set_option linter.unusedSimpArgs false
set_option maxRecDepth 100000
set_option maxHeartbeats 1600000
namespace Go.Proofs.Ytjcaiecapapceaa.Nf
open Go.RowKit P1 Copy CatD
theorem specDropGroups (w : World) (o n : Int) (t : ByteArray) (k : F) (a : Option Addr) (cap : Nat) (fs : List Nat) (hs : SubAt w a k fs) (hfs : ∀ c ∈ fs, c < w.heap.size ∧ ∀ o, w.frozen? ⟨c, o, none⟩ = false) (hc : k.len ≤ cap) (hle : t.size + k.size ≤ 1048576) :
  Calls Try.prog 15 #[.agg #[.int .i64 o, .int .i64 n, .string t, .slice a k.len cap]] w (DocRes w (grRes o n t k)) := by
 have hl := F.len_le_size k
 have hft : k.Fits := fits_of_size (m := 1048576) (by unfold maxLen; omega) k (by omega)
 have hval := fun (W : World) (e : Ext w W) => SpecC.docValid W o n t k a cap fs (e.sub hs (fun c hc => (hfs c hc).1)) (fun c hc => Nat.lt_of_lt_of_le (hfs c hc).1 e.size) hc (by omega) hft (by unfold maxLen; omega)
 have hin := fun (hv : validD o n t k = true) (W : World) (e : Ext w W) => l7Groups W o n t k (valid_nice hv).1 (by have := (valid_nice hv).2.2; omega) a cap fs (e.sub hs (fun c hc => (hfs c hc).1)) (fun c hc => Nat.lt_of_lt_of_le (hfs c hc).1 e.size) hc
 have hfit : validD o n t k = true → (chD grR o n t k).2.2.2.size ≤ 1048576 ∧ (chD grR o n t k).2.2.1.size ≤ 1048576 := fun hv => nice_fit (gr_nice (valid_nice hv).1).1 (by have := (gr_nice (valid_nice hv).1).2; have := (valid_nice hv).2.2; omega)
 have HE := Lib.hid (show ∀ x y, Ext w ((w.alloc x).alloc y) from fun x y => ((Ext.refl w).alloc x).alloc y)
 have HZ := Lib.hid (fun x => zbox_second w x 25)
 obtain ⟨L, hL⟩ : ∃ L, k.len = L := ⟨_, rfl⟩
 rw [hL] at hval ⊢
 cases hv : validD o n t k with
 | false =>
   rw [hv] at hval
   rw [show grRes o n t k = (false, zeroD) by unfold grRes chR; simp only [hv]; rfl]
   have HV := Lib.hid hval
   clear hval hin hfit hs hfs hc hl hft hv hL hle
   go_enter Try.func15, Try.ntmps15
   go_wp2_with fail
   refine (HV.out _ (HE.out _ _)).mono ?_
   rintro e1 w1 ⟨rfl, hb⟩
   have E1 := Lib.hid (Ext.trans (HE.out _ _) hb)
   obtain ⟨⟨z0, z1, z2, z3⟩, ⟨z4, z5, z6, z7⟩, z8⟩ := (HZ.out _).ext hb
   clear hb
   go_wp2_with fail
   refine bodyPost_ret (v := .tuple #[.agg #[.int .i64 0, .int .i64 0, .string ⟨#[]⟩, .slice none 0 0], .bool false]) (by simp [results, Try.results15, go_sem, z0, z1, z2, z3, z4, z5, z6, z7, z8]) rfl ?_
   refine end_no (lo := w.heap.size + 1) (hi := w.heap.size + 2) (by omega) E1.out ?_
   repeat (first | exact Touch.refl _ _ _ | refine Touch.setCell ?_ (by simp) (by simp) _)
 | true =>
   rw [hv] at hval
   have hin := hin hv
   have hfit := hfit hv
   obtain ⟨⟨o2, n2, t2, k2⟩, hφ⟩ : ∃ d : D, chD grR o n t k = d := ⟨_, rfl⟩
   have hres : grRes o n t k = (if validD o2 n2 t2 k2 then (true, (o2, n2, t2, k2)) else (false, zeroD)) := by unfold grRes chR; rw [hφ]; simp only [hv]; rfl
   rw [hφ] at hfit
   have hdone := fun (W : World) (a2 : Option Addr) (cap2 : Nat) (f2 : List Nat) (h1 : SubAt W a2 k2 f2) (h2 : ∀ c ∈ f2, c < W.heap.size) (h3 : k2.len ≤ cap2) => specDone W o2 n2 t2 k2 a2 cap2 f2 h1 h2 h3 hfit.1 hfit.2
   obtain ⟨⟨ok, o9, n9, t9, k9⟩, hR⟩ : ∃ R, (if validD o2 n2 t2 k2 then (true, ((o2, n2, t2, k2) : D)) else (false, zeroD)) = R := ⟨_, rfl⟩
   rw [hres, hR]
   rw [hR] at hdone
   rw [hφ] at hin
   rw [hL] at hin
   have HV := Lib.hid hval
   have HI := Lib.hid hin
   have HD := Lib.hid hdone
   clear hval hin hfit hdone hs hfs hc hl hft hv hL hle hφ hres hR
   go_enter Try.func15, Try.ntmps15
   go_wp2_with fail
   refine (HV.out _ (HE.out _ _)).mono ?_
   rintro e1 w1 ⟨rfl, hb⟩
   have E1 := Lib.hid (Ext.trans (HE.out _ _) hb)
   have Z1 := Lib.hid ((HZ.out _).ext hb)
   have hs1 : w.heap.size + 2 ≤ w1.heap.size := by have := hb.size; simp at this; omega
   have C1 := fun o => hb.cell (p := ⟨w.heap.size, o, none⟩) (by simp; omega)
   clear hb
   go_wp2_with fail
   refine (HI.out _ E1.out).mono ?_
   rintro e2 w2 ⟨a2, cap2, f2, rfl, hc2, hs2, hfr2, hb2⟩
   simp only at hc2 hs2 ⊢
   have Z2 := Lib.hid (Z1.out.ext hb2)
   have H2 := Lib.hid (And.intro hc2 (And.intro hs2 (And.intro hfr2 hb2)))
   clear hc2 hs2 hfr2 hb2 C1
   go_wp2_with fail
   refine (HD.out _ a2 cap2 f2 H2.out.2.1 H2.out.2.2.1.lt H2.out.1).mono ?_
   rintro e3 w3 ⟨a3, cap3, f3, rfl, hc3, hs3, hfr3, hb3⟩
   simp only at hc3 hs3 ⊢
   obtain ⟨⟨z0, z1, z2, z3⟩, ⟨z4, z5, z6, z7⟩, z8⟩ := Z2.out.ext hb3
   have H3 := Lib.hid (And.intro hc3 (And.intro hs3 (And.intro hfr3 hb3)))
   clear hc3 hs3 hfr3 hb3
   go_wp2_with fail
   refine bodyPost_ret (v := .tuple #[.agg #[.int .i64 o9, .int .i64 n9, .string t9, .slice a3 k9.len cap3], .bool ok]) (by simp [results, Try.results15, go_sem, z0, z1, z2, z3, z4, z5, z6, z7, z8]) rfl ?_
   obtain ⟨hc3, hs3, hfr3, hb3⟩ := H3.out
   refine end_pair (d := (o9, n9, t9, k9)) (lo := w.heap.size + 1) (hi := w.heap.size + 2) hs3 hfr3 hc3 (by have := Ext.size H2.out.2.2.2; omega) (by omega) (by omega) (Below.trans (Ext.trans E1.out H2.out.2.2.2) (hb3.mono (by have := Ext.size E1.out; have := Ext.size H2.out.2.2.2; omega))) ?_
   repeat (first | exact Touch.refl _ _ _ | refine Touch.setCell ?_ (by simp) (by simp) _)
end Go.Proofs.Ytjcaiecapapceaa.Nf

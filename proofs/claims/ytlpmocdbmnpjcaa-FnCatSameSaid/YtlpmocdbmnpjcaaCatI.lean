import Derived.Test.YtlpmocdbmnpjcaaCopyI
import Derived.Test.YtlpmocdbmnpjcaaCopyS2
import Derived.Test.YtlpmocdbmnpjcaaDrY
import Derived.Test.YtlpmocdbmnpjcaaSpV
/-
  What CatDocs of the program and of the model come to: both the document of the two, in new memory, or nothing.
-/
set_option linter.unusedVariables false
set_option linter.unusedSimpArgs false
namespace Go.Proofs.Ytlpmocdbmnpjcaa.CatD
open Go.RowKit P1 Copy

/-- what CatDocs answers -/
def catR (k : F) : Bool × D := if validD 7 0 ⟨#[]⟩ k then (true, (7, 0, ⟨#[]⟩, k)) else (false, zeroD)

theorem touch_new {w3 w4 : World} {a : Option Addr} {k : F} {fs : List Nat} {lo hi B : Nat} (hs : SubAt w3 a k fs) (hF : Fresh B w3 fs) (hB : hi ≤ B) (ht : Touch lo hi w3 w4) : SubAt w4 a k fs ∧ Fresh B w4 fs :=
  ⟨ht.sub hs (fun c hc => Or.inr (by have := (hF.2 c hc).1; omega)), ht.fresh hF (fun c hc => Or.inr (by have := (hF.2 c hc).1; omega))⟩

/-- the end of CatDocs where it is valid -/
theorem end_cat {w w3 w4 : World} {lo B : Nat} {k : F} {a : Option Addr} {cap : Nat} {fs : List Nat} (hv : catR k = (true, (7, 0, ⟨#[]⟩, k))) (hc : k.len ≤ cap) (hs : SubAt w3 a k fs) (hF : Fresh B w3 fs) (hB : lo + 1 ≤ B) (hlo : w.heap.size ≤ lo) (hb : Below w.heap.size w w3) (ht : Touch lo (lo + 1) w3 w4) :
    DocRes w (catR k) (.returned (.tuple #[.agg #[.int .i64 7, .int .i64 0, .string ⟨#[]⟩, .slice a k.len cap], .bool true])) w4 := by
  rw [hv]
  obtain ⟨h1, h2⟩ := touch_new hs hF hB ht
  exact ⟨a, cap, fs, rfl, hc, h1, h2.mono (by omega), ht.below hb hlo⟩

theorem end_zero {w w3 w4 : World} {lo : Nat} {k : F} (hv : catR k = (false, zeroD)) (hlo : w.heap.size ≤ lo) (hb : Below w.heap.size w w3) (ht : Touch lo (lo + 1) w3 w4) :
    DocRes w (catR k) (.returned (.tuple #[.agg #[.int .i64 0, .int .i64 0, .string ⟨#[]⟩, .slice none 0 0], .bool false])) w4 := by
  rw [hv]
  exact ⟨none, 0, [], rfl, by simp [zeroD, F.len], Or.inl ⟨rfl, rfl⟩, Fresh.nil w.heap.size w4, ht.below hb hlo⟩

section
variable (w : World) (o1 n1 : Int) (t1 : ByteArray) (k1 : F) (a1 : Option Addr) (cap1 : Nat) (f1 : List Nat) (o2 n2 : Int) (t2 : ByteArray) (k2 : F) (a2 : Option Addr) (cap2 : Nat) (f2 : List Nat)

set_option maxRecDepth 100000 in
set_option maxHeartbeats 1600000 in
theorem implCatDocs (h1 : SubAt w a1 k1 f1) (h2 : SubAt w a2 k2 f2) (hf1 : ∀ c ∈ f1, c < w.heap.size) (hf2 : ∀ c ∈ f2, c < w.heap.size) (hc1 : k1.len ≤ cap1) (hc2 : k2.len ≤ cap2) (hsz : (F.cons o1 n1 t1 k1 (.cons o2 n2 t2 k2 .nil)).size ≤ 4194304) :
    Calls Try.prog 18 #[.agg #[.int .i64 o1, .int .i64 n1, .string t1, .slice a1 k1.len cap1], .agg #[.int .i64 o2, .int .i64 n2, .string t2, .slice a2 k2.len cap2]] w
      (DocRes w (catR (.cons o1 n1 t1 k1 (.cons o2 n2 t2 k2 .nil)))) := by
  obtain ⟨K, hK⟩ : ∃ K, F.cons o1 n1 t1 k1 (.cons o2 n2 t2 k2 .nil) = K := ⟨_, rfl⟩
  have hlen : K.len = 2 := by rw [← hK]; rfl
  have hft : K.Fits := by rw [← hK]; exact fits_of_size (m := 4194304) (by unfold maxLen; omega) _ hsz
  have e0 : (⟨#[]⟩ : ByteArray).size = 0 := rfl
  have hrow : ∀ (x0 x1 x2 : Obj) (T : TypeId), RowAt ((((w.alloc x0).alloc x1).alloc x2).alloc (.cells #[.int .i64 o1, .int .i64 n1, .string t1, .slice a1 k1.len cap1, .int .i64 o2, .int .i64 n2, .string t2, .slice a2 k2.len cap2] T)) K (w.heap.size + 1 + 1 + 1) 0 (f1 ++ f2) := by
    intro x0 x1 x2 T
    rw [← hK]
    exact Draw2.row2 ((((Below.refl _ _).alloc (Nat.le_refl _) x0).alloc (by simp) x1).alloc (by simp; omega) x2) (Nat.le_refl _) h1 h2 hf1 hf2 hc1 hc2 T (by simp)
  rw [hK]
  have hsub : ∀ (x0 x1 x2 x4 : Obj) (T : TypeId), SubAt (((((w.alloc x0).alloc x1).alloc x2).alloc (.cells #[.int .i64 o1, .int .i64 n1, .string t1, .slice a1 k1.len cap1, .int .i64 o2, .int .i64 n2, .string t2, .slice a2 k2.len cap2] T)).alloc x4) (some ⟨w.heap.size + 1 + 1 + 1, 0, none⟩) K ((w.heap.size + 1 + 1 + 1) :: (f1 ++ f2)) ∧
      (∀ c ∈ (w.heap.size + 1 + 1 + 1) :: (f1 ++ f2), c < w.heap.size + 4) ∧ Below w.heap.size w (((((w.alloc x0).alloc x1).alloc x2).alloc (.cells #[.int .i64 o1, .int .i64 n1, .string t1, .slice a1 k1.len cap1, .int .i64 o2, .int .i64 n2, .string t2, .slice a2 k2.len cap2] T)).alloc x4) := by
    intro x0 x1 x2 x4 T
    have hm : ∀ c ∈ f1 ++ f2, c < w.heap.size + 4 := fun c hc => by
      rcases List.mem_append.1 hc with hc | hc
      · have := hf1 c hc; omega
      · have := hf2 c hc; omega
    refine ⟨.inr ⟨_, 0, _, rfl, fun e => (by rw [e] at hlen; simp [F.len] at hlen), rfl, (hrow x0 x1 x2 T).below (B := w.heap.size + 4) (by omega) hm ((Below.refl _ _).alloc (by simp) _)⟩, fun c hc => ?_, ?_⟩
    · rcases List.mem_cons.1 hc with rfl | hc
      · omega
      · exact hm c hc
    · exact (((((Below.refl _ _).alloc (Nat.le_refl _) x0).alloc (by simp) x1).alloc (by simp; omega) x2).alloc (by simp; omega) _).alloc (by simp; omega) x4
  have hval := fun (x0 x1 x2 x4 : Obj) (T : TypeId) => PartV.docValid (((((w.alloc x0).alloc x1).alloc x2).alloc (.cells #[.int .i64 o1, .int .i64 n1, .string t1, .slice a1 k1.len cap1, .int .i64 o2, .int .i64 n2, .string t2, .slice a2 k2.len cap2] T)).alloc x4) 7 0 ⟨#[]⟩ K (some ⟨w.heap.size + 1 + 1 + 1, 0, none⟩) 2 _ (hsub x0 x1 x2 x4 T).1 (fun c hc => by have := (hsub x0 x1 x2 x4 T).2.1 c hc; simp; omega) (by omega) (by unfold maxLen; omega) hft (by unfold maxLen; omega)
  have hcp := fun (w1 : World) (x0 x1 x2 x4 : Obj) (T : TypeId) (hb : Below (((((w.alloc x0).alloc x1).alloc x2).alloc (.cells #[.int .i64 o1, .int .i64 n1, .string t1, .slice a1 k1.len cap1, .int .i64 o2, .int .i64 n2, .string t2, .slice a2 k2.len cap2] T)).alloc x4).heap.size (((((w.alloc x0).alloc x1).alloc x2).alloc (.cells #[.int .i64 o1, .int .i64 n1, .string t1, .slice a1 k1.len cap1, .int .i64 o2, .int .i64 n2, .string t2, .slice a2 k2.len cap2] T)).alloc x4) w1) =>
    Copy.copyDoc w1 7 0 ⟨#[]⟩ K (some ⟨w.heap.size + 1 + 1 + 1, 0, none⟩) 2 _ ((hsub x0 x1 x2 x4 T).1.below (fun c hc => by have := (hsub x0 x1 x2 x4 T).2.1 c hc; simp; omega) hb) (fun c hc => by have := (hsub x0 x1 x2 x4 T).2.1 c hc; have := hb.size; simp at this; omega) (by omega) (by rw [← hK]; exact hsz) (by omega)
  rw [hlen] at hval hcp
  have HV := Lib.hid hval
  have HC := Lib.hid hcp
  have HS := Lib.hid hsub
  have HK := Lib.hid (And.intro hK hlen)
  clear hval hcp hsub hrow hft h1 h2 hf1 hf2 hK hlen hsz
  cases hv : validD 7 0 ⟨#[]⟩ K with
  | true =>
    have HR := Lib.hid (show catR K = (true, (7, 0, ⟨#[]⟩, K)) by rw [catR, if_pos hv])
    have HVV := Lib.hid hv
    clear hv
    go_enter Try.func18, Try.ntmps18
    go_wp2_with fail
    refine (HV.out _ _ _ _ _).mono ?_
    rw [HVV.out]
    rintro e1 w1 ⟨rfl, hb1⟩
    have H1 := Lib.hid hb1
    have hcell : ∀ o, w1.cell? ⟨w.heap.size + 1 + 1 + 1 + 1, o, none⟩ = _ := fun o => hb1.cell (p := ⟨w.heap.size + 1 + 1 + 1 + 1, o, none⟩) (by simp)
    have hcell2 : ∀ o, w1.cell? ⟨w.heap.size + 1 + 1, o, none⟩ = _ := fun o => hb1.cell (p := ⟨w.heap.size + 1 + 1, o, none⟩) (by simp)
    have hfz2 : ∀ o, w1.frozen? ⟨w.heap.size + 1 + 1, o, none⟩ = _ := fun o => hb1.frozen (p := ⟨w.heap.size + 1 + 1, o, none⟩) (by simp)
    have hz1 : w.heap.size + 5 ≤ w1.heap.size := by have := hb1.size; simp at this; omega
    clear hb1
    go_wp2_with fail
    refine (HC.out _ _ _ _ _ _ H1.out).mono ?_
    rintro e2 w2 ⟨a', cap', fs', rfl, hc', hs', hF', hb2⟩
    have H2 := Lib.hid (And.intro hc' (And.intro hs' (And.intro hF' hb2)))
    have hcell3 : ∀ o, w2.cell? ⟨w.heap.size + 1 + 1, o, none⟩ = _ := fun o => (hb2.cell (p := ⟨w.heap.size + 1 + 1, o, none⟩) (show w.heap.size + 1 + 1 < _ by omega)).trans (hcell2 o)
    have hfz3 : ∀ o, w2.frozen? ⟨w.heap.size + 1 + 1, o, none⟩ = _ := fun o => (hb2.frozen (p := ⟨w.heap.size + 1 + 1, o, none⟩) (show w.heap.size + 1 + 1 < _ by omega)).trans (hfz2 o)
    have hz2 : w.heap.size + 5 ≤ w2.heap.size := Nat.le_trans hz1 hb2.size
    clear hc' hs' hF' hb2 hcell hcell2 hfz2
    go_wp2_with fail
    refine bodyPost_ret (v := .tuple #[.agg #[.int .i64 7, .int .i64 0, .string ⟨#[]⟩, .slice a' K.len cap'], .bool true]) (by simp [results, Try.results18, go_sem, hcell3, hz2, show w.heap.size + 1 + 1 < w2.heap.size by omega]) rfl ?_
    obtain ⟨hc', hs', hF', hb2⟩ := H2.out
    refine end_cat (lo := w.heap.size + 1 + 1) (B := w1.heap.size) HR.out hc' hs' hF' (by omega) (by omega) (((HS.out _ _ _ _ _).2.2.trans (H1.out.mono (by simp; omega))).trans (hb2.mono (by omega))) ?_
    repeat (first | exact Touch.refl _ _ _ | refine Touch.setCell ?_ (by simp) (by simp) _)
  | false =>
    have HR := Lib.hid (show catR K = (false, zeroD) by rw [catR, if_neg (by rw [hv]; simp)])
    have HVV := Lib.hid hv
    clear hv
    go_enter Try.func18, Try.ntmps18
    go_wp2_with fail
    refine (HV.out _ _ _ _ _).mono ?_
    rw [HVV.out]
    rintro e1 w1 ⟨rfl, hb1⟩
    have H1 := Lib.hid hb1
    have hcell2 : ∀ o, w1.cell? ⟨w.heap.size + 1 + 1, o, none⟩ = _ := fun o => hb1.cell (p := ⟨w.heap.size + 1 + 1, o, none⟩) (by simp)
    have hfz2 : ∀ o, w1.frozen? ⟨w.heap.size + 1 + 1, o, none⟩ = _ := fun o => hb1.frozen (p := ⟨w.heap.size + 1 + 1, o, none⟩) (by simp)
    have hz1 : w.heap.size + 5 ≤ w1.heap.size := by have := hb1.size; simp at this; omega
    clear hb1
    go_wp2_with fail
    refine bodyPost_ret (v := .tuple #[.agg #[.int .i64 0, .int .i64 0, .string ⟨#[]⟩, .slice none 0 0], .bool false]) (by simp [results, Try.results18, go_sem, hcell2, show w.heap.size + 1 + 1 < w1.heap.size by omega]) rfl ?_
    refine end_zero (lo := w.heap.size + 1 + 1) HR.out (by omega) ((HS.out _ _ _ _ _).2.2.trans (H1.out.mono (by simp; omega))) ?_
    repeat (first | exact Touch.refl _ _ _ | refine Touch.setCell ?_ (by simp) (by simp) _)

set_option maxRecDepth 100000 in
set_option maxHeartbeats 1600000 in
theorem specCatDocs (h1 : SubAt w a1 k1 f1) (h2 : SubAt w a2 k2 f2) (hf1 : ∀ c ∈ f1, c < w.heap.size) (hf2 : ∀ c ∈ f2, c < w.heap.size) (hc1 : k1.len ≤ cap1) (hc2 : k2.len ≤ cap2) (hsz : (F.cons o1 n1 t1 k1 (.cons o2 n2 t2 k2 .nil)).size ≤ 4194304) :
    Calls Try.prog 19 #[.agg #[.int .i64 o1, .int .i64 n1, .string t1, .slice a1 k1.len cap1], .agg #[.int .i64 o2, .int .i64 n2, .string t2, .slice a2 k2.len cap2]] w
      (DocRes w (catR (.cons o1 n1 t1 k1 (.cons o2 n2 t2 k2 .nil)))) := by
  obtain ⟨K, hK⟩ : ∃ K, F.cons o1 n1 t1 k1 (.cons o2 n2 t2 k2 .nil) = K := ⟨_, rfl⟩
  have hlen : K.len = 2 := by rw [← hK]; rfl
  have hft : K.Fits := by rw [← hK]; exact fits_of_size (m := 4194304) (by unfold maxLen; omega) _ hsz
  have e0 : (⟨#[]⟩ : ByteArray).size = 0 := rfl
  have B3 : ∀ (x0 x1 x2 : Obj), Below w.heap.size w (((w.alloc x0).alloc x1).alloc x2) := fun x0 x1 x2 => (((Below.refl _ _).alloc (Nat.le_refl _) x0).alloc (by simp) x1).alloc (by simp; omega) x2
  have hcat := fun (x0 x1 x2 : Obj) => Draw2.l1Cat (((w.alloc x0).alloc x1).alloc x2) o1 n1 t1 k1 a1 cap1 f1 o2 n2 t2 k2 a2 cap2 f2 (h1.below hf1 (B3 _ _ _)) (h2.below hf2 (B3 _ _ _)) (fun c hc => by have := hf1 c hc; simp; omega) (fun c hc => by have := hf2 c hc; simp; omega) hc1 hc2
  rw [hK] at hcat ⊢
  have hne : K ≠ .nil := fun e => (by rw [e] at hlen; simp [F.len] at hlen)
  have hsub : ∀ (w1 : World) (b : Nat), RowAt w1 K b 0 (f1 ++ f2) → b < w1.heap.size → w.heap.size ≤ w1.heap.size → ∀ w2, Below w1.heap.size w1 w2 → SubAt w2 (some ⟨b, 0, none⟩) K (b :: (f1 ++ f2)) ∧ ∀ c ∈ b :: (f1 ++ f2), c < w2.heap.size := by
    intro w1 b hrow hb hle w2 hbel
    have hm : ∀ c ∈ f1 ++ f2, c < w1.heap.size := fun c hc => by
      rcases List.mem_append.1 hc with hc | hc
      · have := hf1 c hc; omega
      · have := hf2 c hc; omega
    have hm2 : ∀ c ∈ b :: (f1 ++ f2), c < w1.heap.size := fun c hc => by
      rcases List.mem_cons.1 hc with rfl | hc
      · exact hb
      · exact hm c hc
    exact ⟨.inr ⟨b, 0, _, rfl, hne, rfl, hrow.below hb hm hbel⟩, fun c hc => Nat.lt_of_lt_of_le (hm2 c hc) hbel.size⟩
  have hval := fun (w2 : World) (b : Nat) (hs : SubAt w2 (some ⟨b, 0, none⟩) K (b :: (f1 ++ f2)) ∧ ∀ c ∈ b :: (f1 ++ f2), c < w2.heap.size) => SpecC.docValid w2 7 0 ⟨#[]⟩ K (some ⟨b, 0, none⟩) 2 _ hs.1 hs.2 (by omega) (by rw [← hK]; exact hsz) hft (by unfold maxLen; omega)
  have hcp := fun (w2 : World) (b : Nat) (hs : SubAt w2 (some ⟨b, 0, none⟩) K (b :: (f1 ++ f2)) ∧ ∀ c ∈ b :: (f1 ++ f2), c < w2.heap.size) => CopyS.l1Copy w2 7 0 ⟨#[]⟩ K (some ⟨b, 0, none⟩) 2 _ hs.1 hs.2 (by omega) (by rw [← hK]; exact hsz) (by omega)
  rw [hlen] at hval hcp
  have HV := Lib.hid hval
  have HC := Lib.hid hcp
  have HS := Lib.hid hsub
  have HCAT := Lib.hid hcat
  have HB3 := Lib.hid B3
  clear hval hcp hsub hcat hft h1 h2 hf1 hf2 hK hlen hsz B3
  go_enter Try.func19, Try.ntmps19
  go_wp2_with fail
  refine (HCAT.out _ _ _).mono ?_
  rintro e0 w1 ⟨b, rfl, hb1, hb2, hrow, _, hbel⟩
  have hw1 : w.heap.size + 3 ≤ w1.heap.size := by have := hbel.size; simp at this; omega
  have hres : ∀ o, w1.cell? ⟨w.heap.size + 1 + 1, o, none⟩ = _ := fun o => hbel.cell (p := ⟨w.heap.size + 1 + 1, o, none⟩) (by simp)
  have hrez : ∀ o, w1.frozen? ⟨w.heap.size + 1 + 1, o, none⟩ = _ := fun o => hbel.frozen (p := ⟨w.heap.size + 1 + 1, o, none⟩) (by simp)
  have HB1 := Lib.hid ((HB3.out _ _ _).trans (hbel.mono (by simp; omega)))
  have HSS := Lib.hid (HS.out w1 b hrow hb2 (by omega))
  have HA : ∀ x : Obj, Below w1.heap.size w1 (w1.alloc x) := fun x => (Below.refl _ _).alloc (Nat.le_refl _) x
  have HAA := Lib.hid HA
  have hvv := fun (x : Obj) => HV.out (w1.alloc x) b (HSS.out _ (HAA.out x))
  have HVAL := Lib.hid hvv
  clear hvv HA hrow hb1 hb2 hbel HV HCAT HS
  cases hv : validD 7 0 ⟨#[]⟩ K with
  | true =>
    have HR := Lib.hid (show catR K = (true, (7, 0, ⟨#[]⟩, K)) by rw [catR, if_pos hv])
    have HVV := Lib.hid hv
    clear hv
    go_wp2_with fail
    refine (HVAL.out _).mono ?_
    rw [HVV.out]
    rintro e1 w2 ⟨rfl, hb2⟩
    have hcell1 : ∀ o, w2.cell? ⟨w1.heap.size, o, none⟩ = _ := fun o => hb2.cell (p := ⟨w1.heap.size, o, none⟩) (by simp)
    have hw2 : w1.heap.size + 1 ≤ w2.heap.size := by have := hb2.size; simp at this; omega
    have hres2 : ∀ o, w2.cell? ⟨w.heap.size + 1 + 1, o, none⟩ = _ := fun o => (hb2.cell (p := ⟨w.heap.size + 1 + 1, o, none⟩) (by simp; omega)).trans ((World.cell?_alloc_lt w1 _ ⟨w.heap.size + 1 + 1, o, none⟩ (by show w.heap.size + 1 + 1 < _; omega)).trans (hres o))
    have hrez2 : ∀ o, w2.frozen? ⟨w.heap.size + 1 + 1, o, none⟩ = _ := fun o => (hb2.frozen (p := ⟨w.heap.size + 1 + 1, o, none⟩) (by simp; omega)).trans ((World.frozen?_alloc_old w1 _ ⟨w.heap.size + 1 + 1, o, none⟩ (by show w.heap.size + 1 + 1 ≠ _; omega)).trans (hrez o))
    have HB2 := Lib.hid ((HAA.out _).trans (hb2.mono (by simp)))
    clear hb2 hres hrez
    go_wp2_with fail
    refine (HC.out _ b (HSS.out _ HB2.out)).mono ?_
    rintro e2 w3 ⟨a', cap', fs', rfl, hc', hs', hF', hb3⟩
    have H2 := Lib.hid (And.intro hc' (And.intro hs' (And.intro hF' hb3)))
    have hcell3 : ∀ o, w3.cell? ⟨w.heap.size + 1 + 1, o, none⟩ = _ := fun o => (hb3.cell (p := ⟨w.heap.size + 1 + 1, o, none⟩) (show w.heap.size + 1 + 1 < _ by omega)).trans (hres2 o)
    have hfz3 : ∀ o, w3.frozen? ⟨w.heap.size + 1 + 1, o, none⟩ = _ := fun o => (hb3.frozen (p := ⟨w.heap.size + 1 + 1, o, none⟩) (show w.heap.size + 1 + 1 < _ by omega)).trans (hrez2 o)
    have hz3 : w.heap.size + 1 + 1 < w3.heap.size := by have := hb3.size; omega
    clear hc' hs' hF' hb3 hcell1 hres2 hrez2
    go_wp2_with fail
    refine bodyPost_ret (v := .tuple #[.agg #[.int .i64 7, .int .i64 0, .string ⟨#[]⟩, .slice a' K.len cap'], .bool true]) (by simp [results, Try.results19, go_sem, hcell3, hz3]) rfl ?_
    obtain ⟨hc', hs', hF', hb3⟩ := H2.out
    refine end_cat (lo := w.heap.size + 1 + 1) (B := w2.heap.size) HR.out hc' hs' hF' (by omega) (by omega) ((HB1.out.trans (HB2.out.mono (by omega))).trans (hb3.mono (by omega))) ?_
    repeat (first | exact Touch.refl _ _ _ | refine Touch.setCell ?_ (by simp) (by simp) _)
  | false =>
    have HR := Lib.hid (show catR K = (false, zeroD) by rw [catR, if_neg (by rw [hv]; simp)])
    have HVV := Lib.hid hv
    clear hv
    go_wp2_with fail
    refine (HVAL.out _).mono ?_
    rw [HVV.out]
    rintro e1 w2 ⟨rfl, hb2⟩
    have hw2 : w1.heap.size + 1 ≤ w2.heap.size := by have := hb2.size; simp at this; omega
    have hres2 : ∀ o, w2.cell? ⟨w.heap.size + 1 + 1, o, none⟩ = _ := fun o => (hb2.cell (p := ⟨w.heap.size + 1 + 1, o, none⟩) (by simp; omega)).trans ((World.cell?_alloc_lt w1 _ ⟨w.heap.size + 1 + 1, o, none⟩ (by show w.heap.size + 1 + 1 < _; omega)).trans (hres o))
    have hrez2 : ∀ o, w2.frozen? ⟨w.heap.size + 1 + 1, o, none⟩ = _ := fun o => (hb2.frozen (p := ⟨w.heap.size + 1 + 1, o, none⟩) (by simp; omega)).trans ((World.frozen?_alloc_old w1 _ ⟨w.heap.size + 1 + 1, o, none⟩ (by show w.heap.size + 1 + 1 ≠ _; omega)).trans (hrez o))
    have HB2 := Lib.hid ((HAA.out _).trans (hb2.mono (by simp)))
    clear hb2 hres hrez
    go_wp2_with fail
    refine bodyPost_ret (v := .tuple #[.agg #[.int .i64 0, .int .i64 0, .string ⟨#[]⟩, .slice none 0 0], .bool false]) (by simp [results, Try.results19, go_sem, hres2, show w.heap.size + 1 + 1 < w2.heap.size by omega]) rfl ?_
    refine end_zero (lo := w.heap.size + 1 + 1) HR.out (by omega) (HB1.out.trans (HB2.out.mono (by omega))) ?_
    repeat (first | exact Touch.refl _ _ _ | refine Touch.setCell ?_ (by simp) (by simp) _)
end

end Go.Proofs.Ytlpmocdbmnpjcaa.CatD


import Derived.Test.YtcpbhkgdeaanmaaDr7
import Derived.Test.YtcpbhkgdeaanmaaNfN
/-
  What the model's draw of a document for IsNormal comes to: some document of a bounded size in memory of its own, sometimes a normal form.
-/
set_option linter.unusedVariables false
set_option linter.unusedSimpArgs false
namespace Go.Proofs.Ytcpbhkgdeaanmaa.Dr7
open Go.RowKit P1 Draw Draw2 Draw6 Copy DrA DrB DrC CatD ParseD DrD Mut Mut2 DrI DrN Nf

theorem ch_1100 {d d' : D} {ok : Bool} {o n : Int} {t : ByteArray} {k : F} (h : chR d d' = (ok, o, n, t, k)) : t.size + k.size ≤ 1100 := by
  unfold chR at h
  split at h
  · split at h
    · rename_i hv
      injection h with h1 h2
      subst h2
      have h1 := valid_nice hv
      have h2 := nice_size k (nice_kids h1.1).2
      have h3 := nice_text (Bool.and_eq_true_iff.1 h1.1).1
      simp only at h1 h3
      omega
    · injection h with h1 h2
      unfold zeroD at h2
      injection h2 with _ h2
      injection h2 with _ h2
      injection h2 with h3 h4
      subst h3 h4
      decide
  · injection h with h1 h2
    unfold zeroD at h2
    injection h2 with _ h2
    injection h2 with _ h2
    injection h2 with h3 h4
    subst h3 h4
    decide
theorem end_dr {w w4 W : World} {o n : Int} {t : ByteArray} {k : F} {a : Option Addr} {c : Nat} {fs : List Nat} (hc : k.len ≤ c) (hsz : t.size + k.size ≤ 1100) (hs : SubAt W a k fs) (hF : Fresh (w.heap.size + 1) W fs) (hB : Below w.heap.size w W) (ht : Touch w.heap.size (w.heap.size + 1) W w4) :
    Dr7 w (.returned (.agg #[.int .i64 o, .int .i64 n, .string t, .slice a k.len c])) w4 := by
  have hfo : ∀ q ∈ fs, q < w.heap.size ∨ w.heap.size + 1 ≤ q := fun q hq => Or.inr (hF.2 q hq).1
  exact ⟨o, n, t, k, a, c, fs, rfl, hc, hsz, ht.sub hs hfo, (ht.fresh hF hfo).mono (by omega), ht.below hB (Nat.le_refl _)⟩

set_option maxRecDepth 100000 in
set_option maxHeartbeats 3200000 in
theorem drawIsNormal (w : World) (a : Option Addr) (len cap : Nat) (hb : Bytes w a len) (hlc : len ≤ cap) (hcm : cap ≤ maxLen) :
    Calls Try.prog 12 #[.slice a len cap] w (Dr7 w) := by
  have HO := Lib.hid (fun ob => l7Case (w.alloc ob) a len cap (LawC.bytes_below hb ((Below.refl _ _).alloc (Nat.le_refl _) ob)) hlc hcm)
  have HP := Lib.hid (fun (W : World) (e : Below w.heap.size w W) => l15Open W a len cap (LawC.bytes_below hb e) hlc hcm)
  clear hb hlc hcm
  go_enter Try.func12, Try.ntmps12
  go_wp2_with fail
  refine (HO.out _).mono ?_
  rintro e1 w4 ⟨o3, n3, t3, k3, a3, c3, f3, rfl, hc3, hs3, hsub3, hfr3, hb1⟩
  have hth1 := four_new hb1
  simp only [World.size_alloc] at hfr3
  have hl : w.heap.size < w4.heap.size := by have := hb1.size; simp at this; omega
  have hB4 := opened' hb1
  obtain ⟨⟨ok, o5, n5, t5, k5⟩, hR⟩ : ∃ R, Nf.noRes o3 n3 t3 k3 = R := ⟨_, rfl⟩
  have hsz5 : t5.size + k5.size ≤ 1100 := ch_1100 hR
  have hnor := fun ob => specNormalDoc (w4.alloc ob) o3 n3 t3 k3 a3 c3 f3 (((Ext.refl w4).alloc ob).sub hsub3 hfr3.lt) (fun c hc => ⟨by have := hfr3.lt c hc; simp; omega, fun x => (((Ext.refl w4).alloc ob).frozen (hfr3.lt c hc)).trans ((hfr3.2 c hc).2.2 x)⟩) hc3 (by omega)
  rw [hR] at hnor
  have HN := Lib.hid hnor
  have H3 := Lib.hid (And.intro hc3 (And.intro hs3 (And.intro hsub3 (And.intro hfr3 (And.intro hB4 hth1)))))
  clear hc3 hs3 hsub3 hfr3 hb1 hth1 hB4 hnor hR
  go_wp2_with fail
  refine (HN.out _).mono ?_
  rintro e2 w5 ⟨a5, c5, f5, rfl, hc5, hs5, hfr5, hb5⟩
  have x0 := (hb5.cell (p := ⟨w4.heap.size, 0, none⟩) (by simp)).trans (cell_new w4 _ _ 0 _ rfl)
  have x1 := (hb5.cell (p := ⟨w4.heap.size, 1, none⟩) (by simp)).trans (cell_new w4 _ _ 1 _ rfl)
  have x2 := (hb5.cell (p := ⟨w4.heap.size, 2, none⟩) (by simp)).trans (cell_new w4 _ _ 2 _ rfl)
  have x3 := (hb5.cell (p := ⟨w4.heap.size, 3, none⟩) (by simp)).trans (cell_new w4 _ _ 3 _ rfl)
  have hl5 : w4.heap.size < w5.heap.size := by have := hb5.size; simp at this; omega
  have hE5 : Ext w4 w5 := Ext.trans ((Ext.refl w4).alloc _) hb5
  obtain ⟨V, hV⟩ : ∃ V, w5.alloc (.cells #[.int .i64 o5, .int .i64 n5, .string t5, .slice a5 k5.len c5] 25) = V := ⟨_, rfl⟩
  have hEV : Ext w5 V := by rw [← hV]; exact (Ext.refl _).alloc _
  have hlV : w5.heap.size < V.heap.size := by rw [← hV]; simp
  have hY := box_new' w5 25 (.int .i64 o5) (.int .i64 n5) (.string t5) (.slice a5 k5.len c5)
  rw [hV] at hY
  -- both documents, at every later world
  have HD := Lib.hid (show ∀ W : World, Ext V W → SubAt W a3 k3 f3 ∧ Fresh (w.heap.size + 1) W f3 ∧ Below w.heap.size w W ∧ W.there w.heap.size 0 4 from fun W e => by
    have e4 : Ext w4 W := hE5.trans (hEV.trans e)
    exact ⟨e4.sub H3.out.2.2.1 H3.out.2.2.2.1.lt, e4.fresh H3.out.2.2.2.1, Below.trans H3.out.2.2.2.2.1 (Below.mono e4 H3.out.2.2.2.2.1.size), there_below H3.out.2.2.2.2.2 hl e4⟩)
  have HF := Lib.hid (show ∀ W : World, Ext V W → SubAt W a5 k5 f5 ∧ Fresh (w.heap.size + 1) W f5 from fun W e => by
    have e5 : Ext w5 W := hEV.trans e
    exact ⟨e5.sub hs5 hfr5.lt, (e5.fresh hfr5).mono (by simp; omega)⟩)
  have HX := Lib.hid (show ∀ W : World, Ext V W → (W.cell? ⟨w4.heap.size, 0, none⟩ = some (.int .i64 o3) ∧ W.cell? ⟨w4.heap.size, 1, none⟩ = some (.int .i64 n3) ∧ W.cell? ⟨w4.heap.size, 2, none⟩ = some (.string t3) ∧ W.cell? ⟨w4.heap.size, 3, none⟩ = some (.slice a3 k3.len c3)) ∧ W.cell? ⟨w5.heap.size, 0, none⟩ = some (.int .i64 o5) ∧ W.cell? ⟨w5.heap.size, 1, none⟩ = some (.int .i64 n5) ∧ W.cell? ⟨w5.heap.size, 2, none⟩ = some (.string t5) ∧ W.cell? ⟨w5.heap.size, 3, none⟩ = some (.slice a5 k5.len c5) from fun W e =>
    ⟨box4 ⟨x0, x1, x2, x3⟩ hl5 (hEV.trans e), box4 hY hlV e⟩)
  have HC := Lib.hid (And.intro H3.out.1 (And.intro H3.out.2.1 (And.intro hc5 hsz5)))
  have hlw : w.heap.size < V.heap.size := by omega
  have HL := Lib.hid (And.intro hlw (And.intro hl5 hlV))
  clear hc5 hs5 hfr5 hb5 x0 x1 x2 x3 hY hE5 hEV H3 hsz5
  cases ok with
  | false =>
    obtain ⟨⟨x0, x1, x2, x3⟩, _⟩ := HX.out V (Ext.refl V)
    obtain ⟨hsub, hfr, hB, hth⟩ := HD.out V (Ext.refl V)
    obtain ⟨⟨u0, u1, u2, u3, y0, y1, y2, y3⟩, z0, z1, z2, z3⟩ := there_at hth
    have HE := Lib.hid (And.intro hsub (And.intro hfr hB))
    clear hsub hfr hB hth
    go_wp2_with fail
    try rw [hV]
    clear hV
    refine bodyPost_ret (v := .agg #[.int .i64 o3, .int .i64 n3, .string t3, .slice a3 k3.len c3]) (by simp [results, Try.results12, go_sem, y0, y1, y2, y3, hlw]) rfl ?_
    refine end_dr HC.out.1 HC.out.2.1 HE.out.1 HE.out.2.1 HE.out.2.2 ?_
    refine Touch.setCell (Touch.setCell (Touch.setCell (Touch.setCell (Touch.refl _ _ _) ?_ ?_ _) ?_ ?_ _) ?_ ?_ _) ?_ ?_ _ <;> simp
  | true =>
    have HPV := Lib.hid (HP.out V (HD.out V (Ext.refl V)).2.2.1)
    go_wp2_with fail
    try rw [hV]
    clear hV
    refine HPV.out.mono ?_
    rintro e6 w6 ⟨rfl, hrd6, hlt6, hb6⟩
    have HK := Lib.hid (pick w6 V.heap.size V.heap.size 0 2 hrd6 (by omega))
    have HE6 := Lib.hid (show Ext V w6 from hb6)
    clear hrd6 hb6
    go_wp2_with fail
    refine HK.out.mono ?_
    rintro e7 w7 ⟨r, rfl, hr0, hr8, hrd7, hbut7⟩
    have hE7 : Ext V w7 := Below.trans HE6.out (hbut7.below HE6.out.size (Nat.le_refl _))
    obtain ⟨⟨x0, x1, x2, x3⟩, v0, v1, v2, v3⟩ := HX.out w7 hE7
    obtain ⟨hsub, hfr, hB, hth⟩ := HD.out w7 hE7
    obtain ⟨hsub5, hfr5⟩ := HF.out w7 hE7
    obtain ⟨⟨u0, u1, u2, u3, y0, y1, y2, y3⟩, z0, z1, z2, z3⟩ := there_at hth
    have hl7 : w.heap.size < w7.heap.size := Nat.lt_of_lt_of_le HL.out.1 hE7.size
    have HE := Lib.hid (And.intro hsub (And.intro hfr (And.intro hB (And.intro hsub5 hfr5))))
    clear hsub hfr hB hth hsub5 hfr5 hrd7 hbut7 hE7
    by_cases hr : r = 0
    · subst hr
      go_wp2_with fail
      refine bodyPost_ret (v := .agg #[.int .i64 o5, .int .i64 n5, .string t5, .slice a5 k5.len c5]) (by simp [results, Try.results12, go_sem, y0, y1, y2, y3, hl7]) rfl ?_
      refine end_dr HC.out.2.2.1 HC.out.2.2.2 HE.out.2.2.2.1 HE.out.2.2.2.2 HE.out.2.2.1 ?_
      refine Touch.setCell (Touch.setCell (Touch.setCell (Touch.setCell (Touch.refl _ _ _) ?_ ?_ _) ?_ ?_ _) ?_ ?_ _) ?_ ?_ _ <;> simp
    · have hr1 : (r == 0) = false := by rw [beq_eq_false_iff_ne]; exact hr
      go_wp2_with fail
      refine bodyPost_ret (v := .agg #[.int .i64 o3, .int .i64 n3, .string t3, .slice a3 k3.len c3]) (by simp [results, Try.results12, go_sem, y0, y1, y2, y3, hl7]) rfl ?_
      refine end_dr HC.out.1 HC.out.2.1 HE.out.1 HE.out.2.1 HE.out.2.2.1 ?_
      refine Touch.setCell (Touch.setCell (Touch.setCell (Touch.setCell (Touch.refl _ _ _) ?_ ?_ _) ?_ ?_ _) ?_ ?_ _) ?_ ?_ _ <;> simp

end Go.Proofs.Ytcpbhkgdeaanmaa.Dr7


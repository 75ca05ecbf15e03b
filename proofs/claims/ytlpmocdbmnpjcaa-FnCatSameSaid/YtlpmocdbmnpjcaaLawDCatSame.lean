import Derived.Test.YtlpmocdbmnpjcaaDrS
import Derived.Test.YtlpmocdbmnpjcaaCatI
import Derived.Test.YtlpmocdbmnpjcaaDocK
import Derived.Test.YtlpmocdbmnpjcaaDrZ
import Derived.Test.YtlpmocdbmnpjcaaFacts
import Derived.Test.YtlpmocdbmnpjcaaRows
import Derived.Deep.RegionHeld3
import Derived.Deep.DeepCutAuto
import Derived.Deep.RegionWith
/-
  Joined documents are the same exactly if their parts are: the law FnCatSame returns true for whatever draws, and its arguments read as they did. No condition of ours.
-/
set_option linter.unusedVariables false
set_option linter.unusedSimpArgs false
namespace Go.Proofs.Ytlpmocdbmnpjcaa.lawCatSame
open Go.ChangeShapes Go.WideShapes Go.ChangeAt Go.RowKit P1 Draw6 LawC CntC DocK

/-- a document's variable -/
def Bx (w : World) (b : Nat) (u0 u1 u2 u3 : Value) : Prop := (w.cell? ⟨b, 0, none⟩ = some u0 ∧ w.cell? ⟨b, 1, none⟩ = some u1 ∧ w.cell? ⟨b, 2, none⟩ = some u2 ∧ w.cell? ⟨b, 3, none⟩ = some u3) ∧ b < w.heap.size
theorem Bx.ext {w w' : World} {b : Nat} {u0 u1 u2 u3 : Value} (h : Bx w b u0 u1 u2 u3) (k : Ext w w') : Bx w' b u0 u1 u2 u3 := ⟨box4 h.1 h.2 k, Nat.lt_of_lt_of_le h.2 k.size⟩
theorem bx_one (w : World) {w' : World} {u0 u1 u2 u3 : Value} {T : TypeId} (k : Ext (w.alloc (.cells #[u0, u1, u2, u3] T)) w') : Bx w' w.heap.size u0 u1 u2 u3 :=
  Bx.ext ⟨box_new w _ _ _ _ _, by simp⟩ k
theorem bx_first (w : World) {w' : World} {u0 u1 u2 u3 : Value} {T : TypeId} {o : Obj} (k : Ext ((w.alloc (.cells #[u0, u1, u2, u3] T)).alloc o) w') : Bx w' w.heap.size u0 u1 u2 u3 :=
  bx_one w (((Ext.refl _).alloc o).trans k)
theorem bx_next (w : World) {w' : World} {u0 u1 u2 u3 : Value} {T : TypeId} {o : Obj} (k : Ext ((w.alloc o).alloc (.cells #[u0, u1, u2, u3] T)) w') : Bx w' (w.heap.size + 1) u0 u1 u2 u3 := by
  have h := bx_one (w.alloc o) k
  simpa using h
theorem cat_no {K : F} (h : validD 7 0 ⟨#[]⟩ K = false) : CatD.catR K = (false, CatD.zeroD) := by rw [CatD.catR, if_neg (by simp [h])]
theorem cat_yes {K : F} (h : validD 7 0 ⟨#[]⟩ K = true) : CatD.catR K = (true, (7, 0, ⟨#[]⟩, K)) := by rw [CatD.catR, if_pos h]

theorem keep6 {w w' : World} {b0 b1 b2 b3 b4 b5 : Nat} {u00 u01 u02 u03 u10 u11 u12 u13 u20 u21 u22 u23 u30 u31 u32 u33 u40 u41 u42 u43 u50 u51 u52 u53 : Value} (h : Bx w b0 u00 u01 u02 u03 ∧ Bx w b1 u10 u11 u12 u13 ∧ Bx w b2 u20 u21 u22 u23 ∧ Bx w b3 u30 u31 u32 u33 ∧ Bx w b4 u40 u41 u42 u43 ∧ Bx w b5 u50 u51 u52 u53) (k : Ext w w') :
    w'.cell? ⟨b0, 0, none⟩ = some u00 ∧ w'.cell? ⟨b0, 1, none⟩ = some u01 ∧ w'.cell? ⟨b0, 2, none⟩ = some u02 ∧ w'.cell? ⟨b0, 3, none⟩ = some u03 ∧ w'.cell? ⟨b1, 0, none⟩ = some u10 ∧ w'.cell? ⟨b1, 1, none⟩ = some u11 ∧ w'.cell? ⟨b1, 2, none⟩ = some u12 ∧ w'.cell? ⟨b1, 3, none⟩ = some u13 ∧ w'.cell? ⟨b2, 0, none⟩ = some u20 ∧ w'.cell? ⟨b2, 1, none⟩ = some u21 ∧ w'.cell? ⟨b2, 2, none⟩ = some u22 ∧ w'.cell? ⟨b2, 3, none⟩ = some u23 ∧ w'.cell? ⟨b3, 0, none⟩ = some u30 ∧ w'.cell? ⟨b3, 1, none⟩ = some u31 ∧ w'.cell? ⟨b3, 2, none⟩ = some u32 ∧ w'.cell? ⟨b3, 3, none⟩ = some u33 ∧ w'.cell? ⟨b4, 0, none⟩ = some u40 ∧ w'.cell? ⟨b4, 1, none⟩ = some u41 ∧ w'.cell? ⟨b4, 2, none⟩ = some u42 ∧ w'.cell? ⟨b4, 3, none⟩ = some u43 ∧ w'.cell? ⟨b5, 0, none⟩ = some u50 ∧ w'.cell? ⟨b5, 1, none⟩ = some u51 ∧ w'.cell? ⟨b5, 2, none⟩ = some u52 ∧ w'.cell? ⟨b5, 3, none⟩ = some u53 := by
  obtain ⟨h0, h1, h2, h3, h4, h5⟩ := h
  obtain ⟨⟨a0, a1, a2, a3⟩, _⟩ := h0.ext k
  obtain ⟨⟨c0, c1, c2, c3⟩, _⟩ := h1.ext k
  obtain ⟨⟨d0, d1, d2, d3⟩, _⟩ := h2.ext k
  obtain ⟨⟨e0, e1, e2, e3⟩, _⟩ := h3.ext k
  obtain ⟨⟨f0, f1, f2, f3⟩, _⟩ := h4.ext k
  obtain ⟨⟨g0, g1, g2, g3⟩, _⟩ := h5.ext k
  exact ⟨a0, a1, a2, a3, c0, c1, c2, c3, d0, d1, d2, d3, e0, e1, e2, e3, f0, f1, f2, f3, g0, g1, g2, g3⟩

set_option maxRecDepth 100000 in
set_option maxHeartbeats 6400000 in
theorem walk_good (w : World) (a0 : Option Addr) (len0 cap0 : Nat) (hb0 : Bytes w a0 len0) (hlc0 : len0 ≤ cap0) (hcm0 : cap0 ≤ maxLen) (hl0 : len0 ≤ 1048576) (b0 : Option Addr) (lenB capB : Nat) (hbB : Bytes w b0 lenB) (hlcB : lenB ≤ capB) (hcmB : capB ≤ maxLen) (hlB : lenB ≤ 1048576) :
    Calls Try.prog 4 #[.slice a0 len0 cap0, .slice b0 lenB capB] w fun e w' => e = .returned (.bool true) ∧ Ext w w' := by
  have HD0 := Lib.hid (DrJ.drawCatDocs w a0 len0 cap0 hb0 hlc0 hcm0)
  have HD1 := Lib.hid (show ∀ W, Ext w W → Calls Try.prog 24 #[.slice b0 lenB capB] W (DrJ.TwoDraw W) from fun W e => DrS.drawDocSame W b0 lenB capB (LawC.bytes_below hbB e) hlcB hcmB)
  clear hb0 hbB
  unfold maxLen at hcm0 hcmB
  go_enter Try.func4, Try.ntmps4
  go_wp2_with fail
  refine HD0.out.mono ?_
  rintro e1 w1 ⟨o, n, t, k, a, cap, fs, o', n', t', k', a', cap', fs', rfl, hc, hc', hsz, hsz', hsub, hsub', hfr, hfr', hb1⟩
  have D1 := Lib.hid (show DocK.Doc0 w1 n t k a cap fs from ⟨hsub, fun c hc => (hfr.2 c hc).2, hc, by omega⟩)
  have D1' := Lib.hid (show DocK.Doc0 w1 n' t' k' a' cap' fs' from ⟨hsub', fun c hc => (hfr'.2 c hc).2, hc', by omega⟩)
  have E1 := Lib.hid (show Ext w w1 from hb1)
  obtain ⟨K, hK⟩ : ∃ K, F.cons o n t k (.cons o' n' t' k' .nil) = K := ⟨_, rfl⟩
  have hKs : K.size ≤ 3000 := by rw [← hK]; simp only [F.size]; omega
  have hKl : K.len = 2 := by rw [← hK]; rfl
  have HCI := Lib.hid (show ∀ W, Ext w1 W → Calls Try.prog 18 #[.agg #[.int .i64 o, .int .i64 n, .string t, .slice a k.len cap], .agg #[.int .i64 o', .int .i64 n', .string t', .slice a' k'.len cap']] W (CatD.DocRes W (CatD.catR K)) from fun W e => by
    have h := D1.out.ext e
    have h' := D1'.out.ext e
    rw [← hK]; exact CatD.implCatDocs W o n t k a cap fs o' n' t' k' a' cap' fs' h.sub h'.sub h.lt h'.lt h.cap_le h'.cap_le (by rw [hK]; omega))
  have HCS := Lib.hid (show ∀ W, Ext w1 W → Calls Try.prog 19 #[.agg #[.int .i64 o, .int .i64 n, .string t, .slice a k.len cap], .agg #[.int .i64 o', .int .i64 n', .string t', .slice a' k'.len cap']] W (CatD.DocRes W (CatD.catR K)) from fun W e => by
    have h := D1.out.ext e
    have h' := D1'.out.ext e
    rw [← hK]; exact CatD.specCatDocs W o n t k a cap fs o' n' t' k' a' cap' fs' h.sub h'.sub h.lt h'.lt h.cap_le h'.cap_le (by rw [hK]; omega))
  have HK := Lib.hid (And.intro hK (And.intro hKs hKl))
  clear hsub hfr hb1 hsub' hfr' hc hc' hsz hsz' hK hKs hKl
  go_wp2_with fail
  refine (HD1.out _ ((E1.out.alloc _).alloc _)).mono ?_
  rintro e2 w2 ⟨oC, nC, tC, kC, aC, cC, fC, oD, nD, tD, kD, aD, cD, fD, rfl, hcC, hcD, hszC, hszD, hsubC, hsubD, hfrC, hfrD, hb2⟩
  have D2 := Lib.hid (show DocK.Doc0 w2 nC tC kC aC cC fC from ⟨hsubC, fun c hc => (hfrC.2 c hc).2, hcC, by omega⟩)
  have D2' := Lib.hid (show DocK.Doc0 w2 nD tD kD aD cD fD from ⟨hsubD, fun c hc => (hfrD.2 c hc).2, hcD, by omega⟩)
  have E2 := Lib.hid (show Ext w1 w2 from (((Ext.refl w1).alloc _).alloc _).trans hb2)
  have XA2 := Lib.hid (bx_first w1 hb2)
  have XB2 := Lib.hid (bx_next w1 hb2)
  obtain ⟨K2, hK2⟩ : ∃ K2, F.cons oC nC tC kC (.cons oD nD tD kD .nil) = K2 := ⟨_, rfl⟩
  have hK2s : K2.size ≤ 3000 := by rw [← hK2]; simp only [F.size]; omega
  have hK2l : K2.len = 2 := by rw [← hK2]; rfl
  have HC2 := Lib.hid (show ∀ W, Ext w2 W → Calls Try.prog 18 #[.agg #[.int .i64 oC, .int .i64 nC, .string tC, .slice aC kC.len cC], .agg #[.int .i64 oD, .int .i64 nD, .string tD, .slice aD kD.len cD]] W (CatD.DocRes W (CatD.catR K2)) from fun W e => by
    have h := D2.out.ext e
    have h' := D2'.out.ext e
    rw [← hK2]; exact CatD.implCatDocs W oC nC tC kC aC cC fC oD nD tD kD aD cD fD h.sub h'.sub h.lt h'.lt h.cap_le h'.cap_le (by rw [hK2]; omega))
  have HK2 := Lib.hid (And.intro hK2 (And.intro hK2s hK2l))
  clear hsubC hfrC hsubD hfrD hcC hcD hszC hszD hK2 hK2s hK2l hb2
  obtain ⟨⟨x0, x1, x2, x3⟩, lx⟩ := XA2.out
  obtain ⟨⟨y0, y1, y2, y3⟩, ly⟩ := XB2.out
  cases hv : validD 7 0 ⟨#[]⟩ K with
  | false =>
    rw [cat_no hv] at HCI HCS
    clear hv
    go_wp2_with fail
    refine (HCI.out _ ((E2.out.alloc _).alloc _)).mono ?_
    rintro e3 w3 ⟨pa, pc, pf, rfl, hcp, hsp, hfp, hb3⟩
    simp only [CatD.zeroD] at hcp hsp
    have B3 := Lib.hid (show Ext w2 w3 from (((Ext.refl w2).alloc _).alloc _).trans hb3)
    have P3 := Lib.hid (show DocK.Doc0 w3 0 ⟨#[]⟩ .nil pa pc pf from ⟨hsp, fun c hc => (hfp.2 c hc).2, hcp, by decide⟩)
    have XC3 := Lib.hid (bx_first w2 hb3)
    have XD3 := Lib.hid (bx_next w2 hb3)
    have XA3 := Lib.hid (XA2.out.ext B3.out)
    have XB3 := Lib.hid (XB2.out.ext B3.out)
    have E3 := Lib.hid (E2.out.trans B3.out)
    clear hcp hsp hfp hb3 x0 x1 x2 x3 y0 y1 y2 y3 lx ly
    obtain ⟨⟨x0, x1, x2, x3⟩, lx⟩ := XA3.out
    obtain ⟨⟨y0, y1, y2, y3⟩, ly⟩ := XB3.out
    simp only [CatD.zeroD]
    go_wp2_with fail
    refine (HCS.out _ (E3.out.alloc _)).mono ?_
    rintro e4 w4 ⟨qa, qc, qf, rfl, hcp, hsp, hfp, hb4⟩
    simp only [CatD.zeroD] at hcp hsp
    have B4 := Lib.hid (show Ext w3 w4 from ((Ext.refl w3).alloc _).trans hb4)
    have P4 := Lib.hid (show DocK.Doc0 w4 0 ⟨#[]⟩ .nil qa qc qf from ⟨hsp, fun c hc => (hfp.2 c hc).2, hcp, by decide⟩)
    have XX4 := Lib.hid (bx_one w3 hb4)
    have E4 := Lib.hid (E3.out.trans B4.out)
    clear hcp hsp hfp hb4 x0 x1 x2 x3 y0 y1 y2 y3 lx ly
    obtain ⟨⟨x0, x1, x2, x3⟩, lx⟩ := XX4.out
    have HS := Lib.hid (show ∀ (W : World), Ext w4 W → Calls Try.prog 20 #[.agg #[.int .i64 0, .int .i64 0, .string ⟨#[]⟩, .slice pa F.nil.len pc], .agg #[.int .i64 0, .int .i64 0, .string ⟨#[]⟩, .slice qa F.nil.len qc]] W (fun e w' => e = .returned (.bool true) ∧ Ext W w') from fun W e => by
      have h := ((P3.out.ext B4.out).ext e).implDocSame (o' := 0) (P4.out.ext e) 0
      rw [show sameD 0 0 ⟨#[]⟩ .nil 0 0 ⟨#[]⟩ .nil = true from by rw [sameD_yes, F.same_self]] at h; exact h)
    try simp only [CatD.zeroD]
    go_wp2_with fail
    refine (HS.out _ ((Ext.refl _).alloc _)).mono ?_
    rintro e5 w5 ⟨rfl, hb5⟩
    have B5 := Lib.hid (show Ext w4 w5 from ((Ext.refl w4).alloc _).trans hb5)
    have XW5 := Lib.hid (bx_one w4 hb5)
    have XX5 := Lib.hid (XX4.out.ext B5.out)
    have E5 := Lib.hid (E4.out.trans B5.out)
    clear hb5 x0 x1 x2 x3 lx
    obtain ⟨⟨x0, x1, x2, x3⟩, lx⟩ := XX5.out
    obtain ⟨⟨y0, y1, y2, y3⟩, ly⟩ := XW5.out
    go_wp2_with fail
    refine (HS.out _ B5.out).mono ?_
    rintro e6 w6 ⟨rfl, hb6⟩
    have B6 := Lib.hid hb6
    clear hb6 x0 x1 x2 x3 y0 y1 y2 y3 lx ly
    go_wp2_with fail
    go_ret
    exact ⟨by first | rfl | simp, E1.out.trans (E5.out.trans B6.out)⟩
  | true =>
    rw [cat_yes hv] at HCI HCS
    clear hv
    go_wp2_with fail
    refine (HCI.out _ ((E2.out.alloc _).alloc _)).mono ?_
    rintro e3 w3 ⟨pa, pc, pf, rfl, hcp, hsp, hfp, hb3⟩
    have B3 := Lib.hid (show Ext w2 w3 from (((Ext.refl w2).alloc _).alloc _).trans hb3)
    have P3 := Lib.hid (show DocK.Doc0 w3 0 ⟨#[]⟩ K pa pc pf from ⟨hsp, fun c hc => (hfp.2 c hc).2, hcp, by have := HK.out.2.1; show 0 + K.size ≤ _; omega⟩)
    have XC3 := Lib.hid (bx_first w2 hb3)
    have XD3 := Lib.hid (bx_next w2 hb3)
    have XA3 := Lib.hid (XA2.out.ext B3.out)
    have XB3 := Lib.hid (XB2.out.ext B3.out)
    have E3 := Lib.hid (E2.out.trans B3.out)
    clear hcp hsp hfp hb3 x0 x1 x2 x3 y0 y1 y2 y3 lx ly
    obtain ⟨⟨x0, x1, x2, x3⟩, lx⟩ := XA3.out
    obtain ⟨⟨y0, y1, y2, y3⟩, ly⟩ := XB3.out
    go_wp2_with fail
    refine (HCS.out _ (E3.out.alloc _)).mono ?_
    rintro e4 w4 ⟨qa, qc, qf, rfl, hcp, hsp, hfp, hb4⟩
    have B4 := Lib.hid (show Ext w3 w4 from ((Ext.refl w3).alloc _).trans hb4)
    have P4 := Lib.hid (show DocK.Doc0 w4 0 ⟨#[]⟩ K qa qc qf from ⟨hsp, fun c hc => (hfp.2 c hc).2, hcp, by have := HK.out.2.1; show 0 + K.size ≤ _; omega⟩)
    have XX4 := Lib.hid (bx_one w3 hb4)
    have E4 := Lib.hid (E3.out.trans B4.out)
    clear hcp hsp hfp hb4 x0 x1 x2 x3 y0 y1 y2 y3 lx ly
    obtain ⟨⟨x0, x1, x2, x3⟩, lx⟩ := XX4.out
    have HS := Lib.hid (show ∀ (W : World), Ext w4 W → Calls Try.prog 20 #[.agg #[.int .i64 7, .int .i64 0, .string ⟨#[]⟩, .slice pa K.len pc], .agg #[.int .i64 7, .int .i64 0, .string ⟨#[]⟩, .slice qa K.len qc]] W (fun e w' => e = .returned (.bool true) ∧ Ext W w') from fun W e => by
      have h := ((P3.out.ext B4.out).ext e).implDocSame (o' := 7) (P4.out.ext e) 7
      rw [show sameD 7 0 ⟨#[]⟩ K 7 0 ⟨#[]⟩ K = true from by rw [sameD_yes, F.same_self]] at h; exact h)
    go_wp2_with fail
    refine (HS.out _ ((Ext.refl _).alloc _)).mono ?_
    rintro e5 w5 ⟨rfl, hb5⟩
    have B5 := Lib.hid (show Ext w4 w5 from ((Ext.refl w4).alloc _).trans hb5)
    have XW5 := Lib.hid (bx_one w4 hb5)
    have XX5 := Lib.hid (XX4.out.ext B5.out)
    have E5 := Lib.hid (E4.out.trans B5.out)
    clear hb5 x0 x1 x2 x3 lx
    obtain ⟨⟨x0, x1, x2, x3⟩, lx⟩ := XX5.out
    have XC5 := Lib.hid ((XC3.out.ext B4.out).ext B5.out)
    have XD5 := Lib.hid ((XD3.out.ext B4.out).ext B5.out)
    have XA5 := Lib.hid ((XA3.out.ext B4.out).ext B5.out)
    have XB5 := Lib.hid ((XB3.out.ext B4.out).ext B5.out)
    have S5 := Lib.hid (show Ext w2 w5 from (B3.out.trans B4.out).trans B5.out)
    clear x0 x1 x2 x3 lx
    obtain ⟨⟨x0, x1, x2, x3⟩, lx⟩ := XC5.out
    obtain ⟨⟨y0, y1, y2, y3⟩, ly⟩ := XD5.out
    cases hv2 : validD 7 0 ⟨#[]⟩ K2 with
    | false =>
      rw [cat_no hv2] at HC2
      go_wp2_with fail
      refine (HC2.out _ S5.out).mono ?_
      rintro e6 w6 ⟨ya, yc, yf, rfl, hcp, hsp, hfp, hb6⟩
      have B6 := Lib.hid (show Ext w5 w6 from hb6)
      have XX6 := Lib.hid (XX5.out.ext B6.out)
      clear hcp hsp hfp hb6 x0 x1 x2 x3 y0 y1 y2 y3 lx ly
      go_wp2_with fail
      refine wp_region_held_drew (S := (fun _ => True)) (by kernel_rfl) ?_ (fun hHeld => ?_)
      · exact trivial
      refine wpAnyH_take (i := 0) (oi := { dst := some 72, op := Op.move (Operand.tmp 14), type := 4, pos := "laws.go:113", after := #[], guard := none }) (v := ?_) rfl (by kernel_rfl) (by kernel_rfl) (by kernel_rfl) (fun _ _ _ h => h) (Or.inl ⟨by rfl, ?_⟩) (by assumption) ?_
      rotate_left
      · (intro w hSw; (try dsimp only at hSw); (go_simp <;> with_reducible rfl))
      try simp only [Act.put, List.setIfInBounds_toArray, List.set_cons_zero, List.set_cons_succ]
      refine wpAnyH_take (i := 1) (oi := { dst := some 73, op := Op.unOp UnOp.not 4 (Operand.tmp 72), type := 4, pos := "laws.go:113", after := #[{ on := 0, ground := Ground.data }], guard := none }) (v := ?_) rfl (by kernel_rfl) (by kernel_rfl) (by kernel_rfl) (fun _ _ _ h => h) (Or.inl ⟨by rfl, ?_⟩) (by assumption) ?_
      rotate_left
      · (intro w hSw; (try dsimp only at hSw); (go_simp <;> with_reducible rfl))
      try simp only [Act.put, List.setIfInBounds_toArray, List.set_cons_zero, List.set_cons_succ]
      refine wpAnyH_take (i := 2) (oi := { dst := some 74, op := Op.move (Operand.tmp 73), type := 4, pos := "laws.go:113", after := #[{ on := 1, ground := Ground.data }], guard := none }) (v := ?_) rfl (by kernel_rfl) (by kernel_rfl) (by kernel_rfl) (fun _ _ _ h => h) (Or.inl ⟨by rfl, ?_⟩) (by assumption) ?_
      rotate_left
      · (intro w hSw; (try dsimp only at hSw); (go_simp <;> with_reducible rfl))
      try simp only [Act.put, List.setIfInBounds_toArray, List.set_cons_zero, List.set_cons_succ]
      refine wpAnyH_take (i := 3) (oi := { dst := some 75, op := Op.load 25 (Operand.tmp 9), type := 25, pos := "laws.go:113", after := #[{ on := 2, ground := Ground.guard }], guard := some (2, false) }) (v := undef) rfl (by kernel_rfl) (by kernel_rfl) (by kernel_rfl) (fun _ _ _ h => h) (Or.inr ⟨by rfl, rfl⟩) (by assumption) ?_
      try simp only [Act.put, List.setIfInBounds_toArray, List.set_cons_zero, List.set_cons_succ]
      refine wpAnyH_take (i := 4) (oi := { dst := some 76, op := Op.load 25 (Operand.tmp 13), type := 25, pos := "laws.go:113", after := #[{ on := 2, ground := Ground.guard }], guard := some (2, false) }) (v := undef) rfl (by kernel_rfl) (by kernel_rfl) (by kernel_rfl) (fun _ _ _ h => h) (Or.inr ⟨by rfl, rfl⟩) (by assumption) ?_
      try simp only [Act.put, List.setIfInBounds_toArray, List.set_cons_zero, List.set_cons_succ]
      refine wpAnyH_take (i := 5) (oi := { dst := some 77, op := Op.call { callee := Callee.value (Operand.func 20), args := #[Operand.tmp 75, Operand.tmp 76], argTypes := #[25, 25] }, type := 4, pos := "laws.go:113", after := #[{ on := 3, ground := Ground.data }, { on := 4, ground := Ground.data }, { on := 2, ground := Ground.chain }, { on := 2, ground := Ground.guard }], guard := some (2, false) }) (v := undef) rfl (by kernel_rfl) (by kernel_rfl) (by kernel_rfl) (fun _ _ _ h => h) (Or.inr ⟨by rfl, rfl⟩) (by assumption) ?_
      try simp only [Act.put, List.setIfInBounds_toArray, List.set_cons_zero, List.set_cons_succ]
      refine wpAnyH_take (i := 6) (oi := { dst := some 78, op := Op.load 25 (Operand.tmp 5), type := 25, pos := "laws.go:113", after := #[{ on := 2, ground := Ground.guard }], guard := some (2, false) }) (v := undef) rfl (by kernel_rfl) (by kernel_rfl) (by kernel_rfl) (fun _ _ _ h => h) (Or.inr ⟨by rfl, rfl⟩) (by assumption) ?_
      try simp only [Act.put, List.setIfInBounds_toArray, List.set_cons_zero, List.set_cons_succ]
      refine wpAnyH_take (i := 7) (oi := { dst := some 79, op := Op.load 25 (Operand.tmp 7), type := 25, pos := "laws.go:113", after := #[{ on := 2, ground := Ground.guard }], guard := some (2, false) }) (v := undef) rfl (by kernel_rfl) (by kernel_rfl) (by kernel_rfl) (fun _ _ _ h => h) (Or.inr ⟨by rfl, rfl⟩) (by assumption) ?_
      try simp only [Act.put, List.setIfInBounds_toArray, List.set_cons_zero, List.set_cons_succ]
      refine wpAnyH_take (i := 8) (oi := { dst := some 80, op := Op.call { callee := Callee.value (Operand.func 20), args := #[Operand.tmp 78, Operand.tmp 79], argTypes := #[25, 25] }, type := 4, pos := "laws.go:113", after := #[{ on := 6, ground := Ground.data }, { on := 7, ground := Ground.data }, { on := 5, ground := Ground.chain }, { on := 2, ground := Ground.guard }], guard := some (2, false) }) (v := undef) rfl (by kernel_rfl) (by kernel_rfl) (by kernel_rfl) (fun _ _ _ h => h) (Or.inr ⟨by rfl, rfl⟩) (by assumption) ?_
      try simp only [Act.put, List.setIfInBounds_toArray, List.set_cons_zero, List.set_cons_succ]
      refine wpAnyH_take (i := 9) (oi := { dst := some 81, op := Op.move (Operand.tmp 80), type := 4, pos := "laws.go:113", after := #[{ on := 8, ground := Ground.data }, { on := 8, ground := Ground.chain }, { on := 2, ground := Ground.guard }], guard := some (2, false) }) (v := undef) rfl (by kernel_rfl) (by kernel_rfl) (by kernel_rfl) (fun _ _ _ h => h) (Or.inr ⟨by rfl, rfl⟩) (by assumption) ?_
      try simp only [Act.put, List.setIfInBounds_toArray, List.set_cons_zero, List.set_cons_succ]
      refine wpAnyH_take (i := 10) (oi := { dst := some 82, op := Op.load 25 (Operand.tmp 6), type := 25, pos := "laws.go:113", after := #[{ on := 9, ground := Ground.guard }], guard := some (9, true) }) (v := undef) rfl (by kernel_rfl) (by kernel_rfl) (by kernel_rfl) (fun _ _ _ h => h) (Or.inr ⟨by rfl, rfl⟩) (by assumption) ?_
      try simp only [Act.put, List.setIfInBounds_toArray, List.set_cons_zero, List.set_cons_succ]
      refine wpAnyH_take (i := 11) (oi := { dst := some 83, op := Op.load 25 (Operand.tmp 8), type := 25, pos := "laws.go:113", after := #[{ on := 9, ground := Ground.guard }], guard := some (9, true) }) (v := undef) rfl (by kernel_rfl) (by kernel_rfl) (by kernel_rfl) (fun _ _ _ h => h) (Or.inr ⟨by rfl, rfl⟩) (by assumption) ?_
      try simp only [Act.put, List.setIfInBounds_toArray, List.set_cons_zero, List.set_cons_succ]
      refine wpAnyH_take (i := 12) (oi := { dst := some 84, op := Op.call { callee := Callee.value (Operand.func 20), args := #[Operand.tmp 82, Operand.tmp 83], argTypes := #[25, 25] }, type := 4, pos := "laws.go:113", after := #[{ on := 10, ground := Ground.data }, { on := 11, ground := Ground.data }, { on := 9, ground := Ground.chain }, { on := 9, ground := Ground.guard }], guard := some (9, true) }) (v := undef) rfl (by kernel_rfl) (by kernel_rfl) (by kernel_rfl) (fun _ _ _ h => h) (Or.inr ⟨by rfl, rfl⟩) (by assumption) ?_
      try simp only [Act.put, List.setIfInBounds_toArray, List.set_cons_zero, List.set_cons_succ]
      refine wpAnyH_take (i := 13) (oi := { dst := some 85, op := Op.pick (Operand.tmp 81) (Operand.tmp 84) (Operand.const (Value.bool false)), type := 4, pos := "laws.go:113", after := #[{ on := 9, ground := Ground.data }, { on := 12, ground := Ground.data }, { on := 2, ground := Ground.guard }], guard := some (2, false) }) (v := undef) rfl (by kernel_rfl) (by kernel_rfl) (by kernel_rfl) (fun _ _ _ h => h) (Or.inr ⟨by rfl, rfl⟩) (by assumption) ?_
      try simp only [Act.put, List.setIfInBounds_toArray, List.set_cons_zero, List.set_cons_succ]
      refine wpAnyH_take (i := 14) (oi := { dst := some 86, op := Op.binOp BinOp.eql 4 (Operand.tmp 77) (Operand.tmp 85) 4, type := 4, pos := "laws.go:113", after := #[{ on := 5, ground := Ground.data }, { on := 13, ground := Ground.data }, { on := 2, ground := Ground.guard }], guard := some (2, false) }) (v := undef) rfl (by kernel_rfl) (by kernel_rfl) (by kernel_rfl) (fun _ _ _ h => h) (Or.inr ⟨by rfl, rfl⟩) (by assumption) ?_
      try simp only [Act.put, List.setIfInBounds_toArray, List.set_cons_zero, List.set_cons_succ]
      refine wpAnyH_take (i := 15) (oi := { dst := some 87, op := Op.pick (Operand.tmp 74) (Operand.const (Value.bool true)) (Operand.tmp 86), type := 4, pos := "laws.go:113", after := #[{ on := 2, ground := Ground.data }, { on := 14, ground := Ground.data }], guard := none }) (v := ?_) rfl (by kernel_rfl) (by kernel_rfl) (by kernel_rfl) (fun _ _ _ h => h) (Or.inl ⟨by rfl, ?_⟩) (by assumption) ?_
      rotate_left
      · (intro w hSw; (try dsimp only at hSw); (go_simp <;> with_reducible rfl))
      try simp only [Act.put, List.setIfInBounds_toArray, List.set_cons_zero, List.set_cons_succ]
      refine wpAnyH_take (i := 16) (oi := { dst := some 4, op := Op.assign (Operand.tmp 87), type := 4, pos := "laws.go:113", after := #[{ on := 15, ground := Ground.data }, { on := 12, ground := Ground.chain }, { on := 0, ground := Ground.phase }, { on := 1, ground := Ground.phase }, { on := 2, ground := Ground.phase }, { on := 3, ground := Ground.phase }, { on := 4, ground := Ground.phase }, { on := 5, ground := Ground.phase }, { on := 6, ground := Ground.phase }, { on := 7, ground := Ground.phase }, { on := 8, ground := Ground.phase }, { on := 9, ground := Ground.phase }, { on := 10, ground := Ground.phase }, { on := 11, ground := Ground.phase }, { on := 12, ground := Ground.phase }, { on := 13, ground := Ground.phase }, { on := 14, ground := Ground.phase }, { on := 15, ground := Ground.phase }], guard := none }) (v := ?_) rfl (by kernel_rfl) (by kernel_rfl) (by kernel_rfl) (fun _ _ _ h => h) (Or.inl ⟨by rfl, ?_⟩) (by assumption) ?_
      rotate_left
      · (intro w hSw; (try dsimp only at hSw); (go_simp <;> with_reducible rfl))
      try simp only [Act.put, List.setIfInBounds_toArray, List.set_cons_zero, List.set_cons_succ]
      refine wpAnyH_done (by kernel_rfl) ?_ _
      go_wp2_with fail
      go_ret
      exact ⟨by first | rfl | simp, E1.out.trans (E5.out.trans ((B6.out.alloc _).drew))⟩
    | true =>
      rw [cat_yes hv2] at HC2
      go_wp2_with fail
      refine (HC2.out _ S5.out).mono ?_
      rintro e6 w6 ⟨ya, yc, yf, rfl, hcp, hsp, hfp, hb6⟩
      have B6 := Lib.hid (show Ext w5 w6 from hb6)
      have P6 := Lib.hid (show DocK.Doc0 w6 0 ⟨#[]⟩ K2 ya yc yf from ⟨hsp, fun c hc => (hfp.2 c hc).2, hcp, by have := HK2.out.2.1; show 0 + K2.size ≤ _; omega⟩)
      have XS6 := Lib.hid (And.intro (XX5.out.ext B6.out) (And.intro (XA5.out.ext B6.out) (And.intro (XB5.out.ext B6.out) (And.intro (XC5.out.ext B6.out) (XD5.out.ext B6.out)))))
      clear hcp hsp hfp hb6 x0 x1 x2 x3 y0 y1 y2 y3 lx ly
      go_wp2_with fail
      obtain ⟨V, hV⟩ : ∃ V, w6.alloc (.cells #[.int .i64 7, .int .i64 0, .string ⟨#[]⟩, .slice ya K2.len yc] 25) = V := ⟨_, rfl⟩
      have XY := Lib.hid (show Bx V w6.heap.size (.int .i64 7) (.int .i64 0) (.string ⟨#[]⟩) (.slice ya K2.len yc) from by rw [← hV]; exact bx_one w6 (Ext.refl _))
      have E7 := Lib.hid (show Ext w6 V from by rw [← hV]; exact (Ext.refl _).alloc _)
      try rw [hV]
      clear hV
      have BX := Lib.hid (And.intro (XS6.out.1.ext E7.out) (And.intro (XS6.out.2.1.ext E7.out) (And.intro (XS6.out.2.2.1.ext E7.out) (And.intro (XS6.out.2.2.2.1.ext E7.out) (And.intro (XS6.out.2.2.2.2.ext E7.out) XY.out)))))
      obtain ⟨R1, hR1⟩ : ∃ R, sameD o n t k oC nC tC kC = R := ⟨_, rfl⟩
      obtain ⟨R2, hR2⟩ : ∃ R, sameD o' n' t' k' oD nD tD kD = R := ⟨_, rfl⟩
      have hR : sameD 7 0 ⟨#[]⟩ K 7 0 ⟨#[]⟩ K2 = (R1 && R2) := by
        rw [← HK.out.1, ← HK2.out.1, sameD_yes, same_cons, same_cons, hR1, hR2]; simp [F.same]
      have HXY := Lib.hid (show ∀ W, Ext V W → Calls Try.prog 20 #[.agg #[.int .i64 7, .int .i64 0, .string ⟨#[]⟩, .slice pa K.len pc], .agg #[.int .i64 7, .int .i64 0, .string ⟨#[]⟩, .slice ya K2.len yc]] W (fun e w' => e = .returned (.bool (R1 && R2)) ∧ Ext W w') from fun W e => by
        have h := ((P3.out.ext (B4.out.trans (B5.out.trans (B6.out.trans E7.out)))).ext e).implDocSame (o' := 7) ((P6.out.ext E7.out).ext e) 7
        rw [hR] at h; exact h)
      have HAC := Lib.hid (show ∀ W, Ext V W → Calls Try.prog 20 #[.agg #[.int .i64 o, .int .i64 n, .string t, .slice a k.len cap], .agg #[.int .i64 oC, .int .i64 nC, .string tC, .slice aC kC.len cC]] W (fun e w' => e = .returned (.bool R1) ∧ Ext W w') from fun W e => by
        have h := ((D1.out.ext (E5.out.trans (B6.out.trans E7.out))).ext e).implDocSame (o' := oC) ((D2.out.ext (S5.out.trans (B6.out.trans E7.out))).ext e) o
        rw [hR1] at h; exact h)
      have HBD := Lib.hid (show ∀ W, Ext V W → Calls Try.prog 20 #[.agg #[.int .i64 o', .int .i64 n', .string t', .slice a' k'.len cap'], .agg #[.int .i64 oD, .int .i64 nD, .string tD, .slice aD kD.len cD]] W (fun e w' => e = .returned (.bool R2) ∧ Ext W w') from fun W e => by
        have h := ((D1'.out.ext (E5.out.trans (B6.out.trans E7.out))).ext e).implDocSame (o' := oD) ((D2'.out.ext (S5.out.trans (B6.out.trans E7.out))).ext e) o'
        rw [hR2] at h; exact h)
      clear hR hR1 hR2
      cases R1 with
      | false =>
        simp only [Bool.false_and] at HXY
        refine wp_region_held_drew (S := (fun w' => w'.cell? ⟨w3.heap.size, 0, none⟩ = some (.int .i64 7) ∧ w'.cell? ⟨w3.heap.size, 1, none⟩ = some (.int .i64 0) ∧ w'.cell? ⟨w3.heap.size, 2, none⟩ = some (.string ⟨#[]⟩) ∧ w'.cell? ⟨w3.heap.size, 3, none⟩ = some (.slice pa K.len pc) ∧ w'.cell? ⟨w1.heap.size, 0, none⟩ = some (.int .i64 o) ∧ w'.cell? ⟨w1.heap.size, 1, none⟩ = some (.int .i64 n) ∧ w'.cell? ⟨w1.heap.size, 2, none⟩ = some (.string t) ∧ w'.cell? ⟨w1.heap.size, 3, none⟩ = some (.slice a k.len cap) ∧ w'.cell? ⟨w1.heap.size + 1, 0, none⟩ = some (.int .i64 o') ∧ w'.cell? ⟨w1.heap.size + 1, 1, none⟩ = some (.int .i64 n') ∧ w'.cell? ⟨w1.heap.size + 1, 2, none⟩ = some (.string t') ∧ w'.cell? ⟨w1.heap.size + 1, 3, none⟩ = some (.slice a' k'.len cap') ∧ w'.cell? ⟨w2.heap.size, 0, none⟩ = some (.int .i64 oC) ∧ w'.cell? ⟨w2.heap.size, 1, none⟩ = some (.int .i64 nC) ∧ w'.cell? ⟨w2.heap.size, 2, none⟩ = some (.string tC) ∧ w'.cell? ⟨w2.heap.size, 3, none⟩ = some (.slice aC kC.len cC) ∧ w'.cell? ⟨w2.heap.size + 1, 0, none⟩ = some (.int .i64 oD) ∧ w'.cell? ⟨w2.heap.size + 1, 1, none⟩ = some (.int .i64 nD) ∧ w'.cell? ⟨w2.heap.size + 1, 2, none⟩ = some (.string tD) ∧ w'.cell? ⟨w2.heap.size + 1, 3, none⟩ = some (.slice aD kD.len cD) ∧ w'.cell? ⟨w6.heap.size, 0, none⟩ = some (.int .i64 7) ∧ w'.cell? ⟨w6.heap.size, 1, none⟩ = some (.int .i64 0) ∧ w'.cell? ⟨w6.heap.size, 2, none⟩ = some (.string ⟨#[]⟩) ∧ w'.cell? ⟨w6.heap.size, 3, none⟩ = some (.slice ya K2.len yc))) (by kernel_rfl) ?_ (fun hHeld => ?_)
        · exact keep6 BX.out ((Ext.refl V).drew)
        refine wpAnyH_take (i := 0) (oi := { dst := some 72, op := Op.move (Operand.tmp 14), type := 4, pos := "laws.go:113", after := #[], guard := none }) (v := ?_) rfl (by kernel_rfl) (by kernel_rfl) (by kernel_rfl) (fun _ _ _ h => h) (Or.inl ⟨by rfl, ?_⟩) (by assumption) ?_
        rotate_left
        · (intro w hSw; (try dsimp only at hSw); (go_simp <;> with_reducible rfl))
        try simp only [Act.put, List.setIfInBounds_toArray, List.set_cons_zero, List.set_cons_succ]
        refine wpAnyH_take (i := 1) (oi := { dst := some 73, op := Op.unOp UnOp.not 4 (Operand.tmp 72), type := 4, pos := "laws.go:113", after := #[{ on := 0, ground := Ground.data }], guard := none }) (v := ?_) rfl (by kernel_rfl) (by kernel_rfl) (by kernel_rfl) (fun _ _ _ h => h) (Or.inl ⟨by rfl, ?_⟩) (by assumption) ?_
        rotate_left
        · (intro w hSw; (try dsimp only at hSw); (go_simp <;> with_reducible rfl))
        try simp only [Act.put, List.setIfInBounds_toArray, List.set_cons_zero, List.set_cons_succ]
        refine wpAnyH_take (i := 2) (oi := { dst := some 74, op := Op.move (Operand.tmp 73), type := 4, pos := "laws.go:113", after := #[{ on := 1, ground := Ground.data }], guard := none }) (v := ?_) rfl (by kernel_rfl) (by kernel_rfl) (by kernel_rfl) (fun _ _ _ h => h) (Or.inl ⟨by rfl, ?_⟩) (by assumption) ?_
        rotate_left
        · (intro w hSw; (try dsimp only at hSw); (go_simp <;> with_reducible rfl))
        try simp only [Act.put, List.setIfInBounds_toArray, List.set_cons_zero, List.set_cons_succ]
        refine wpAnyH_take (i := 3) (oi := { dst := some 75, op := Op.load 25 (Operand.tmp 9), type := 25, pos := "laws.go:113", after := #[{ on := 2, ground := Ground.guard }], guard := some (2, false) }) (v := ?_) rfl (by kernel_rfl) (by kernel_rfl) (by kernel_rfl) (fun _ _ _ h => h) (Or.inl ⟨by rfl, ?_⟩) (by assumption) ?_
        rotate_left
        · (intro w hSw; (try dsimp only at hSw); (go_simp <;> with_reducible rfl))
        try simp only [Act.put, List.setIfInBounds_toArray, List.set_cons_zero, List.set_cons_succ]
        refine wpAnyH_take (i := 4) (oi := { dst := some 76, op := Op.load 25 (Operand.tmp 13), type := 25, pos := "laws.go:113", after := #[{ on := 2, ground := Ground.guard }], guard := some (2, false) }) (v := ?_) rfl (by kernel_rfl) (by kernel_rfl) (by kernel_rfl) (fun _ _ _ h => h) (Or.inl ⟨by rfl, ?_⟩) (by assumption) ?_
        rotate_left
        · (intro w hSw; (try dsimp only at hSw); (go_simp <;> with_reducible rfl))
        try simp only [Act.put, List.setIfInBounds_toArray, List.set_cons_zero, List.set_cons_succ]
        refine wpAnyH_take (i := 6) (oi := { dst := some 78, op := Op.load 25 (Operand.tmp 5), type := 25, pos := "laws.go:113", after := #[{ on := 2, ground := Ground.guard }], guard := some (2, false) }) (v := ?_) rfl (by kernel_rfl) (by kernel_rfl) (by kernel_rfl) (fun _ _ _ h => h) (Or.inl ⟨by rfl, ?_⟩) (by assumption) ?_
        rotate_left
        · (intro w hSw; (try dsimp only at hSw); (go_simp <;> with_reducible rfl))
        try simp only [Act.put, List.setIfInBounds_toArray, List.set_cons_zero, List.set_cons_succ]
        refine wpAnyH_take (i := 7) (oi := { dst := some 79, op := Op.load 25 (Operand.tmp 7), type := 25, pos := "laws.go:113", after := #[{ on := 2, ground := Ground.guard }], guard := some (2, false) }) (v := ?_) rfl (by kernel_rfl) (by kernel_rfl) (by kernel_rfl) (fun _ _ _ h => h) (Or.inl ⟨by rfl, ?_⟩) (by assumption) ?_
        rotate_left
        · (intro w hSw; (try dsimp only at hSw); (go_simp <;> with_reducible rfl))
        try simp only [Act.put, List.setIfInBounds_toArray, List.set_cons_zero, List.set_cons_succ]
        refine wpAnyH_ready (rs := [5]) (by kernel_rfl) (by simp) ?_
        refine AllReadyH.cons (o := { dst := some 77, op := Op.call { callee := Callee.value (Operand.func 20), args := #[Operand.tmp 75, Operand.tmp 76], argTypes := #[25, 25] }, type := 4, pos := "laws.go:113", after := #[{ on := 3, ground := Ground.data }, { on := 4, ground := Ground.data }, { on := 2, ground := Ground.chain }, { on := 2, ground := Ground.guard }], guard := some (2, false) }) rfl (fun K hK => ?_) AllReadyH.nil
        go_simp
        go_at_call 20
        refine (HXY.out _ ((Ext.refl V).drew)).mono ?_
        rintro e7 v0 ⟨rfl, hb_0⟩
        have q0 : Ext V v0 := Ext.trans ((Ext.refl V).drew) hb_0
        try go_wp2_with fail
        refine hK.out _ _ ?_ (fun hHeld5 => ?_)
        · exact keep6 BX.out q0
        clear hK K hHeld
        try simp only [Act.put, List.setIfInBounds_toArray, List.set_cons_zero, List.set_cons_succ]
        refine wpAnyH_ready (rs := [8]) (by kernel_rfl) (by simp) ?_
        refine AllReadyH.cons (o := { dst := some 80, op := Op.call { callee := Callee.value (Operand.func 20), args := #[Operand.tmp 78, Operand.tmp 79], argTypes := #[25, 25] }, type := 4, pos := "laws.go:113", after := #[{ on := 6, ground := Ground.data }, { on := 7, ground := Ground.data }, { on := 5, ground := Ground.chain }, { on := 2, ground := Ground.guard }], guard := some (2, false) }) rfl (fun K hK => ?_) AllReadyH.nil
        go_simp
        go_at_call 20
        refine (HAC.out _ q0).mono ?_
        rintro e7 v1 ⟨rfl, hb_1⟩
        have q1 : Ext V v1 := Ext.trans q0 hb_1
        try go_wp2_with fail
        refine hK.out _ _ ?_ (fun hHeld8 => ?_)
        · exact keep6 BX.out q1
        clear hK K hHeld5
        try simp only [Act.put, List.setIfInBounds_toArray, List.set_cons_zero, List.set_cons_succ]
        refine wpAnyH_take (i := 9) (oi := { dst := some 81, op := Op.move (Operand.tmp 80), type := 4, pos := "laws.go:113", after := #[{ on := 8, ground := Ground.data }, { on := 8, ground := Ground.chain }, { on := 2, ground := Ground.guard }], guard := some (2, false) }) (v := ?_) rfl (by kernel_rfl) (by kernel_rfl) (by kernel_rfl) (fun _ _ _ h => h) (Or.inl ⟨by rfl, ?_⟩) (by assumption) ?_
        rotate_left
        · (intro w hSw; (try dsimp only at hSw); (go_simp <;> with_reducible rfl))
        try simp only [Act.put, List.setIfInBounds_toArray, List.set_cons_zero, List.set_cons_succ]
        refine wpAnyH_take (i := 10) (oi := { dst := some 82, op := Op.load 25 (Operand.tmp 6), type := 25, pos := "laws.go:113", after := #[{ on := 9, ground := Ground.guard }], guard := some (9, true) }) (v := undef) rfl (by kernel_rfl) (by kernel_rfl) (by kernel_rfl) (fun _ _ _ h => h) (Or.inr ⟨by rfl, rfl⟩) (by assumption) ?_
        try simp only [Act.put, List.setIfInBounds_toArray, List.set_cons_zero, List.set_cons_succ]
        refine wpAnyH_take (i := 11) (oi := { dst := some 83, op := Op.load 25 (Operand.tmp 8), type := 25, pos := "laws.go:113", after := #[{ on := 9, ground := Ground.guard }], guard := some (9, true) }) (v := undef) rfl (by kernel_rfl) (by kernel_rfl) (by kernel_rfl) (fun _ _ _ h => h) (Or.inr ⟨by rfl, rfl⟩) (by assumption) ?_
        try simp only [Act.put, List.setIfInBounds_toArray, List.set_cons_zero, List.set_cons_succ]
        refine wpAnyH_take (i := 12) (oi := { dst := some 84, op := Op.call { callee := Callee.value (Operand.func 20), args := #[Operand.tmp 82, Operand.tmp 83], argTypes := #[25, 25] }, type := 4, pos := "laws.go:113", after := #[{ on := 10, ground := Ground.data }, { on := 11, ground := Ground.data }, { on := 9, ground := Ground.chain }, { on := 9, ground := Ground.guard }], guard := some (9, true) }) (v := undef) rfl (by kernel_rfl) (by kernel_rfl) (by kernel_rfl) (fun _ _ _ h => h) (Or.inr ⟨by rfl, rfl⟩) (by assumption) ?_
        try simp only [Act.put, List.setIfInBounds_toArray, List.set_cons_zero, List.set_cons_succ]
        refine wpAnyH_take (i := 13) (oi := { dst := some 85, op := Op.pick (Operand.tmp 81) (Operand.tmp 84) (Operand.const (Value.bool false)), type := 4, pos := "laws.go:113", after := #[{ on := 9, ground := Ground.data }, { on := 12, ground := Ground.data }, { on := 2, ground := Ground.guard }], guard := some (2, false) }) (v := ?_) rfl (by kernel_rfl) (by kernel_rfl) (by kernel_rfl) (fun _ _ _ h => h) (Or.inl ⟨by rfl, ?_⟩) (by assumption) ?_
        rotate_left
        · (intro w hSw; (try dsimp only at hSw); (go_simp <;> with_reducible rfl))
        try simp only [Act.put, List.setIfInBounds_toArray, List.set_cons_zero, List.set_cons_succ]
        refine wpAnyH_take (i := 14) (oi := { dst := some 86, op := Op.binOp BinOp.eql 4 (Operand.tmp 77) (Operand.tmp 85) 4, type := 4, pos := "laws.go:113", after := #[{ on := 5, ground := Ground.data }, { on := 13, ground := Ground.data }, { on := 2, ground := Ground.guard }], guard := some (2, false) }) (v := ?_) rfl (by kernel_rfl) (by kernel_rfl) (by kernel_rfl) (fun _ _ _ h => h) (Or.inl ⟨by rfl, ?_⟩) (by assumption) ?_
        rotate_left
        · (intro w hSw; (try dsimp only at hSw); (go_simp <;> with_reducible rfl))
        try simp only [Act.put, List.setIfInBounds_toArray, List.set_cons_zero, List.set_cons_succ]
        refine wpAnyH_take (i := 15) (oi := { dst := some 87, op := Op.pick (Operand.tmp 74) (Operand.const (Value.bool true)) (Operand.tmp 86), type := 4, pos := "laws.go:113", after := #[{ on := 2, ground := Ground.data }, { on := 14, ground := Ground.data }], guard := none }) (v := ?_) rfl (by kernel_rfl) (by kernel_rfl) (by kernel_rfl) (fun _ _ _ h => h) (Or.inl ⟨by rfl, ?_⟩) (by assumption) ?_
        rotate_left
        · (intro w hSw; (try dsimp only at hSw); (go_simp <;> with_reducible rfl))
        try simp only [Act.put, List.setIfInBounds_toArray, List.set_cons_zero, List.set_cons_succ]
        refine wpAnyH_take (i := 16) (oi := { dst := some 4, op := Op.assign (Operand.tmp 87), type := 4, pos := "laws.go:113", after := #[{ on := 15, ground := Ground.data }, { on := 12, ground := Ground.chain }, { on := 0, ground := Ground.phase }, { on := 1, ground := Ground.phase }, { on := 2, ground := Ground.phase }, { on := 3, ground := Ground.phase }, { on := 4, ground := Ground.phase }, { on := 5, ground := Ground.phase }, { on := 6, ground := Ground.phase }, { on := 7, ground := Ground.phase }, { on := 8, ground := Ground.phase }, { on := 9, ground := Ground.phase }, { on := 10, ground := Ground.phase }, { on := 11, ground := Ground.phase }, { on := 12, ground := Ground.phase }, { on := 13, ground := Ground.phase }, { on := 14, ground := Ground.phase }, { on := 15, ground := Ground.phase }], guard := none }) (v := ?_) rfl (by kernel_rfl) (by kernel_rfl) (by kernel_rfl) (fun _ _ _ h => h) (Or.inl ⟨by rfl, ?_⟩) (by assumption) ?_
        rotate_left
        · (intro w hSw; (try dsimp only at hSw); (go_simp <;> with_reducible rfl))
        try simp only [Act.put, List.setIfInBounds_toArray, List.set_cons_zero, List.set_cons_succ]
        refine wpAnyH_done (by kernel_rfl) ?_ _
        go_wp2_with fail
        go_ret
        exact ⟨by first | rfl | simp, E1.out.trans (E5.out.trans (B6.out.trans (E7.out.trans q1)))⟩
      | true =>
        have hRR : (R2 == R2) = true := by simp
        simp only [Bool.true_and] at HXY
        refine wp_region_held_drew (S := (fun w' => w'.cell? ⟨w3.heap.size, 0, none⟩ = some (.int .i64 7) ∧ w'.cell? ⟨w3.heap.size, 1, none⟩ = some (.int .i64 0) ∧ w'.cell? ⟨w3.heap.size, 2, none⟩ = some (.string ⟨#[]⟩) ∧ w'.cell? ⟨w3.heap.size, 3, none⟩ = some (.slice pa K.len pc) ∧ w'.cell? ⟨w1.heap.size, 0, none⟩ = some (.int .i64 o) ∧ w'.cell? ⟨w1.heap.size, 1, none⟩ = some (.int .i64 n) ∧ w'.cell? ⟨w1.heap.size, 2, none⟩ = some (.string t) ∧ w'.cell? ⟨w1.heap.size, 3, none⟩ = some (.slice a k.len cap) ∧ w'.cell? ⟨w1.heap.size + 1, 0, none⟩ = some (.int .i64 o') ∧ w'.cell? ⟨w1.heap.size + 1, 1, none⟩ = some (.int .i64 n') ∧ w'.cell? ⟨w1.heap.size + 1, 2, none⟩ = some (.string t') ∧ w'.cell? ⟨w1.heap.size + 1, 3, none⟩ = some (.slice a' k'.len cap') ∧ w'.cell? ⟨w2.heap.size, 0, none⟩ = some (.int .i64 oC) ∧ w'.cell? ⟨w2.heap.size, 1, none⟩ = some (.int .i64 nC) ∧ w'.cell? ⟨w2.heap.size, 2, none⟩ = some (.string tC) ∧ w'.cell? ⟨w2.heap.size, 3, none⟩ = some (.slice aC kC.len cC) ∧ w'.cell? ⟨w2.heap.size + 1, 0, none⟩ = some (.int .i64 oD) ∧ w'.cell? ⟨w2.heap.size + 1, 1, none⟩ = some (.int .i64 nD) ∧ w'.cell? ⟨w2.heap.size + 1, 2, none⟩ = some (.string tD) ∧ w'.cell? ⟨w2.heap.size + 1, 3, none⟩ = some (.slice aD kD.len cD) ∧ w'.cell? ⟨w6.heap.size, 0, none⟩ = some (.int .i64 7) ∧ w'.cell? ⟨w6.heap.size, 1, none⟩ = some (.int .i64 0) ∧ w'.cell? ⟨w6.heap.size, 2, none⟩ = some (.string ⟨#[]⟩) ∧ w'.cell? ⟨w6.heap.size, 3, none⟩ = some (.slice ya K2.len yc))) (by kernel_rfl) ?_ (fun hHeld => ?_)
        · exact keep6 BX.out ((Ext.refl V).drew)
        refine wpAnyH_take (i := 0) (oi := { dst := some 72, op := Op.move (Operand.tmp 14), type := 4, pos := "laws.go:113", after := #[], guard := none }) (v := ?_) rfl (by kernel_rfl) (by kernel_rfl) (by kernel_rfl) (fun _ _ _ h => h) (Or.inl ⟨by rfl, ?_⟩) (by assumption) ?_
        rotate_left
        · (intro w hSw; (try dsimp only at hSw); (go_simp <;> with_reducible rfl))
        try simp only [Act.put, List.setIfInBounds_toArray, List.set_cons_zero, List.set_cons_succ]
        refine wpAnyH_take (i := 1) (oi := { dst := some 73, op := Op.unOp UnOp.not 4 (Operand.tmp 72), type := 4, pos := "laws.go:113", after := #[{ on := 0, ground := Ground.data }], guard := none }) (v := ?_) rfl (by kernel_rfl) (by kernel_rfl) (by kernel_rfl) (fun _ _ _ h => h) (Or.inl ⟨by rfl, ?_⟩) (by assumption) ?_
        rotate_left
        · (intro w hSw; (try dsimp only at hSw); (go_simp <;> with_reducible rfl))
        try simp only [Act.put, List.setIfInBounds_toArray, List.set_cons_zero, List.set_cons_succ]
        refine wpAnyH_take (i := 2) (oi := { dst := some 74, op := Op.move (Operand.tmp 73), type := 4, pos := "laws.go:113", after := #[{ on := 1, ground := Ground.data }], guard := none }) (v := ?_) rfl (by kernel_rfl) (by kernel_rfl) (by kernel_rfl) (fun _ _ _ h => h) (Or.inl ⟨by rfl, ?_⟩) (by assumption) ?_
        rotate_left
        · (intro w hSw; (try dsimp only at hSw); (go_simp <;> with_reducible rfl))
        try simp only [Act.put, List.setIfInBounds_toArray, List.set_cons_zero, List.set_cons_succ]
        refine wpAnyH_take (i := 3) (oi := { dst := some 75, op := Op.load 25 (Operand.tmp 9), type := 25, pos := "laws.go:113", after := #[{ on := 2, ground := Ground.guard }], guard := some (2, false) }) (v := ?_) rfl (by kernel_rfl) (by kernel_rfl) (by kernel_rfl) (fun _ _ _ h => h) (Or.inl ⟨by rfl, ?_⟩) (by assumption) ?_
        rotate_left
        · (intro w hSw; (try dsimp only at hSw); (go_simp <;> with_reducible rfl))
        try simp only [Act.put, List.setIfInBounds_toArray, List.set_cons_zero, List.set_cons_succ]
        refine wpAnyH_take (i := 4) (oi := { dst := some 76, op := Op.load 25 (Operand.tmp 13), type := 25, pos := "laws.go:113", after := #[{ on := 2, ground := Ground.guard }], guard := some (2, false) }) (v := ?_) rfl (by kernel_rfl) (by kernel_rfl) (by kernel_rfl) (fun _ _ _ h => h) (Or.inl ⟨by rfl, ?_⟩) (by assumption) ?_
        rotate_left
        · (intro w hSw; (try dsimp only at hSw); (go_simp <;> with_reducible rfl))
        try simp only [Act.put, List.setIfInBounds_toArray, List.set_cons_zero, List.set_cons_succ]
        refine wpAnyH_take (i := 6) (oi := { dst := some 78, op := Op.load 25 (Operand.tmp 5), type := 25, pos := "laws.go:113", after := #[{ on := 2, ground := Ground.guard }], guard := some (2, false) }) (v := ?_) rfl (by kernel_rfl) (by kernel_rfl) (by kernel_rfl) (fun _ _ _ h => h) (Or.inl ⟨by rfl, ?_⟩) (by assumption) ?_
        rotate_left
        · (intro w hSw; (try dsimp only at hSw); (go_simp <;> with_reducible rfl))
        try simp only [Act.put, List.setIfInBounds_toArray, List.set_cons_zero, List.set_cons_succ]
        refine wpAnyH_take (i := 7) (oi := { dst := some 79, op := Op.load 25 (Operand.tmp 7), type := 25, pos := "laws.go:113", after := #[{ on := 2, ground := Ground.guard }], guard := some (2, false) }) (v := ?_) rfl (by kernel_rfl) (by kernel_rfl) (by kernel_rfl) (fun _ _ _ h => h) (Or.inl ⟨by rfl, ?_⟩) (by assumption) ?_
        rotate_left
        · (intro w hSw; (try dsimp only at hSw); (go_simp <;> with_reducible rfl))
        try simp only [Act.put, List.setIfInBounds_toArray, List.set_cons_zero, List.set_cons_succ]
        refine wpAnyH_ready (rs := [5]) (by kernel_rfl) (by simp) ?_
        refine AllReadyH.cons (o := { dst := some 77, op := Op.call { callee := Callee.value (Operand.func 20), args := #[Operand.tmp 75, Operand.tmp 76], argTypes := #[25, 25] }, type := 4, pos := "laws.go:113", after := #[{ on := 3, ground := Ground.data }, { on := 4, ground := Ground.data }, { on := 2, ground := Ground.chain }, { on := 2, ground := Ground.guard }], guard := some (2, false) }) rfl (fun K hK => ?_) AllReadyH.nil
        go_simp
        go_at_call 20
        refine (HXY.out _ ((Ext.refl V).drew)).mono ?_
        rintro e7 v0 ⟨rfl, hb_0⟩
        have q0 : Ext V v0 := Ext.trans ((Ext.refl V).drew) hb_0
        try go_wp2_with fail
        refine hK.out _ _ ?_ (fun hHeld5 => ?_)
        · exact keep6 BX.out q0
        clear hK K hHeld
        try simp only [Act.put, List.setIfInBounds_toArray, List.set_cons_zero, List.set_cons_succ]
        refine wpAnyH_ready (rs := [8]) (by kernel_rfl) (by simp) ?_
        refine AllReadyH.cons (o := { dst := some 80, op := Op.call { callee := Callee.value (Operand.func 20), args := #[Operand.tmp 78, Operand.tmp 79], argTypes := #[25, 25] }, type := 4, pos := "laws.go:113", after := #[{ on := 6, ground := Ground.data }, { on := 7, ground := Ground.data }, { on := 5, ground := Ground.chain }, { on := 2, ground := Ground.guard }], guard := some (2, false) }) rfl (fun K hK => ?_) AllReadyH.nil
        go_simp
        go_at_call 20
        refine (HAC.out _ q0).mono ?_
        rintro e7 v1 ⟨rfl, hb_1⟩
        have q1 : Ext V v1 := Ext.trans q0 hb_1
        try go_wp2_with fail
        refine hK.out _ _ ?_ (fun hHeld8 => ?_)
        · exact keep6 BX.out q1
        clear hK K hHeld5
        try simp only [Act.put, List.setIfInBounds_toArray, List.set_cons_zero, List.set_cons_succ]
        refine wpAnyH_take (i := 9) (oi := { dst := some 81, op := Op.move (Operand.tmp 80), type := 4, pos := "laws.go:113", after := #[{ on := 8, ground := Ground.data }, { on := 8, ground := Ground.chain }, { on := 2, ground := Ground.guard }], guard := some (2, false) }) (v := ?_) rfl (by kernel_rfl) (by kernel_rfl) (by kernel_rfl) (fun _ _ _ h => h) (Or.inl ⟨by rfl, ?_⟩) (by assumption) ?_
        rotate_left
        · (intro w hSw; (try dsimp only at hSw); (go_simp <;> with_reducible rfl))
        try simp only [Act.put, List.setIfInBounds_toArray, List.set_cons_zero, List.set_cons_succ]
        refine wpAnyH_take (i := 10) (oi := { dst := some 82, op := Op.load 25 (Operand.tmp 6), type := 25, pos := "laws.go:113", after := #[{ on := 9, ground := Ground.guard }], guard := some (9, true) }) (v := ?_) rfl (by kernel_rfl) (by kernel_rfl) (by kernel_rfl) (fun _ _ _ h => h) (Or.inl ⟨by rfl, ?_⟩) (by assumption) ?_
        rotate_left
        · (intro w hSw; (try dsimp only at hSw); (go_simp <;> with_reducible rfl))
        try simp only [Act.put, List.setIfInBounds_toArray, List.set_cons_zero, List.set_cons_succ]
        refine wpAnyH_take (i := 11) (oi := { dst := some 83, op := Op.load 25 (Operand.tmp 8), type := 25, pos := "laws.go:113", after := #[{ on := 9, ground := Ground.guard }], guard := some (9, true) }) (v := ?_) rfl (by kernel_rfl) (by kernel_rfl) (by kernel_rfl) (fun _ _ _ h => h) (Or.inl ⟨by rfl, ?_⟩) (by assumption) ?_
        rotate_left
        · (intro w hSw; (try dsimp only at hSw); (go_simp <;> with_reducible rfl))
        try simp only [Act.put, List.setIfInBounds_toArray, List.set_cons_zero, List.set_cons_succ]
        refine wpAnyH_ready (rs := [12]) (by kernel_rfl) (by simp) ?_
        refine AllReadyH.cons (o := { dst := some 84, op := Op.call { callee := Callee.value (Operand.func 20), args := #[Operand.tmp 82, Operand.tmp 83], argTypes := #[25, 25] }, type := 4, pos := "laws.go:113", after := #[{ on := 10, ground := Ground.data }, { on := 11, ground := Ground.data }, { on := 9, ground := Ground.chain }, { on := 9, ground := Ground.guard }], guard := some (9, true) }) rfl (fun K hK => ?_) AllReadyH.nil
        go_simp
        go_at_call 20
        refine (HBD.out _ q1).mono ?_
        rintro e7 v2 ⟨rfl, hb_2⟩
        have q2 : Ext V v2 := Ext.trans q1 hb_2
        try go_wp2_with fail
        refine hK.out _ _ ?_ (fun hHeld12 => ?_)
        · exact keep6 BX.out q2
        clear hK K hHeld8
        try simp only [Act.put, List.setIfInBounds_toArray, List.set_cons_zero, List.set_cons_succ]
        refine wpAnyH_take (i := 13) (oi := { dst := some 85, op := Op.pick (Operand.tmp 81) (Operand.tmp 84) (Operand.const (Value.bool false)), type := 4, pos := "laws.go:113", after := #[{ on := 9, ground := Ground.data }, { on := 12, ground := Ground.data }, { on := 2, ground := Ground.guard }], guard := some (2, false) }) (v := ?_) rfl (by kernel_rfl) (by kernel_rfl) (by kernel_rfl) (fun _ _ _ h => h) (Or.inl ⟨by rfl, ?_⟩) (by assumption) ?_
        rotate_left
        · (intro w hSw; (try dsimp only at hSw); (go_simp <;> with_reducible rfl))
        try simp only [Act.put, List.setIfInBounds_toArray, List.set_cons_zero, List.set_cons_succ]
        refine wpAnyH_take (i := 14) (oi := { dst := some 86, op := Op.binOp BinOp.eql 4 (Operand.tmp 77) (Operand.tmp 85) 4, type := 4, pos := "laws.go:113", after := #[{ on := 5, ground := Ground.data }, { on := 13, ground := Ground.data }, { on := 2, ground := Ground.guard }], guard := some (2, false) }) (v := ?_) rfl (by kernel_rfl) (by kernel_rfl) (by kernel_rfl) (fun _ _ _ h => h) (Or.inl ⟨by rfl, ?_⟩) (by assumption) ?_
        rotate_left
        · (intro w hSw; (try dsimp only at hSw); (go_simp <;> with_reducible rfl))
        try simp only [Act.put, List.setIfInBounds_toArray, List.set_cons_zero, List.set_cons_succ]
        refine wpAnyH_take (i := 15) (oi := { dst := some 87, op := Op.pick (Operand.tmp 74) (Operand.const (Value.bool true)) (Operand.tmp 86), type := 4, pos := "laws.go:113", after := #[{ on := 2, ground := Ground.data }, { on := 14, ground := Ground.data }], guard := none }) (v := ?_) rfl (by kernel_rfl) (by kernel_rfl) (by kernel_rfl) (fun _ _ _ h => h) (Or.inl ⟨by rfl, ?_⟩) (by assumption) ?_
        rotate_left
        · (intro w hSw; (try dsimp only at hSw); (go_simp <;> with_reducible rfl))
        try simp only [Act.put, List.setIfInBounds_toArray, List.set_cons_zero, List.set_cons_succ]
        refine wpAnyH_take (i := 16) (oi := { dst := some 4, op := Op.assign (Operand.tmp 87), type := 4, pos := "laws.go:113", after := #[{ on := 15, ground := Ground.data }, { on := 12, ground := Ground.chain }, { on := 0, ground := Ground.phase }, { on := 1, ground := Ground.phase }, { on := 2, ground := Ground.phase }, { on := 3, ground := Ground.phase }, { on := 4, ground := Ground.phase }, { on := 5, ground := Ground.phase }, { on := 6, ground := Ground.phase }, { on := 7, ground := Ground.phase }, { on := 8, ground := Ground.phase }, { on := 9, ground := Ground.phase }, { on := 10, ground := Ground.phase }, { on := 11, ground := Ground.phase }, { on := 12, ground := Ground.phase }, { on := 13, ground := Ground.phase }, { on := 14, ground := Ground.phase }, { on := 15, ground := Ground.phase }], guard := none }) (v := ?_) rfl (by kernel_rfl) (by kernel_rfl) (by kernel_rfl) (fun _ _ _ h => h) (Or.inl ⟨by rfl, ?_⟩) (by assumption) ?_
        rotate_left
        · (intro w hSw; (try dsimp only at hSw); (go_simp <;> with_reducible rfl))
        try simp only [Act.put, List.setIfInBounds_toArray, List.set_cons_zero, List.set_cons_succ]
        refine wpAnyH_done (by kernel_rfl) ?_ _
        go_wp2_with fail
        go_ret
        exact ⟨by first | rfl | simp, E1.out.trans (E5.out.trans (B6.out.trans (E7.out.trans q2)))⟩


set_option maxHeartbeats 400000 in
theorem walk_big (w : World) (a0 : Option Addr) (len0 cap0 : Nat) (b0 : Option Addr) (lenB capB : Nat) (hl0 : 1048576 < len0) :
    Calls Try.prog 4 #[.slice a0 len0 cap0, .slice b0 lenB capB] w fun e w' => e = .returned (.bool true) ∧ Ext w w' := by
  have h1 : (1048576 : Int) < (len0 : Int) := by omega
  go_enter Try.func4, Try.ntmps4
  go_wp2_with fail
  go_ret
  exact ⟨rfl, Ext.refl w⟩
set_option maxHeartbeats 400000 in
theorem walk_big2 (w : World) (a0 : Option Addr) (len0 cap0 : Nat) (b0 : Option Addr) (lenB capB : Nat) (hl0 : len0 ≤ 1048576) (hlB : 1048576 < lenB) :
    Calls Try.prog 4 #[.slice a0 len0 cap0, .slice b0 lenB capB] w fun e w' => e = .returned (.bool true) ∧ Ext w w' := by
  have h0 : ¬ ((1048576 : Int) < (len0 : Int)) := by omega
  have h1 : (1048576 : Int) < (lenB : Int) := by omega
  go_enter Try.func4, Try.ntmps4
  go_wp2_with fail
  go_ret
  exact ⟨rfl, Ext.refl w⟩

theorem walk (w : World) (a0 : Option Addr) (len0 cap0 : Nat) (hb0 : Bytes w a0 len0) (hlc0 : len0 ≤ cap0) (hcm0 : cap0 ≤ maxLen) (b0 : Option Addr) (lenB capB : Nat) (hbB : Bytes w b0 lenB) (hlcB : lenB ≤ capB) (hcmB : capB ≤ maxLen) :
    Calls Try.prog 4 #[.slice a0 len0 cap0, .slice b0 lenB capB] w fun e w' => e = .returned (.bool true) ∧ Below w.heap.size w w' := by
  by_cases h : 1048576 < len0
  · exact walk_big w a0 len0 cap0 b0 lenB capB h
  · by_cases h' : 1048576 < lenB
    · exact walk_big2 w a0 len0 cap0 b0 lenB capB (by omega) h'
    · exact walk_good w a0 len0 cap0 hb0 hlc0 hcm0 (by omega) b0 lenB capB hbB hlcB hcmB (by omega)

set_option maxRecDepth 100000 in
theorem lifted (os : Os) (started : os.Started) (H : Type) (enc : TypeId × Value → H) :
    ReturnsInHanded {} Try.checked os 4 .any (Rows.fnCatSameSpec.pre6 enc Try.prog Try.f4 Rows.fnCatSameRow.domain false) (Rows.fnCatSameSpec.post enc Try.prog Try.f4 false true false false) := by
  refine returnsInHanded_of_change (C := Try.checked) Facts.own started (by kernel_rfl) Try.func4
    (ChangeSpec.witness6 (enc := enc) (C := Try.checked) false ⟨#[], #[.slice none 0 0, .slice none 0 0], []⟩ 8 (by kernel_rfl) (by kernel_rfl) (by kernel_rfl) (by kernel_rfl)) ?_
  intro W base args ds gs before hval0 hW hcnd0 _
  clear hcnd0
  have hval : ∀ (j : Nat) t v, Try.f4.params[j]? = some t → args[j]? = some v → Value.okWide Try.prog W .any base t v := hval0
  have hW' := hW
  obtain ⟨p, q, hA0, hV, rfl, hfz, hnd⟩ := hW
  have hA : DataW.TrodAll enc Try.prog W 0 (fun _ => true) true Try.f4.params.toList args.toList ds p := hA0
  rw [Try.params4] at hA hval
  obtain ⟨v0, v1, d0, d1, p0, p1, rfl, rfl, rfl, h0, h1⟩ := trodAll_two hA
  obtain ⟨rfl, rfl⟩ := trodVars_none hV
  obtain ⟨a0, len0, cap0, rfl⟩ := okWide_slice Try.underlying22 (hval 0 22 v0 rfl rfl)
  obtain ⟨b0, lenB, capB, rfl⟩ := okWide_slice Try.underlying22 (hval 1 22 v1 rfl rfl)
  clear hA0 hval0
  simp only [List.append_nil] at hW'
  have hlt : ∀ x ∈ p0 ++ p1, x.block < W.heap.size := fun x hx => by simpa using hW'.lt x hx
  obtain ⟨hb0, hlc0, hcm0⟩ := opened h0
  obtain ⟨hbB, hlcB, hcmB⟩ := opened h1
  refine (walk W a0 len0 cap0 hb0 hlc0 hcm0 b0 lenB capB hbB hlcB hcmB).mono fun e W' ⟨he, hb⟩ => ?_
  subst he
  refine ⟨_, rfl, [d0, d1], [], p0 ++ p1, [], p0 ++ p1, [], hW', trodAll_mk1 (shut_bool Try.underlying4 _), ?_, rfl, hb.frame _, fun h => by cases h⟩
  exact trodAll_mk2 (Below.trod Facts.laidOut (by kernel_rfl) (of_decide_eq_true (by kernel_rfl)) h0 hb (fun x hx => hlt x (List.mem_append_left _ hx))) (Below.trod Facts.laidOut (by kernel_rfl) (of_decide_eq_true (by kernel_rfl)) h1 hb (fun x hx => hlt x (List.mem_append_right _ hx)))

theorem named : Try.prog.funcNamed Rows.fnCatSameRow.func = some 4 := by kernel_rfl
theorem closed : joinedFacts Try.prog 4 Try.f4 Rows.fnCatSameSpec Rows.fnCatSameRow = true :=
  Facts.closed_of rfl rfl rfl rfl (h28b := rfl) (by kernel_rfl) (by kernel_rfl) (by kernel_rfl) (by kernel_rfl) (by kernel_rfl) (by kernel_rfl) (by kernel_rfl) (by kernel_rfl) (by kernel_rfl) (by kernel_rfl) (by kernel_rfl) (by kernel_rfl) (by kernel_rfl) (by kernel_rfl) (by kernel_rfl) (by kernel_rfl) (by kernel_rfl) (by kernel_rfl) (by kernel_rfl) (by kernel_rfl) (by kernel_rfl) (by kernel_rfl) (by kernel_rfl) (by kernel_rfl)
theorem instanced : Try.f4.isInstance Try.prog Rows.fnCatSameRow.origin Rows.fnCatSameRow.targs := of_decide_eq_true (by kernel_rfl)
theorem wrapped : Try.f4.isWrapper Try.prog Rows.fnCatSameRow.wrapper Rows.fnCatSameRow.mainSum := by
  unfold Func.isWrapper
  rw [if_neg (of_decide_eq_false (by kernel_rfl))]
  exact ⟨rfl, rfl⟩

theorem holds : Rows.FnCatSameSaid :=
  OpenClaim.holds_of_wide 4 Try.f4 rfl rfl rfl rfl rfl rfl rfl ⟨rfl, rfl, rfl, rfl, rfl⟩ rfl rfl rfl rfl rfl named Try.func4 closed instanced wrapped
    (fun os started H enc _ => lifted os started H enc)

end Go.Proofs.Ytlpmocdbmnpjcaa.lawCatSame


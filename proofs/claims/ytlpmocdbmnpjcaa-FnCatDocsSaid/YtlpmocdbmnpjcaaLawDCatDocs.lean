import Derived.Test.YtlpmocdbmnpjcaaDrJ
import Derived.Test.YtlpmocdbmnpjcaaCatI
import Derived.Test.YtlpmocdbmnpjcaaDocK
import Derived.Test.YtlpmocdbmnpjcaaDrZ
import Derived.Test.YtlpmocdbmnpjcaaFacts
import Derived.Test.YtlpmocdbmnpjcaaRows
import Derived.Deep.RegionHeld3
import Derived.Deep.DeepCutAuto
import Derived.Deep.RegionWith
/-
  Documents are joined: the law FnCatDocs (a draft: the walk up to the calls of CatDocs).
-/
set_option linter.unusedVariables false
set_option linter.unusedSimpArgs false
namespace Go.Proofs.Ytlpmocdbmnpjcaa.lawCatDocs
open Go.ChangeShapes Go.WideShapes Go.ChangeAt Go.RowKit P1 Draw6 LawC CntC DocK

theorem keep12 {w w' : World} {b c d : Nat} {u0 u1 u2 u3 v0 v1 v2 v3 x0 x1 x2 x3 : Value} (h : (w.cell? ⟨b, 0, none⟩ = some u0 ∧ w.cell? ⟨b, 1, none⟩ = some u1 ∧ w.cell? ⟨b, 2, none⟩ = some u2 ∧ w.cell? ⟨b, 3, none⟩ = some u3) ∧ (w.cell? ⟨c, 0, none⟩ = some v0 ∧ w.cell? ⟨c, 1, none⟩ = some v1 ∧ w.cell? ⟨c, 2, none⟩ = some v2 ∧ w.cell? ⟨c, 3, none⟩ = some v3) ∧ (w.cell? ⟨d, 0, none⟩ = some x0 ∧ w.cell? ⟨d, 1, none⟩ = some x1 ∧ w.cell? ⟨d, 2, none⟩ = some x2 ∧ w.cell? ⟨d, 3, none⟩ = some x3) ∧ b < w.heap.size ∧ c < w.heap.size ∧ d < w.heap.size) (k : Ext w w') :
    w'.cell? ⟨b, 0, none⟩ = some u0 ∧ w'.cell? ⟨b, 1, none⟩ = some u1 ∧ w'.cell? ⟨b, 2, none⟩ = some u2 ∧ w'.cell? ⟨b, 3, none⟩ = some u3 ∧ w'.cell? ⟨c, 0, none⟩ = some v0 ∧ w'.cell? ⟨c, 1, none⟩ = some v1 ∧ w'.cell? ⟨c, 2, none⟩ = some v2 ∧ w'.cell? ⟨c, 3, none⟩ = some v3 ∧ w'.cell? ⟨d, 0, none⟩ = some x0 ∧ w'.cell? ⟨d, 1, none⟩ = some x1 ∧ w'.cell? ⟨d, 2, none⟩ = some x2 ∧ w'.cell? ⟨d, 3, none⟩ = some x3 := by
  obtain ⟨h1, h2, h3, l1, l2, l3⟩ := h
  obtain ⟨a0, a1, a2, a3⟩ := box4 h1 l1 k
  obtain ⟨b0, b1, b2, b3⟩ := box4 h2 l2 k
  obtain ⟨c0, c1, c2, c3⟩ := box4 h3 l3 k
  exact ⟨a0, a1, a2, a3, b0, b1, b2, b3, c0, c1, c2, c3⟩
theorem cat_no {K : F} (h : validD 7 0 ⟨#[]⟩ K = false) : CatD.catR K = (false, CatD.zeroD) := by rw [CatD.catR, if_neg (by simp [h])]
theorem cat_yes {K : F} (h : validD 7 0 ⟨#[]⟩ K = true) : CatD.catR K = (true, (7, 0, ⟨#[]⟩, K)) := by rw [CatD.catR, if_pos h]
theorem opsD_two (op o n : Int) (t : ByteArray) (k : F) (o' n' : Int) (t' : ByteArray) (k' : F) (h : (7 == op) = false) : opsD op 7 (.cons o n t k (.cons o' n' t' k' .nil)) = opsD op o k + opsD op o' k' := by
  rw [opsD_eq, opsD_eq, opsD_eq, h]; simp only [cntF]; simp

set_option maxRecDepth 100000 in
set_option maxHeartbeats 6400000 in
theorem walk_good (w : World) (a0 : Option Addr) (len0 cap0 : Nat) (hb0 : Bytes w a0 len0) (hlc0 : len0 ≤ cap0) (hcm0 : cap0 ≤ maxLen) (hl0 : len0 ≤ 1048576) :
    Calls Try.prog 3 #[.slice a0 len0 cap0] w fun e w' => e = .returned (.bool true) ∧ Ext w w' := by
  have HD0 := Lib.hid (DrJ.drawCatDocs w a0 len0 cap0 hb0 hlc0 hcm0)
  clear hb0
  unfold maxLen at hcm0
  go_enter Try.func3, Try.ntmps3
  go_wp2_with fail
  refine HD0.out.mono ?_
  rintro e1 w1 ⟨o, n, t, k, a, cap, fs, o', n', t', k', a', cap', fs', rfl, hc, hc', hsz, hsz', hsub, hsub', hfr, hfr', hb1⟩
  have D1 := Lib.hid (show DocK.Doc0 w1 n t k a cap fs from ⟨hsub, fun c hc => (hfr.2 c hc).2, hc, by omega⟩)
  have D1' := Lib.hid (show DocK.Doc0 w1 n' t' k' a' cap' fs' from ⟨hsub', fun c hc => (hfr'.2 c hc).2, hc', by omega⟩)
  have E1 := Lib.hid (show Ext w w1 from hb1)
  obtain ⟨K, hK⟩ : ∃ K, F.cons o n t k (.cons o' n' t' k' .nil) = K := ⟨_, rfl⟩
  have hKs : K.size ≤ 3000 := by rw [← hK]; simp only [F.size]; omega
  have hKl : K.len = 2 := by rw [← hK]; rfl
  have HCI := Lib.hid (show ∀ W, Ext w1 W → Calls Try.prog 18 #[.agg #[.int .i64 o, .int .i64 n, .string t, .slice a k.len cap], .agg #[.int .i64 o', .int .i64 n', .string t', .slice a' k'.len cap']] W (CatD.DocRes W (CatD.catR K)) from fun W e => by
    have h := D1.out.ext e
    have h' := D1'.out.ext e
    rw [← hK]; exact CatD.implCatDocs W o n t k a cap fs o' n' t' k' a' cap' fs' h.sub h'.sub h.lt h'.lt h.cap_le h'.cap_le (by rw [hK]; omega))
  have HCS := Lib.hid (show ∀ W, Ext w1 W → Calls Try.prog 19 #[.agg #[.int .i64 o, .int .i64 n, .string t, .slice a k.len cap], .agg #[.int .i64 o', .int .i64 n', .string t', .slice a' k'.len cap']] W (CatD.DocRes W (CatD.catR K)) from fun W e => by
    have h := D1.out.ext e
    have h' := D1'.out.ext e
    rw [← hK]; exact CatD.specCatDocs W o n t k a cap fs o' n' t' k' a' cap' fs' h.sub h'.sub h.lt h'.lt h.cap_le h'.cap_le (by rw [hK]; omega))
  have HK := Lib.hid (And.intro hK (And.intro hKs hKl))
  clear hsub hfr hb1 hsub' hfr' hc hc' hsz hsz' hK hKs hKl
  cases hv : validD 7 0 ⟨#[]⟩ K with
  | false =>
    rw [cat_no hv] at HCI HCS
    clear hv
    go_wp2_with fail
    refine (HCI.out _ (((Ext.refl w1).alloc _).alloc _)).mono ?_
    rintro e2 w2 ⟨pa, pc, pf, rfl, hcp, hsp, hfp, hb2⟩
    have P2 := Lib.hid (show DocK.Doc0 w2 0 ⟨#[]⟩ .nil pa pc pf from ⟨hsp, fun c hc => (hfp.2 c hc).2, hcp, by decide⟩)
    have E2 := Lib.hid ((((Ext.refl w1).alloc _).alloc _).trans hb2)
    have hx : w1.heap.size + 1 < w2.heap.size := by have := hb2.size; simp at this; omega
    have hx0 : w1.heap.size < w2.heap.size := by omega
    have XA := Lib.hid (box4 (box4 (box_new w1 _ _ _ _ _) (by simp) ((Ext.refl _).alloc _)) (by simp; omega) hb2)
    have XB := Lib.hid (box4 (box_new (w1.alloc _) _ _ _ _ _) (by simp) hb2)
    simp only [World.size_alloc] at XB
    clear hcp hsp hfp hb2
    simp only [CatD.zeroD]
    obtain ⟨x0, x1, x2, x3⟩ := XA.out
    obtain ⟨y0, y1, y2, y3⟩ := XB.out
    go_wp2_with fail
    refine (HCS.out _ (E2.out.alloc _)).mono ?_
    rintro e3 w3 ⟨qa, qc, qf, rfl, hcp, hsp, hfp, hb3⟩
    have B3 := Lib.hid (show Ext w2 w3 from ((Ext.refl w2).alloc _).trans hb3)
    have P3 := Lib.hid (show DocK.Doc0 w3 0 ⟨#[]⟩ .nil qa qc qf from ⟨hsp, fun c hc => (hfp.2 c hc).2, hcp, by decide⟩)
    have XD := Lib.hid (box4 (box_new w2 _ _ _ _ _) (by simp) hb3)
    have E3 := Lib.hid (E2.out.trans B3.out)
    have L3 := Lib.hid (show w2.heap.size < w3.heap.size from by have := hb3.size; simp at this; omega)
    clear hcp hsp hfp hb3 x0 x1 x2 x3 y0 y1 y2 y3 XA XB hx hx0
    obtain ⟨x0, x1, x2, x3⟩ := XD.out
    have l3 := L3.out
    have HS := Lib.hid (show ∀ (W : World), Ext w3 W → Calls Try.prog 20 #[.agg #[.int .i64 0, .int .i64 0, .string ⟨#[]⟩, .slice pa F.nil.len pc], .agg #[.int .i64 0, .int .i64 0, .string ⟨#[]⟩, .slice qa F.nil.len qc]] W (fun e w' => e = .returned (.bool true) ∧ Ext W w') from fun W e => by
      have h := ((P2.out.ext B3.out).ext e).implDocSame (o' := 0) (P3.out.ext e) 0
      rw [show sameD 0 0 ⟨#[]⟩ .nil 0 0 ⟨#[]⟩ .nil = true from by rw [sameD_yes, F.same_self]] at h; exact h)
    go_wp2_with fail
    refine (HS.out _ ((Ext.refl _).alloc _)).mono ?_
    rintro e4 w4 ⟨rfl, hb4⟩
    have B4 := Lib.hid (show Ext w3 w4 from ((Ext.refl w3).alloc _).trans hb4)
    have E4 := Lib.hid (E3.out.trans B4.out)
    have X4 := Lib.hid (And.intro (box4 XD.out L3.out B4.out) (box4 (box_new w3 _ _ _ _ _) (by simp) hb4))
    clear hb4 x0 x1 x2 x3
    obtain ⟨⟨x0, x1, x2, x3⟩, ⟨y0, y1, y2, y3⟩⟩ := X4.out
    have l2 := Nat.lt_of_lt_of_le L3.out B4.out.size
    go_wp2_with fail
    refine (HS.out _ B4.out).mono ?_
    rintro e5 w5 ⟨rfl, hb5⟩
    have B5 := Lib.hid hb5
    clear hb5 x0 x1 x2 x3 y0 y1 y2 y3
    go_wp2_with fail
    go_ret
    exact ⟨by first | rfl | simp, E1.out.trans (E4.out.trans B5.out)⟩
  | true =>
    rw [cat_yes hv] at HCI HCS
    have HVAL := Lib.hid hv
    clear hv
    go_wp2_with fail
    refine (HCI.out _ (((Ext.refl w1).alloc _).alloc _)).mono ?_
    rintro e2 w2 ⟨pa, pc, pf, rfl, hcp, hsp, hfp, hb2⟩
    have P2 := Lib.hid (show DocK.Doc0 w2 0 ⟨#[]⟩ K pa pc pf from ⟨hsp, fun c hc => (hfp.2 c hc).2, hcp, by have := HK.out.2.1; show 0 + K.size ≤ _; omega⟩)
    have E2 := Lib.hid ((((Ext.refl w1).alloc _).alloc _).trans hb2)
    have hx : w1.heap.size + 1 < w2.heap.size := by have := hb2.size; simp at this; omega
    have XA := Lib.hid (box4 (box4 (box_new w1 _ _ _ _ _) (by simp) ((Ext.refl _).alloc _)) (by simp; omega) hb2)
    have XB := Lib.hid (box4 (box_new (w1.alloc _) _ _ _ _ _) (by simp) hb2)
    simp only [World.size_alloc] at XB
    have hx0 : w1.heap.size < w2.heap.size := by omega
    have LX := Lib.hid (And.intro hx hx0)
    clear hcp hsp hfp hb2
    obtain ⟨x0, x1, x2, x3⟩ := XA.out
    obtain ⟨y0, y1, y2, y3⟩ := XB.out
    go_wp2_with fail
    refine (HCS.out _ (E2.out.alloc _)).mono ?_
    rintro e3 w3 ⟨qa, qc, qf, rfl, hcp, hsp, hfp, hb3⟩
    have B3 := Lib.hid (show Ext w2 w3 from ((Ext.refl w2).alloc _).trans hb3)
    have P3 := Lib.hid (show DocK.Doc0 w3 0 ⟨#[]⟩ K qa qc qf from ⟨hsp, fun c hc => (hfp.2 c hc).2, hcp, by have := HK.out.2.1; show 0 + K.size ≤ _; omega⟩)
    have XD := Lib.hid (box4 (box_new w2 _ _ _ _ _) (by simp) hb3)
    have E3 := Lib.hid (E2.out.trans B3.out)
    have h23 : w2.heap.size < w3.heap.size := by have := hb3.size; simp at this; omega
    have L3 := Lib.hid h23
    clear hcp hsp hfp hb3 x0 x1 x2 x3 y0 y1 y2 y3
    obtain ⟨x0, x1, x2, x3⟩ := XD.out
    have HS := Lib.hid (fun (W : World) (e : Ext w3 W) => ((P2.out.ext B3.out).ext e).implDocSame (o' := 7) (P3.out.ext e) 7)
    go_wp2_with fail
    refine (HS.out _ ((Ext.refl _).alloc _)).mono ?_
    rw [show sameD 7 0 ⟨#[]⟩ K 7 0 ⟨#[]⟩ K = true from by rw [sameD_yes, F.same_self]]
    rintro e4 w4 ⟨rfl, hb4⟩
    have B4 := Lib.hid (show Ext w3 w4 from ((Ext.refl w3).alloc _).trans hb4)
    have E4 := Lib.hid (E3.out.trans B4.out)
    have X4 := Lib.hid (And.intro (box4 XD.out L3.out B4.out) (And.intro (box4 XA.out LX.out.2 (B3.out.trans B4.out)) (And.intro (box4 XB.out LX.out.1 (B3.out.trans B4.out)) (And.intro (Nat.lt_of_lt_of_le L3.out B4.out.size) (And.intro (Nat.lt_of_lt_of_le LX.out.2 (B3.out.trans B4.out).size) (Nat.lt_of_lt_of_le LX.out.1 (B3.out.trans B4.out).size))))))
    clear hb4 x0 x1 x2 x3 h23 hx hx0
    obtain ⟨⟨x0, x1, x2, x3⟩, ⟨y0, y1, y2, y3⟩, ⟨z0, z1, z2, z3⟩, l0, l1, l2⟩ := X4.out
    obtain ⟨P, hP⟩ : ∃ P : Nat, 1 + k.cnt = P := ⟨_, rfl⟩
    obtain ⟨Q, hQ⟩ : ∃ Q : Nat, 1 + k'.cnt = Q := ⟨_, rfl⟩
    have hZ : 1 + K.cnt = P + Q + 1 := by rw [← hP, ← hQ, ← HK.out.1]; simp only [F.cnt]; omega
    have hPb : P ≤ 3000 := by have h1 := F.cnt_le_size K; have h2 := HK.out.2.1; omega
    have hQb : Q ≤ 3000 := by have h1 := F.cnt_le_size K; have h2 := HK.out.2.1; omega
    have hva : validD o n t k = true := valid_kid (p := .nil) (by rw [F.app, HK.out.1]; exact HVAL.out)
    have hvb : validD o' n' t' k' = true := valid_kid (p := .cons o n t k .nil) (r := .nil) (by rw [F.app, F.app, HK.out.1]; exact HVAL.out)
    have hca := canD_of hva
    have hcb := canD_of hvb
    obtain ⟨Ca, hCa⟩ : ∃ Ca, canD o n t k = Ca := ⟨_, rfl⟩
    obtain ⟨Cb, hCb⟩ : ∃ Cb, canD o' n' t' k' = Cb := ⟨_, rfl⟩
    have hcd : canD 7 0 ⟨#[]⟩ K = (Ca && Cb) := by
      rw [canD_of HVAL.out, ← HK.out.1, opsD_two _ _ _ _ _ _ _ _ _ rfl, ← hCa, ← hCb, hca, hcb, Bool.eq_iff_iff]
      simp
    have HPd := Lib.hid (fun (W : World) (e : Ext w4 W) => (P2.out.ext (B3.out.trans B4.out)).ext e)
    have HVd := Lib.hid (show ∀ W, Ext w4 W → Calls Try.prog 21 #[.agg #[.int .i64 7, .int .i64 0, .string ⟨#[]⟩, .slice pa K.len pc]] W fun e w' => e = .returned (.bool true) ∧ Ext W w' from fun W e => by have h := (HPd.out W e).implDocValid 7; rw [HVAL.out] at h; exact h)
    have HZd := Lib.hid (show ∀ W, Ext w4 W → Calls Try.prog 22 #[.agg #[.int .i64 7, .int .i64 0, .string ⟨#[]⟩, .slice pa K.len pc]] W fun e w' => e = .returned (.int .i64 ((P : Int) + (Q : Int) + 1)) ∧ Ext W w' from fun W e => by have h := (HPd.out W e).implDocSize 7; rw [hZ] at h; exact h)
    have HZa := Lib.hid (show ∀ W, Ext w1 W → Calls Try.prog 22 #[.agg #[.int .i64 o, .int .i64 n, .string t, .slice a k.len cap]] W fun e w' => e = .returned (.int .i64 (P : Int)) ∧ Ext W w' from fun W e => by rw [← hP]; exact (D1.out.ext e).implDocSize o)
    have HZb := Lib.hid (show ∀ W, Ext w1 W → Calls Try.prog 22 #[.agg #[.int .i64 o', .int .i64 n', .string t', .slice a' k'.len cap']] W fun e w' => e = .returned (.int .i64 (Q : Int)) ∧ Ext W w' from fun W e => by rw [← hQ]; exact (D1'.out.ext e).implDocSize o')
    have HCd := Lib.hid (show ∀ W, Ext w4 W → Calls Try.prog 23 #[.agg #[.int .i64 7, .int .i64 0, .string ⟨#[]⟩, .slice pa K.len pc]] W fun e w' => e = .returned (.bool (Ca && Cb)) ∧ Ext W w' from fun W e => by have h := (HPd.out W e).implCanFlatten 7; rw [hcd] at h; exact h)
    have HCa := Lib.hid (show ∀ W, Ext w1 W → Calls Try.prog 23 #[.agg #[.int .i64 o, .int .i64 n, .string t, .slice a k.len cap]] W fun e w' => e = .returned (.bool Ca) ∧ Ext W w' from fun W e => by rw [← hCa]; exact (D1.out.ext e).implCanFlatten o)
    have HCb := Lib.hid (show ∀ W, Ext w1 W → Calls Try.prog 23 #[.agg #[.int .i64 o', .int .i64 n', .string t', .slice a' k'.len cap']] W fun e w' => e = .returned (.bool Cb) ∧ Ext W w' from fun W e => by rw [← hCb]; exact (D1'.out.ext e).implCanFlatten o')
    have HF := Lib.hid (And.intro hP hQ)
    have hzz : ((P : Int) + (Q : Int) + 1 == (P : Int) + (Q : Int) + 1) = true := by simp
    have hw1 : IntKind.i64.wrap ((P : Int) + (Q : Int)) = (P : Int) + (Q : Int) := IntWalk.i64_in _ ⟨by omega, by omega⟩
    have hw2 : IntKind.i64.wrap ((P : Int) + (Q : Int) + 1) = (P : Int) + (Q : Int) + 1 := IntWalk.i64_in _ ⟨by omega, by omega⟩
    clear hP hQ hZ hva hvb hca hcb hCa hCb hcd
    cases Ca with
    | true =>
      go_wp2_with fail
      refine wp_region_held_drew (S := (fun w' => w'.cell? ⟨w2.heap.size, 0, none⟩ = some (.int .i64 7) ∧ w'.cell? ⟨w2.heap.size, 1, none⟩ = some (.int .i64 0) ∧ w'.cell? ⟨w2.heap.size, 2, none⟩ = some (.string ⟨#[]⟩) ∧ w'.cell? ⟨w2.heap.size, 3, none⟩ = some (.slice pa K.len pc) ∧ w'.cell? ⟨w1.heap.size, 0, none⟩ = some (.int .i64 o) ∧ w'.cell? ⟨w1.heap.size, 1, none⟩ = some (.int .i64 n) ∧ w'.cell? ⟨w1.heap.size, 2, none⟩ = some (.string t) ∧ w'.cell? ⟨w1.heap.size, 3, none⟩ = some (.slice a k.len cap) ∧ w'.cell? ⟨w1.heap.size + 1, 0, none⟩ = some (.int .i64 o') ∧ w'.cell? ⟨w1.heap.size + 1, 1, none⟩ = some (.int .i64 n') ∧ w'.cell? ⟨w1.heap.size + 1, 2, none⟩ = some (.string t') ∧ w'.cell? ⟨w1.heap.size + 1, 3, none⟩ = some (.slice a' k'.len cap'))) (by kernel_rfl) ?_ (fun hHeld => ?_)
      · exact keep12 X4.out ((Ext.refl w4).drew)
      refine wpAnyH_take (i := 0) (oi := { dst := some 50, op := Op.load 25 (Operand.tmp 5), type := 25, pos := "laws.go:51", after := #[], guard := none }) (v := ?_) rfl (by kernel_rfl) (by kernel_rfl) (by kernel_rfl) (fun _ _ _ h => h) (Or.inl ⟨by rfl, ?_⟩) (by assumption) ?_
      rotate_left
      · (intro w hSw; (try dsimp only at hSw); (go_simp <;> with_reducible rfl))
      try simp only [Act.put, List.setIfInBounds_toArray, List.set_cons_zero, List.set_cons_succ]
      refine wpAnyH_ready (rs := [1]) (by kernel_rfl) (by simp) ?_
      refine AllReadyH.cons (o := { dst := some 51, op := Op.call { callee := Callee.value (Operand.func 21), args := #[Operand.tmp 50], argTypes := #[25] }, type := 4, pos := "laws.go:51", after := #[{ on := 0, ground := Ground.data }], guard := none }) rfl (fun K hK => ?_) AllReadyH.nil
      go_simp
      go_at_call 21
      refine (HVd.out _ ((Ext.refl w4).drew)).mono ?_
      rintro e1 v0 ⟨rfl, hb_0⟩
      have q0 : Ext w4 v0 := Ext.trans ((Ext.refl w4).drew) hb_0
      try go_wp2_with fail
      refine hK.out _ _ ?_ (fun hHeld1 => ?_)
      · exact keep12 X4.out q0
      clear hK K hHeld
      try simp only [Act.put, List.setIfInBounds_toArray, List.set_cons_zero, List.set_cons_succ]
      refine wpAnyH_take (i := 2) (oi := { dst := some 52, op := Op.move (Operand.tmp 51), type := 4, pos := "laws.go:51", after := #[{ on := 1, ground := Ground.data }, { on := 1, ground := Ground.chain }], guard := none }) (v := ?_) rfl (by kernel_rfl) (by kernel_rfl) (by kernel_rfl) (fun _ _ _ h => h) (Or.inl ⟨by rfl, ?_⟩) (by assumption) ?_
      rotate_left
      · (intro w hSw; (try dsimp only at hSw); (go_simp <;> with_reducible rfl))
      try simp only [Act.put, List.setIfInBounds_toArray, List.set_cons_zero, List.set_cons_succ]
      refine wpAnyH_take (i := 3) (oi := { dst := some 53, op := Op.load 25 (Operand.tmp 5), type := 25, pos := "laws.go:51", after := #[{ on := 2, ground := Ground.guard }], guard := some (2, true) }) (v := ?_) rfl (by kernel_rfl) (by kernel_rfl) (by kernel_rfl) (fun _ _ _ h => h) (Or.inl ⟨by rfl, ?_⟩) (by assumption) ?_
      rotate_left
      · (intro w hSw; (try dsimp only at hSw); (go_simp <;> with_reducible rfl))
      try simp only [Act.put, List.setIfInBounds_toArray, List.set_cons_zero, List.set_cons_succ]
      refine wpAnyH_take (i := 5) (oi := { dst := some 55, op := Op.load 25 (Operand.tmp 3), type := 25, pos := "laws.go:51", after := #[{ on := 2, ground := Ground.guard }], guard := some (2, true) }) (v := ?_) rfl (by kernel_rfl) (by kernel_rfl) (by kernel_rfl) (fun _ _ _ h => h) (Or.inl ⟨by rfl, ?_⟩) (by assumption) ?_
      rotate_left
      · (intro w hSw; (try dsimp only at hSw); (go_simp <;> with_reducible rfl))
      try simp only [Act.put, List.setIfInBounds_toArray, List.set_cons_zero, List.set_cons_succ]
      refine wpAnyH_take (i := 7) (oi := { dst := some 57, op := Op.load 25 (Operand.tmp 4), type := 25, pos := "laws.go:51", after := #[{ on := 2, ground := Ground.guard }], guard := some (2, true) }) (v := ?_) rfl (by kernel_rfl) (by kernel_rfl) (by kernel_rfl) (fun _ _ _ h => h) (Or.inl ⟨by rfl, ?_⟩) (by assumption) ?_
      rotate_left
      · (intro w hSw; (try dsimp only at hSw); (go_simp <;> with_reducible rfl))
      try simp only [Act.put, List.setIfInBounds_toArray, List.set_cons_zero, List.set_cons_succ]
      refine wpAnyH_ready (rs := [4]) (by kernel_rfl) (by simp) ?_
      refine AllReadyH.cons (o := { dst := some 54, op := Op.call { callee := Callee.value (Operand.func 22), args := #[Operand.tmp 53], argTypes := #[25] }, type := 3, pos := "laws.go:51", after := #[{ on := 3, ground := Ground.data }, { on := 2, ground := Ground.chain }, { on := 2, ground := Ground.guard }], guard := some (2, true) }) rfl (fun K hK => ?_) AllReadyH.nil
      go_simp
      go_at_call 22
      refine (HZd.out _ q0).mono ?_
      rintro e1 v1 ⟨rfl, hb_1⟩
      have q1 : Ext w4 v1 := Ext.trans q0 hb_1
      try go_wp2_with fail
      refine hK.out _ _ ?_ (fun hHeld4 => ?_)
      · exact keep12 X4.out q1
      clear hK K hHeld1
      try simp only [Act.put, List.setIfInBounds_toArray, List.set_cons_zero, List.set_cons_succ]
      refine wpAnyH_ready (rs := [6]) (by kernel_rfl) (by simp) ?_
      refine AllReadyH.cons (o := { dst := some 56, op := Op.call { callee := Callee.value (Operand.func 22), args := #[Operand.tmp 55], argTypes := #[25] }, type := 3, pos := "laws.go:51", after := #[{ on := 5, ground := Ground.data }, { on := 4, ground := Ground.chain }, { on := 2, ground := Ground.guard }], guard := some (2, true) }) rfl (fun K hK => ?_) AllReadyH.nil
      go_simp
      go_at_call 22
      refine (HZa.out _ (E4.out.trans q1)).mono ?_
      rintro e1 v2 ⟨rfl, hb_2⟩
      have q2 : Ext w4 v2 := Ext.trans q1 hb_2
      try go_wp2_with fail
      refine hK.out _ _ ?_ (fun hHeld6 => ?_)
      · exact keep12 X4.out q2
      clear hK K hHeld4
      try simp only [Act.put, List.setIfInBounds_toArray, List.set_cons_zero, List.set_cons_succ]
      refine wpAnyH_ready (rs := [8]) (by kernel_rfl) (by simp) ?_
      refine AllReadyH.cons (o := { dst := some 58, op := Op.call { callee := Callee.value (Operand.func 22), args := #[Operand.tmp 57], argTypes := #[25] }, type := 3, pos := "laws.go:51", after := #[{ on := 7, ground := Ground.data }, { on := 6, ground := Ground.chain }, { on := 2, ground := Ground.guard }], guard := some (2, true) }) rfl (fun K hK => ?_) AllReadyH.nil
      go_simp
      go_at_call 22
      refine (HZb.out _ (E4.out.trans q2)).mono ?_
      rintro e1 v3 ⟨rfl, hb_3⟩
      have q3 : Ext w4 v3 := Ext.trans q2 hb_3
      try go_wp2_with fail
      refine hK.out _ _ ?_ (fun hHeld8 => ?_)
      · exact keep12 X4.out q3
      clear hK K hHeld6
      try simp only [Act.put, List.setIfInBounds_toArray, List.set_cons_zero, List.set_cons_succ]
      refine wpAnyH_take (i := 9) (oi := { dst := some 59, op := Op.binOp BinOp.add 3 (Operand.tmp 56) (Operand.tmp 58) 3, type := 3, pos := "laws.go:51", after := #[{ on := 6, ground := Ground.data }, { on := 8, ground := Ground.data }, { on := 2, ground := Ground.guard }], guard := some (2, true) }) (v := ?_) rfl (by kernel_rfl) (by kernel_rfl) (by kernel_rfl) (fun _ _ _ h => h) (Or.inl ⟨by rfl, ?_⟩) (by assumption) ?_
      rotate_left
      · (intro w hSw; (try dsimp only at hSw); (go_simp <;> with_reducible rfl))
      try simp only [Act.put, List.setIfInBounds_toArray, List.set_cons_zero, List.set_cons_succ]
      refine wpAnyH_take (i := 10) (oi := { dst := some 60, op := Op.binOp BinOp.add 3 (Operand.tmp 59) (Operand.const (Value.int IntKind.i64 1)) 3, type := 3, pos := "laws.go:51", after := #[{ on := 9, ground := Ground.data }, { on := 2, ground := Ground.guard }], guard := some (2, true) }) (v := ?_) rfl (by kernel_rfl) (by kernel_rfl) (by kernel_rfl) (fun _ _ _ h => h) (Or.inl ⟨by rfl, ?_⟩) (by assumption) ?_
      rotate_left
      · (intro w hSw; (try dsimp only at hSw); (go_simp <;> with_reducible rfl))
      try simp only [Act.put, List.setIfInBounds_toArray, List.set_cons_zero, List.set_cons_succ]
      refine wpAnyH_take (i := 11) (oi := { dst := some 61, op := Op.binOp BinOp.eql 3 (Operand.tmp 54) (Operand.tmp 60) 3, type := 4, pos := "laws.go:51", after := #[{ on := 4, ground := Ground.data }, { on := 10, ground := Ground.data }, { on := 2, ground := Ground.guard }], guard := some (2, true) }) (v := ?_) rfl (by kernel_rfl) (by kernel_rfl) (by kernel_rfl) (fun _ _ _ h => h) (Or.inl ⟨by rfl, ?_⟩) (by assumption) ?_
      rotate_left
      · (intro w hSw; (try dsimp only at hSw); (go_simp <;> with_reducible rfl))
      try simp only [Act.put, List.setIfInBounds_toArray, List.set_cons_zero, List.set_cons_succ]
      refine wpAnyH_take (i := 12) (oi := { dst := some 62, op := Op.pick (Operand.tmp 52) (Operand.tmp 61) (Operand.const (Value.bool false)), type := 4, pos := "laws.go:51", after := #[{ on := 2, ground := Ground.data }, { on := 11, ground := Ground.data }], guard := none }) (v := ?_) rfl (by kernel_rfl) (by kernel_rfl) (by kernel_rfl) (fun _ _ _ h => h) (Or.inl ⟨by rfl, ?_⟩) (by assumption) ?_
      rotate_left
      · (intro w hSw; (try dsimp only at hSw); (go_simp <;> with_reducible rfl))
      try simp only [Act.put, List.setIfInBounds_toArray, List.set_cons_zero, List.set_cons_succ]
      refine wpAnyH_take (i := 13) (oi := { dst := some 63, op := Op.move (Operand.tmp 62), type := 4, pos := "laws.go:51", after := #[{ on := 12, ground := Ground.data }, { on := 8, ground := Ground.chain }], guard := none }) (v := ?_) rfl (by kernel_rfl) (by kernel_rfl) (by kernel_rfl) (fun _ _ _ h => h) (Or.inl ⟨by rfl, ?_⟩) (by assumption) ?_
      rotate_left
      · (intro w hSw; (try dsimp only at hSw); (go_simp <;> with_reducible rfl))
      try simp only [Act.put, List.setIfInBounds_toArray, List.set_cons_zero, List.set_cons_succ]
      refine wpAnyH_take (i := 14) (oi := { dst := some 64, op := Op.load 25 (Operand.tmp 5), type := 25, pos := "laws.go:51", after := #[{ on := 13, ground := Ground.guard }], guard := some (13, true) }) (v := ?_) rfl (by kernel_rfl) (by kernel_rfl) (by kernel_rfl) (fun _ _ _ h => h) (Or.inl ⟨by rfl, ?_⟩) (by assumption) ?_
      rotate_left
      · (intro w hSw; (try dsimp only at hSw); (go_simp <;> with_reducible rfl))
      try simp only [Act.put, List.setIfInBounds_toArray, List.set_cons_zero, List.set_cons_succ]
      refine wpAnyH_take (i := 16) (oi := { dst := some 66, op := Op.load 25 (Operand.tmp 3), type := 25, pos := "laws.go:51", after := #[{ on := 13, ground := Ground.guard }], guard := some (13, true) }) (v := ?_) rfl (by kernel_rfl) (by kernel_rfl) (by kernel_rfl) (fun _ _ _ h => h) (Or.inl ⟨by rfl, ?_⟩) (by assumption) ?_
      rotate_left
      · (intro w hSw; (try dsimp only at hSw); (go_simp <;> with_reducible rfl))
      try simp only [Act.put, List.setIfInBounds_toArray, List.set_cons_zero, List.set_cons_succ]
      refine wpAnyH_ready (rs := [15]) (by kernel_rfl) (by simp) ?_
      refine AllReadyH.cons (o := { dst := some 65, op := Op.call { callee := Callee.value (Operand.func 23), args := #[Operand.tmp 64], argTypes := #[25] }, type := 4, pos := "laws.go:51", after := #[{ on := 14, ground := Ground.data }, { on := 13, ground := Ground.chain }, { on := 13, ground := Ground.guard }], guard := some (13, true) }) rfl (fun K hK => ?_) AllReadyH.nil
      go_simp
      go_at_call 23
      refine (HCd.out _ q3).mono ?_
      rintro e1 v4 ⟨rfl, hb_4⟩
      have q4 : Ext w4 v4 := Ext.trans q3 hb_4
      try go_wp2_with fail
      refine hK.out _ _ ?_ (fun hHeld15 => ?_)
      · exact keep12 X4.out q4
      clear hK K hHeld8
      try simp only [Act.put, List.setIfInBounds_toArray, List.set_cons_zero, List.set_cons_succ]
      refine wpAnyH_ready (rs := [17]) (by kernel_rfl) (by simp) ?_
      refine AllReadyH.cons (o := { dst := some 67, op := Op.call { callee := Callee.value (Operand.func 23), args := #[Operand.tmp 66], argTypes := #[25] }, type := 4, pos := "laws.go:51", after := #[{ on := 16, ground := Ground.data }, { on := 15, ground := Ground.chain }, { on := 13, ground := Ground.guard }], guard := some (13, true) }) rfl (fun K hK => ?_) AllReadyH.nil
      go_simp
      go_at_call 23
      refine (HCa.out _ (E4.out.trans q4)).mono ?_
      rintro e1 v5 ⟨rfl, hb_5⟩
      have q5 : Ext w4 v5 := Ext.trans q4 hb_5
      try go_wp2_with fail
      refine hK.out _ _ ?_ (fun hHeld17 => ?_)
      · exact keep12 X4.out q5
      clear hK K hHeld15
      try simp only [Act.put, List.setIfInBounds_toArray, List.set_cons_zero, List.set_cons_succ]
      refine wpAnyH_take (i := 18) (oi := { dst := some 68, op := Op.move (Operand.tmp 67), type := 4, pos := "laws.go:51", after := #[{ on := 17, ground := Ground.data }, { on := 17, ground := Ground.chain }, { on := 13, ground := Ground.guard }], guard := some (13, true) }) (v := ?_) rfl (by kernel_rfl) (by kernel_rfl) (by kernel_rfl) (fun _ _ _ h => h) (Or.inl ⟨by rfl, ?_⟩) (by assumption) ?_
      rotate_left
      · (intro w hSw; (try dsimp only at hSw); (go_simp <;> with_reducible rfl))
      try simp only [Act.put, List.setIfInBounds_toArray, List.set_cons_zero, List.set_cons_succ]
      refine wpAnyH_take (i := 19) (oi := { dst := some 69, op := Op.load 25 (Operand.tmp 4), type := 25, pos := "laws.go:51", after := #[{ on := 18, ground := Ground.guard }], guard := some (18, true) }) (v := ?_) rfl (by kernel_rfl) (by kernel_rfl) (by kernel_rfl) (fun _ _ _ h => h) (Or.inl ⟨by rfl, ?_⟩) (by assumption) ?_
      rotate_left
      · (intro w hSw; (try dsimp only at hSw); (go_simp <;> with_reducible rfl))
      try simp only [Act.put, List.setIfInBounds_toArray, List.set_cons_zero, List.set_cons_succ]
      refine wpAnyH_ready (rs := [20]) (by kernel_rfl) (by simp) ?_
      refine AllReadyH.cons (o := { dst := some 70, op := Op.call { callee := Callee.value (Operand.func 23), args := #[Operand.tmp 69], argTypes := #[25] }, type := 4, pos := "laws.go:51", after := #[{ on := 19, ground := Ground.data }, { on := 18, ground := Ground.chain }, { on := 18, ground := Ground.guard }], guard := some (18, true) }) rfl (fun K hK => ?_) AllReadyH.nil
      go_simp
      go_at_call 23
      refine (HCb.out _ (E4.out.trans q5)).mono ?_
      rintro e1 v6 ⟨rfl, hb_6⟩
      have q6 : Ext w4 v6 := Ext.trans q5 hb_6
      try go_wp2_with fail
      refine hK.out _ _ ?_ (fun hHeld20 => ?_)
      · exact keep12 X4.out q6
      clear hK K hHeld17
      try simp only [Act.put, List.setIfInBounds_toArray, List.set_cons_zero, List.set_cons_succ]
      refine wpAnyH_take (i := 21) (oi := { dst := some 71, op := Op.pick (Operand.tmp 68) (Operand.tmp 70) (Operand.const (Value.bool false)), type := 4, pos := "laws.go:51", after := #[{ on := 18, ground := Ground.data }, { on := 20, ground := Ground.data }, { on := 13, ground := Ground.guard }], guard := some (13, true) }) (v := ?_) rfl (by kernel_rfl) (by kernel_rfl) (by kernel_rfl) (fun _ _ _ h => h) (Or.inl ⟨by rfl, ?_⟩) (by assumption) ?_
      rotate_left
      · (intro w hSw; (try dsimp only at hSw); (go_simp <;> with_reducible rfl))
      try simp only [Act.put, List.setIfInBounds_toArray, List.set_cons_zero, List.set_cons_succ]
      refine wpAnyH_take (i := 22) (oi := { dst := some 72, op := Op.binOp BinOp.eql 4 (Operand.tmp 65) (Operand.tmp 71) 4, type := 4, pos := "laws.go:51", after := #[{ on := 15, ground := Ground.data }, { on := 21, ground := Ground.data }, { on := 13, ground := Ground.guard }], guard := some (13, true) }) (v := ?_) rfl (by kernel_rfl) (by kernel_rfl) (by kernel_rfl) (fun _ _ _ h => h) (Or.inl ⟨by rfl, ?_⟩) (by assumption) ?_
      rotate_left
      · (intro w hSw; (try dsimp only at hSw); (go_simp <;> with_reducible rfl))
      try simp only [Act.put, List.setIfInBounds_toArray, List.set_cons_zero, List.set_cons_succ]
      refine wpAnyH_take (i := 23) (oi := { dst := some 73, op := Op.pick (Operand.tmp 63) (Operand.tmp 72) (Operand.const (Value.bool false)), type := 4, pos := "laws.go:51", after := #[{ on := 13, ground := Ground.data }, { on := 22, ground := Ground.data }], guard := none }) (v := ?_) rfl (by kernel_rfl) (by kernel_rfl) (by kernel_rfl) (fun _ _ _ h => h) (Or.inl ⟨by rfl, ?_⟩) (by assumption) ?_
      rotate_left
      · (intro w hSw; (try dsimp only at hSw); (go_simp <;> with_reducible rfl))
      try simp only [Act.put, List.setIfInBounds_toArray, List.set_cons_zero, List.set_cons_succ]
      refine wpAnyH_take (i := 24) (oi := { dst := some 2, op := Op.assign (Operand.tmp 73), type := 4, pos := "laws.go:51", after := #[{ on := 23, ground := Ground.data }, { on := 20, ground := Ground.chain }, { on := 0, ground := Ground.phase }, { on := 1, ground := Ground.phase }, { on := 2, ground := Ground.phase }, { on := 3, ground := Ground.phase }, { on := 4, ground := Ground.phase }, { on := 5, ground := Ground.phase }, { on := 6, ground := Ground.phase }, { on := 7, ground := Ground.phase }, { on := 8, ground := Ground.phase }, { on := 9, ground := Ground.phase }, { on := 10, ground := Ground.phase }, { on := 11, ground := Ground.phase }, { on := 12, ground := Ground.phase }, { on := 13, ground := Ground.phase }, { on := 14, ground := Ground.phase }, { on := 15, ground := Ground.phase }, { on := 16, ground := Ground.phase }, { on := 17, ground := Ground.phase }, { on := 18, ground := Ground.phase }, { on := 19, ground := Ground.phase }, { on := 20, ground := Ground.phase }, { on := 21, ground := Ground.phase }, { on := 22, ground := Ground.phase }, { on := 23, ground := Ground.phase }], guard := none }) (v := ?_) rfl (by kernel_rfl) (by kernel_rfl) (by kernel_rfl) (fun _ _ _ h => h) (Or.inl ⟨by rfl, ?_⟩) (by assumption) ?_
      rotate_left
      · (intro w hSw; (try dsimp only at hSw); (go_simp <;> with_reducible rfl))
      try simp only [Act.put, List.setIfInBounds_toArray, List.set_cons_zero, List.set_cons_succ]
      refine wpAnyH_done (by kernel_rfl) ?_ _
      go_wp2_with fail
      go_ret
      refine ⟨by first | rfl | simp, E1.out.trans (E4.out.trans q6)⟩
    | false =>
      go_wp2_with fail
      refine wp_region_held_drew (S := (fun w' => w'.cell? ⟨w2.heap.size, 0, none⟩ = some (.int .i64 7) ∧ w'.cell? ⟨w2.heap.size, 1, none⟩ = some (.int .i64 0) ∧ w'.cell? ⟨w2.heap.size, 2, none⟩ = some (.string ⟨#[]⟩) ∧ w'.cell? ⟨w2.heap.size, 3, none⟩ = some (.slice pa K.len pc) ∧ w'.cell? ⟨w1.heap.size, 0, none⟩ = some (.int .i64 o) ∧ w'.cell? ⟨w1.heap.size, 1, none⟩ = some (.int .i64 n) ∧ w'.cell? ⟨w1.heap.size, 2, none⟩ = some (.string t) ∧ w'.cell? ⟨w1.heap.size, 3, none⟩ = some (.slice a k.len cap) ∧ w'.cell? ⟨w1.heap.size + 1, 0, none⟩ = some (.int .i64 o') ∧ w'.cell? ⟨w1.heap.size + 1, 1, none⟩ = some (.int .i64 n') ∧ w'.cell? ⟨w1.heap.size + 1, 2, none⟩ = some (.string t') ∧ w'.cell? ⟨w1.heap.size + 1, 3, none⟩ = some (.slice a' k'.len cap'))) (by kernel_rfl) ?_ (fun hHeld => ?_)
      · exact keep12 X4.out ((Ext.refl w4).drew)
      refine wpAnyH_take (i := 0) (oi := { dst := some 50, op := Op.load 25 (Operand.tmp 5), type := 25, pos := "laws.go:51", after := #[], guard := none }) (v := ?_) rfl (by kernel_rfl) (by kernel_rfl) (by kernel_rfl) (fun _ _ _ h => h) (Or.inl ⟨by rfl, ?_⟩) (by assumption) ?_
      rotate_left
      · (intro w hSw; (try dsimp only at hSw); (go_simp <;> with_reducible rfl))
      try simp only [Act.put, List.setIfInBounds_toArray, List.set_cons_zero, List.set_cons_succ]
      refine wpAnyH_ready (rs := [1]) (by kernel_rfl) (by simp) ?_
      refine AllReadyH.cons (o := { dst := some 51, op := Op.call { callee := Callee.value (Operand.func 21), args := #[Operand.tmp 50], argTypes := #[25] }, type := 4, pos := "laws.go:51", after := #[{ on := 0, ground := Ground.data }], guard := none }) rfl (fun K hK => ?_) AllReadyH.nil
      go_simp
      go_at_call 21
      refine (HVd.out _ ((Ext.refl w4).drew)).mono ?_
      rintro e1 v0 ⟨rfl, hb_0⟩
      have q0 : Ext w4 v0 := Ext.trans ((Ext.refl w4).drew) hb_0
      try go_wp2_with fail
      refine hK.out _ _ ?_ (fun hHeld1 => ?_)
      · exact keep12 X4.out q0
      clear hK K hHeld
      try simp only [Act.put, List.setIfInBounds_toArray, List.set_cons_zero, List.set_cons_succ]
      refine wpAnyH_take (i := 2) (oi := { dst := some 52, op := Op.move (Operand.tmp 51), type := 4, pos := "laws.go:51", after := #[{ on := 1, ground := Ground.data }, { on := 1, ground := Ground.chain }], guard := none }) (v := ?_) rfl (by kernel_rfl) (by kernel_rfl) (by kernel_rfl) (fun _ _ _ h => h) (Or.inl ⟨by rfl, ?_⟩) (by assumption) ?_
      rotate_left
      · (intro w hSw; (try dsimp only at hSw); (go_simp <;> with_reducible rfl))
      try simp only [Act.put, List.setIfInBounds_toArray, List.set_cons_zero, List.set_cons_succ]
      refine wpAnyH_take (i := 3) (oi := { dst := some 53, op := Op.load 25 (Operand.tmp 5), type := 25, pos := "laws.go:51", after := #[{ on := 2, ground := Ground.guard }], guard := some (2, true) }) (v := ?_) rfl (by kernel_rfl) (by kernel_rfl) (by kernel_rfl) (fun _ _ _ h => h) (Or.inl ⟨by rfl, ?_⟩) (by assumption) ?_
      rotate_left
      · (intro w hSw; (try dsimp only at hSw); (go_simp <;> with_reducible rfl))
      try simp only [Act.put, List.setIfInBounds_toArray, List.set_cons_zero, List.set_cons_succ]
      refine wpAnyH_take (i := 5) (oi := { dst := some 55, op := Op.load 25 (Operand.tmp 3), type := 25, pos := "laws.go:51", after := #[{ on := 2, ground := Ground.guard }], guard := some (2, true) }) (v := ?_) rfl (by kernel_rfl) (by kernel_rfl) (by kernel_rfl) (fun _ _ _ h => h) (Or.inl ⟨by rfl, ?_⟩) (by assumption) ?_
      rotate_left
      · (intro w hSw; (try dsimp only at hSw); (go_simp <;> with_reducible rfl))
      try simp only [Act.put, List.setIfInBounds_toArray, List.set_cons_zero, List.set_cons_succ]
      refine wpAnyH_take (i := 7) (oi := { dst := some 57, op := Op.load 25 (Operand.tmp 4), type := 25, pos := "laws.go:51", after := #[{ on := 2, ground := Ground.guard }], guard := some (2, true) }) (v := ?_) rfl (by kernel_rfl) (by kernel_rfl) (by kernel_rfl) (fun _ _ _ h => h) (Or.inl ⟨by rfl, ?_⟩) (by assumption) ?_
      rotate_left
      · (intro w hSw; (try dsimp only at hSw); (go_simp <;> with_reducible rfl))
      try simp only [Act.put, List.setIfInBounds_toArray, List.set_cons_zero, List.set_cons_succ]
      refine wpAnyH_ready (rs := [4]) (by kernel_rfl) (by simp) ?_
      refine AllReadyH.cons (o := { dst := some 54, op := Op.call { callee := Callee.value (Operand.func 22), args := #[Operand.tmp 53], argTypes := #[25] }, type := 3, pos := "laws.go:51", after := #[{ on := 3, ground := Ground.data }, { on := 2, ground := Ground.chain }, { on := 2, ground := Ground.guard }], guard := some (2, true) }) rfl (fun K hK => ?_) AllReadyH.nil
      go_simp
      go_at_call 22
      refine (HZd.out _ q0).mono ?_
      rintro e1 v1 ⟨rfl, hb_1⟩
      have q1 : Ext w4 v1 := Ext.trans q0 hb_1
      try go_wp2_with fail
      refine hK.out _ _ ?_ (fun hHeld4 => ?_)
      · exact keep12 X4.out q1
      clear hK K hHeld1
      try simp only [Act.put, List.setIfInBounds_toArray, List.set_cons_zero, List.set_cons_succ]
      refine wpAnyH_ready (rs := [6]) (by kernel_rfl) (by simp) ?_
      refine AllReadyH.cons (o := { dst := some 56, op := Op.call { callee := Callee.value (Operand.func 22), args := #[Operand.tmp 55], argTypes := #[25] }, type := 3, pos := "laws.go:51", after := #[{ on := 5, ground := Ground.data }, { on := 4, ground := Ground.chain }, { on := 2, ground := Ground.guard }], guard := some (2, true) }) rfl (fun K hK => ?_) AllReadyH.nil
      go_simp
      go_at_call 22
      refine (HZa.out _ (E4.out.trans q1)).mono ?_
      rintro e1 v2 ⟨rfl, hb_2⟩
      have q2 : Ext w4 v2 := Ext.trans q1 hb_2
      try go_wp2_with fail
      refine hK.out _ _ ?_ (fun hHeld6 => ?_)
      · exact keep12 X4.out q2
      clear hK K hHeld4
      try simp only [Act.put, List.setIfInBounds_toArray, List.set_cons_zero, List.set_cons_succ]
      refine wpAnyH_ready (rs := [8]) (by kernel_rfl) (by simp) ?_
      refine AllReadyH.cons (o := { dst := some 58, op := Op.call { callee := Callee.value (Operand.func 22), args := #[Operand.tmp 57], argTypes := #[25] }, type := 3, pos := "laws.go:51", after := #[{ on := 7, ground := Ground.data }, { on := 6, ground := Ground.chain }, { on := 2, ground := Ground.guard }], guard := some (2, true) }) rfl (fun K hK => ?_) AllReadyH.nil
      go_simp
      go_at_call 22
      refine (HZb.out _ (E4.out.trans q2)).mono ?_
      rintro e1 v3 ⟨rfl, hb_3⟩
      have q3 : Ext w4 v3 := Ext.trans q2 hb_3
      try go_wp2_with fail
      refine hK.out _ _ ?_ (fun hHeld8 => ?_)
      · exact keep12 X4.out q3
      clear hK K hHeld6
      try simp only [Act.put, List.setIfInBounds_toArray, List.set_cons_zero, List.set_cons_succ]
      refine wpAnyH_take (i := 9) (oi := { dst := some 59, op := Op.binOp BinOp.add 3 (Operand.tmp 56) (Operand.tmp 58) 3, type := 3, pos := "laws.go:51", after := #[{ on := 6, ground := Ground.data }, { on := 8, ground := Ground.data }, { on := 2, ground := Ground.guard }], guard := some (2, true) }) (v := ?_) rfl (by kernel_rfl) (by kernel_rfl) (by kernel_rfl) (fun _ _ _ h => h) (Or.inl ⟨by rfl, ?_⟩) (by assumption) ?_
      rotate_left
      · (intro w hSw; (try dsimp only at hSw); (go_simp <;> with_reducible rfl))
      try simp only [Act.put, List.setIfInBounds_toArray, List.set_cons_zero, List.set_cons_succ]
      refine wpAnyH_take (i := 10) (oi := { dst := some 60, op := Op.binOp BinOp.add 3 (Operand.tmp 59) (Operand.const (Value.int IntKind.i64 1)) 3, type := 3, pos := "laws.go:51", after := #[{ on := 9, ground := Ground.data }, { on := 2, ground := Ground.guard }], guard := some (2, true) }) (v := ?_) rfl (by kernel_rfl) (by kernel_rfl) (by kernel_rfl) (fun _ _ _ h => h) (Or.inl ⟨by rfl, ?_⟩) (by assumption) ?_
      rotate_left
      · (intro w hSw; (try dsimp only at hSw); (go_simp <;> with_reducible rfl))
      try simp only [Act.put, List.setIfInBounds_toArray, List.set_cons_zero, List.set_cons_succ]
      refine wpAnyH_take (i := 11) (oi := { dst := some 61, op := Op.binOp BinOp.eql 3 (Operand.tmp 54) (Operand.tmp 60) 3, type := 4, pos := "laws.go:51", after := #[{ on := 4, ground := Ground.data }, { on := 10, ground := Ground.data }, { on := 2, ground := Ground.guard }], guard := some (2, true) }) (v := ?_) rfl (by kernel_rfl) (by kernel_rfl) (by kernel_rfl) (fun _ _ _ h => h) (Or.inl ⟨by rfl, ?_⟩) (by assumption) ?_
      rotate_left
      · (intro w hSw; (try dsimp only at hSw); (go_simp <;> with_reducible rfl))
      try simp only [Act.put, List.setIfInBounds_toArray, List.set_cons_zero, List.set_cons_succ]
      refine wpAnyH_take (i := 12) (oi := { dst := some 62, op := Op.pick (Operand.tmp 52) (Operand.tmp 61) (Operand.const (Value.bool false)), type := 4, pos := "laws.go:51", after := #[{ on := 2, ground := Ground.data }, { on := 11, ground := Ground.data }], guard := none }) (v := ?_) rfl (by kernel_rfl) (by kernel_rfl) (by kernel_rfl) (fun _ _ _ h => h) (Or.inl ⟨by rfl, ?_⟩) (by assumption) ?_
      rotate_left
      · (intro w hSw; (try dsimp only at hSw); (go_simp <;> with_reducible rfl))
      try simp only [Act.put, List.setIfInBounds_toArray, List.set_cons_zero, List.set_cons_succ]
      refine wpAnyH_take (i := 13) (oi := { dst := some 63, op := Op.move (Operand.tmp 62), type := 4, pos := "laws.go:51", after := #[{ on := 12, ground := Ground.data }, { on := 8, ground := Ground.chain }], guard := none }) (v := ?_) rfl (by kernel_rfl) (by kernel_rfl) (by kernel_rfl) (fun _ _ _ h => h) (Or.inl ⟨by rfl, ?_⟩) (by assumption) ?_
      rotate_left
      · (intro w hSw; (try dsimp only at hSw); (go_simp <;> with_reducible rfl))
      try simp only [Act.put, List.setIfInBounds_toArray, List.set_cons_zero, List.set_cons_succ]
      refine wpAnyH_take (i := 14) (oi := { dst := some 64, op := Op.load 25 (Operand.tmp 5), type := 25, pos := "laws.go:51", after := #[{ on := 13, ground := Ground.guard }], guard := some (13, true) }) (v := ?_) rfl (by kernel_rfl) (by kernel_rfl) (by kernel_rfl) (fun _ _ _ h => h) (Or.inl ⟨by rfl, ?_⟩) (by assumption) ?_
      rotate_left
      · (intro w hSw; (try dsimp only at hSw); (go_simp <;> with_reducible rfl))
      try simp only [Act.put, List.setIfInBounds_toArray, List.set_cons_zero, List.set_cons_succ]
      refine wpAnyH_take (i := 16) (oi := { dst := some 66, op := Op.load 25 (Operand.tmp 3), type := 25, pos := "laws.go:51", after := #[{ on := 13, ground := Ground.guard }], guard := some (13, true) }) (v := ?_) rfl (by kernel_rfl) (by kernel_rfl) (by kernel_rfl) (fun _ _ _ h => h) (Or.inl ⟨by rfl, ?_⟩) (by assumption) ?_
      rotate_left
      · (intro w hSw; (try dsimp only at hSw); (go_simp <;> with_reducible rfl))
      try simp only [Act.put, List.setIfInBounds_toArray, List.set_cons_zero, List.set_cons_succ]
      refine wpAnyH_ready (rs := [15]) (by kernel_rfl) (by simp) ?_
      refine AllReadyH.cons (o := { dst := some 65, op := Op.call { callee := Callee.value (Operand.func 23), args := #[Operand.tmp 64], argTypes := #[25] }, type := 4, pos := "laws.go:51", after := #[{ on := 14, ground := Ground.data }, { on := 13, ground := Ground.chain }, { on := 13, ground := Ground.guard }], guard := some (13, true) }) rfl (fun K hK => ?_) AllReadyH.nil
      go_simp
      go_at_call 23
      refine (HCd.out _ q3).mono ?_
      rintro e1 v4 ⟨rfl, hb_4⟩
      have q4 : Ext w4 v4 := Ext.trans q3 hb_4
      try go_wp2_with fail
      refine hK.out _ _ ?_ (fun hHeld15 => ?_)
      · exact keep12 X4.out q4
      clear hK K hHeld8
      try simp only [Act.put, List.setIfInBounds_toArray, List.set_cons_zero, List.set_cons_succ]
      refine wpAnyH_ready (rs := [17]) (by kernel_rfl) (by simp) ?_
      refine AllReadyH.cons (o := { dst := some 67, op := Op.call { callee := Callee.value (Operand.func 23), args := #[Operand.tmp 66], argTypes := #[25] }, type := 4, pos := "laws.go:51", after := #[{ on := 16, ground := Ground.data }, { on := 15, ground := Ground.chain }, { on := 13, ground := Ground.guard }], guard := some (13, true) }) rfl (fun K hK => ?_) AllReadyH.nil
      go_simp
      go_at_call 23
      refine (HCa.out _ (E4.out.trans q4)).mono ?_
      rintro e1 v5 ⟨rfl, hb_5⟩
      have q5 : Ext w4 v5 := Ext.trans q4 hb_5
      try go_wp2_with fail
      refine hK.out _ _ ?_ (fun hHeld17 => ?_)
      · exact keep12 X4.out q5
      clear hK K hHeld15
      try simp only [Act.put, List.setIfInBounds_toArray, List.set_cons_zero, List.set_cons_succ]
      refine wpAnyH_take (i := 18) (oi := { dst := some 68, op := Op.move (Operand.tmp 67), type := 4, pos := "laws.go:51", after := #[{ on := 17, ground := Ground.data }, { on := 17, ground := Ground.chain }, { on := 13, ground := Ground.guard }], guard := some (13, true) }) (v := ?_) rfl (by kernel_rfl) (by kernel_rfl) (by kernel_rfl) (fun _ _ _ h => h) (Or.inl ⟨by rfl, ?_⟩) (by assumption) ?_
      rotate_left
      · (intro w hSw; (try dsimp only at hSw); (go_simp <;> with_reducible rfl))
      try simp only [Act.put, List.setIfInBounds_toArray, List.set_cons_zero, List.set_cons_succ]
      refine wpAnyH_take (i := 19) (oi := { dst := some 69, op := Op.load 25 (Operand.tmp 4), type := 25, pos := "laws.go:51", after := #[{ on := 18, ground := Ground.guard }], guard := some (18, true) }) (v := undef) rfl (by kernel_rfl) (by kernel_rfl) (by kernel_rfl) (fun _ _ _ h => h) (Or.inr ⟨by rfl, rfl⟩) (by assumption) ?_
      try simp only [Act.put, List.setIfInBounds_toArray, List.set_cons_zero, List.set_cons_succ]
      refine wpAnyH_take (i := 20) (oi := { dst := some 70, op := Op.call { callee := Callee.value (Operand.func 23), args := #[Operand.tmp 69], argTypes := #[25] }, type := 4, pos := "laws.go:51", after := #[{ on := 19, ground := Ground.data }, { on := 18, ground := Ground.chain }, { on := 18, ground := Ground.guard }], guard := some (18, true) }) (v := undef) rfl (by kernel_rfl) (by kernel_rfl) (by kernel_rfl) (fun _ _ _ h => h) (Or.inr ⟨by rfl, rfl⟩) (by assumption) ?_
      try simp only [Act.put, List.setIfInBounds_toArray, List.set_cons_zero, List.set_cons_succ]
      refine wpAnyH_take (i := 21) (oi := { dst := some 71, op := Op.pick (Operand.tmp 68) (Operand.tmp 70) (Operand.const (Value.bool false)), type := 4, pos := "laws.go:51", after := #[{ on := 18, ground := Ground.data }, { on := 20, ground := Ground.data }, { on := 13, ground := Ground.guard }], guard := some (13, true) }) (v := ?_) rfl (by kernel_rfl) (by kernel_rfl) (by kernel_rfl) (fun _ _ _ h => h) (Or.inl ⟨by rfl, ?_⟩) (by assumption) ?_
      rotate_left
      · (intro w hSw; (try dsimp only at hSw); (go_simp <;> with_reducible rfl))
      try simp only [Act.put, List.setIfInBounds_toArray, List.set_cons_zero, List.set_cons_succ]
      refine wpAnyH_take (i := 22) (oi := { dst := some 72, op := Op.binOp BinOp.eql 4 (Operand.tmp 65) (Operand.tmp 71) 4, type := 4, pos := "laws.go:51", after := #[{ on := 15, ground := Ground.data }, { on := 21, ground := Ground.data }, { on := 13, ground := Ground.guard }], guard := some (13, true) }) (v := ?_) rfl (by kernel_rfl) (by kernel_rfl) (by kernel_rfl) (fun _ _ _ h => h) (Or.inl ⟨by rfl, ?_⟩) (by assumption) ?_
      rotate_left
      · (intro w hSw; (try dsimp only at hSw); (go_simp <;> with_reducible rfl))
      try simp only [Act.put, List.setIfInBounds_toArray, List.set_cons_zero, List.set_cons_succ]
      refine wpAnyH_take (i := 23) (oi := { dst := some 73, op := Op.pick (Operand.tmp 63) (Operand.tmp 72) (Operand.const (Value.bool false)), type := 4, pos := "laws.go:51", after := #[{ on := 13, ground := Ground.data }, { on := 22, ground := Ground.data }], guard := none }) (v := ?_) rfl (by kernel_rfl) (by kernel_rfl) (by kernel_rfl) (fun _ _ _ h => h) (Or.inl ⟨by rfl, ?_⟩) (by assumption) ?_
      rotate_left
      · (intro w hSw; (try dsimp only at hSw); (go_simp <;> with_reducible rfl))
      try simp only [Act.put, List.setIfInBounds_toArray, List.set_cons_zero, List.set_cons_succ]
      refine wpAnyH_take (i := 24) (oi := { dst := some 2, op := Op.assign (Operand.tmp 73), type := 4, pos := "laws.go:51", after := #[{ on := 23, ground := Ground.data }, { on := 20, ground := Ground.chain }, { on := 0, ground := Ground.phase }, { on := 1, ground := Ground.phase }, { on := 2, ground := Ground.phase }, { on := 3, ground := Ground.phase }, { on := 4, ground := Ground.phase }, { on := 5, ground := Ground.phase }, { on := 6, ground := Ground.phase }, { on := 7, ground := Ground.phase }, { on := 8, ground := Ground.phase }, { on := 9, ground := Ground.phase }, { on := 10, ground := Ground.phase }, { on := 11, ground := Ground.phase }, { on := 12, ground := Ground.phase }, { on := 13, ground := Ground.phase }, { on := 14, ground := Ground.phase }, { on := 15, ground := Ground.phase }, { on := 16, ground := Ground.phase }, { on := 17, ground := Ground.phase }, { on := 18, ground := Ground.phase }, { on := 19, ground := Ground.phase }, { on := 20, ground := Ground.phase }, { on := 21, ground := Ground.phase }, { on := 22, ground := Ground.phase }, { on := 23, ground := Ground.phase }], guard := none }) (v := ?_) rfl (by kernel_rfl) (by kernel_rfl) (by kernel_rfl) (fun _ _ _ h => h) (Or.inl ⟨by rfl, ?_⟩) (by assumption) ?_
      rotate_left
      · (intro w hSw; (try dsimp only at hSw); (go_simp <;> with_reducible rfl))
      try simp only [Act.put, List.setIfInBounds_toArray, List.set_cons_zero, List.set_cons_succ]
      refine wpAnyH_done (by kernel_rfl) ?_ _
      go_wp2_with fail
      go_ret
      refine ⟨by first | rfl | simp, E1.out.trans (E4.out.trans q5)⟩

set_option maxHeartbeats 400000 in
theorem walk_big (w : World) (a0 : Option Addr) (len0 cap0 : Nat) (hl0 : 1048576 < len0) :
    Calls Try.prog 3 #[.slice a0 len0 cap0] w fun e w' => e = .returned (.bool true) ∧ Ext w w' := by
  have h1 : (1048576 : Int) < (len0 : Int) := by omega
  go_enter Try.func3, Try.ntmps3
  go_wp2_with fail
  go_ret
  exact ⟨rfl, Ext.refl w⟩

theorem walk (w : World) (a0 : Option Addr) (len0 cap0 : Nat) (hb0 : Bytes w a0 len0) (hlc0 : len0 ≤ cap0) (hcm0 : cap0 ≤ maxLen) :
    Calls Try.prog 3 #[.slice a0 len0 cap0] w fun e w' => e = .returned (.bool true) ∧ Below w.heap.size w w' := by
  by_cases h : 1048576 < len0
  · exact walk_big w a0 len0 cap0 h
  · exact walk_good w a0 len0 cap0 hb0 hlc0 hcm0 (by omega)

set_option maxRecDepth 100000 in
theorem lifted (os : Os) (started : os.Started) (H : Type) (enc : TypeId × Value → H) :
    ReturnsInHanded {} Try.checked os 3 .any (Rows.fnCatDocsSpec.pre6 enc Try.prog Try.f3 Rows.fnCatDocsRow.domain false) (Rows.fnCatDocsSpec.post enc Try.prog Try.f3 false true false false) := by
  refine returnsInHanded_of_change (C := Try.checked) Facts.own started (by kernel_rfl) Try.func3
    (ChangeSpec.witness6 (enc := enc) (C := Try.checked) false ⟨#[], #[.slice none 0 0], []⟩ 8 (by kernel_rfl) (by kernel_rfl) (by kernel_rfl) (by kernel_rfl)) ?_
  intro W base args ds gs before hval0 hW hcnd0 _
  clear hcnd0
  have hval : ∀ (j : Nat) t v, Try.f3.params[j]? = some t → args[j]? = some v → Value.okWide Try.prog W .any base t v := hval0
  have hW' := hW
  obtain ⟨p, q, hA0, hV, rfl, hfz, hnd⟩ := hW
  have hA : DataW.TrodAll enc Try.prog W 0 (fun _ => true) true Try.f3.params.toList args.toList ds p := hA0
  rw [Try.params3] at hA hval
  obtain ⟨v0, d0, rfl, rfl, h0⟩ := trodAll_one hA
  obtain ⟨rfl, rfl⟩ := trodVars_none hV
  obtain ⟨a0, len0, cap0, rfl⟩ := okWide_slice Try.underlying22 (hval 0 22 v0 rfl rfl)
  clear hA0 hval0
  simp only [List.append_nil] at hW'
  have hlt : ∀ x ∈ p, x.block < W.heap.size := fun x hx => by simpa using hW'.lt x hx
  obtain ⟨hb0, hlc0, hcm0⟩ := opened h0
  refine (walk W a0 len0 cap0 hb0 hlc0 hcm0).mono fun e W' ⟨he, hb⟩ => ?_
  subst he
  refine ⟨_, rfl, [_], [], p, [], p, [], hW', trodAll_mk1 (shut_bool Try.underlying4 _), ?_, rfl, hb.frame _, fun h => by cases h⟩
  exact trodAll_mk1 (Below.trod Facts.laidOut (by kernel_rfl) (of_decide_eq_true (by kernel_rfl)) h0 hb hlt)

theorem named : Try.prog.funcNamed Rows.fnCatDocsRow.func = some 3 := by kernel_rfl
theorem closed : joinedFacts Try.prog 3 Try.f3 Rows.fnCatDocsSpec Rows.fnCatDocsRow = true :=
  Facts.closed_of rfl rfl rfl rfl (h28b := rfl) (by kernel_rfl) (by kernel_rfl) (by kernel_rfl) (by kernel_rfl) (by kernel_rfl) (by kernel_rfl) (by kernel_rfl) (by kernel_rfl) (by kernel_rfl) (by kernel_rfl) (by kernel_rfl) (by kernel_rfl) (by kernel_rfl) (by kernel_rfl) (by kernel_rfl) (by kernel_rfl) (by kernel_rfl) (by kernel_rfl) (by kernel_rfl) (by kernel_rfl) (by kernel_rfl) (by kernel_rfl) (by kernel_rfl) (by kernel_rfl)
theorem instanced : Try.f3.isInstance Try.prog Rows.fnCatDocsRow.origin Rows.fnCatDocsRow.targs := of_decide_eq_true (by kernel_rfl)
theorem wrapped : Try.f3.isWrapper Try.prog Rows.fnCatDocsRow.wrapper Rows.fnCatDocsRow.mainSum := by
  unfold Func.isWrapper
  rw [if_neg (of_decide_eq_false (by kernel_rfl))]
  exact ⟨rfl, rfl⟩

theorem holds : Rows.FnCatDocsSaid :=
  OpenClaim.holds_of_wide 3 Try.f3 rfl rfl rfl rfl rfl rfl rfl ⟨rfl, rfl, rfl, rfl, rfl⟩ rfl rfl rfl rfl rfl named Try.func3 closed instanced wrapped
    (fun os started H enc _ => lifted os started H enc)

end Go.Proofs.Ytlpmocdbmnpjcaa.lawCatDocs


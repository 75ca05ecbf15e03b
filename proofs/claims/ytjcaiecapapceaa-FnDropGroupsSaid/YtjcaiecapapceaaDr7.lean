import Derived.Test.YtjcaiecapapceaaDrM
import Derived.Deep.CutRange
import Derived.Deep.CutBlock
/-
 What the model's draw of a document for chapter 7 comes to: some document of a bounded size in memory of its own.
-/
set_option linter.unusedVariables false
set_option linter.unusedSimpArgs false
set_option maxRecDepth 100000
set_option maxHeartbeats 6400000
namespace Go.Proofs.Ytjcaiecapapceaa.Dr7
open Go.RowKit P1 Draw Draw2 Draw6 Copy DrA DrB DrC CatD ParseD DrD Mut Mut2 DrI DrN
def Dr7 (w : World) (e : Ending) (w' : World) : Prop := ∃ (o n : Int) (t : ByteArray) (k : F) (a : Option Addr) (cap : Nat) (fs : List Nat), e = .returned (.agg #[.int .i64 o, .int .i64 n, .string t, .slice a k.len cap]) ∧ k.len ≤ cap ∧ t.size + k.size ≤ 1100 ∧ SubAt w' a k fs ∧ Fresh w.heap.size w' fs ∧ Below w.heap.size w w'
structure S7 (w : World) (lo b : Nat) (o n : Int) (t : ByteArray) (k : F) (a : Option Addr) (c : Nat) (fs : List Nat) (M : Nat) (W : World) : Prop where
 th : W.there w.heap.size 0 4
 bel : Below w.heap.size w W
 rd : ∃ q, q ≤ 4002 ∧ Rd W (w.heap.size + 1) lo q
 doc : DocAt W b o n t k a c fs
 sz : t.size + k.size ≤ M
 fr : Fresh (w.heap.size + 2) W fs
 hb : w.heap.size + 2 ≤ b
 nb : b ∉ fs
 fz : ∀ j, W.frozen? ⟨b, j, none⟩ = false
structure S7' (w : World) (lo b : Nat) (o n : Int) (t : ByteArray) (k : F) (a : Option Addr) (c : Nat) (fs : List Nat) (M : Nat) (W : World) : Prop where
 th : W.there w.heap.size 0 4
 bel : Below w.heap.size w W
 doc : DocAt W b o n t k a c fs
 sz : t.size + k.size ≤ M
 fr : Fresh (w.heap.size + 2) W fs
 hb : w.heap.size + 2 ≤ b
theorem S7.but {w W W' : World} {lo b : Nat} {o n : Int} {t : ByteArray} {k : F} {a : Option Addr} {c : Nat} {fs : List Nat} {M q : Nat} (h : S7 w lo b o n t k a c fs M W) (e : But W.heap.size (w.heap.size + 1) W W') (hr : Rd W' (w.heap.size + 1) lo q) (hq : q ≤ 4002) : S7 w lo b o n t k a c fs M W' := by
 obtain ⟨h1, h2, h3, h4, h5, h6, h7, h8, h9⟩ := h
 have hbl := h4.blt
 have hw := h2.size
 obtain ⟨d0, d1, d2, d3⟩ := h4.box
 have hf : ∀ c ∈ fs, c < W.heap.size ∧ c ≠ w.heap.size + 1 := fun c hc => ⟨h4.lt c hc, fun e => by have := (h6.2 c hc).1; omega⟩
 refine ⟨there_but h1 e (by omega) (by omega), h2.trans (e.below (by omega) (by omega)), ⟨q, hq, hr⟩, ⟨⟨?_, ?_, ?_, ?_⟩, e.sub h4.sub hf, fun c hc => Nat.lt_of_lt_of_le (h4.lt c hc) e.size, Nat.lt_of_lt_of_le hbl e.size, h4.cap_le⟩, h5, h6.alike e.size (fun c hc o => e.frozen (hf c hc).1 (hf c hc).2), h7, h8, fun j => by rw [e.frozen hbl (by omega)]; exact h9 j⟩
 ·exact (e.cell hbl (by omega)).trans d0
 ·exact (e.cell hbl (by omega)).trans d1
 ·exact (e.cell hbl (by omega)).trans d2
 ·exact (e.cell hbl (by omega)).trans d3
theorem S7.ext {w W W' : World} {lo b : Nat} {o n : Int} {t : ByteArray} {k : F} {a : Option Addr} {c : Nat} {fs : List Nat} {M : Nat} (h : S7 w lo b o n t k a c fs M W) (e : Ext W W') : S7 w lo b o n t k a c fs M W' := by
 obtain ⟨q, hq, hr⟩ := h.rd
 exact h.but (But.of_below e) (rdBelow hr (by have := h.doc.blt; have := h.hb; omega) e) hq
theorem S7.put {w W W' : World} {lo b : Nat} {o n : Int} {t : ByteArray} {k : F} {a : Option Addr} {c : Nat} {fs : List Nat} {M : Nat} (h : S7 w lo b o n t k a c fs M W) (e : Ext W W') {o2 n2 : Int} {t2 : ByteArray} {k2 : F} {a2 : Option Addr} {c2 : Nat} {f2 : List Nat} {M2 l : Nat} (hl : k2.len = l) (hs : SubAt W' a2 k2 f2) (hF : Fresh (w.heap.size + 2) W' f2) (hnb : b ∉ f2) (hc : k2.len ≤ c2) (hsz : t2.size + k2.size ≤ M2) :
  S7 w lo b o2 n2 t2 k2 a2 c2 f2 M2 ((((W'.setCell ⟨b, 0, none⟩ (.int .i64 o2)).setCell ⟨b, 1, none⟩ (.int .i64 n2)).setCell ⟨b, 2, none⟩ (.string t2)).setCell ⟨b, 3, none⟩ (.slice a2 l c2)) := by
 subst hl
 obtain ⟨h1, h2, ⟨q, hq, hr⟩, h4, h5, h6, h7, h8, h9⟩ := h.ext e
 obtain ⟨b0, b1, b2, b3⟩ := h4.box
 have hw := h2.size
 have hT : Touch b (b + 1) W' ((((W'.setCell ⟨b, 0, none⟩ (.int .i64 o2)).setCell ⟨b, 1, none⟩ (.int .i64 n2)).setCell ⟨b, 2, none⟩ (.string t2)).setCell ⟨b, 3, none⟩ (.slice a2 k2.len c2)) := by
  refine Touch.setCell (Touch.setCell (Touch.setCell (Touch.setCell (Touch.refl _ _ _) ?_ ?_ _) ?_ ?_ _) ?_ ?_ _) ?_ ?_ _ <;> simp
 refine ⟨there_below h1 (B := b) (by omega) (hT.below (Below.refl _ _) (Nat.le_refl _)), hT.below h2 (by omega), ⟨q, hq, rdTouch hr (by omega) hT⟩, DocAt.stored hs hF.lt hc hnb h4.blt b0 b1 b2 b3, hsz, hT.fresh hF (fun c hc => ?_), h7, hnb, fun j => ?_⟩
 ·by_cases hcb : c = b
  ·subst hcb; exact absurd hc hnb
  ·omega
 ·simp only [World.frozen?_setCell]; exact h9 j
theorem S7.mono {w W : World} {lo b : Nat} {o n : Int} {t : ByteArray} {k : F} {a : Option Addr} {c : Nat} {fs : List Nat} {M M' : Nat} (h : S7 w lo b o n t k a c fs M W) (e : M ≤ M') : S7 w lo b o n t k a c fs M' W :=
 ⟨h.th, h.bel, h.rd, h.doc, Nat.le_trans h.sz e, h.fr, h.hb, h.nb, h.fz⟩
theorem S7.but' {w W W' : World} {lo b : Nat} {o n : Int} {t : ByteArray} {k : F} {a : Option Addr} {c : Nat} {fs : List Nat} {M q : Nat} (h : S7 w lo b o n t k a c fs M W) (e : But W.heap.size (w.heap.size + 1) W W') (hr : Rd W' (w.heap.size + 1) lo q) (hq : q ≤ 4003) : S7' w lo b o n t k a c fs M W' := by
 obtain ⟨h1, h2, h3, h4, h5, h6, h7, h8, h9⟩ := h
 have hbl := h4.blt
 have hw := h2.size
 obtain ⟨d0, d1, d2, d3⟩ := h4.box
 have hf : ∀ c ∈ fs, c < W.heap.size ∧ c ≠ w.heap.size + 1 := fun c hc => ⟨h4.lt c hc, fun e => by have := (h6.2 c hc).1; omega⟩
 refine ⟨there_but h1 e (by omega) (by omega), h2.trans (e.below (by omega) (by omega)), ⟨⟨?_, ?_, ?_, ?_⟩, e.sub h4.sub hf, fun c hc => Nat.lt_of_lt_of_le (h4.lt c hc) e.size, Nat.lt_of_lt_of_le hbl e.size, h4.cap_le⟩, h5, h6.alike e.size (fun c hc o => e.frozen (hf c hc).1 (hf c hc).2), h7⟩
 ·exact (e.cell hbl (by omega)).trans d0
 ·exact (e.cell hbl (by omega)).trans d1
 ·exact (e.cell hbl (by omega)).trans d2
 ·exact (e.cell hbl (by omega)).trans d3
theorem freshN {lo N : Nat} {W : World} {gs : List Nat} (h1 : lo ≤ N) (h2 : N < W.heap.size) (hz : ∀ o, W.frozen? ⟨N, o, none⟩ = false) (hg : Fresh lo W gs) (hN : ∀ c ∈ gs, c < N) : Fresh lo W (N :: gs) :=
 ⟨List.nodup_cons.2 ⟨fun hm => by have := hN N hm; omega, hg.1⟩, fun c hc => by
  rcases List.mem_cons.1 hc with rfl | hc
  ·exact ⟨h1, h2, hz⟩
  ·exact hg.2 c hc⟩
theorem box4n {w w' : World} {b : Nat} {u0 u1 u2 u3 : Value} (h : w.cell? ⟨b, 0, none⟩ = some u0 ∧ w.cell? ⟨b, 1, none⟩ = some u1 ∧ w.cell? ⟨b, 2, none⟩ = some u2 ∧ w.cell? ⟨b, 3, none⟩ = some u3) (hb : b < w.heap.size) (k : Ext w w') :
  w'.cell? ⟨b, 0, none⟩ = some u0 ∧ w'.cell? ⟨b, 1, none⟩ = some u1 ∧ w'.cell? ⟨b, 2, none⟩ = some u2 ∧ w'.cell? ⟨b, 3, none⟩ = some u3 :=
 ⟨(k.cell hb).trans h.1, (k.cell hb).trans h.2.1, (k.cell hb).trans h.2.2.1, (k.cell hb).trans h.2.2.2⟩
theorem S7.wrap {w W : World} {lo b : Nat} {o n : Int} {t : ByteArray} {k : F} {a : Option Addr} {c : Nat} {fs : List Nat} {M l : Nat} (h : S7 w lo b o n t k a c fs M W) (o' n' : Int) (T : TypeId) (hl : k.len = l) :
  S7 w lo b o' n' ⟨#[]⟩ (.cons o n t k .nil) (some ⟨W.heap.size, 0, none⟩) 1 (W.heap.size :: fs) (M + 1) (((((W.setCell ⟨b, 0, none⟩ (.int .i64 o')).setCell ⟨b, 1, none⟩ (.int .i64 n')).setCell ⟨b, 2, none⟩ (.string ⟨#[]⟩)).setCell ⟨b, 3, none⟩ (.slice (some ⟨W.heap.size, 0, none⟩) 1 1)).alloc (.cells #[.int .i64 o, .int .i64 n, .string t, .slice a l c] T)) := by
 subst hl
 have hblt := h.doc.blt
 have hw := h.bel.size
 have hbb := h.hb
 rw [← World.setCell_alloc_past _ _ _ _ (by simpa using hblt), ← World.setCell_alloc_past _ _ _ _ (by simpa using hblt), ← World.setCell_alloc_past _ _ _ _ (by simpa using hblt), ← World.setCell_alloc_past _ _ _ _ hblt]
 have hE : Ext W (W.alloc (.cells #[.int .i64 o, .int .i64 n, .string t, .slice a k.len c] T)) := (Ext.refl W).alloc _
 have hrow : RowAt (W.alloc (.cells #[.int .i64 o, .int .i64 n, .string t, .slice a k.len c] T)) (.cons o n t k .nil) W.heap.size 0 fs :=
  RowAt.cons_iff.2 ⟨a, c, fs, [], cell_new _ _ _ 0 _ rfl, cell_new _ _ _ 1 _ rfl, cell_new _ _ _ 2 _ rfl, cell_new _ _ _ 3 _ rfl, h.doc.cap_le, (h.ext hE).doc.sub, rfl, by simp⟩
 exact h.put hE rfl (Or.inr ⟨_, 0, fs, rfl, (by intro e; cases e), rfl, hrow⟩) (freshN (by omega) (by simp) (fun o => World.frozen?_alloc_new _ _ _ _) (hE.fresh h.fr) (fun c hc => h.doc.lt c hc)) (fun hm => by
  rcases List.mem_cons.1 hm with e | hm
  ·omega
  ·exact h.nb hm) (Nat.le_refl 1) (by have := h.sz; simp only [F.size]; have e0 : (⟨#[]⟩ : ByteArray).size = 0 := rfl; omega)
theorem l7Case (w : World) (a : Option Addr) (len cap : Nat) (hb : Bytes w a len) (hlc : len ≤ cap) (hcm : cap ≤ maxLen) :
  Calls Try.prog 38 #[.slice a len cap] w (Dr7 w) := by
 have HO := Lib.hid (fun ob => l15Open (w.alloc ob) a len cap (LawC.bytes_below hb ((Below.refl _ _).alloc (Nat.le_refl _) ob)) hlc hcm)
 clear hb hlc hcm
 go_enter Try.func38, Try.ntmps38
 go_wp2_with fail
 refine (HO.out _).mono ?_
 rintro e1 w1 ⟨rfl, hrd1, hlt1, hb1⟩
 have hth1 := four_new hb1
 simp only [World.size_alloc] at hrd1 hlt1
 have HD := Lib.hid (l3Small w1 (w.heap.size + 1) _ 0 hrd1 (by omega) hlt1)
 have H1 := Lib.hid (And.intro hlt1 (And.intro (opened' hb1) hth1))
 clear hrd1 hlt1 hb1 hth1
 go_wp2_with fail
 refine HD.out.mono ?_
 rintro e2 w2 ⟨o2, n2, t2, k2, a2, c2, f2, q2, rfl, hc2, hs2, hv2, hsub2, hfr2, hrd2, hq2, hbut2⟩
 have hx2 : w.heap.size + 1 < w2.heap.size := Nat.lt_of_lt_of_le H1.out.1 hbut2.size
 have hth2 : w2.there w.heap.size 0 4 := there_but H1.out.2.2 hbut2 (by have := H1.out.1; omega) (by omega)
 have hB2 : Below w.heap.size w w2 := H1.out.2.1.trans (hbut2.below (by have := H1.out.1; omega) (by omega))
 have hS : S7 w (w.heap.size + 1) w2.heap.size o2 n2 t2 k2 a2 c2 f2 1000 (w2.alloc (.cells #[.int .i64 o2, .int .i64 n2, .string t2, .slice a2 k2.len c2] 25)) :=
  ⟨there_below hth2 (B := w2.heap.size) (by omega) ((Below.refl _ _).alloc (Nat.le_refl _) _), hB2.alloc hB2.size _, ⟨q2, by omega, rdBelow hrd2 hx2 ((Below.refl _ _).alloc (Nat.le_refl _) _)⟩, DocAt.new hsub2 hfr2.lt hc2 o2 n2 t2 _, hs2, ((Ext.refl w2).alloc _).fresh (hfr2.mono (by have := H1.out.1; omega)), by omega, fun hm => by have := hfr2.lt _ hm; omega, fun j => World.frozen?_alloc_new _ _ _ _⟩
 have HS := Lib.hid hS
 have HP := Lib.hid (fun (q : Nat) (hq : q ≤ 4000) (hr : Rd (w2.alloc (.cells #[.int .i64 o2, .int .i64 n2, .string t2, .slice a2 k2.len c2] 25)) (w.heap.size + 1) (w.heap.size + 1) q) => pick (w2.alloc (.cells #[.int .i64 o2, .int .i64 n2, .string t2, .slice a2 k2.len c2] 25)) (w.heap.size + 1) (w.heap.size + 1) q 8 hr (by omega))
 have HRD := Lib.hid (show Rd (w2.alloc (.cells #[.int .i64 o2, .int .i64 n2, .string t2, .slice a2 k2.len c2] 25)) (w.heap.size + 1) (w.heap.size + 1) q2 from rdBelow hrd2 hx2 ((Below.refl _ _).alloc (Nat.le_refl _) _))
 have hq4 : q2 ≤ 4000 := by omega
 clear hc2 hs2 hv2 hsub2 hfr2 hrd2 hbut2 hx2 hth2 hB2 hS
 go_wp2_with fail
 refine (HP.out q2 hq4 HRD.out).mono ?_
 rintro e3 w3 ⟨r, rfl, hr0, hr8, hrd3, hbut3⟩
 have HS3 := Lib.hid (HS.out.but hbut3 hrd3 (by omega))
 have hb3 : w2.heap.size < w3.heap.size := HS3.out.doc.blt
 clear hrd3 hbut3
 go_upto_block 0 with (fail)
 go_cut [4] from 11 to 32 (fun s4 wx => s4 = .pointer (some ⟨w2.heap.size, 0, none⟩) ∧ ∃ (o n : Int) (t : ByteArray) (k : F) (a : Option Addr) (c : Nat) (fs : List Nat), S7 w (w.heap.size + 1) w2.heap.size o n t k a c fs 1010 wx)
 case first =>
  obtain ⟨d0, d1, d2, d3⟩ := HS3.out.doc.box
  have z0 := HS3.out.fz 0
  have z1 := HS3.out.fz 1
  have z2 := HS3.out.fz 2
  have z3 := HS3.out.fz 3
  have hr : r = 0 ∨ r = 1 ∨ r = 2 ∨ r = 3 ∨ (r ≠ 0 ∧ r ≠ 1 ∧ r ≠ 2 ∧ r ≠ 3) := by omega
  obtain ⟨L2, hL2⟩ : ∃ L, k2.len = L := ⟨_, rfl⟩
  have HL2 := Lib.hid hL2
  rcases hr with rfl | rfl | rfl | rfl | ⟨g0, g1, g2, g3⟩
  ·have HC := Lib.hid (show Calls Try.prog 73 #[.agg #[.int .i64 1, .int .i64 0, .string ⟨#[]⟩, .slice none 0 0], .agg #[.int .i64 o2, .int .i64 n2, .string t2, .slice a2 L2 c2]] w3 (CatOut w3 (.cons 1 0 ⟨#[]⟩ .nil (.cons o2 n2 t2 k2 .nil)) ([] ++ f2)) from by
    have := l1Cat w3 1 0 ⟨#[]⟩ .nil none 0 [] o2 n2 t2 k2 a2 c2 f2 (Or.inl ⟨rfl, rfl⟩) HS3.out.doc.sub (fun c hc => by cases hc) HS3.out.doc.lt (Nat.le_refl 0) HS3.out.doc.cap_le
    rw [hL2] at this
    exact this)
   rw [hL2] at d3
   clear hL2
   go_wp2_with (go_at_call 73; refine HC.out.mono ?_; rintro e1 w4 ⟨N, rfl, hN1, hN2, hrow, hfz, hb4⟩; have HR4 := Lib.hid (And.intro hN1 (And.intro hN2 (And.intro hrow (And.intro hfz hb4)))); clear hN1 hN2 hrow hfz d0 d1 d2 d3 z0 z1 z2 z3; obtain ⟨d0, d1, d2, d3⟩ := (HS3.out.ext hb4).doc.box; have z0 := (HS3.out.ext hb4).fz 0; have z1 := (HS3.out.ext hb4).fz 1; have z2 := (HS3.out.ext hb4).fz 2; have z3 := (HS3.out.ext hb4).fz 3; have hb3' := (HS3.out.ext hb4).doc.blt; clear hb4)
   go_meet
   case rel =>
    obtain ⟨hN1, hN2, hrow, hfz, hb4⟩ := HR4.out
    exact ⟨rfl, 7, 0, ⟨#[]⟩, _, _, 2, N :: ([] ++ f2), HS3.out.put hb4 rfl (Or.inr ⟨N, 0, _, rfl, (by intro e; cases e), rfl, hrow⟩) (freshN (by have := HS3.out.hb; have := HS3.out.doc.blt; omega) hN2 hfz ((show Ext w3 w4 from hb4).fresh HS3.out.fr) (fun c hc => by have := HS3.out.doc.lt c hc; omega)) (fun hm => by
     rcases List.mem_cons.1 hm with e | hm
     ·have := HS3.out.doc.blt; omega
     ·exact HS3.out.nb hm) (Nat.le_refl 2) (by have := HS3.out.sz; simp only [F.size]; have e0 : (⟨#[]⟩ : ByteArray).size = 0 := rfl; omega)⟩
  ·rw [hL2] at d3
   clear hL2
   go_wp2_with fail
   go_meet
   case rel => exact ⟨rfl, 6, 3, ⟨#[]⟩, _, _, 1, _, S7.mono (M := 1001) (HS3.out.wrap 6 3 _ HL2.out) (by omega)⟩
  ·have HC := Lib.hid (fun (W : World) => show Calls Try.prog 73 #[.agg #[.int .i64 2, .int .i64 0, .string ⟨#[97]⟩, .slice none 0 0], .agg #[.int .i64 2, .int .i64 0, .string ⟨#[98, 99]⟩, .slice none 0 0]] W (CatOut W (.cons 2 0 ⟨#[97]⟩ .nil (.cons 2 0 ⟨#[98, 99]⟩ .nil .nil)) ([] ++ [])) from l1Cat W 2 0 ⟨#[97]⟩ .nil none 0 [] 2 0 ⟨#[98, 99]⟩ .nil none 0 [] (Or.inl ⟨rfl, rfl⟩) (Or.inl ⟨rfl, rfl⟩) (fun c hc => by cases hc) (fun c hc => by cases hc) (Nat.le_refl 0) (Nat.le_refl 0))
   have HC2 := Lib.hid (fun (W : World) (N : Nat) (e : Ext w3 W) (h1 : N < W.heap.size) (h2 : RowAt W (.cons 2 0 ⟨#[97]⟩ .nil (.cons 2 0 ⟨#[98, 99]⟩ .nil .nil)) N 0 ([] ++ [])) => show Calls Try.prog 73 #[.agg #[.int .i64 7, .int .i64 0, .string ⟨#[]⟩, .slice (some ⟨N, 0, none⟩) 2 2], .agg #[.int .i64 o2, .int .i64 n2, .string t2, .slice a2 L2 c2]] W (CatOut W (.cons 7 0 ⟨#[]⟩ (.cons 2 0 ⟨#[97]⟩ .nil (.cons 2 0 ⟨#[98, 99]⟩ .nil .nil)) (.cons o2 n2 t2 k2 .nil)) ([N] ++ f2)) from by
    have := l1Cat W 7 0 ⟨#[]⟩ (.cons 2 0 ⟨#[97]⟩ .nil (.cons 2 0 ⟨#[98, 99]⟩ .nil .nil)) (some ⟨N, 0, none⟩) 2 [N] o2 n2 t2 k2 a2 c2 f2 (Or.inr ⟨N, 0, _, rfl, (by intro e; cases e), rfl, h2⟩) (HS3.out.ext e).doc.sub (fun c hc => by simp at hc; omega) (HS3.out.ext e).doc.lt (Nat.le_refl 2) HS3.out.doc.cap_le
    rw [hL2] at this
    exact this)
   rw [hL2] at d3
   have HD3 := Lib.hid (And.intro d0 (And.intro d1 (And.intro d2 d3)))
   clear hL2
   go_wp2_with fail
   go_region_with
    (first
     | (go_at_call_of 73 (Value.agg #[.int .i64 2, .int .i64 0, .string ⟨#[97]⟩, .slice none 0 0]); refine (HC.out _).mono ?_; rintro e1 w4 ⟨N, rfl, hN1, hN2, hrow, hfz, hb4⟩; have q4 : Ext w3 w4 := (by first | exact hb4 | exact (Ext.refl w3).drew.trans hb4); have HD4 := Lib.hid (box4n HD3.out hb3 q4); obtain ⟨v40, v41, v42, v43⟩ := HD4.out; have hb4' := Nat.lt_of_lt_of_le hb3 q4.size)
     | (go_at_call_of 73 (Value.agg #[.int .i64 o2, .int .i64 n2, .string t2, .slice a2 L2 c2]); refine (HC2.out _ N q4 hN2 hrow).mono ?_; rintro e1 w5 ⟨N5, rfl, hM1, hM2, hrow5, hfz5, hb5⟩; have q5 : Ext w3 w5 := q4.trans hb5; have HD5 := Lib.hid (box4n HD3.out hb3 q5); have HR5 := Lib.hid (And.intro hN1 (And.intro hN2 (And.intro hfz (And.intro hM1 (And.intro hM2 (And.intro hrow5 (And.intro hfz5 hb5))))))); have y0 := (HS3.out.ext q5).fz 0; have y1 := (HS3.out.ext q5).fz 1; have y2 := (HS3.out.ext q5).fz 2; have y3 := (HS3.out.ext q5).fz 3; have hb5' := (HS3.out.ext q5).doc.blt; obtain ⟨v0, v1, v2, v3⟩ := HD5.out; clear hrow hfz hb4 hrow5 hfz5 hb5))
   all_goals
    go_wp2_with fail
    go_meet
    case rel =>
     obtain ⟨hN1, hN2, hfz, hM1, hM2, hrow5, hfz5, hb5⟩ := HR5.out
     have hb5e : Ext w4 w5 := hb5
     have hNw : w3.heap.size ≤ N := by have := (show Ext w3 w4 from q4).size; first | exact hN1 | (simp at hN1; omega)
     exact ⟨rfl, 7, 0, ⟨#[]⟩, _, _, 2, N5 :: ([N] ++ f2), HS3.out.put q5 rfl (Or.inr ⟨N5, 0, _, rfl, (by intro e; cases e), rfl, hrow5⟩) (freshN (by have := HS3.out.hb; have := HS3.out.doc.blt; omega) hM2 hfz5 (freshN (by have := HS3.out.hb; have := HS3.out.doc.blt; omega) (Nat.lt_of_lt_of_le hN2 hb5e.size) (fun o => by rw [hb5e.frozen hN2]; exact hfz o) (q5.fresh HS3.out.fr) (fun c hc => by have := HS3.out.doc.lt c hc; omega)) (fun c hc => by
      rcases List.mem_cons.1 hc with rfl | hc
      ·omega
      ·have := HS3.out.doc.lt c hc; omega)) (fun hm => by
      rcases List.mem_cons.1 hm with e | hm
      ·have := HS3.out.doc.blt; omega
      ·rcases List.mem_cons.1 hm with e | hm
       ·have := HS3.out.doc.blt; omega
       ·exact HS3.out.nb hm) (Nat.le_refl 2) (by have := HS3.out.sz; simp only [F.size]; have e0 : (⟨#[]⟩ : ByteArray).size = 0 := rfl; have e1 : (⟨#[97]⟩ : ByteArray).size = 1 := rfl; have e2 : (⟨#[98, 99]⟩ : ByteArray).size = 2 := rfl; omega)⟩
  ·rw [hL2] at d3
   clear hL2
   go_wp2_with fail
   go_meet
   case rel => exact ⟨rfl, 8, 0, ⟨#[]⟩, _, _, 1, _, S7.mono (M := 1001) (HS3.out.wrap 8 0 _ HL2.out) (by omega)⟩
  ·have c0 : (r == 0) = false := by rw [beq_eq_false_iff_ne]; exact g0
   have c1 : (r == 1) = false := by rw [beq_eq_false_iff_ne]; exact g1
   have c2' : (r == 2) = false := by rw [beq_eq_false_iff_ne]; exact g2
   have c3' : (r == 3) = false := by rw [beq_eq_false_iff_ne]; exact g3
   clear hL2
   go_wp2_with fail
   go_meet
   case rel => exact ⟨rfl, o2, n2, t2, k2, a2, c2, f2, S7.mono (M := 1000) HS3.out (by omega)⟩
 case rest =>
  obtain ⟨rfl, o4, n4, t4, k4, a4, c4, f4, hS4⟩ := hcut
  obtain ⟨q4, hq4', hr4⟩ := hS4.rd
  have HP4 := Lib.hid (pick wc (w.heap.size + 1) (w.heap.size + 1) q4 20 hr4 (by omega))
  have HS4 := Lib.hid hS4
  clear hS4 hr4
  go_wp2_with fail
  refine HP4.out.mono ?_
  rintro e5 w5 ⟨r5, rfl, hr50, hr52, hrd5, hbut5⟩
  have HS5 := Lib.hid (HS4.out.but' hbut5 hrd5 (by omega))
  have HRD5 := Lib.hid (And.intro hrd5 hbut5)
  obtain ⟨d0, d1, d2, d3⟩ := HS5.out.doc.box
  have hb5 := HS5.out.doc.blt
  clear hrd5 hbut5 hr52
  by_cases h0 : r5 = 0
  ·subst h0
   have HM := Lib.hid (l1Mutate w5 (w.heap.size + 1) _ _ 1010 o4 n4 t4 k4 a4 c4 f4 HS5.out.doc.sub HS5.out.doc.lt HS5.out.doc.cap_le HS5.out.sz (by omega) HRD5.out.1 (by omega) (by have := HS5.out.hb; omega))
   go_wp2_with fail
   refine HM.out.mono ?_
   rintro e6 w6 ⟨o6, n6, t6, k6, a6, c6, f6, q6, rfl, hc6, hs6, hsub6, hfr6, hrd6, hq6, hbut6⟩
   have hx6 : w.heap.size + 1 < w6.heap.size := by have := hbut6.size; have := HS5.out.hb; omega
   have HM6 := Lib.hid (l1Mutate w6 (w.heap.size + 1) _ q6 1030 o6 n6 t6 k6 a6 c6 f6 hsub6 hfr6.lt hc6 hs6 (by omega) hrd6 (by omega) hx6)
   have H6 := Lib.hid (And.intro hx6 hbut6)
   clear hc6 hs6 hsub6 hfr6 hrd6 hbut6 hx6 d0 d1 d2 d3
   go_wp2_with fail
   refine HM6.out.mono ?_
   rintro e7 w7 ⟨o7, n7, t7, k7, a7, c7, f7, q7, rfl, hc7, hs7, hsub7, hfr7, hrd7, hq7, hbut7⟩
   have g5 := HS5.out.hb
   have g6 := H6.out.1
   have hth7 : w7.there w.heap.size 0 4 := there_but (there_but HS5.out.th H6.out.2 (by omega) (by omega)) hbut7 (by omega) (by omega)
   have hl : w.heap.size < w7.heap.size := by have := hbut7.size; omega
   obtain ⟨⟨u0, u1, u2, u3, y0, y1, y2, y3⟩, z0, z1, z2, z3⟩ := there_at hth7
   have HE := Lib.hid (And.intro hc7 (And.intro (show t7.size + k7.size ≤ 1100 by omega) (And.intro hsub7 (And.intro (hfr7.mono (show w.heap.size + 1 ≤ w6.heap.size by omega)) ((HS5.out.bel.trans (H6.out.2.below (by omega) (by omega))).trans (hbut7.below (by omega) (by omega)))))))
   clear hc7 hs7 hsub7 hfr7 hrd7 hbut7 hth7 g5 g6
   go_wp2_with fail
   refine bodyPost_ret (v := .agg #[.int .i64 o7, .int .i64 n7, .string t7, .slice a7 k7.len c7]) (by simp [results, Try.results38, go_sem, y0, y1, y2, y3, hl]) rfl ?_
   have htt : Touch w.heap.size (w.heap.size + 1) w7 ((((w7.setCell ⟨w.heap.size, 0, none⟩ (.int .i64 o7)).setCell ⟨w.heap.size, 1, none⟩ (.int .i64 n7)).setCell ⟨w.heap.size, 2, none⟩ (.string t7)).setCell ⟨w.heap.size, 3, none⟩ (.slice a7 k7.len c7)) := by
    refine Touch.setCell (Touch.setCell (Touch.setCell (Touch.setCell (Touch.refl _ _ _) ?_ ?_ _) ?_ ?_ _) ?_ ?_ _) ?_ ?_ _ <;> simp
   obtain ⟨hc, hs, hsub, hfr, hB⟩ := HE.out
   have hfo : ∀ c ∈ f7, c < w.heap.size ∨ w.heap.size + 1 ≤ c := fun c hc => Or.inr (hfr.2 c hc).1
   exact ⟨o7, n7, t7, k7, a7, c7, f7, rfl, hc, hs, htt.sub hsub hfo, (htt.fresh hfr hfo).mono (by omega), htt.below hB (Nat.le_refl _)⟩
  ·have c0 : (r5 == 0) = false := by rw [beq_eq_false_iff_ne]; exact h0
   have hth5 := HS5.out.th
   have hl : w.heap.size < w5.heap.size := by have := HS5.out.hb; omega
   obtain ⟨⟨u0, u1, u2, u3, y0, y1, y2, y3⟩, z0, z1, z2, z3⟩ := there_at hth5
   have HE := Lib.hid (And.intro HS5.out.doc.cap_le (And.intro (show t4.size + k4.size ≤ 1100 by have := HS5.out.sz; omega) (And.intro HS5.out.doc.sub (And.intro (HS5.out.fr.mono (show w.heap.size + 1 ≤ w.heap.size + 2 by omega)) HS5.out.bel))))
   clear hth5
   go_wp2_with fail
   refine bodyPost_ret (v := .agg #[.int .i64 o4, .int .i64 n4, .string t4, .slice a4 k4.len c4]) (by simp [results, Try.results38, go_sem, y0, y1, y2, y3, hl]) rfl ?_
   have htt : Touch w.heap.size (w.heap.size + 1) w5 ((((w5.setCell ⟨w.heap.size, 0, none⟩ (.int .i64 o4)).setCell ⟨w.heap.size, 1, none⟩ (.int .i64 n4)).setCell ⟨w.heap.size, 2, none⟩ (.string t4)).setCell ⟨w.heap.size, 3, none⟩ (.slice a4 k4.len c4)) := by
    refine Touch.setCell (Touch.setCell (Touch.setCell (Touch.setCell (Touch.refl _ _ _) ?_ ?_ _) ?_ ?_ _) ?_ ?_ _) ?_ ?_ _ <;> simp
   obtain ⟨hc, hs, hsub, hfr, hB⟩ := HE.out
   have hfo : ∀ c ∈ f4, c < w.heap.size ∨ w.heap.size + 1 ≤ c := fun c hc => Or.inr (hfr.2 c hc).1
   exact ⟨o4, n4, t4, k4, a4, c4, f4, rfl, hc, hs, htt.sub hsub hfo, (htt.fresh hfr hfo).mono (by omega), htt.below hB (Nat.le_refl _)⟩
theorem drawDropGroups (w : World) (a : Option Addr) (len cap : Nat) (hb : Bytes w a len) (hlc : len ≤ cap) (hcm : cap ≤ maxLen) :
  Calls Try.prog 13 #[.slice a len cap] w (Dr7 w) := by
 have HO := Lib.hid (fun ob => l7Case (w.alloc ob) a len cap (LawC.bytes_below hb ((Below.refl _ _).alloc (Nat.le_refl _) ob)) hlc hcm)
 clear hb hlc hcm
 go_enter Try.func13, Try.ntmps13
 go_wp2_with fail
 refine (HO.out _).mono ?_
 rintro e1 w4 ⟨o3, n3, t3, k3, a3, c3, f3, rfl, hc3, hs3, hsub3, hfr3, hb1⟩
 have hth1 := four_new hb1
 simp only [World.size_alloc] at hfr3
 have hl : w.heap.size < w4.heap.size := by have := hb1.size; simp at this; omega
 obtain ⟨⟨u0, u1, u2, u3, y0, y1, y2, y3⟩, z0, z1, z2, z3⟩ := there_at hth1
 have HE := Lib.hid (And.intro hc3 (And.intro hs3 (And.intro hsub3 (And.intro hfr3 (opened' hb1)))))
 clear hc3 hs3 hsub3 hfr3 hb1 hth1
 go_wp2_with fail
 refine bodyPost_ret (v := .agg #[.int .i64 o3, .int .i64 n3, .string t3, .slice a3 k3.len c3]) (by simp [results, Try.results13, go_sem, y0, y1, y2, y3, hl]) rfl ?_
 have htt : Touch w.heap.size (w.heap.size + 1) w4 ((((w4.setCell ⟨w.heap.size, 0, none⟩ (.int .i64 o3)).setCell ⟨w.heap.size, 1, none⟩ (.int .i64 n3)).setCell ⟨w.heap.size, 2, none⟩ (.string t3)).setCell ⟨w.heap.size, 3, none⟩ (.slice a3 k3.len c3)) := by
  refine Touch.setCell (Touch.setCell (Touch.setCell (Touch.setCell (Touch.refl _ _ _) ?_ ?_ _) ?_ ?_ _) ?_ ?_ _) ?_ ?_ _ <;> simp
 obtain ⟨hc, hs, hsub, hfr, hB⟩ := HE.out
 have hfo : ∀ c ∈ f3, c < w.heap.size ∨ w.heap.size + 1 ≤ c := fun c hc => Or.inr (hfr.2 c hc).1
 exact ⟨o3, n3, t3, k3, a3, c3, f3, rfl, hc, hs, htt.sub hsub hfo, (htt.fresh hfr hfo).mono (by omega), htt.below hB (Nat.le_refl _)⟩
end Go.Proofs.Ytjcaiecapapceaa.Dr7

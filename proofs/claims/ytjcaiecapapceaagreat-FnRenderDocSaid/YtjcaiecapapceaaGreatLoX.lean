import Derived.Test.YtjcaiecapapceaaGreatRnE
import Derived.Test.YtjcaiecapapceaaGreatCsA
/-
 layOut of the program where the parts of a document are pushed.
-/
set_option linter.unusedVariables false
set_option linter.unusedSimpArgs false
set_option maxRecDepth 100000
set_option maxHeartbeats 6400000
namespace Go.Proofs.YtjcaiecapapceaaGreat.RnM
open Go.RowKit Go.Shelf P1 Cnt CntC Flat Wid ChP Rn Rf Bwd BufQ
attribute [local go_sem] Oper.semAt_some
theorem backK (a : Option Addr) (n cap : Nat) (w : World) : Calls Tryz.prog 133 #[.slice a n cap] w fun e w' => e = .returned (.func (.func 172) #[] #[.pointer (some ⟨w.heap.size, 0, none⟩)]) ∧ w' = w.alloc (.cells #[.slice a n cap] 23) := by
 go_enter Tryz.func133, Tryz.ntmps133
 go_wp2_with fail
 go_ret
 exact ⟨rfl, rfl⟩
def LoI (w0 : World) (B b : Nat) (W : Int) (its : List Itm) (S : St) (x : Itm) (a : Option Addr) (cap r0 cb : Nat) (wb : World) (j : Nat) (A : World) : Prop :=
 (∃ (Fz : Fs) (g p : F), x.k = p.app g ∧ g.len = j ∧ RF w0 B b W (kidsI g (x.i + x.n) ++ its) S Fz A ∧ (∀ q, Fz.r.ownBlock = some q → q ≠ r0 + 1)) ∧ Vars b x a cap r0 A ∧ Boxed A cb 23 (.slice a x.k.len cap) ∧ Below B wb A
def Kid (kb : Nat) (o n : Int) (t : ByteArray) (v : Value) (w : World) : Prop := w.heap[kb]? = some (.cells #[.int .i64 o, .int .i64 n, .string t, v] 25 (0, 0))
theorem kid_alloc {kb : Nat} {o n : Int} {t : ByteArray} {v : Value} {w : World} (h : Kid kb o n t v w) (ob : Obj) : Kid kb o n t v (w.alloc ob) := (Below.heap_alloc _ _ _ (Array.getElem?_eq_some_iff.1 h).1).trans h
theorem Kid.grown {kb : Nat} {o n : Int} {t : ByteArray} {v : Value} {w w' : World} (h : Kid kb o n t v w) {row : Option Nat} (hg : w.grownBy w' row) (hrow : ∀ g, row = some g → ∃ c, w.heap[g]? = some (Obj.cells c 109 (0, 0))) : Kid kb o n t v w' :=
 (hg.block _ (Array.getElem?_eq_some_iff.1 h).1 (fun e => by
  obtain ⟨c', hc⟩ := hrow kb e.symm
  rw [show w.heap[kb]? = _ from h] at hc; injection hc with hc; injection hc with _ hc; exact absurd hc (by decide))).trans h
theorem Kid.set {kb : Nat} {o n : Int} {t : ByteArray} {v : Value} {w : World} (h : Kid kb o n t v w) {b : Nat} (hb : b ≠ kb) (x : Nat) (u : Value) : Kid kb o n t v (w.setCell ⟨b, x, none⟩ u) :=
 (Below.heap_setCell _ _ _ _ (fun e => hb e.symm)).trans h
theorem held_s {w : World} {b r0 kb : Nat} {x : Itm} {a : Option Addr} {cap : Nat} {o n : Int} {t : ByteArray} {v : Value} (h : Vars b x a cap r0 w) (k : Kid kb o n t v w) :
  w.cell? ⟨r0, 0, none⟩ = some (.pointer (some ⟨b, 0, none⟩)) ∧ w.cell? ⟨r0 + 1, 4, none⟩ = some (.int .i64 x.i) ∧ w.cell? ⟨r0 + 1 + 1, 1, none⟩ = some (.int .i64 x.n) ∧ (w.cell? ⟨kb, 0, none⟩ = some (.int .i64 o) ∧ w.cell? ⟨kb, 1, none⟩ = some (.int .i64 n) ∧ w.cell? ⟨kb, 2, none⟩ = some (.string t) ∧ w.cell? ⟨kb, 3, none⟩ = some v) := by
 obtain ⟨v0, ⟨_, _, _, _, v5⟩, _, u2, _⟩ := h.cells
 have k' : w.heap[kb]? = _ := k
 refine ⟨v0, v5, u2, ?_, ?_, ?_, ?_⟩ <;> (simp only [World.cell?, k']; rfl)
theorem grown_rows {w w' : World} {B n m : Nat} {T : TypeId} {v : Value} {xs : List Value} (hg : w.grownBy w' v.ownBlock) (h : w.ownsRow B T n v m xs) : ∀ (j : Nat) (o : Obj), v.ownBlock = some j → w.heap[j]? = some o → o.isCells = true := by
 intro j o hj ho
 obtain ⟨c, hc⟩ := own_block h j hj
 rw [ho] at hc; cases hc; rfl
theorem own_new {D w5 : World} {ob : Obj} {B n m g5 N cap5 : Nat} {T : TypeId} {v : Value} {xs : List Value} (h : (D.alloc ob).ownsRow B T n v m xs) (hg : (D.alloc ob).grownBy w5 v.ownBlock) (hat : v.ownBlock = some g5 ∨ g5 = D.heap.size + 1) : ∀ q, (Value.slice (some ⟨g5, 0, none⟩) N cap5).ownBlock = some q → v.ownBlock = some q ∨ D.heap.size ≤ q := by
 intro q hq
 simp only [Value.ownBlock, Option.some.injEq] at hq
 subst hq
 rcases hat with hat | hat
 ·exact .inl hat
 ·exact .inr (by omega)
theorem keep_of {B b cb : Nat} {Y D w' : World} {v : Value} (hYD : Ext Y D) (hB : Boxed Y cb 23 v) (hcb : cb ≠ b) (hb : Below B D w') (hk : KeptBut [109] b D w') : Keep (fun c => c < B ∨ c = cb) Y w' := by
 refine ⟨Nat.le_trans hYD.size hb.size, fun c hc hl => ?_⟩
 rcases hc with hc | rfl
 ·exact (hb.block c hc).trans (hYD.block c hl)
 ·have h1 : D.heap[c]? = some (.cells #[v] 23 (0, 0)) := (hYD.block c hl).trans hB
  exact (hk _ _ _ _ h1 hcb (by decide)).trans (show Y.heap[c]? = _ from hB).symm
theorem layOut_eight {w0 w : World} {B b : Nat} {W : Int} {its : List Itm} {s : St} {d : Nat} {i m : Int} {t : ByteArray} {k : F} {a : Option Addr} {cap : Nat} (hB0 : Below B w0 w) (hBw0 : B ≤ w0.heap.size) (h : RS w0 B b W its s w) (hn : s.flags.length ≤ 1000000) (hi0 : 0 ≤ s.ind) (hi1 : s.ind ≤ 1000000) (ht : s.txt.size ≤ 4194304) (hW0 : 0 ≤ W) (hW1 : W ≤ 1000000)
  (hlen : its.length + k.len ≤ 4194304) (hsz : ∀ x ∈ its, x.t.size + x.k.size ≤ 4194304) (hsum : ldI its ≤ 4194304)
  (hk : KidsIn w0 B k a cap) (hok : okD d 8 m t k = true) (hfit : fitB W (ldI its) s t k = false) (hks : t.size + k.size ≤ 4194304) (hy0 : 0 ≤ i) (hy1 : i ≤ 1000000) (hm0 : 0 ≤ m) (hm1 : m ≤ 1000000) :
  Calls Tryz.prog 83 #[.pointer (some ⟨b, 0, none⟩), .agg #[.int .i64 8, .int .i64 m, .string t, .slice a k.len cap, .int .i64 i]] w fun e w' => e = .returned (.tuple #[]) ∧ RS w0 B b W (kidsI k (i + m) ++ its) ((s.flag false).put t) w' ∧ Below B w w' := by
 have hB : B ≤ w.heap.size := Nat.le_trans hBw0 hB0.size
 have hbl : b < w.heap.size := by obtain ⟨F, hF⟩ := h; exact hF.cells.2.2.2.2.2.2.1
 have hBb : B ≤ b := by obtain ⟨F, hF⟩ := h; exact hF.cells.2.2.2.2.2.2.2
 have HIS := Lib.hid (fun w' => isNewline w' 8)
 rw [show nl 8 = false from eight_nl] at HIS
 obtain ⟨V, hV⟩ : ∃ V, ((w.alloc (.cells #[.pointer (some ⟨b, 0, none⟩)] 50)).alloc (.cells #[.int .i64 8, .int .i64 m, .string t, .slice a k.len cap, .int .i64 i] 109)).alloc (.cells #[.int .i64 8, .int .i64 m, .string t, .slice a k.len cap] 25) = V := ⟨_, rfl⟩
 have hE : Ext w V := by rw [← hV]; exact (((Ext.refl w).alloc _).alloc _).alloc _
 have hVV := Vars.new b ⟨i, 8, m, t, k⟩ a cap w
 simp only [hV] at hVV
 have hBV : Below B w V := (Below.refl B w).trans (hE.mono hB)
 have HKID := Lib.hid hk
 have hkl : k.len ≤ 4194304 := by omega
 obtain ⟨⟨fa, fr, fl, fi, fg⟩, hF⟩ := h
 have HF := Lib.hid hF
 have HNB := Lib.hid (show ∀ q, fr.ownBlock = some q → q < w.heap.size from fun q hq => by obtain ⟨xs, x1, _⟩ := hF.rest; exact (x1.lt q hq).2)
 have HDC := Lib.hid (decideI (W := W) (hB0.trans hBV) hBw0 (hF.below hE) hn hi0 hi1 ht hW0 hW1 (by omega) hsz hsum hk hok hks)
 rw [hfit] at HDC
 obtain ⟨hcap, fs, hs, hfs⟩ := hk
 have HWF' := Lib.hid (fun (F : Fs) (W' : World) (h2 : B ≤ W'.heap.size) (h3 : Holds B b F s.txt.data.toList W') => writeString B b F s.txt.data.toList t W' h3 (by rw [len_text]; omega) (by omega) h2)
 refine calls_marks Tryz.func83 rfl ?_
 simp only [Tryz.ntmps83, List.size_toArray, List.length_cons, List.length_nil, Nat.reduceAdd, Nat.reduceSub, Array.replicate_succ, Array.replicate_zero, List.push_toArray, List.append_toArray, List.nil_append, List.cons_append]
 obtain ⟨v0, ⟨v1, v2, v3, v4, v5⟩, u1, u2, u3, u4⟩ := hVV.cells
 have HV := Lib.hid (And.intro hVV hBV)
 have HE := Lib.hid hE
 have HB := Lib.hid (And.intro hbl hBb)
 clear hVV hE hbl hBb hBV hs hfs hok hsz hF hfit
 go_wp2_with fail
 refine (HIS.out _).mono ?_
 rintro e1 w1 ⟨rfl, hw1⟩
 rw [hw1]
 clear hV hw1
 go_wp2_with fail
 refine HDC.out.mono ?_
 rintro e2 w2 ⟨rfl, ⟨⟨fa2, fr2, fl2, fi2, fg2⟩, hr, hF2⟩, hb2, hk2⟩
 obtain rfl : fr2 = fr := hr
 have HV2 := Lib.hid (show Vars b ⟨i, 8, m, t, k⟩ a cap w.heap.size w2.drew from HV.out.1.kept HB.out.1 hk2 (by decide) (by decide) (by decide))
 have H2 := Lib.hid (And.intro (hF2.below (Below.refl _ _).drew) (HV.out.2.trans hb2).drew)
 clear v0 v1 v2 v3 v4 v5 u1 u2 u3 u4 hb2 hk2 hF2
 obtain ⟨v0, ⟨_, _, _, _, v5⟩, u1, u2, u3, u4⟩ := HV2.out.cells
 go_wp2_with fail
 have HWF := Lib.hid (HWF'.out _ w2.drew (Nat.le_trans hB H2.out.2.size) H2.out.1.hold)
 have HBK := Lib.hid (backK a k.len cap)
 refine wp_region_noPanic ?_
 refine wp_region_held_drew (S := (fun w' => w'.cell? ⟨w.heap.size, 0, none⟩ = some (.pointer (some ⟨b, 0, none⟩)) ∧ w'.cell? ⟨w.heap.size + 1 + 1, 2, none⟩ = some (.string t))) (by kernel_rfl) ?_ (fun hHeld => ?_)
 ·exact ⟨v0, u3⟩
 refine wpAnyH_take (i := 0) (v := ?_) rfl (by kernel_rfl) (by kernel_rfl) (by kernel_rfl) (fun _ _ _ h => h) (Or.inl ⟨by rfl, ?_⟩) (by assumption) ?_
 rotate_left
 ·(intro w hSw; (try dsimp only at hSw); (go_simp <;> with_reducible rfl))
 try simp only [Act.put, zpu]
 refine wpAnyH_take (i := 1) (v := ?_) rfl (by kernel_rfl) (by kernel_rfl) (by kernel_rfl) (fun _ _ _ h => h) (Or.inl ⟨by rfl, ?_⟩) (by assumption) ?_
 rotate_left
 ·(intro w hSw; (try dsimp only at hSw); (go_simp <;> with_reducible rfl))
 try simp only [Act.put, zpu]
 refine wpAnyH_take (i := 2) (v := ?_) rfl (by kernel_rfl) (by kernel_rfl) (by kernel_rfl) (fun _ _ _ h => h) (Or.inl ⟨by rfl, ?_⟩) (by assumption) ?_
 rotate_left
 ·(intro w hSw; (try dsimp only at hSw); (go_simp <;> with_reducible rfl))
 try simp only [Act.put, zpu]
 refine wpAnyH_take (i := 3) (v := ?_) rfl (by kernel_rfl) (by kernel_rfl) (by kernel_rfl) (fun _ _ _ h => h) (Or.inl ⟨by rfl, ?_⟩) (by assumption) ?_
 rotate_left
 ·(intro w hSw; (try dsimp only at hSw); (go_simp <;> with_reducible rfl))
 try simp only [Act.put, zpu]
 refine wpAnyH_take (i := 4) (v := ?_) rfl (by kernel_rfl) (by kernel_rfl) (by kernel_rfl) (fun _ _ _ h => h) (Or.inl ⟨by rfl, ?_⟩) (by assumption) ?_
 rotate_left
 ·(intro w hSw; (try dsimp only at hSw); (go_simp <;> with_reducible rfl))
 try simp only [Act.put, zpu]
 refine wpAnyH_take (i := 5) (v := ?_) rfl (by kernel_rfl) (by kernel_rfl) (by kernel_rfl) (fun _ _ _ h => h) (Or.inl ⟨by rfl, ?_⟩) (by assumption) ?_
 rotate_left
 ·(intro w hSw; (try dsimp only at hSw); (go_simp <;> with_reducible rfl))
 try simp only [Act.put, zpu]
 refine wpAnyH_ready (rs := [6]) (by kernel_rfl) (by simp) ?_
 refine AllReadyH.cons rfl (fun K hK => ?_) AllReadyH.nil
 go_simp
 go_at_call 98
 refine HWF.out.mono ?_
 rintro e3 w3 ⟨rfl, hw3⟩
 have hV3 := HV2.out.kept HB.out.1 (kept_others (ts := [5]) hw3.2.2 (by decide)) (by decide) (by decide) (by decide)
 obtain ⟨x0, ⟨_, _, _, _, x5⟩, y1, y2, y3, y4⟩ := hV3.cells
 have H3 := Lib.hid (And.intro (H2.out.1.wrote (t := s.txt ++ t) hw3 (by simp [St.flag])) (H2.out.2.trans hw3.2.1))
 have HV3 := Lib.hid hV3
 clear hw3 hV3
 try go_wp2_with fail
 refine hK.out _ _ ?_ (fun hHeld6 => ?_)
 ·exact ⟨x0, y3⟩
 clear hK K hHeld
 try simp only [Act.put, zpu]
 refine wpAnyH_done (by kernel_rfl) ?_ _
 refine NoPanic.normal ?_
 clear v0 v5 u1 u2 u3 u4
 go_wp2_with fail
 refine (HBK.out _).mono ?_
 rintro e4 w4 ⟨rfl, rfl⟩
 go_wp2_with fail
 obtain ⟨W0, hW0⟩ : ∃ x, w3.alloc (.cells #[.slice a k.len cap] 23) = x := ⟨_, rfl⟩
 have hz : W0.heap.size = w3.heap.size + 1 := by rw [← hW0]; simp
 have hE0 : Ext w3 W0 := by rw [← hW0]; exact (Ext.refl _).alloc _
 have hX0 : Boxed W0 w3.heap.size 23 (.slice a k.len cap) := by rw [← hW0]; exact Boxed.new _ _ _
 try rw [hW0]
 clear hW0
 have hB3 := H3.out.2
 have hz3 := hB3.size
 have hbw3 : b < w.heap.size := HB.out.1
 have hr3 : w.heap.size + 1 + 1 < w3.heap.size := (Array.getElem?_eq_some_iff.1 HV3.out.2.2).1
 refine wpIn_wide.1 (rangeFunc_gives2 (n := 7) (gf := 172) (lb := #[.pointer (some ⟨w3.heap.size, 0, none⟩)]) (X := XK w0 B k) (Pc := fun c => c < B ∨ c = w3.heap.size) (N := k.len) ?g0 (enters_of Tryz.func172 (by kernel_rfl) rfl) (by omega) (backKids ((hB0.trans hB3).trans (hE0.mono (by omega))) HKID.out hX0.cell hkl) (fun c hc => by omega) (fun k args A W hX => by obtain ⟨q, p, o1, n1, t1, k1, r1, a1, cap1, _, _, _, rfl, _⟩ := hX; rfl)
  (fun j A => LoI w0 B b W its ((s.flag false).put t) ⟨i, 8, m, t, k⟩ a cap w.heap.size w3.heap.size w j A)
  (fun _ _ => False)
  (fun j A C ⟨⟨F, g, p, h1, h2, h3, h4⟩, h5, h6, h7⟩ hA hT => ⟨⟨F, g, p, h1, h2, h3.turn hT, h4⟩, h5.turn hT, hT.boxed h6, h7.trans (hT.below (by omega))⟩)
  (fun A C ⟨⟨F, g, p, h1, h2, h3, h4⟩, h5, h6, h7⟩ hE => ⟨⟨F, g, p, h1, h2, h3.below hE, h4⟩, h5.ext hE, (hE.block _ h6.lt).trans h6, h7.trans (hE.mono (by have := h7.size; omega))⟩)
  (fun _ _ _ h => h.elim)
  ⟨⟨_, .nil, k, (F.app_nil k).symm, rfl, H3.out.1.below hE0, fun q hq => by have := HNB.out q hq; omega⟩, HV3.out.ext hE0, hX0, hB3.trans (hE0.mono (by omega))⟩
  (fun args Y => { tmps := #[Value.pointer (some { block := b, off := 0 }), Value.agg #[Value.int IntKind.i64 8, Value.int IntKind.i64 m, Value.string t, Value.slice a k.len cap, Value.int IntKind.i64 i], Value.pointer (some { block := w.heap.size, off := 0 }), Value.pointer (some { block := w.heap.size + 1, off := 0 }), Value.pointer (some { block := w.heap.size + 1 + 1, off := 0 }), undef, .pointer (some ⟨Y.heap.size, 0, none⟩), Value.pointer (some { block := w.heap.size + 1, off := 0 }), Value.agg #[Value.int IntKind.i64 8, Value.int IntKind.i64 m, Value.string t, Value.slice a k.len cap], Value.pointer (some { block := w.heap.size + 1 + 1, off := 0 }), Value.int IntKind.i64 8, Value.bool false, undef, undef, undef, undef, undef, undef, Value.pointer (some { block := w.heap.size + 1 + 1, off := 0 }), Value.int IntKind.i64 8, Value.bool true, Value.bool true, Value.pointer (some { block := b, off := 0 }), Value.agg #[Value.int IntKind.i64 8, Value.int IntKind.i64 m, Value.string t, Value.slice a k.len cap], Value.bool false, Value.bool false, undef, undef, undef, undef, undef, undef, Value.pointer (some { block := b, off := 0 }), Value.pointer (some { block := b, off := 0 }), Value.pointer (some { block := b, off := 0 }), Value.pointer (some { block := b, off := 3 }), Value.pointer (some { block := w.heap.size + 1 + 1, off := 2 }), Value.string t, Value.tuple #[Value.int IntKind.i64 ↑t.size, Value.nilIface], Value.pointer (some { block := w.heap.size + 1 + 1, off := 3 }), Value.slice a k.len cap, Value.func (Fn.func 172) #[] #[Value.pointer (some { block := w3.heap.size, off := 0 })], args.getD 0 undef, args.getD 1 undef, undef, undef, undef, undef, undef, undef, undef, undef, undef, undef, undef, undef, undef, undef, undef, undef], defers := [] })
  (fun args Y => Y.alloc (.cells (args.getD 1 undef).cells 25)) (fun args Y => (Ext.refl Y).alloc _) ?assign ?body ?done ?stop)
 case g0 => rfl
 case assign =>
  rintro l j args A Y K ⟨q, p', o1, n1, t1, k1, r1, a1, cap1, hsp, hpl, hq, rfl, hkid⟩ hK
  clear hsp hpl hq hkid
  gi_wp2_with fail
  exact hK
 case body =>
  rintro l j args A Wp Y hj hz1 ⟨⟨⟨fa4, fr4, fl4, fi4, fg4⟩, g, p, h1, h2, h3, h4⟩, h5, h6, h7⟩ hE ⟨q, p', o1, n1, t1, k1, r1, a1, cap1, hsp, hpl, hq, rfl, hkid⟩ hT
  have hA2 : Ext A (Wp.alloc (.cells #[.int .i64 o1, .int .i64 n1, .string t1, .slice a1 k1.len cap1] 25)) := hE.trans ((Ext.refl _).alloc _)
  have hlen1 : k.len = p'.len + (1 + r1.len) := by rw [hsp, F.len_app]; simp only [F.len]; omega
  obtain rfl : r1 = g := F.app_inj_right (p'.app (.cons o1 n1 t1 k1 .nil)) p (by rw [F.app_assoc, ← h1, hsp]; rfl) (by omega)
  obtain ⟨i0, z0, hi, hzz, hz1', hz2, hz3'⟩ := info_some info5
  have HI := Lib.hid (And.intro hi (And.intro hzz (And.intro hz1' (And.intro hz2 hz3'))))
  clear hi hzz hz1' hz2 hz3'
  obtain ⟨N, hNN⟩ : ∃ N, (kidsI r1 (i + m) ++ its).length = N := ⟨_, rfl⟩
  have hNl : N ≤ 4194304 := by rw [← hNN, List.length_append, kidsI_len]; omega
  obtain ⟨ar, cr, rfl, hcr⟩ : ∃ a cap, fr4 = .slice a N cap ∧ N ≤ cap := by obtain ⟨xs, x1, _⟩ := h3.rest; rw [← hNN]; exact own_slice x1
  have hFY := (h3.below hA2).turn hT
  have hVY := (h5.ext hA2).turn hT
  have hBY : Boxed Y w3.heap.size 23 (.slice a k.len cap) := hT.boxed ((hA2.block _ h6.lt).trans h6)
  have hbY : Below B w Y := (h7.trans (hA2.mono (by have := h7.size; omega))).trans (hT.below (by omega))
  have hKY : Kid Wp.heap.size o1 n1 t1 (.slice a1 k1.len cap1) Y := (hT.block (World.alloc_heap_new Wp _) rfl).trans (World.alloc_heap_new Wp _)
  have hAz := h6.lt
  have hWz : Wp.heap.size < Y.heap.size := (Array.getElem?_eq_some_iff.1 hKY).1
  have hEz := hE.size
  obtain ⟨D, hD⟩ : ∃ D, Y.drew = D := ⟨_, rfl⟩
  have hYD : Ext Y D := by rw [← hD]; exact (Below.refl _ _).drew
  have hFD := hFY.below hYD
  have hVD := hVY.ext hYD
  have hKD : Kid Wp.heap.size o1 n1 t1 (.slice a1 k1.len cap1) D := (hYD.block _ hWz).trans hKY
  have hS0 := held_s hVD hKD
  obtain ⟨_, c1, _, _, _, _, hbD, _⟩ := hFD.cells
  have hzD : B ≤ D.heap.size := by have := hbY.size; have := hYD.size; omega
  obtain ⟨xs, hown0, hitems⟩ := hFD.rest
  have hownD : D.ownsRow B 109 5 (.slice ar N cr) N xs := by rw [hNN] at hown0; exact hown0
  have HXS := Lib.hid hitems
  have HFD := Lib.hid hFD
  have HVD := Lib.hid hVD
  have HKD := Lib.hid hKD
  have HITV := Lib.hid (show ItV w0 B ⟨i + m, o1, n1, t1, k1⟩ [.int .i64 o1, .int .i64 n1, .string t1, .slice a1 k1.len cap1, .int .i64 (i + m)] from ⟨a1, cap1, rfl, hkid⟩)
  have HNN := Lib.hid (show N + 1 = (kidsI r1 (i + m) ++ its).length + 1 by rw [hNN])
  have HNR := Lib.hid (show ∀ q, (Value.slice ar N cr).ownBlock = some q → q = w.heap.size + 1 → False from fun q hq e => h4 q hq e)
  have HBR := Lib.hid hbw3
  have HBR2 := Lib.hid HB.out.2
  have HBK2 := Lib.hid (show b ≠ Wp.heap.size by omega)
  have HSP := Lib.hid hsp
  have HLN := Lib.hid (show (F.cons o1 n1 t1 k1 r1).len = j + 1 by simp only [F.len]; omega)
  have HBD := Lib.hid (And.intro trivial (And.intro (hbY.trans (hYD.mono (by have := hbY.size; omega))) (keeps_of_ext hYD)))
  have HKP := Lib.hid (show ∀ w', Below B D w' → KeptBut [109] b D w' → Keep (fun c => c < B ∨ c = w3.heap.size) Y w' from fun w' hbl hkb => keep_of hYD hBY (by omega) hbl hkb)
  have HBOX := Lib.hid (show ∀ w', KeptBut [109] b D w' → Boxed w' w3.heap.size 23 (.slice a k.len cap) from fun w' hkb => hkb _ _ _ _ ((hYD.block _ hBY.lt).trans hBY) (by omega) (by decide))
  have HNQ := Lib.hid (show ∀ q, ((Value.slice ar N cr).ownBlock = some q ∨ D.heap.size ≤ q) → q ≠ w.heap.size + 1 from fun q hq e => by
   rcases hq with hq | hq
   ·exact h4 q hq e
   ·have := hYD.size; omega)
  have hx0 : IntKind.i64.wrap (i + m) = i + m := by rw [IntKind.wrap_i64]; omega
  refine wpIn_block ?_
  refine region_in (S := (fun w' => w'.cell? ⟨w.heap.size, 0, none⟩ = some (.pointer (some ⟨b, 0, none⟩)) ∧ w'.cell? ⟨w.heap.size + 1, 4, none⟩ = some (.int .i64 i) ∧ w'.cell? ⟨w.heap.size + 1 + 1, 1, none⟩ = some (.int .i64 m) ∧ (w'.cell? ⟨Wp.heap.size, 0, none⟩ = some (.int .i64 o1) ∧ w'.cell? ⟨Wp.heap.size, 1, none⟩ = some (.int .i64 n1) ∧ w'.cell? ⟨Wp.heap.size, 2, none⟩ = some (.string t1) ∧ w'.cell? ⟨Wp.heap.size, 3, none⟩ = some (.slice a1 k1.len cap1)))) (by kernel_rfl) (by simp) (fun h => by obtain ⟨_, _, h⟩ := h; exact h) ?_ (fun hHeld => ?_)
  ·rw [hD]; exact hS0
  rw [hD] at hHeld ⊢
  clear hD hFY hVY hBY hbY hKY hYD hFD hVD hKD hS0 hown0 hitems hkid h1 h3 h4 h5 h6 h7 hE hT hA2 hsp hNN hlen1 hpl hq h2 hj
  refine wpAnyH_take (i := 0) (v := ?_) rfl (by kernel_rfl) (by kernel_rfl) (by kernel_rfl) (fun _ _ _ h => h) (Or.inl ⟨by rfl, ?_⟩) (by assumption) ?_
  rotate_left
  ·(intro w hSw; (try dsimp only at hSw); (go_simp <;> with_reducible rfl))
  try simp only [Act.put, zpu]
  refine wpAnyH_take (i := 1) (v := ?_) rfl (by kernel_rfl) (by kernel_rfl) (by kernel_rfl) (fun _ _ _ h => h) (Or.inl ⟨by rfl, ?_⟩) (by assumption) ?_
  rotate_left
  ·(intro w hSw; (try dsimp only at hSw); (go_simp <;> with_reducible rfl))
  try simp only [Act.put, zpu]
  refine wpAnyH_take (i := 2) (v := ?_) rfl (by kernel_rfl) (by kernel_rfl) (by kernel_rfl) (fun _ _ _ h => h) (Or.inl ⟨by rfl, ?_⟩) (by assumption) ?_
  rotate_left
  ·(intro w hSw; (try dsimp only at hSw); (go_simp <;> with_reducible rfl))
  try simp only [Act.put, zpu]
  refine wpAnyH_take (i := 3) (v := ?_) rfl (by kernel_rfl) (by kernel_rfl) (by kernel_rfl) (fun _ _ _ h => h) (Or.inl ⟨by rfl, ?_⟩) (by assumption) ?_
  rotate_left
  ·(intro w hSw; (try dsimp only at hSw); (go_simp <;> with_reducible rfl))
  try simp only [Act.put, zpu]
  refine wpAnyH_take (i := 5) (v := ?_) rfl (by kernel_rfl) (by kernel_rfl) (by kernel_rfl) (fun _ _ _ h => h) (Or.inl ⟨by rfl, ?_⟩) (by assumption) ?_
  rotate_left
  ·(intro w hSw; (try dsimp only at hSw); (go_simp <;> with_reducible rfl))
  try simp only [Act.put, zpu]
  refine wpAnyH_take (i := 6) (v := ?_) rfl (by kernel_rfl) (by kernel_rfl) (by kernel_rfl) (fun _ _ _ h => h) (Or.inl ⟨by rfl, ?_⟩) (by assumption) ?_
  rotate_left
  ·(intro w hSw; (try dsimp only at hSw); (go_simp <;> with_reducible rfl))
  try simp only [Act.put, zpu]
  refine wpAnyH_take (i := 7) (v := ?_) rfl (by kernel_rfl) (by kernel_rfl) (by kernel_rfl) (fun _ _ _ h => h) (Or.inl ⟨by rfl, ?_⟩) (by assumption) ?_
  rotate_left
  ·(intro w hSw; (try dsimp only at hSw); (go_simp <;> with_reducible rfl))
  try simp only [Act.put, zpu]
  refine wpAnyH_take (i := 8) (v := ?_) rfl (by kernel_rfl) (by kernel_rfl) (by kernel_rfl) (fun _ _ _ h => h) (Or.inl ⟨by rfl, ?_⟩) (by assumption) ?_
  rotate_left
  ·(intro w hSw; (try dsimp only at hSw); (go_simp <;> with_reducible rfl))
  try simp only [Act.put, zpu]
  refine wpAnyH_take (i := 9) (v := ?_) rfl (by kernel_rfl) (by kernel_rfl) (by kernel_rfl) (fun _ _ _ h => h) (Or.inl ⟨by rfl, ?_⟩) (by assumption) ?_
  rotate_left
  ·(intro w hSw; (try dsimp only at hSw); (go_simp <;> with_reducible rfl))
  try simp only [Act.put, zpu]
  refine wpAnyH_take (i := 10) (v := ?_) rfl (by kernel_rfl) (by kernel_rfl) (by kernel_rfl) (fun _ _ _ h => h) (Or.inl ⟨by rfl, ?_⟩) (by assumption) ?_
  rotate_left
  ·(intro w hSw; (try dsimp only at hSw); (go_simp <;> with_reducible rfl))
  try simp only [Act.put, zpu]
  refine wpAnyH_take (i := 11) (v := ?_) rfl (by kernel_rfl) (by kernel_rfl) (by kernel_rfl) (fun _ _ _ h => h) (Or.inl ⟨by rfl, ?_⟩) (by assumption) ?_
  rotate_left
  ·(intro w hSw; (try dsimp only at hSw); (go_simp <;> with_reducible rfl))
  try simp only [Act.put, zpu]
  refine wpAnyH_ready (rs := [4, 12]) (by kernel_rfl) (by simp) ?_
  refine AllReadyH.cons rfl (fun K hK => ?_) ?_
  ·go_simp
   refine hK.out _ _ ?_ (fun hHeld4 => ?_)
   ·exact hHeld
   clear hK K hHeld
   try simp only [Act.put, zpu]
   refine wpAnyH_ready (rs := [12]) (by kernel_rfl) (by simp) ?_
   refine AllReadyH.cons rfl (fun K hK => ?_) AllReadyH.nil
   have c1b := fun (ob : Obj) => (((Below.refl D.heap.size D).alloc (Nat.le_refl _) ob).cell (p := ⟨b, 5, none⟩) hbD).trans c1
   have hSb := fun (ob : Obj) => held_s (HVD.out.ext ((Below.refl D.heap.size D).alloc (Nat.le_refl _) ob)) (kid_alloc HKD.out ob)
   go_simp
   refine hK.out _ _ ?_ (fun hHeld12 => ?_)
   ·exact hSb _
   clear hK K hHeld4
   try simp only [Act.put, zpu]
   refine wpAnyH_ready (rs := [13]) (by kernel_rfl) (by simp) ?_
   refine AllReadyH.cons rfl (fun K hK => ?_) AllReadyH.nil
   refine wp_append_lies _ (.tmp 48) (.tmp 56) 58 (by rfl) B 109 i0 z0 5 64 Tryz.underlying58 HI.out.1 HI.out.2.1 HI.out.2.2.1 HI.out.2.2.2.1 HI.out.2.2.2.2 (by omega) (.slice ar N cr) N xs (by rfl) (hownD.alloc _) ⟨D.heap.size, 0, none⟩ 1 1 [.int .i64 o1, .int .i64 n1, .string t1, .slice a1 k1.len cap1, .int .i64 (i + m)] (by rfl) rfl (five_news D o1 n1 (i + m) t1 _ _) (by simp [Value.oneCell']) (by omega) (by unfold maxLen; omega) (by omega) (Nat.le_trans hzD (by simp)) (D.heap.size + 1) (by simp) ?_
   intro g5 cap5 w5 hown5 hgrow5 hat5 hlt5
   obtain ⟨k5, kz, hset⟩ := HFD.out.append_item (y := ⟨i + m, o1, n1, t1, k1⟩) ⟨xs, rfl, HXS.out⟩ HITV.out hgrow5 HNN.out hown5
   have hrw5 := grown_rows hgrow5 (hownD.alloc _)
   have hV5 : Vars b ⟨i, 8, m, t, k⟩ a cap w.heap.size w5 := (HVD.out.ext ((Below.refl D.heap.size D).alloc (Nat.le_refl _) _)).grown hgrow5 (own_block (hownD.alloc _)) (fun e => HNR.out _ e rfl)
   have hK5 := (kid_alloc HKD.out _).grown hgrow5 (own_block (hownD.alloc _))
   have hS5 := held_s hV5 hK5
   have HSET := Lib.hid hset
   have HV5 := Lib.hid (And.intro hV5 hK5)
   have H5 := Lib.hid (And.intro (below_append hgrow5 hownD hzD) (And.intro (kept_append (ts := [109]) (b := b) hgrow5 hownD (by decide)) (And.intro ((KeepsOthers.alloc D _).trans (KeepsOthers.of_grownBy hgrow5 hrw5)) (And.intro (own_new (N := N + 1) (cap5 := cap5) (hownD.alloc _) hgrow5 hat5) hlt5))))
   clear hset hgrow5 hown5 hat5 hV5 hK5 hrw5
   refine hK.out _ _ ?_ (fun hHeld13 => ?_)
   ·exact hS5
   clear hK K hHeld12
   try simp only [Act.put, zpu]
   refine wpAnyH_take (i := 14) (v := ?_) rfl (by kernel_rfl) (by kernel_rfl) (by kernel_rfl) (fun _ _ _ h => h) (Or.inl ⟨by rfl, ?_⟩) (by assumption) ?_
   rotate_left
   ·(intro w hSw; (try dsimp only at hSw); (go_simp <;> with_reducible rfl))
   try simp only [Act.put, zpu]
   refine wpAnyH_take (i := 15) (v := ?_) rfl (by kernel_rfl) (by kernel_rfl) (by kernel_rfl) (fun _ _ _ h => h) (Or.inl ⟨by rfl, ?_⟩) (by assumption) ?_
   rotate_left
   ·(intro w hSw; (try dsimp only at hSw); (go_simp <;> with_reducible rfl))
   try simp only [Act.put, zpu]
   refine wpAnyH_ready (rs := [16]) (by kernel_rfl) (by simp) ?_
   refine AllReadyH.cons rfl (fun K hK => ?_) AllReadyH.nil
   go_simp
   refine hK.out _ _ ?_ (fun hHeld16 => ?_)
   ·exact held_s (HV5.out.1.set HBR.out 5 _) (HV5.out.2.set HBK2.out 5 _)
   clear hK K hHeld13
   try simp only [Act.put, zpu]
   refine wpAnyH_done (by kernel_rfl) ?_ _
   gi_wp2_with fail
   have hset := HSET.out
   have hbD5 := HBD.out.2.1.trans (H5.out.1.setCell (p := ⟨b, 5, none⟩) HBR2.out (.slice (some ⟨g5, 0, none⟩) (N + 1) cap5))
   refine ⟨(HBD.out.2.2.trans H5.out.2.2.1).trans (KeepsOthers.setCell _ _ _), ?_, ⟨⟨_, .cons o1 n1 t1 k1 r1, p', HSP.out, HLN.out, hset, fun q hq => ?_⟩, HV5.out.1.set HBR.out 5 _, HBOX.out _ (H5.out.2.1.trans (kept_set [109] b 5 _ _)), hbD5⟩⟩
   ·exact HKP.out _ (H5.out.1.setCell (p := ⟨b, 5, none⟩) HBR2.out _) (H5.out.2.1.trans (kept_set [109] b 5 _ _))
   ·exact HNQ.out q (H5.out.2.2.2.1 q hq)
  refine AllReadyH.cons rfl (fun K hK => ?_) AllReadyH.nil
  have c1b := fun (ob : Obj) => (((Below.refl D.heap.size D).alloc (Nat.le_refl _) ob).cell (p := ⟨b, 5, none⟩) hbD).trans c1
  have hSb := fun (ob : Obj) => held_s (HVD.out.ext ((Below.refl D.heap.size D).alloc (Nat.le_refl _) ob)) (kid_alloc HKD.out ob)
  go_simp
  refine hK.out _ _ ?_ (fun hHeld12 => ?_)
  ·exact hSb _
  clear hK K hHeld
  try simp only [Act.put, zpu]
  refine wpAnyH_ready (rs := [4]) (by kernel_rfl) (by simp) ?_
  refine AllReadyH.cons rfl (fun K hK => ?_) AllReadyH.nil
  go_simp
  refine hK.out _ _ ?_ (fun hHeld4 => ?_)
  ·exact hSb _
  clear hK K hHeld12
  try simp only [Act.put, zpu]
  refine wpAnyH_ready (rs := [13]) (by kernel_rfl) (by simp) ?_
  refine AllReadyH.cons rfl (fun K hK => ?_) AllReadyH.nil
  refine wp_append_lies _ (.tmp 48) (.tmp 56) 58 (by rfl) B 109 i0 z0 5 64 Tryz.underlying58 HI.out.1 HI.out.2.1 HI.out.2.2.1 HI.out.2.2.2.1 HI.out.2.2.2.2 (by omega) (.slice ar N cr) N xs (by rfl) (hownD.alloc _) ⟨D.heap.size, 0, none⟩ 1 1 [.int .i64 o1, .int .i64 n1, .string t1, .slice a1 k1.len cap1, .int .i64 (i + m)] (by rfl) rfl (five_news D o1 n1 (i + m) t1 _ _) (by simp [Value.oneCell']) (by omega) (by unfold maxLen; omega) (by omega) (Nat.le_trans hzD (by simp)) (D.heap.size + 1) (by simp) ?_
  intro g5 cap5 w5 hown5 hgrow5 hat5 hlt5
  obtain ⟨k5, kz, hset⟩ := HFD.out.append_item (y := ⟨i + m, o1, n1, t1, k1⟩) ⟨xs, rfl, HXS.out⟩ HITV.out hgrow5 HNN.out hown5
  have hrw5 := grown_rows hgrow5 (hownD.alloc _)
  have hV5 : Vars b ⟨i, 8, m, t, k⟩ a cap w.heap.size w5 := (HVD.out.ext ((Below.refl D.heap.size D).alloc (Nat.le_refl _) _)).grown hgrow5 (own_block (hownD.alloc _)) (fun e => HNR.out _ e rfl)
  have hK5 := (kid_alloc HKD.out _).grown hgrow5 (own_block (hownD.alloc _))
  have hS5 := held_s hV5 hK5
  have HSET := Lib.hid hset
  have HV5 := Lib.hid (And.intro hV5 hK5)
  have H5 := Lib.hid (And.intro (below_append hgrow5 hownD hzD) (And.intro (kept_append (ts := [109]) (b := b) hgrow5 hownD (by decide)) (And.intro ((KeepsOthers.alloc D _).trans (KeepsOthers.of_grownBy hgrow5 hrw5)) (And.intro (own_new (N := N + 1) (cap5 := cap5) (hownD.alloc _) hgrow5 hat5) hlt5))))
  clear hset hgrow5 hown5 hat5 hV5 hK5 hrw5
  refine hK.out _ _ ?_ (fun hHeld13 => ?_)
  ·exact hS5
  clear hK K hHeld4
  try simp only [Act.put, zpu]
  refine wpAnyH_take (i := 14) (v := ?_) rfl (by kernel_rfl) (by kernel_rfl) (by kernel_rfl) (fun _ _ _ h => h) (Or.inl ⟨by rfl, ?_⟩) (by assumption) ?_
  rotate_left
  ·(intro w hSw; (try dsimp only at hSw); (go_simp <;> with_reducible rfl))
  try simp only [Act.put, zpu]
  refine wpAnyH_take (i := 15) (v := ?_) rfl (by kernel_rfl) (by kernel_rfl) (by kernel_rfl) (fun _ _ _ h => h) (Or.inl ⟨by rfl, ?_⟩) (by assumption) ?_
  rotate_left
  ·(intro w hSw; (try dsimp only at hSw); (go_simp <;> with_reducible rfl))
  try simp only [Act.put, zpu]
  refine wpAnyH_ready (rs := [16]) (by kernel_rfl) (by simp) ?_
  refine AllReadyH.cons rfl (fun K hK => ?_) AllReadyH.nil
  go_simp
  refine hK.out _ _ ?_ (fun hHeld16 => ?_)
  ·exact held_s (HV5.out.1.set HBR.out 5 _) (HV5.out.2.set HBK2.out 5 _)
  clear hK K hHeld13
  try simp only [Act.put, zpu]
  refine wpAnyH_done (by kernel_rfl) ?_ _
  gi_wp2_with fail
  have hset := HSET.out
  have hbD5 := HBD.out.2.1.trans (H5.out.1.setCell (p := ⟨b, 5, none⟩) HBR2.out (.slice (some ⟨g5, 0, none⟩) (N + 1) cap5))
  refine ⟨(HBD.out.2.2.trans H5.out.2.2.1).trans (KeepsOthers.setCell _ _ _), ?_, ⟨⟨_, .cons o1 n1 t1 k1 r1, p', HSP.out, HLN.out, hset, fun q hq => ?_⟩, HV5.out.1.set HBR.out 5 _, HBOX.out _ (H5.out.2.1.trans (kept_set [109] b 5 _ _)), hbD5⟩⟩
  ·exact HKP.out _ (H5.out.1.setCell (p := ⟨b, 5, none⟩) HBR2.out _) (H5.out.2.1.trans (kept_set [109] b 5 _ _))
  ·exact HNQ.out q (H5.out.2.2.2.1 q hq)
 case done =>
  rintro D A Y hD ⟨⟨Fz, g, p, h1, h2, h3, h4⟩, h5, h6, h7⟩ ⟨B', hE, hT⟩ hK
  replace h1 : k = p.app g := h1
  have hp : p = .nil := F.len_eq_zero (by have := congrArg F.len h1; rw [F.len_app] at this; omega)
  subst hp
  obtain rfl : k = g := h1
  have hFY := (h3.below hE).turn hT
  have hbY : Below B w Y := (h7.trans (hE.mono (by have := h7.size; omega))).trans (hT.below (by omega))
  have hT2 : Turn W0.heap.size Y (Y.putObj D (.deferred none)) := turn_put _ hK rfl hD
  have HFY := Lib.hid (And.intro (hFY.turn hT2) (hbY.trans (hT2.below (by omega))))
  clear hFY hbY hT2 h3 h4 h5 h6 h7 hE hT h2
  go_wp2_with fail
  exact leave_mark hK (results_none rfl _ _ _) ⟨rfl, ⟨_, HFY.out.1⟩, HFY.out.2⟩
 case stop =>
  rintro D c A Y _ h _ _
  exact h.elim
theorem layOut_else {w0 w : World} {B b : Nat} {W : Int} {its : List Itm} {s : St} {d : Nat} {i m : Int} {t : ByteArray} {k : F} {a : Option Addr} {cap : Nat} (hB0 : Below B w0 w) (hBw0 : B ≤ w0.heap.size) (h : RS w0 B b W its s w) (hn : s.flags.length ≤ 1000000) (hi0 : 0 ≤ s.ind) (hi1 : s.ind ≤ 1000000) (ht : s.txt.size ≤ 4194304) (hW0 : 0 ≤ W) (hW1 : W ≤ 1000000)
  (hlen : its.length + k.len ≤ 4194304) (hsz : ∀ x ∈ its, x.t.size + x.k.size ≤ 4194304) (hsum : ldI its ≤ 4194304)
  (hk : KidsIn w0 B k a cap) {o : Int} (hok : okD d o m t k = true) (hnl : nl o = false) (h8 : (o == 8) = false) (hks : t.size + k.size ≤ 4194304) (hy0 : 0 ≤ i) (hy1 : i ≤ 1000000) (hm0 : 0 ≤ m) (hm1 : m ≤ 1000000) :
  Calls Tryz.prog 83 #[.pointer (some ⟨b, 0, none⟩), .agg #[.int .i64 o, .int .i64 m, .string t, .slice a k.len cap, .int .i64 i]] w fun e w' => e = .returned (.tuple #[]) ∧ RS w0 B b W (kidsI k (i + m) ++ its) (s.put t) w' ∧ Below B w w' := by
 have hB : B ≤ w.heap.size := Nat.le_trans hBw0 hB0.size
 have hbl : b < w.heap.size := by obtain ⟨F, hF⟩ := h; exact hF.cells.2.2.2.2.2.2.1
 have hBb : B ≤ b := by obtain ⟨F, hF⟩ := h; exact hF.cells.2.2.2.2.2.2.2
 have HIS := Lib.hid (fun w' => isNewline w' o)
 rw [show nl o = false from hnl] at HIS
 obtain ⟨V, hV⟩ : ∃ V, ((w.alloc (.cells #[.pointer (some ⟨b, 0, none⟩)] 50)).alloc (.cells #[.int .i64 o, .int .i64 m, .string t, .slice a k.len cap, .int .i64 i] 109)).alloc (.cells #[.int .i64 o, .int .i64 m, .string t, .slice a k.len cap] 25) = V := ⟨_, rfl⟩
 have hE : Ext w V := by rw [← hV]; exact (((Ext.refl w).alloc _).alloc _).alloc _
 have hVV := Vars.new b ⟨i, o, m, t, k⟩ a cap w
 simp only [hV] at hVV
 have hBV : Below B w V := (Below.refl B w).trans (hE.mono hB)
 have HKID := Lib.hid hk
 have hkl : k.len ≤ 4194304 := by omega
 obtain ⟨⟨fa, fr, fl, fi, fg⟩, hF⟩ := h
 have HF := Lib.hid hF
 have HNB := Lib.hid (show ∀ q, fr.ownBlock = some q → q < w.heap.size from fun q hq => by obtain ⟨xs, x1, _⟩ := hF.rest; exact (x1.lt q hq).2)
 obtain ⟨hcap, fs, hs, hfs⟩ := hk
 have HWF' := Lib.hid (fun (F : Fs) (W' : World) (h2 : B ≤ W'.heap.size) (h3 : Holds B b F s.txt.data.toList W') => writeString B b F s.txt.data.toList t W' h3 (by rw [len_text]; omega) (by omega) h2)
 refine calls_marks Tryz.func83 rfl ?_
 simp only [Tryz.ntmps83, List.size_toArray, List.length_cons, List.length_nil, Nat.reduceAdd, Nat.reduceSub, Array.replicate_succ, Array.replicate_zero, List.push_toArray, List.append_toArray, List.nil_append, List.cons_append]
 obtain ⟨v0, ⟨v1, v2, v3, v4, v5⟩, u1, u2, u3, u4⟩ := hVV.cells
 have HV := Lib.hid (And.intro hVV hBV)
 have HE := Lib.hid hE
 have HB := Lib.hid (And.intro hbl hBb)
 clear hVV hE hbl hBb hBV hs hfs hok hsz hF hnl
 go_wp2_with fail
 refine (HIS.out _).mono ?_
 rintro e1 w1 ⟨rfl, hw1⟩
 rw [hw1]
 clear hV hw1
 go_wp2_with fail
 have HV2 := Lib.hid (show Vars b ⟨i, o, m, t, k⟩ a cap w.heap.size V.drew from HV.out.1)
 have H2 := Lib.hid (And.intro ((HF.out.below HE.out).below (Below.refl _ _).drew) HV.out.2.drew)
 clear v0 v1 v2 v3 v4 v5 u1 u2 u3 u4
 obtain ⟨v0, ⟨_, _, _, _, v5⟩, u1, u2, u3, u4⟩ := HV2.out.cells
 have HWF := Lib.hid (HWF'.out _ V.drew (Nat.le_trans hB H2.out.2.size) H2.out.1.hold)
 have HBK := Lib.hid (backK a k.len cap)
 refine wp_region_noPanic ?_
 refine wp_region_held_drew (S := (fun w' => w'.cell? ⟨w.heap.size, 0, none⟩ = some (.pointer (some ⟨b, 0, none⟩)) ∧ w'.cell? ⟨w.heap.size + 1 + 1, 2, none⟩ = some (.string t))) (by kernel_rfl) ?_ (fun hHeld => ?_)
 ·exact ⟨v0, u3⟩
 refine wpAnyH_take (i := 0) (v := ?_) rfl (by kernel_rfl) (by kernel_rfl) (by kernel_rfl) (fun _ _ _ h => h) (Or.inl ⟨by rfl, ?_⟩) (by assumption) ?_
 rotate_left
 ·(intro w hSw; (try dsimp only at hSw); (go_simp <;> with_reducible rfl))
 try simp only [Act.put, zpu]
 refine wpAnyH_take (i := 1) (v := ?_) rfl (by kernel_rfl) (by kernel_rfl) (by kernel_rfl) (fun _ _ _ h => h) (Or.inl ⟨by rfl, ?_⟩) (by assumption) ?_
 rotate_left
 ·(intro w hSw; (try dsimp only at hSw); (go_simp <;> with_reducible rfl))
 try simp only [Act.put, zpu]
 refine wpAnyH_take (i := 2) (v := ?_) rfl (by kernel_rfl) (by kernel_rfl) (by kernel_rfl) (fun _ _ _ h => h) (Or.inl ⟨by rfl, ?_⟩) (by assumption) ?_
 rotate_left
 ·(intro w hSw; (try dsimp only at hSw); (go_simp <;> with_reducible rfl))
 try simp only [Act.put, zpu]
 refine wpAnyH_take (i := 3) (v := ?_) rfl (by kernel_rfl) (by kernel_rfl) (by kernel_rfl) (fun _ _ _ h => h) (Or.inl ⟨by rfl, ?_⟩) (by assumption) ?_
 rotate_left
 ·(intro w hSw; (try dsimp only at hSw); (go_simp <;> with_reducible rfl))
 try simp only [Act.put, zpu]
 refine wpAnyH_take (i := 4) (v := ?_) rfl (by kernel_rfl) (by kernel_rfl) (by kernel_rfl) (fun _ _ _ h => h) (Or.inl ⟨by rfl, ?_⟩) (by assumption) ?_
 rotate_left
 ·(intro w hSw; (try dsimp only at hSw); (go_simp <;> with_reducible rfl))
 try simp only [Act.put, zpu]
 refine wpAnyH_take (i := 5) (v := ?_) rfl (by kernel_rfl) (by kernel_rfl) (by kernel_rfl) (fun _ _ _ h => h) (Or.inl ⟨by rfl, ?_⟩) (by assumption) ?_
 rotate_left
 ·(intro w hSw; (try dsimp only at hSw); (go_simp <;> with_reducible rfl))
 try simp only [Act.put, zpu]
 refine wpAnyH_ready (rs := [6]) (by kernel_rfl) (by simp) ?_
 refine AllReadyH.cons rfl (fun K hK => ?_) AllReadyH.nil
 go_simp
 go_at_call 98
 refine HWF.out.mono ?_
 rintro e3 w3 ⟨rfl, hw3⟩
 have hV3 := HV2.out.kept HB.out.1 (kept_others (ts := [5]) hw3.2.2 (by decide)) (by decide) (by decide) (by decide)
 obtain ⟨x0, ⟨_, _, _, _, x5⟩, y1, y2, y3, y4⟩ := hV3.cells
 have H3 := Lib.hid (And.intro (H2.out.1.wrote (t := s.txt ++ t) hw3 (by simp [St.flag])) (H2.out.2.trans hw3.2.1))
 have HV3 := Lib.hid hV3
 clear hw3 hV3
 try go_wp2_with fail
 refine hK.out _ _ ?_ (fun hHeld6 => ?_)
 ·exact ⟨x0, y3⟩
 clear hK K hHeld
 try simp only [Act.put, zpu]
 refine wpAnyH_done (by kernel_rfl) ?_ _
 refine NoPanic.normal ?_
 clear v0 v5 u1 u2 u3 u4
 go_wp2_with fail
 refine (HBK.out _).mono ?_
 rintro e4 w4 ⟨rfl, rfl⟩
 go_wp2_with fail
 obtain ⟨W0, hW0⟩ : ∃ x, w3.alloc (.cells #[.slice a k.len cap] 23) = x := ⟨_, rfl⟩
 have hz : W0.heap.size = w3.heap.size + 1 := by rw [← hW0]; simp
 have hE0 : Ext w3 W0 := by rw [← hW0]; exact (Ext.refl _).alloc _
 have hX0 : Boxed W0 w3.heap.size 23 (.slice a k.len cap) := by rw [← hW0]; exact Boxed.new _ _ _
 try rw [hW0]
 clear hW0
 have hB3 := H3.out.2
 have hz3 := hB3.size
 have hbw3 : b < w.heap.size := HB.out.1
 have hr3 : w.heap.size + 1 + 1 < w3.heap.size := (Array.getElem?_eq_some_iff.1 HV3.out.2.2).1
 refine wpIn_wide.1 (rangeFunc_gives2 (n := 7) (gf := 172) (lb := #[.pointer (some ⟨w3.heap.size, 0, none⟩)]) (X := XK w0 B k) (Pc := fun c => c < B ∨ c = w3.heap.size) (N := k.len) ?g0 (enters_of Tryz.func172 (by kernel_rfl) rfl) (by omega) (backKids ((hB0.trans hB3).trans (hE0.mono (by omega))) HKID.out hX0.cell hkl) (fun c hc => by omega) (fun k args A W hX => by obtain ⟨q, p, o1, n1, t1, k1, r1, a1, cap1, _, _, _, rfl, _⟩ := hX; rfl)
  (fun j A => LoI w0 B b W its (s.put t) ⟨i, o, m, t, k⟩ a cap w.heap.size w3.heap.size w j A)
  (fun _ _ => False)
  (fun j A C ⟨⟨F, g, p, h1, h2, h3, h4⟩, h5, h6, h7⟩ hA hT => ⟨⟨F, g, p, h1, h2, h3.turn hT, h4⟩, h5.turn hT, hT.boxed h6, h7.trans (hT.below (by omega))⟩)
  (fun A C ⟨⟨F, g, p, h1, h2, h3, h4⟩, h5, h6, h7⟩ hE => ⟨⟨F, g, p, h1, h2, h3.below hE, h4⟩, h5.ext hE, (hE.block _ h6.lt).trans h6, h7.trans (hE.mono (by have := h7.size; omega))⟩)
  (fun _ _ _ h => h.elim)
  ⟨⟨_, .nil, k, (F.app_nil k).symm, rfl, H3.out.1.below hE0, fun q hq => by have := HNB.out q hq; omega⟩, HV3.out.ext hE0, hX0, hB3.trans (hE0.mono (by omega))⟩
  (fun args Y => { tmps := #[Value.pointer (some { block := b, off := 0 }), Value.agg #[Value.int IntKind.i64 o, Value.int IntKind.i64 m, Value.string t, Value.slice a k.len cap, Value.int IntKind.i64 i], Value.pointer (some { block := w.heap.size, off := 0 }), Value.pointer (some { block := w.heap.size + 1, off := 0 }), Value.pointer (some { block := w.heap.size + 1 + 1, off := 0 }), undef, .pointer (some ⟨Y.heap.size, 0, none⟩), Value.pointer (some { block := w.heap.size + 1, off := 0 }), Value.agg #[Value.int IntKind.i64 o, Value.int IntKind.i64 m, Value.string t, Value.slice a k.len cap], Value.pointer (some { block := w.heap.size + 1 + 1, off := 0 }), Value.int IntKind.i64 o, Value.bool false, undef, undef, undef, undef, undef, undef, Value.pointer (some { block := w.heap.size + 1 + 1, off := 0 }), Value.int IntKind.i64 o, Value.bool false, Value.bool false, undef, undef, undef, Value.bool false, undef, undef, undef, undef, undef, undef, Value.pointer (some { block := b, off := 0 }), Value.pointer (some { block := b, off := 0 }), Value.pointer (some { block := b, off := 0 }), Value.pointer (some { block := b, off := 3 }), Value.pointer (some { block := w.heap.size + 1 + 1, off := 2 }), Value.string t, Value.tuple #[Value.int IntKind.i64 ↑t.size, Value.nilIface], Value.pointer (some { block := w.heap.size + 1 + 1, off := 3 }), Value.slice a k.len cap, Value.func (Fn.func 172) #[] #[Value.pointer (some { block := w3.heap.size, off := 0 })], args.getD 0 undef, args.getD 1 undef, undef, undef, undef, undef, undef, undef, undef, undef, undef, undef, undef, undef, undef, undef, undef, undef], defers := [] })
  (fun args Y => Y.alloc (.cells (args.getD 1 undef).cells 25)) (fun args Y => (Ext.refl Y).alloc _) ?assign ?body ?done ?stop)
 case g0 => rfl
 case assign =>
  rintro l j args A Y K ⟨q, p', o1, n1, t1, k1, r1, a1, cap1, hsp, hpl, hq, rfl, hkid⟩ hK
  clear hsp hpl hq hkid
  gi_wp2_with fail
  exact hK
 case body =>
  rintro l j args A Wp Y hj hz1 ⟨⟨⟨fa4, fr4, fl4, fi4, fg4⟩, g, p, h1, h2, h3, h4⟩, h5, h6, h7⟩ hE ⟨q, p', o1, n1, t1, k1, r1, a1, cap1, hsp, hpl, hq, rfl, hkid⟩ hT
  have hA2 : Ext A (Wp.alloc (.cells #[.int .i64 o1, .int .i64 n1, .string t1, .slice a1 k1.len cap1] 25)) := hE.trans ((Ext.refl _).alloc _)
  have hlen1 : k.len = p'.len + (1 + r1.len) := by rw [hsp, F.len_app]; simp only [F.len]; omega
  obtain rfl : r1 = g := F.app_inj_right (p'.app (.cons o1 n1 t1 k1 .nil)) p (by rw [F.app_assoc, ← h1, hsp]; rfl) (by omega)
  obtain ⟨i0, z0, hi, hzz, hz1', hz2, hz3'⟩ := info_some info5
  have HI := Lib.hid (And.intro hi (And.intro hzz (And.intro hz1' (And.intro hz2 hz3'))))
  clear hi hzz hz1' hz2 hz3'
  obtain ⟨N, hNN⟩ : ∃ N, (kidsI r1 (i + m) ++ its).length = N := ⟨_, rfl⟩
  have hNl : N ≤ 4194304 := by rw [← hNN, List.length_append, kidsI_len]; omega
  obtain ⟨ar, cr, rfl, hcr⟩ : ∃ a cap, fr4 = .slice a N cap ∧ N ≤ cap := by obtain ⟨xs, x1, _⟩ := h3.rest; rw [← hNN]; exact own_slice x1
  have hFY := (h3.below hA2).turn hT
  have hVY := (h5.ext hA2).turn hT
  have hBY : Boxed Y w3.heap.size 23 (.slice a k.len cap) := hT.boxed ((hA2.block _ h6.lt).trans h6)
  have hbY : Below B w Y := (h7.trans (hA2.mono (by have := h7.size; omega))).trans (hT.below (by omega))
  have hKY : Kid Wp.heap.size o1 n1 t1 (.slice a1 k1.len cap1) Y := (hT.block (World.alloc_heap_new Wp _) rfl).trans (World.alloc_heap_new Wp _)
  have hAz := h6.lt
  have hWz : Wp.heap.size < Y.heap.size := (Array.getElem?_eq_some_iff.1 hKY).1
  have hEz := hE.size
  obtain ⟨D, hD⟩ : ∃ D, Y.drew = D := ⟨_, rfl⟩
  have hYD : Ext Y D := by rw [← hD]; exact (Below.refl _ _).drew
  have hFD := hFY.below hYD
  have hVD := hVY.ext hYD
  have hKD : Kid Wp.heap.size o1 n1 t1 (.slice a1 k1.len cap1) D := (hYD.block _ hWz).trans hKY
  have hS0 := held_s hVD hKD
  obtain ⟨_, c1, _, _, _, _, hbD, _⟩ := hFD.cells
  have hzD : B ≤ D.heap.size := by have := hbY.size; have := hYD.size; omega
  obtain ⟨xs, hown0, hitems⟩ := hFD.rest
  have hownD : D.ownsRow B 109 5 (.slice ar N cr) N xs := by rw [hNN] at hown0; exact hown0
  have HXS := Lib.hid hitems
  have HFD := Lib.hid hFD
  have HVD := Lib.hid hVD
  have HKD := Lib.hid hKD
  have HITV := Lib.hid (show ItV w0 B ⟨i + m, o1, n1, t1, k1⟩ [.int .i64 o1, .int .i64 n1, .string t1, .slice a1 k1.len cap1, .int .i64 (i + m)] from ⟨a1, cap1, rfl, hkid⟩)
  have HNN := Lib.hid (show N + 1 = (kidsI r1 (i + m) ++ its).length + 1 by rw [hNN])
  have HNR := Lib.hid (show ∀ q, (Value.slice ar N cr).ownBlock = some q → q = w.heap.size + 1 → False from fun q hq e => h4 q hq e)
  have HBR := Lib.hid hbw3
  have HBR2 := Lib.hid HB.out.2
  have HBK2 := Lib.hid (show b ≠ Wp.heap.size by omega)
  have HSP := Lib.hid hsp
  have HLN := Lib.hid (show (F.cons o1 n1 t1 k1 r1).len = j + 1 by simp only [F.len]; omega)
  have HBD := Lib.hid (And.intro trivial (And.intro (hbY.trans (hYD.mono (by have := hbY.size; omega))) (keeps_of_ext hYD)))
  have HKP := Lib.hid (show ∀ w', Below B D w' → KeptBut [109] b D w' → Keep (fun c => c < B ∨ c = w3.heap.size) Y w' from fun w' hbl hkb => keep_of hYD hBY (by omega) hbl hkb)
  have HBOX := Lib.hid (show ∀ w', KeptBut [109] b D w' → Boxed w' w3.heap.size 23 (.slice a k.len cap) from fun w' hkb => hkb _ _ _ _ ((hYD.block _ hBY.lt).trans hBY) (by omega) (by decide))
  have HNQ := Lib.hid (show ∀ q, ((Value.slice ar N cr).ownBlock = some q ∨ D.heap.size ≤ q) → q ≠ w.heap.size + 1 from fun q hq e => by
   rcases hq with hq | hq
   ·exact h4 q hq e
   ·have := hYD.size; omega)
  have hx0 : IntKind.i64.wrap (i + m) = i + m := by rw [IntKind.wrap_i64]; omega
  refine wpIn_block ?_
  refine region_in (S := (fun w' => w'.cell? ⟨w.heap.size, 0, none⟩ = some (.pointer (some ⟨b, 0, none⟩)) ∧ w'.cell? ⟨w.heap.size + 1, 4, none⟩ = some (.int .i64 i) ∧ w'.cell? ⟨w.heap.size + 1 + 1, 1, none⟩ = some (.int .i64 m) ∧ (w'.cell? ⟨Wp.heap.size, 0, none⟩ = some (.int .i64 o1) ∧ w'.cell? ⟨Wp.heap.size, 1, none⟩ = some (.int .i64 n1) ∧ w'.cell? ⟨Wp.heap.size, 2, none⟩ = some (.string t1) ∧ w'.cell? ⟨Wp.heap.size, 3, none⟩ = some (.slice a1 k1.len cap1)))) (by kernel_rfl) (by simp) (fun h => by obtain ⟨_, _, h⟩ := h; exact h) ?_ (fun hHeld => ?_)
  ·rw [hD]; exact hS0
  rw [hD] at hHeld ⊢
  clear hD hFY hVY hBY hbY hKY hYD hFD hVD hKD hS0 hown0 hitems hkid h1 h3 h4 h5 h6 h7 hE hT hA2 hsp hNN hlen1 hpl hq h2 hj
  refine wpAnyH_take (i := 0) (v := ?_) rfl (by kernel_rfl) (by kernel_rfl) (by kernel_rfl) (fun _ _ _ h => h) (Or.inl ⟨by rfl, ?_⟩) (by assumption) ?_
  rotate_left
  ·(intro w hSw; (try dsimp only at hSw); (go_simp <;> with_reducible rfl))
  try simp only [Act.put, zpu]
  refine wpAnyH_take (i := 1) (v := ?_) rfl (by kernel_rfl) (by kernel_rfl) (by kernel_rfl) (fun _ _ _ h => h) (Or.inl ⟨by rfl, ?_⟩) (by assumption) ?_
  rotate_left
  ·(intro w hSw; (try dsimp only at hSw); (go_simp <;> with_reducible rfl))
  try simp only [Act.put, zpu]
  refine wpAnyH_take (i := 2) (v := ?_) rfl (by kernel_rfl) (by kernel_rfl) (by kernel_rfl) (fun _ _ _ h => h) (Or.inl ⟨by rfl, ?_⟩) (by assumption) ?_
  rotate_left
  ·(intro w hSw; (try dsimp only at hSw); (go_simp <;> with_reducible rfl))
  try simp only [Act.put, zpu]
  refine wpAnyH_take (i := 3) (v := ?_) rfl (by kernel_rfl) (by kernel_rfl) (by kernel_rfl) (fun _ _ _ h => h) (Or.inl ⟨by rfl, ?_⟩) (by assumption) ?_
  rotate_left
  ·(intro w hSw; (try dsimp only at hSw); (go_simp <;> with_reducible rfl))
  try simp only [Act.put, zpu]
  refine wpAnyH_take (i := 5) (v := ?_) rfl (by kernel_rfl) (by kernel_rfl) (by kernel_rfl) (fun _ _ _ h => h) (Or.inl ⟨by rfl, ?_⟩) (by assumption) ?_
  rotate_left
  ·(intro w hSw; (try dsimp only at hSw); (go_simp <;> with_reducible rfl))
  try simp only [Act.put, zpu]
  refine wpAnyH_take (i := 6) (v := ?_) rfl (by kernel_rfl) (by kernel_rfl) (by kernel_rfl) (fun _ _ _ h => h) (Or.inl ⟨by rfl, ?_⟩) (by assumption) ?_
  rotate_left
  ·(intro w hSw; (try dsimp only at hSw); (go_simp <;> with_reducible rfl))
  try simp only [Act.put, zpu]
  refine wpAnyH_take (i := 7) (v := ?_) rfl (by kernel_rfl) (by kernel_rfl) (by kernel_rfl) (fun _ _ _ h => h) (Or.inl ⟨by rfl, ?_⟩) (by assumption) ?_
  rotate_left
  ·(intro w hSw; (try dsimp only at hSw); (go_simp <;> with_reducible rfl))
  try simp only [Act.put, zpu]
  refine wpAnyH_take (i := 8) (v := ?_) rfl (by kernel_rfl) (by kernel_rfl) (by kernel_rfl) (fun _ _ _ h => h) (Or.inl ⟨by rfl, ?_⟩) (by assumption) ?_
  rotate_left
  ·(intro w hSw; (try dsimp only at hSw); (go_simp <;> with_reducible rfl))
  try simp only [Act.put, zpu]
  refine wpAnyH_take (i := 9) (v := ?_) rfl (by kernel_rfl) (by kernel_rfl) (by kernel_rfl) (fun _ _ _ h => h) (Or.inl ⟨by rfl, ?_⟩) (by assumption) ?_
  rotate_left
  ·(intro w hSw; (try dsimp only at hSw); (go_simp <;> with_reducible rfl))
  try simp only [Act.put, zpu]
  refine wpAnyH_take (i := 10) (v := ?_) rfl (by kernel_rfl) (by kernel_rfl) (by kernel_rfl) (fun _ _ _ h => h) (Or.inl ⟨by rfl, ?_⟩) (by assumption) ?_
  rotate_left
  ·(intro w hSw; (try dsimp only at hSw); (go_simp <;> with_reducible rfl))
  try simp only [Act.put, zpu]
  refine wpAnyH_take (i := 11) (v := ?_) rfl (by kernel_rfl) (by kernel_rfl) (by kernel_rfl) (fun _ _ _ h => h) (Or.inl ⟨by rfl, ?_⟩) (by assumption) ?_
  rotate_left
  ·(intro w hSw; (try dsimp only at hSw); (go_simp <;> with_reducible rfl))
  try simp only [Act.put, zpu]
  refine wpAnyH_ready (rs := [4, 12]) (by kernel_rfl) (by simp) ?_
  refine AllReadyH.cons rfl (fun K hK => ?_) ?_
  ·go_simp
   refine hK.out _ _ ?_ (fun hHeld4 => ?_)
   ·exact hHeld
   clear hK K hHeld
   try simp only [Act.put, zpu]
   refine wpAnyH_ready (rs := [12]) (by kernel_rfl) (by simp) ?_
   refine AllReadyH.cons rfl (fun K hK => ?_) AllReadyH.nil
   have c1b := fun (ob : Obj) => (((Below.refl D.heap.size D).alloc (Nat.le_refl _) ob).cell (p := ⟨b, 5, none⟩) hbD).trans c1
   have hSb := fun (ob : Obj) => held_s (HVD.out.ext ((Below.refl D.heap.size D).alloc (Nat.le_refl _) ob)) (kid_alloc HKD.out ob)
   go_simp
   refine hK.out _ _ ?_ (fun hHeld12 => ?_)
   ·exact hSb _
   clear hK K hHeld4
   try simp only [Act.put, zpu]
   refine wpAnyH_ready (rs := [13]) (by kernel_rfl) (by simp) ?_
   refine AllReadyH.cons rfl (fun K hK => ?_) AllReadyH.nil
   refine wp_append_lies _ (.tmp 48) (.tmp 56) 58 (by rfl) B 109 i0 z0 5 64 Tryz.underlying58 HI.out.1 HI.out.2.1 HI.out.2.2.1 HI.out.2.2.2.1 HI.out.2.2.2.2 (by omega) (.slice ar N cr) N xs (by rfl) (hownD.alloc _) ⟨D.heap.size, 0, none⟩ 1 1 [.int .i64 o1, .int .i64 n1, .string t1, .slice a1 k1.len cap1, .int .i64 (i + m)] (by rfl) rfl (five_news D o1 n1 (i + m) t1 _ _) (by simp [Value.oneCell']) (by omega) (by unfold maxLen; omega) (by omega) (Nat.le_trans hzD (by simp)) (D.heap.size + 1) (by simp) ?_
   intro g5 cap5 w5 hown5 hgrow5 hat5 hlt5
   obtain ⟨k5, kz, hset⟩ := HFD.out.append_item (y := ⟨i + m, o1, n1, t1, k1⟩) ⟨xs, rfl, HXS.out⟩ HITV.out hgrow5 HNN.out hown5
   have hrw5 := grown_rows hgrow5 (hownD.alloc _)
   have hV5 : Vars b ⟨i, o, m, t, k⟩ a cap w.heap.size w5 := (HVD.out.ext ((Below.refl D.heap.size D).alloc (Nat.le_refl _) _)).grown hgrow5 (own_block (hownD.alloc _)) (fun e => HNR.out _ e rfl)
   have hK5 := (kid_alloc HKD.out _).grown hgrow5 (own_block (hownD.alloc _))
   have hS5 := held_s hV5 hK5
   have HSET := Lib.hid hset
   have HV5 := Lib.hid (And.intro hV5 hK5)
   have H5 := Lib.hid (And.intro (below_append hgrow5 hownD hzD) (And.intro (kept_append (ts := [109]) (b := b) hgrow5 hownD (by decide)) (And.intro ((KeepsOthers.alloc D _).trans (KeepsOthers.of_grownBy hgrow5 hrw5)) (And.intro (own_new (N := N + 1) (cap5 := cap5) (hownD.alloc _) hgrow5 hat5) hlt5))))
   clear hset hgrow5 hown5 hat5 hV5 hK5 hrw5
   refine hK.out _ _ ?_ (fun hHeld13 => ?_)
   ·exact hS5
   clear hK K hHeld12
   try simp only [Act.put, zpu]
   refine wpAnyH_take (i := 14) (v := ?_) rfl (by kernel_rfl) (by kernel_rfl) (by kernel_rfl) (fun _ _ _ h => h) (Or.inl ⟨by rfl, ?_⟩) (by assumption) ?_
   rotate_left
   ·(intro w hSw; (try dsimp only at hSw); (go_simp <;> with_reducible rfl))
   try simp only [Act.put, zpu]
   refine wpAnyH_take (i := 15) (v := ?_) rfl (by kernel_rfl) (by kernel_rfl) (by kernel_rfl) (fun _ _ _ h => h) (Or.inl ⟨by rfl, ?_⟩) (by assumption) ?_
   rotate_left
   ·(intro w hSw; (try dsimp only at hSw); (go_simp <;> with_reducible rfl))
   try simp only [Act.put, zpu]
   refine wpAnyH_ready (rs := [16]) (by kernel_rfl) (by simp) ?_
   refine AllReadyH.cons rfl (fun K hK => ?_) AllReadyH.nil
   go_simp
   refine hK.out _ _ ?_ (fun hHeld16 => ?_)
   ·exact held_s (HV5.out.1.set HBR.out 5 _) (HV5.out.2.set HBK2.out 5 _)
   clear hK K hHeld13
   try simp only [Act.put, zpu]
   refine wpAnyH_done (by kernel_rfl) ?_ _
   gi_wp2_with fail
   have hset := HSET.out
   have hbD5 := HBD.out.2.1.trans (H5.out.1.setCell (p := ⟨b, 5, none⟩) HBR2.out (.slice (some ⟨g5, 0, none⟩) (N + 1) cap5))
   refine ⟨(HBD.out.2.2.trans H5.out.2.2.1).trans (KeepsOthers.setCell _ _ _), ?_, ⟨⟨_, .cons o1 n1 t1 k1 r1, p', HSP.out, HLN.out, hset, fun q hq => ?_⟩, HV5.out.1.set HBR.out 5 _, HBOX.out _ (H5.out.2.1.trans (kept_set [109] b 5 _ _)), hbD5⟩⟩
   ·exact HKP.out _ (H5.out.1.setCell (p := ⟨b, 5, none⟩) HBR2.out _) (H5.out.2.1.trans (kept_set [109] b 5 _ _))
   ·exact HNQ.out q (H5.out.2.2.2.1 q hq)
  refine AllReadyH.cons rfl (fun K hK => ?_) AllReadyH.nil
  have c1b := fun (ob : Obj) => (((Below.refl D.heap.size D).alloc (Nat.le_refl _) ob).cell (p := ⟨b, 5, none⟩) hbD).trans c1
  have hSb := fun (ob : Obj) => held_s (HVD.out.ext ((Below.refl D.heap.size D).alloc (Nat.le_refl _) ob)) (kid_alloc HKD.out ob)
  go_simp
  refine hK.out _ _ ?_ (fun hHeld12 => ?_)
  ·exact hSb _
  clear hK K hHeld
  try simp only [Act.put, zpu]
  refine wpAnyH_ready (rs := [4]) (by kernel_rfl) (by simp) ?_
  refine AllReadyH.cons rfl (fun K hK => ?_) AllReadyH.nil
  go_simp
  refine hK.out _ _ ?_ (fun hHeld4 => ?_)
  ·exact hSb _
  clear hK K hHeld12
  try simp only [Act.put, zpu]
  refine wpAnyH_ready (rs := [13]) (by kernel_rfl) (by simp) ?_
  refine AllReadyH.cons rfl (fun K hK => ?_) AllReadyH.nil
  refine wp_append_lies _ (.tmp 48) (.tmp 56) 58 (by rfl) B 109 i0 z0 5 64 Tryz.underlying58 HI.out.1 HI.out.2.1 HI.out.2.2.1 HI.out.2.2.2.1 HI.out.2.2.2.2 (by omega) (.slice ar N cr) N xs (by rfl) (hownD.alloc _) ⟨D.heap.size, 0, none⟩ 1 1 [.int .i64 o1, .int .i64 n1, .string t1, .slice a1 k1.len cap1, .int .i64 (i + m)] (by rfl) rfl (five_news D o1 n1 (i + m) t1 _ _) (by simp [Value.oneCell']) (by omega) (by unfold maxLen; omega) (by omega) (Nat.le_trans hzD (by simp)) (D.heap.size + 1) (by simp) ?_
  intro g5 cap5 w5 hown5 hgrow5 hat5 hlt5
  obtain ⟨k5, kz, hset⟩ := HFD.out.append_item (y := ⟨i + m, o1, n1, t1, k1⟩) ⟨xs, rfl, HXS.out⟩ HITV.out hgrow5 HNN.out hown5
  have hrw5 := grown_rows hgrow5 (hownD.alloc _)
  have hV5 : Vars b ⟨i, o, m, t, k⟩ a cap w.heap.size w5 := (HVD.out.ext ((Below.refl D.heap.size D).alloc (Nat.le_refl _) _)).grown hgrow5 (own_block (hownD.alloc _)) (fun e => HNR.out _ e rfl)
  have hK5 := (kid_alloc HKD.out _).grown hgrow5 (own_block (hownD.alloc _))
  have hS5 := held_s hV5 hK5
  have HSET := Lib.hid hset
  have HV5 := Lib.hid (And.intro hV5 hK5)
  have H5 := Lib.hid (And.intro (below_append hgrow5 hownD hzD) (And.intro (kept_append (ts := [109]) (b := b) hgrow5 hownD (by decide)) (And.intro ((KeepsOthers.alloc D _).trans (KeepsOthers.of_grownBy hgrow5 hrw5)) (And.intro (own_new (N := N + 1) (cap5 := cap5) (hownD.alloc _) hgrow5 hat5) hlt5))))
  clear hset hgrow5 hown5 hat5 hV5 hK5 hrw5
  refine hK.out _ _ ?_ (fun hHeld13 => ?_)
  ·exact hS5
  clear hK K hHeld4
  try simp only [Act.put, zpu]
  refine wpAnyH_take (i := 14) (v := ?_) rfl (by kernel_rfl) (by kernel_rfl) (by kernel_rfl) (fun _ _ _ h => h) (Or.inl ⟨by rfl, ?_⟩) (by assumption) ?_
  rotate_left
  ·(intro w hSw; (try dsimp only at hSw); (go_simp <;> with_reducible rfl))
  try simp only [Act.put, zpu]
  refine wpAnyH_take (i := 15) (v := ?_) rfl (by kernel_rfl) (by kernel_rfl) (by kernel_rfl) (fun _ _ _ h => h) (Or.inl ⟨by rfl, ?_⟩) (by assumption) ?_
  rotate_left
  ·(intro w hSw; (try dsimp only at hSw); (go_simp <;> with_reducible rfl))
  try simp only [Act.put, zpu]
  refine wpAnyH_ready (rs := [16]) (by kernel_rfl) (by simp) ?_
  refine AllReadyH.cons rfl (fun K hK => ?_) AllReadyH.nil
  go_simp
  refine hK.out _ _ ?_ (fun hHeld16 => ?_)
  ·exact held_s (HV5.out.1.set HBR.out 5 _) (HV5.out.2.set HBK2.out 5 _)
  clear hK K hHeld13
  try simp only [Act.put, zpu]
  refine wpAnyH_done (by kernel_rfl) ?_ _
  gi_wp2_with fail
  have hset := HSET.out
  have hbD5 := HBD.out.2.1.trans (H5.out.1.setCell (p := ⟨b, 5, none⟩) HBR2.out (.slice (some ⟨g5, 0, none⟩) (N + 1) cap5))
  refine ⟨(HBD.out.2.2.trans H5.out.2.2.1).trans (KeepsOthers.setCell _ _ _), ?_, ⟨⟨_, .cons o1 n1 t1 k1 r1, p', HSP.out, HLN.out, hset, fun q hq => ?_⟩, HV5.out.1.set HBR.out 5 _, HBOX.out _ (H5.out.2.1.trans (kept_set [109] b 5 _ _)), hbD5⟩⟩
  ·exact HKP.out _ (H5.out.1.setCell (p := ⟨b, 5, none⟩) HBR2.out _) (H5.out.2.1.trans (kept_set [109] b 5 _ _))
  ·exact HNQ.out q (H5.out.2.2.2.1 q hq)
 case done =>
  rintro D A Y hD ⟨⟨Fz, g, p, h1, h2, h3, h4⟩, h5, h6, h7⟩ ⟨B', hE, hT⟩ hK
  replace h1 : k = p.app g := h1
  have hp : p = .nil := F.len_eq_zero (by have := congrArg F.len h1; rw [F.len_app] at this; omega)
  subst hp
  obtain rfl : k = g := h1
  have hFY := (h3.below hE).turn hT
  have hbY : Below B w Y := (h7.trans (hE.mono (by have := h7.size; omega))).trans (hT.below (by omega))
  have hT2 : Turn W0.heap.size Y (Y.putObj D (.deferred none)) := turn_put _ hK rfl hD
  have HFY := Lib.hid (And.intro (hFY.turn hT2) (hbY.trans (hT2.below (by omega))))
  clear hFY hbY hT2 h3 h4 h5 h6 h7 hE hT h2
  go_wp2_with fail
  exact leave_mark hK (results_none rfl _ _ _) ⟨rfl, ⟨_, HFY.out.1⟩, HFY.out.2⟩
 case stop =>
  rintro D c A Y _ h _ _
  exact h.elim
end Go.Proofs.YtjcaiecapapceaaGreat.RnM
namespace Go.Proofs.YtjcaiecapapceaaGreat.RnM
open Go.RowKit Go.Shelf P1 Cnt CntC Flat Wid ChP Rn Rf Bwd BufQ
theorem layOut {w0 w : World} {B b : Nat} {W : Int} {r : List Itm} {s : St} {x : Itm} {a : Option Addr} {cap Z : Nat} (hB0 : Below B w0 w) (hBw0 : B ≤ w0.heap.size) (h : RS w0 B b W r s w) (hW0 : 0 ≤ W) (hW1 : W ≤ 200) (hk : KidsIn w0 B x.k a cap) (hb : Bnd Z (x :: r) s) (hZ : Z ≤ 4000000) :
  Calls Tryz.prog 83 #[.pointer (some ⟨b, 0, none⟩), .agg #[.int .i64 x.o, .int .i64 x.n, .string x.t, .slice a x.k.len cap, .int .i64 x.i]] w fun e w' => e = .returned (.tuple #[]) ∧ RS w0 B b W (stepI W x r s).1 (stepI W x r s).2 w' ∧ Below B w w' := by
 obtain ⟨⟨d, hd, hok⟩, hi0, hi1⟩ := hb.ok x (by simp)
 have hw := hb.wt
 have hz := hb.sz
 have hind := hb.ind
 simp only [wtI, szI] at hw hz
 have hlw := len_wt r
 have hld := ldI_sz r
 have hkl := F.len_le_size x.k
 unfold stepI
 by_cases hn : nl x.o = true
 ·rw [if_pos hn]
  exact layOut_line (Nat.le_trans hBw0 hB0.size) h (by omega) x hn a cap
 ·rw [if_neg hn]
  simp only [Bool.not_eq_true] at hn
  obtain ⟨n0, n9⟩ : 0 ≤ x.n ∧ x.n ≤ 9 := by
   cases d with
   | zero => rw [okD_zero] at hok; cases hok
   | succ d => obtain ⟨h1, h2, _⟩ := node_n (okD_parts hok).1; exact ⟨h1, h2⟩
  by_cases h8 : x.o = 8
  ·obtain ⟨i, o, n, t, k⟩ := x
   simp only at h8 hok hi0 hi1 hw hz hk n0 n9 hkl ⊢
   subst h8
   by_cases hf : fitB W (ldI r) s t k = true
   ·rw [if_pos (by simp [hf])]
    exact layOut_flat hB0 hBw0 h (by omega) hind.1 (by omega) (by omega) hW0 (by omega) (by omega) (fun y hy => by have := mem_sz y hy; omega) (by omega) hk hok (by omega) hf
   ·simp only [Bool.not_eq_true] at hf
    rw [if_neg (by simp [hf]), if_pos (by simp)]
    exact layOut_eight hB0 hBw0 h (by omega) hind.1 (by omega) (by omega) hW0 (by omega) (by omega) (fun y hy => by have := mem_sz y hy; omega) (by omega) hk hok hf (by omega) hi0 (by omega) n0 (by omega)
  ·rw [if_neg (by simp [h8]), if_neg (by simp [h8])]
   exact layOut_else hB0 hBw0 h (by omega) hind.1 (by omega) (by omega) hW0 (by omega) (by omega) (fun y hy => by have := mem_sz y hy; omega) (by omega) hk hok hn (by simp [h8]) (by omega) hi0 (by omega) n0 (by omega)
theorem RF.pop {w0 w : World} {B b : Nat} {W : Int} {x : Itm} {r : List Itm} {s : St} {fa fr fl fi fg : Value} (h : RF w0 B b W (x :: r) s ⟨fa, fr, fl, fi, fg⟩ w) : ∃ (g cap : Nat) (a : Option Addr) (c : Nat), fr = .slice (some ⟨g, 0, none⟩) (r.length + 1) cap ∧ g < w.heap.size ∧ r.length + 1 ≤ cap ∧ KidsIn w0 B x.k a c ∧
  (w.cell? ⟨g, r.length * 5, none⟩ = some (.int .i64 x.o) ∧ w.cell? ⟨g, r.length * 5 + 1, none⟩ = some (.int .i64 x.n) ∧ w.cell? ⟨g, r.length * 5 + 2, none⟩ = some (.string x.t) ∧ w.cell? ⟨g, r.length * 5 + 3, none⟩ = some (.slice a x.k.len c) ∧ w.cell? ⟨g, r.length * 5 + 4, none⟩ = some (.int .i64 x.i)) ∧
  (∀ w', Below w.heap.size w w' → RF w0 B b W r s ⟨fa, .slice (some ⟨g, 0, none⟩) r.length cap, fl, fi, fg⟩ (w'.setCell ⟨b, 5, none⟩ (.slice (some ⟨g, 0, none⟩) r.length cap))) := by
 obtain ⟨g, cap, c, hr, h1, h2, h3, _, ⟨a, cp, rfl, hkid⟩, h5, h6⟩ := StackG.top ItV.len h.rest
 have d0 := h5 0 (by omega)
 have d1 := h5 1 (by omega)
 have d2 := h5 2 (by omega)
 have d3 := h5 3 (by omega)
 have d4 := h5 4 (by omega)
 simp only [List.getElem?_cons_zero, List.getElem?_cons_succ, Nat.add_zero] at d0 d1 d2 d3 d4
 refine ⟨g, cap, a, cp, hr, h2, h3, hkid, ⟨d0, d1, d2, d3, d4⟩, fun w' hb => ?_⟩
 have h' := h.below hb
 exact h'.set (row := none) ⟨rfl, rfl, rfl, Nat.le_refl _, fun _ _ _ => rfl⟩ (by simp) 5 (.slice (some ⟨g, 0, none⟩) r.length cap) ⟨fa, .slice (some ⟨g, 0, none⟩) r.length cap, fl, fi, fg⟩ (fun p v => rfl) r s rfl (h6.below (Nat.le_refl _) hb) h'.rows h'.flags h.ind h.wid
end Go.Proofs.YtjcaiecapapceaaGreat.RnM
namespace Go.Proofs.YtjcaiecapapceaaGreat.RnM
open Go.RowKit Go.Shelf P1 Cnt CntC Flat Wid ChP Rn Rf Bwd BufQ
theorem right_eq {W o n : Int} {t : ByteArray} {k : F} : rightD W o n t k = (Cst.wv W && validD o n t k) := by
 unfold rightD Cst.wv
 rw [Bool.and_comm]
 congr 1
 rw [Bool.eq_iff_iff]; simp
def RenOut (w : World) (W o n : Int) (t : ByteArray) (k : F) (e : Ending) (w' : World) : Prop :=
 Below w.heap.size w w' ∧ ((rightD W o n t k = false ∧ e = .returned (.tuple #[.pointer none, .bool false])) ∨
 (rightD W o n t k = true ∧ ∃ b, e = .returned (.tuple #[.pointer (some ⟨b, 0, none⟩), .bool true]) ∧ RS w w.heap.size b W [] (St.ended (stD W o n t k)) w'))
theorem ren_start (w w1 : World) (hb : Below w.heap.size w w1) (W o n : Int) (t : ByteArray) (k : F) (a : Option Addr) (cap : Nat) (hk : KidsIn w w.heap.size k a cap) :
  RF w w.heap.size (w1.heap.size + 1) W [⟨0, o, n, t, k⟩] St.zero ⟨.int .i64 W, .slice (some ⟨w1.heap.size, 0, none⟩) 1 1, .slice none 0 0, .int .i64 0, .slice none 0 0⟩
   ((w1.alloc (.cells #[.int .i64 o, .int .i64 n, .string t, .slice a k.len cap, .int .i64 0] 109)).alloc (.cells #[.int .i64 W, .slice none 0 0, .int .i64 0, .pointer none, .slice none 0 0, .slice (some ⟨w1.heap.size, 0, none⟩) 1 1, .slice none 0 0] 61)) := by
 have hz := hb.size
 refine ⟨.inl ⟨by omega, .slice none 0 0, ?_, World.ownsRowF_nil _ _ _ _, by simp [Value.ownBlock], fun _ => rfl⟩, ?_, World.ownsRow_nil _ _ _ _, World.ownsRow_nil _ _ _ _, rfl, rfl⟩
 ·have := World.alloc_heap_new (w1.alloc (.cells #[.int .i64 o, .int .i64 n, .string t, .slice a k.len cap, .int .i64 0] 109)) (.cells #[.int .i64 W, .slice none 0 0, .int .i64 0, .pointer none, .slice none 0 0, .slice (some ⟨w1.heap.size, 0, none⟩) 1 1, .slice none 0 0] 61)
  rwa [World.size_alloc] at this
 ·exact (StackG.start (CV := ItV w w.heap.size) (n := 5) (x := ⟨0, o, n, t, k⟩) (c := [.int .i64 o, .int .i64 n, .string t, .slice a k.len cap, .int .i64 0]) ⟨a, cap, rfl, hk⟩ rfl rfl hz rfl).below (Nat.le_refl _) ((Below.refl _ _).alloc (Nat.le_refl _) _)
theorem render (w : World) (W o n : Int) (t : ByteArray) (k : F) (a : Option Addr) (cap : Nat) (fs : List Nat) (hs : SubAt w a k fs) (hfs : ∀ c ∈ fs, c < w.heap.size ∧ ∀ o, w.frozen? ⟨c, o, none⟩ = false) (hc : k.len ≤ cap) (hsz : t.size + k.size ≤ 2000000) (hft : k.Fits) (ht : t.size ≤ maxLen) :
  Calls Tryz.prog 41 #[.agg #[.int .i64 o, .int .i64 n, .string t, .slice a k.len cap], .int .i64 W] w (RenOut w W o n t k) := by
 have HWV := Lib.hid (Cst.widthValid W)
 have B1 := Lib.hid (show ∀ ob, Ext w (w.alloc ob) from fun ob => (Ext.refl w).alloc _)
 have HDV := Lib.hid (fun (W' : World) (h : Ext w W') => PartV.docValid W' o n t k a cap fs (hs.below (fun c hc => (hfs c hc).1) h) (fun c hc => Nat.lt_of_lt_of_le (hfs c hc).1 h.size) hc (by have := F.len_le_size k; unfold maxLen; omega) hft ht)
 unfold RenOut
 rw [right_eq]
 cases hwv : Cst.wv W with
 | false =>
   rw [hwv] at HWV
   clear hs hfs
   go_enter Tryz.func41, Tryz.ntmps41
   go_wp2_with fail
   refine (HWV.out _).mono ?_
   rintro e1 w1 ⟨rfl, rfl⟩
   go_wp2_with fail
   go_ret2
   exact ⟨B1.out _, .inl ⟨rfl, rfl⟩⟩
 | true =>
   rw [hwv] at HWV
   have hW : 0 ≤ W ∧ W ≤ 200 := by simpa [Cst.wv] using hwv
   rw [Bool.true_and]
   cases hva : validD o n t k with
   | false =>
     rw [hva] at HDV
     clear hs hfs
     go_enter Tryz.func41, Tryz.ntmps41
     go_wp2_with fail
     refine (HWV.out _).mono ?_
     rintro e1 w1 ⟨rfl, rfl⟩
     go_wp2_with fail
     refine (HDV.out _ (B1.out _)).mono ?_
     rintro e2 w2 ⟨rfl, hb2⟩
     have H2 := Lib.hid ((B1.out _).trans hb2)
     clear hb2
     go_wp2_with fail
     go_ret2
     exact ⟨H2.out, .inl ⟨by first | rfl | trivial, rfl⟩⟩
   | true =>
     rw [hva] at HDV
     have HVA := Lib.hid hva
     have HKI := Lib.hid (show KidsIn w w.heap.size k a cap from ⟨hc, fs, hs, fun c hc => (hfs c hc).1⟩)
     clear hs hfs hwv hva
     go_enter Tryz.func41, Tryz.ntmps41
     go_wp2_with fail
     refine (HWV.out _).mono ?_
     rintro e1 w1 ⟨rfl, rfl⟩
     go_wp2_with fail
     refine (HDV.out _ (B1.out _)).mono ?_
     rintro e2 w2 ⟨rfl, hb2⟩
     have hx : w2.cell? ⟨w.heap.size, 0, none⟩ = some (.int .i64 o) ∧ w2.cell? ⟨w.heap.size, 1, none⟩ = some (.int .i64 n) ∧ w2.cell? ⟨w.heap.size, 2, none⟩ = some (.string t) ∧ w2.cell? ⟨w.heap.size, 3, none⟩ = some (.slice a k.len cap) := by
      refine ⟨?_, ?_, ?_, ?_⟩
      all_goals (rw [hb2.cell (p := ⟨_, _, _⟩) (by simp)]; simp)
     obtain ⟨x0, x1, x2, x3⟩ := hx
     have hlt : w.heap.size < w2.heap.size := by have := hb2.size; simp at this; omega
     have hbw := (B1.out _).trans hb2
     have HST := Lib.hid (ren_start w w2 hbw W o n t k a cap HKI.out)
     have H2 := Lib.hid hbw
     clear hb2 hbw
     go_wp2_with fail
     obtain ⟨V, hV⟩ : ∃ V, (w2.alloc (.cells #[.int .i64 o, .int .i64 n, .string t, .slice a k.len cap, .int .i64 0] 109)).alloc (.cells #[.int .i64 W, .slice none 0 0, .int .i64 0, .pointer none, .slice none 0 0, .slice (some ⟨w2.heap.size, 0, none⟩) 1 1, .slice none 0 0] 61) = V := ⟨_, rfl⟩
     have HBV := Lib.hid (show Below w.heap.size w V by rw [← hV]; exact (H2.out.alloc _).alloc _)
     obtain ⟨b, hbe⟩ : ∃ b, w2.heap.size + 1 = b := ⟨_, rfl⟩
     rw [hV, hbe] at HST
     rw [hV]
     try rw [hbe]
     clear hV hbe x0 x1 x2 x3 hlt
     go_loopg [7, 8] (1 + k.cnt) (fun N v u wr => ∃ its s, RS w w.heap.size b W its s wr ∧ Bnd (1 + t.size + k.size) its s ∧ rnI W its s = stD W o n t k ∧ wtI its ≤ N ∧ Below w.heap.size w wr)
     case atStart => exact ⟨_, _, ⟨_, HST.out⟩, bnd_start HVA.out, stD_items W o n t k, by simp [wtI], HBV.out⟩
     case round =>
      obtain ⟨its, s, ⟨⟨fa, fr, fl, fi, fg⟩, hF⟩, hbd, hrn, hwt, hbw⟩ := hrel
      cases its with
      | nil =>
        obtain ⟨a0, c0, rfl, _⟩ : ∃ a cap, fr = .slice a 0 cap ∧ 0 ≤ cap := by obtain ⟨xs, x1, _⟩ := hF.rest; exact own_slice x1
        obtain ⟨_, c1, _, _, _, _, _, _⟩ := hF.cells
        have HEL := Lib.hid (endLine hbw.size ⟨_, hF⟩ (by have := hbd.wt; omega))
        have HRN := Lib.hid (show s = stD W o n t k from hrn)
        have HBW := Lib.hid hbw
        clear hF hbd hrn hwt hbw
        go_wp2_with fail
        refine HEL.out.mono ?_
        rintro e3 w3 ⟨rfl, hR3, hb3, _⟩
        have H3 := Lib.hid (And.intro hR3 (HBW.out.trans hb3))
        clear hR3 hb3 c1
        go_wp2_with fail
        go_ret2
        refine ⟨H3.out.2, .inr ⟨by first | rfl | trivial, b, rfl, ?_⟩⟩
        rw [← HRN.out]; exact H3.out.1
      | cons x r =>
        obtain ⟨g, cp, ax, cx, rfl, hg, hle, hkid, ⟨d0, d1, d2, d3, d4⟩, hpop⟩ := hF.pop
        obtain ⟨_, c1, _, _, _, hz, hbl, _⟩ := hF.cells
        have f1 := hz 5
        obtain ⟨m, hm⟩ : ∃ m, r.length = m := ⟨_, rfl⟩
        have hm80 : m ≤ 80 := by have := hbd.wt; have := len_wt r; simp only [wtI] at *; omega
        have hpop2 := (hpop wr (Below.refl _ _)).below ((Below.refl _ _).alloc (Nat.le_refl _) (.cells #[.int .i64 x.o, .int .i64 x.n, .string x.t, .slice ax x.k.len cx, .int .i64 x.i] 109))
        have hbw2 := Below.alloc (hbw.setCell (p := ⟨b, 5, none⟩) (by obtain ⟨_, _, _, _, _, _, _, h⟩ := hF.cells; exact h) (.slice (some ⟨g, 0, none⟩) r.length cp)) (by have := hbw.size; simpa using this) (.cells #[.int .i64 x.o, .int .i64 x.n, .string x.t, .slice ax x.k.len cx, .int .i64 x.i] 109)
        rw [hm] at c1 hle d0 d1 d2 d3 d4 hpop2 hbw2
        have HLO := Lib.hid (layOut hbw2 (Nat.le_refl _) ⟨_, hpop2⟩ hW.1 hW.2 hkid hbd (by omega))
        have HS := Lib.hid (And.intro (hbd.step W) (And.intro ((stepI_run W x r s).trans hrn) (And.intro hwt hbw2)))
        clear hF hpop hpop2 hbw2 hbd hrn hwt hz hkid hm
        go_wp2_with fail
        refine HLO.out.mono ?_
        rintro e3 w3 ⟨rfl, hR3, hb3⟩
        have H3 := Lib.hid (And.intro hR3 (HS.out.2.2.2.trans hb3))
        clear hR3 hb3
        go_wp2_with fail
        go_roundg (wtI (stepI W x r s).1)
        case measure => have h1 := HS.out.1.2; have h2 := HS.out.2.2.1; omega
        case rel => exact ⟨_, _, H3.out.1, HS.out.1.1, HS.out.2.1, Nat.le_refl _, H3.out.2⟩
end Go.Proofs.YtjcaiecapapceaaGreat.RnM

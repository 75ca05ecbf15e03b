import Derived.Test.YtjcaiecapapceaaGreatNfB
import Derived.Deep.AppendLies
import Derived.Test.YtjcaiecapapceaaGreatRfX
/-
 What impl.partsOf comes to: the parts of a document's row, in a row of the call's own, their Kids where they were.
-/
set_option linter.unusedVariables false
set_option linter.unusedSimpArgs false
set_option maxRecDepth 100000
set_option maxHeartbeats 3200000
namespace Go.Proofs.YtjcaiecapapceaaGreat.Nf
open Go.RowKit P1 Copy
def Sh (w : World) : F → List Value → List Nat → Prop
 | .nil, xs, gs => xs = [] ∧ gs = []
 | .cons o n t k r, xs, gs => ∃ (a : Option Addr) (cap : Nat) (f1 f2 : List Nat) (ys : List Value), xs = .int .i64 o :: .int .i64 n :: .string t :: .slice a k.len cap :: ys ∧ k.len ≤ cap ∧ SubAt w a k f1 ∧ Sh w r ys f2 ∧ gs = f1 ++ f2
theorem Sh.len {w : World} : ∀ {f : F} {xs : List Value} {gs : List Nat}, Sh w f xs gs → xs.length = f.len * 4 := by
 intro f
 induction f with
 | nil => rintro xs gs ⟨rfl, rfl⟩; rfl
 | cons o n t k r _ ih => rintro xs gs ⟨a, cap, f1, f2, ys, rfl, _, _, h, rfl⟩; simp only [List.length_cons, ih h, F.len]; omega
theorem Sh.one {w : World} : ∀ {f : F} {xs : List Value} {gs : List Nat}, Sh w f xs gs → ∀ u ∈ xs, u.oneCell' = true := by
 intro f
 induction f with
 | nil => rintro xs gs ⟨rfl, rfl⟩ u hu; cases hu
 | cons o n t k r _ ih =>
   rintro xs gs ⟨a, cap, f1, f2, ys, rfl, _, _, h, rfl⟩ u hu
   simp only [List.mem_cons] at hu
   rcases hu with rfl | rfl | rfl | rfl | hu
   ·rfl
   ·rfl
   ·rfl
   ·rfl
   ·exact ih h u hu
theorem Sh.app {w : World} {g : F} {ys : List Value} {hs : List Nat} (k : Sh w g ys hs) : ∀ {f : F} {xs : List Value} {gs : List Nat}, Sh w f xs gs → Sh w (f.app g) (xs ++ ys) (gs ++ hs) := by
 intro f
 induction f with
 | nil => rintro xs gs ⟨rfl, rfl⟩; exact k
 | cons o n t kk r _ ih =>
   rintro xs gs ⟨a, cap, f1, f2, zs, rfl, h1, h2, h3, rfl⟩
   exact ⟨a, cap, f1, f2 ++ hs, zs ++ ys, by simp, h1, h2, ih h3, by simp⟩
def PtAt (w0 : World) (lo : Nat) (v : Value) (f : F) (gs : List Nat) (w : World) : Prop := ∃ xs, w.ownsRow lo 25 4 v f.len xs ∧ Sh w0 f xs gs
theorem PtAt.later {w0 : World} {lo : Nat} {v : Value} {f : F} {gs : List Nat} {w w' : World} (h : PtAt w0 lo v f gs w) (e : Ext w w') : PtAt w0 lo v f gs w' := by
 obtain ⟨xs, h1, h2⟩ := h
 have hg : w.grownBy w' none := ⟨e.os, e.tape, e.output, e.size, fun i hi _ => e.block i hi⟩
 exact ⟨xs, h1.kept hg (by cases hv : v.ownBlock <;> simp), h2⟩
theorem PtAt.mono {w0 : World} {lo lo' : Nat} {v : Value} {f : F} {gs : List Nat} {w : World} (h : PtAt w0 lo v f gs w) (e : lo' ≤ lo) : PtAt w0 lo' v f gs w := by
 obtain ⟨xs, ⟨h1, h2⟩, h3⟩ := h
 refine ⟨xs, ⟨h1, ?_⟩, h3⟩
 rcases h2 with h2 | ⟨g, cap, cur, hv, hb, hr⟩
 ·exact .inl h2
 ·exact .inr ⟨g, cap, cur, hv, Nat.le_trans e hb, hr⟩
def PtOut (w0 w : World) (f : F) (fs : List Nat) (e : Ending) (w' : World) : Prop := ∃ (g cap : Nat) (gs : List Nat), e = .returned (.slice (some ⟨g, 0, none⟩) f.len cap) ∧ w.heap.size ≤ g ∧ g < w'.heap.size ∧ PtAt w0 w.heap.size (.slice (some ⟨g, 0, none⟩) f.len cap) f gs w' ∧ gs.Sublist fs ∧ Below w.heap.size w w'
def PaS (f : F) : Prop := ∀ (w0 w : World) (o n : Int) (t : ByteArray) (k : F) (p r : F) (a : Option Addr) (cap : Nat) (fs : List Nat), f = p.app (.cons o n t k r) → nice f = true → f.cnt ≤ 10000 → Ext w0 w → SubAt w0 a k fs → (∀ c ∈ fs, c < w0.heap.size) → k.len ≤ cap →
 Calls Tryz.prog 152 #[.agg #[.int .i64 o, .int .i64 n, .string t, .slice a k.len cap]] w (PtOut w0 w (ptD o n t k) fs)
theorem parts_one (w0 w : World) (o n : Int) (t : ByteArray) (k : F) (h7 : o ≠ 7) (a : Option Addr) (cap : Nat) (fs : List Nat) (hs : SubAt w0 a k fs) (hc : k.len ≤ cap) :
  Calls Tryz.prog 152 #[.agg #[.int .i64 o, .int .i64 n, .string t, .slice a k.len cap]] w (PtOut w0 w (.cons o n t k .nil) fs) := by
 obtain ⟨L, hL⟩ : ∃ L, k.len = L := ⟨_, rfl⟩
 have HS := Lib.hid (And.intro hs (And.intro hc hL))
 rw [hL]
 have q7 : (o != 7) = true := by simpa using h7
 clear hs hc hL h7
 go_enter Tryz.func152, Tryz.ntmps152
 go_wp2_with fail
 go_ret
 obtain ⟨hs, hc, hL⟩ := HS.out
 have e : (w.alloc (.cells #[.int .i64 o, .int .i64 n, .string t, .slice a L cap] 25)).heap.size = w.heap.size + 1 := by simp
 have hrow := World.ownsRow_lit (base := w.heap.size) (e := 25) (size := 4) (w.alloc (.cells #[.int .i64 o, .int .i64 n, .string t, .slice a L cap] 25)) #[.int .i64 o, .int .i64 n, .string t, .slice a L cap] 1 (by simp) (by simp [maxLen]) rfl
 rw [e] at hrow
 exact ⟨w.heap.size + 1, 1, fs, rfl, by omega, by simp, ⟨_, hrow, a, cap, fs, [], [], by rw [hL], hc, hs, ⟨rfl, rfl⟩, by simp⟩, List.Sublist.refl _, ((Ext.refl w).alloc _).alloc _⟩
theorem step_parts {P : Program} {w0 w : World} {ops : Array Oper} {op : Oper} {ac : Act} {K : Act → World → Prop} {Q : Exit → Act → World → Prop} {E : Prop} (hgd : op.guard = none) (s x : Operand) (t : TypeId)
  (ho : op.op = .call { callee := .builtin .append, args := #[s, x], argTypes := #[t, t] }) {i : TypeInfo} {z : Value} (ht : P.underlying t = some (.slice 25)) (hi : P.info? 25 = some i) (hz : i.zero = some z) (h4 : i.size = 4) (h56 : i.bytes = 56) (hzs : z.cells.size = 4)
  {lo m g cap g2 cap2 : Nat} {f f2 : F} {gs hs : List Nat} (hsv : ac.eval s = .slice (some ⟨g, 0, none⟩) f.len cap) (hxv : ac.eval x = .slice (some ⟨g2, 0, none⟩) f2.len cap2)
  (A : PtAt w0 lo (.slice (some ⟨g, 0, none⟩) f.len cap) f gs w) (B : PtAt w0 m (.slice (some ⟨g2, 0, none⟩) f2.len cap2) f2 hs w) (hn : 0 < f2.len) (hl : f.len + f2.len ≤ 100000) (hlo : lo ≤ w.heap.size) (hg : lo ≤ g)
  (h : ∀ g' cap' w', PtAt w0 lo (.slice (some ⟨g', 0, none⟩) (f.app f2).len cap') (f.app f2) (gs ++ hs) w' → Below lo w w' → lo ≤ g' → g' < w'.heap.size → K (ac.put op.dst (.slice (some ⟨g', 0, none⟩) (f.app f2).len cap')) w') :
  if Region.wanted op (yielded ops ac.tmps) = true then Oper.wp P op ac w K Q else E := by
 obtain ⟨xs, hown, hsh⟩ := A
 obtain ⟨ys, hown2, hsh2⟩ := B
 have hnews : ∀ j u, ys[j]? = some u → w.cell? ((⟨g2, 0, none⟩ : Addr).add j) = some u := fun j u hu => by
  have hj : j < f2.len * 4 := by have := (List.getElem?_eq_some_iff.1 hu).1; rw [hsh2.len] at this; exact this
  rw [add_at, Nat.zero_add, hown2.cellAt j hj]
  exact hu
 refine step_append_lies w hgd s x t ho lo 25 i z 4 56 ht hi hz h4 h56 hzs (by omega) _ f.len xs hsv hown ⟨g2, 0, none⟩ f2.len cap2 ys hxv hsh2.len hnews hsh2.one hn (by unfold maxLen; omega) (by omega) hlo w.heap.size rfl ?_
 intro g' cap' w' h1 h2 h3 h4'
 have hbel : Below lo w w' := ⟨h2.os, h2.tape, h2.output, h2.size, fun q hq => h2.block q (by omega) (fun e => by simp only [Value.ownBlock, Option.some.injEq] at e; omega)⟩
 have hle : (f.app f2).len = f.len + f2.len := F.len_app f f2
 rw [← hle] at h1 ⊢
 refine h g' cap' w' ⟨_, h1, hsh2.app hsh⟩ hbel ?_ h4'
 rcases h3 with h3 | h3
 ·simp only [Value.ownBlock, Option.some.injEq] at h3; omega
 ·omega
theorem pair_at {w : World} {b off : Nat} {o1 n1 : Int} {t1 : ByteArray} {k1 : F} {o2 n2 : Int} {t2 : ByteArray} {k2 : F} {fs : List Nat} (h : RowAt w (.cons o1 n1 t1 k1 (.cons o2 n2 t2 k2 .nil)) b off fs) :
  ∃ (a1 : Option Addr) (c1 : Nat) (f1 : List Nat) (a2 : Option Addr) (c2 : Nat) (f2 : List Nat), w.cell? ⟨b, off, none⟩ = some (.int .i64 o1) ∧ w.cell? ⟨b, off + 1, none⟩ = some (.int .i64 n1) ∧ w.cell? ⟨b, off + 2, none⟩ = some (.string t1) ∧ w.cell? ⟨b, off + 3, none⟩ = some (.slice a1 k1.len c1) ∧
   w.cell? ⟨b, off + 4, none⟩ = some (.int .i64 o2) ∧ w.cell? ⟨b, off + 4 + 1, none⟩ = some (.int .i64 n2) ∧ w.cell? ⟨b, off + 4 + 2, none⟩ = some (.string t2) ∧ w.cell? ⟨b, off + 4 + 3, none⟩ = some (.slice a2 k2.len c2) ∧
   k1.len ≤ c1 ∧ k2.len ≤ c2 ∧ SubAt w a1 k1 f1 ∧ SubAt w a2 k2 f2 ∧ fs = f1 ++ f2 := by
 obtain ⟨a1, c1, f1, f3, h0, h1, h2, h3, h4, h5, h6, rfl⟩ := RowAt.cons_iff.1 h
 obtain ⟨a2, c2, f2, f4, g0, g1, g2, g3, g4, g5, g6, rfl⟩ := RowAt.cons_iff.1 h6
 have h7 : f4 = [] := g6
 subst h7
 exact ⟨a1, c1, f1, a2, c2, f2, h0, h1, h2, h3, g0, g1, g2, g3, h4, g4, h5, g5, by simp⟩
abbrev Eight8 (b off : Nat) (u0 u1 u2 u3 v0 v1 v2 v3 : Value) (w' : World) : Prop := w'.cell? ⟨b, off, none⟩ = some u0 ∧ w'.cell? ⟨b, off + 1, none⟩ = some u1 ∧ w'.cell? ⟨b, off + 2, none⟩ = some u2 ∧ w'.cell? ⟨b, off + 3, none⟩ = some u3 ∧ w'.cell? ⟨b, off + 4, none⟩ = some v0 ∧ w'.cell? ⟨b, off + 4 + 1, none⟩ = some v1 ∧ w'.cell? ⟨b, off + 4 + 2, none⟩ = some v2 ∧ w'.cell? ⟨b, off + 4 + 3, none⟩ = some v3
theorem Eight8.ext {b off : Nat} {u0 u1 u2 u3 v0 v1 v2 v3 : Value} {w w' : World} (h : Eight8 b off u0 u1 u2 u3 v0 v1 v2 v3 w) (hb : b < w.heap.size) (e : Ext w w') : Eight8 b off u0 u1 u2 u3 v0 v1 v2 v3 w' := by
 obtain ⟨h0, h1, h2, h3, h4, h5, h6, h7⟩ := h
 exact ⟨(e.cell hb).trans h0, (e.cell hb).trans h1, (e.cell hb).trans h2, (e.cell hb).trans h3, (e.cell hb).trans h4, (e.cell hb).trans h5, (e.cell hb).trans h6, (e.cell hb).trans h7⟩
theorem parts_two (w0 w : World) (n : Int) (t : ByteArray) (o1 n1 : Int) (t1 : ByteArray) (k1 : F) (o2 n2 : Int) (t2 : ByteArray) (k2 : F) (P1 P2 : F) (hP1 : 0 < P1.len) (hP2 : 0 < P2.len) (hPl : P1.len + P2.len ≤ 100000) (hw : Ext w0 w)
  (ih1 : ∀ (W : World) (a : Option Addr) (cap : Nat) (fs : List Nat), Ext w0 W → SubAt w0 a k1 fs → (∀ c ∈ fs, c < w0.heap.size) → k1.len ≤ cap → Calls Tryz.prog 152 #[.agg #[.int .i64 o1, .int .i64 n1, .string t1, .slice a k1.len cap]] W (PtOut w0 W P1 fs))
  (ih2 : ∀ (W : World) (a : Option Addr) (cap : Nat) (fs : List Nat), Ext w0 W → SubAt w0 a k2 fs → (∀ c ∈ fs, c < w0.heap.size) → k2.len ≤ cap → Calls Tryz.prog 152 #[.agg #[.int .i64 o2, .int .i64 n2, .string t2, .slice a k2.len cap]] W (PtOut w0 W P2 fs))
  (a : Option Addr) (cap : Nat) (fs : List Nat) (hs : SubAt w0 a (.cons o1 n1 t1 k1 (.cons o2 n2 t2 k2 .nil)) fs) (hfs : ∀ c ∈ fs, c < w0.heap.size) (hc : 2 ≤ cap) :
  Calls Tryz.prog 152 #[.agg #[.int .i64 7, .int .i64 n, .string t, .slice a 2 cap]] w (PtOut w0 w (P1.app P2) fs) := by
 obtain ⟨i0, hi, hz0, hz1, hz2⟩ := info_parts To.info
 have HI := Lib.hid (And.intro hi (And.intro hz0 (And.intro hz1 hz2)))
 rcases hs with ⟨h, _⟩ | ⟨b, off, f', rfl, _, rfl, hrow⟩
 ·cases h
 have hb0 : b < w0.heap.size := hfs b (by simp)
 have hb : b < w.heap.size := Nat.lt_of_lt_of_le hb0 hw.size
 obtain ⟨a1, c1, f1, a2, c2, f2, x0, x1, x2, x3, y0, y1, y2, y3, hc1, hc2, hs1, hs2, rfl⟩ := pair_at hrow
 have H1 := Lib.hid (fun (W : World) (e : Ext w0 W) => ih1 W a1 c1 f1 e hs1 (fun c hc => hfs c (by simp [hc])) hc1)
 have H2 := Lib.hid (fun (W : World) (e : Ext w0 W) => ih2 W a2 c2 f2 e hs2 (fun c hc => hfs c (by simp [hc])) hc2)
 obtain ⟨L1, hL1⟩ : ∃ L, k1.len = L := ⟨_, rfl⟩
 obtain ⟨L2, hL2⟩ : ∃ L, k2.len = L := ⟨_, rfl⟩
 rw [hL1] at x3 H1
 rw [hL2] at y3 H2
 have h8 : Eight8 b off (.int .i64 o1) (.int .i64 n1) (.string t1) (.slice a1 L1 c1) (.int .i64 o2) (.int .i64 n2) (.string t2) (.slice a2 L2 c2) w0 := ⟨x0, x1, x2, x3, y0, y1, y2, y3⟩
 have H8 := Lib.hid (fun (W : World) (e : Ext w0 W) => h8.ext hb0 e)
 have HW := Lib.hid (show ∀ x, Ext w0 (w.alloc x) from fun x => hw.alloc x)
 have HB0 := Lib.hid (And.intro hb0 (And.intro hw (And.intro hP1 (And.intro hP2 hPl))))
 clear hfs hrow hs1 hs2 hc1 hc2 ih1 ih2 x0 x1 x2 x3 y0 y1 y2 y3 h8 hL1 hL2 hi hz0 hz1 hz2 hP1 hP2 hPl
 obtain ⟨x0, x1, x2, x3, y0, y1, y2, y3⟩ := H8.out w hw
 clear hw
 go_enter Tryz.func152, Tryz.ntmps152
 go_wp2_with fail
 go_region_law (first
  | (refine step_parts (w0 := w0) rfl (.tmp 12) (.tmp 17) 23 rfl Tryz.underlying23 HI.out.1 HI.out.2.1 HI.out.2.2.1 HI.out.2.2.2 rfl (f := P1) (f2 := P2) rfl rfl (PtAt.later HQ1.out.1 q12) HQ2.out.1 HB0.out.2.2.2.1 HB0.out.2.2.2.2 (by have h1 := HQ1.out.2.1; have h2 := (show Ext w1 w2 from q12).size; omega) HQ1.out.2.1.1 ?_; intro g' cap' w3 hA hb3 hg1 hg2; have HQ3 := Lib.hid (And.intro hA (And.intro hb3 (And.intro hg1 hg2))); clear hA hb3 hg1 hg2)
  | (go_simp; go_at_call_of 152 (Value.agg #[.int .i64 o1, .int .i64 n1, .string t1, .slice a1 L1 c1]); refine (H1.out _ (by first | exact (HW.out _).drew | exact HW.out _)).mono ?_; rintro e1 w1 ⟨g1, p1, gs1, rfl, hg1, hg2, hA1, hsl1, hb1⟩; have q01 : Below (w.heap.size + 1) (w.alloc (.cells #[.int .i64 7, .int .i64 n, .string t, .slice (some ⟨b, off, none⟩) 2 cap] 25)) w1 := (by first | exact (Below.refl _ _).drew.trans (hb1.mono (by simp)) | exact hb1.mono (by simp)); have HQ1 := Lib.hid (And.intro hA1 (And.intro (And.intro hg1 hg2) hsl1)); have HQ01 := Lib.hid q01; obtain ⟨x0, x1, x2, x3, y0, y1, y2, y3⟩ := H8.out w1 ((HW.out _).trans (q01.mono (by simp))); have hb' := Nat.lt_of_lt_of_le HB0.out.1 (Ext.size ((HW.out _).trans (q01.mono (by simp)))); have z3 := (q01.cell (p := ⟨w.heap.size, 3, none⟩) (by simp)).trans (World.cell?_alloc_new _ _ _ _); have hl1 : w.heap.size < w1.heap.size := (by have := q01.size; simp at this; omega); simp at z3; clear hA1 hsl1 hb1 hg1 hg2)
  | (go_simp; go_at_call_of 152 (Value.agg #[.int .i64 o2, .int .i64 n2, .string t2, .slice a2 L2 c2]); refine (H2.out _ (by first | exact ((HW.out _).trans (HQ01.out.mono (by simp))).drew | exact (HW.out _).trans (HQ01.out.mono (by simp)))).mono ?_; rintro e2 w2 ⟨g2, p2, gs2, rfl, hh1, hh2, hA2, hsl2, hb2⟩; have q12 : Ext w1 w2 := (by first | exact hb2 | exact (Ext.refl w1).drew.trans hb2); have HQ2 := Lib.hid (And.intro hA2 hsl2); clear hA2 hsl2 hb2 hh1 hh2))
 all_goals
  go_wp2_with fail
  go_ret
  have k3 := HQ3.out
  have k01 := HQ01.out
  have ks : w.heap.size + 1 ≤ w1.heap.size := by have := k01.size; simp at this; omega
  have ks2 : w1.heap.size ≤ w2.heap.size := (show Ext w1 w2 from q12).size
  have kk : Below w.heap.size w w1 := ((Ext.refl w).alloc _).trans (k01.mono (by simp))
  have kk2 : Below w.heap.size w w2 := kk.trans ((show Ext w1 w2 from q12).mono (by omega))
  exact ⟨_, _, _, rfl, by have h1 := k3.2.2.1; simp at h1; omega, k3.2.2.2, k3.1.mono (by simp), List.Sublist.cons _ (HQ1.out.2.2.append HQ2.out.2), kk2.trans (k3.2.1.mono (by simp))⟩
theorem pt_pos {o n : Int} {t : ByteArray} {k : F} (h : niceD (o, n, t, k) = true) : 0 < (ptD o n t k).len := by
 have hn : nice (.cons o n t k .nil) = true := by rw [show nice (.cons o n t k .nil) = (niceD (o, n, t, k) && nice .nil) from rfl, h]; rfl
 have h1 := parts_len _ hn
 rw [parts0_cons, show parts0 .nil = .nil from rfl, F.app_nil] at h1
 simp only [F.len] at h1
 omega
theorem parts_step (w0 w : World) (o n : Int) (t : ByteArray) (k : F) (ih : PaS k) (hn : niceD (o, n, t, k) = true) (hcnt : k.cnt ≤ 10000) (hw : Ext w0 w) (a : Option Addr) (cap : Nat) (fs : List Nat) (hs : SubAt w0 a k fs) (hfs : ∀ c ∈ fs, c < w0.heap.size) (hc : k.len ≤ cap) :
  Calls Tryz.prog 152 #[.agg #[.int .i64 o, .int .i64 n, .string t, .slice a k.len cap]] w (PtOut w0 w (ptD o n t k) fs) := by
 by_cases h7 : o = 7
 ·subst h7
  have hnk := (nice_kids hn).2
  obtain ⟨⟨o1, n1, t1, k1⟩, ⟨o2, n2, t2, k2⟩, rfl⟩ := kids_two hn rfl
  have hk1 : niceD (o1, n1, t1, k1) = true := by simp only [consD, nice, Bool.and_eq_true] at hnk; exact Bool.and_eq_true_iff.2 hnk.1
  have hk2 : niceD (o2, n2, t2, k2) = true := by simp only [consD, nice, Bool.and_eq_true] at hnk; exact Bool.and_eq_true_iff.2 hnk.2.1
  have e : ptD 7 n t (consD (o1, n1, t1, k1) (consD (o2, n2, t2, k2) .nil)) = (ptD o1 n1 t1 k1).app (ptD o2 n2 t2 k2) := by
   show (ptD o1 n1 t1 k1).app ((ptD o2 n2 t2 k2).app .nil) = _
   rw [F.app_nil]
  have hlen : (ptD o1 n1 t1 k1).len + (ptD o2 n2 t2 k2).len ≤ 100000 := by
   have h := parts_cnt _ hnk
   rw [← F.len_app, ← e]
   show (parts0 (consD (o1, n1, t1, k1) (consD (o2, n2, t2, k2) .nil))).len ≤ _
   have h2 : (consD (o1, n1, t1, k1) (consD (o2, n2, t2, k2) F.nil)).len = 2 := rfl
   omega
  rw [e]
  exact parts_two w0 w n t o1 n1 t1 k1 o2 n2 t2 k2 _ _ (pt_pos hk1) (pt_pos hk2) hlen hw
   (fun W a cap fs hW hs hfs hc => ih w0 W o1 n1 t1 k1 .nil (consD (o2, n2, t2, k2) .nil) a cap fs rfl hnk hcnt hW hs hfs hc)
   (fun W a cap fs hW hs hfs hc => ih w0 W o2 n2 t2 k2 (consD (o1, n1, t1, k1) .nil) .nil a cap fs rfl hnk hcnt hW hs hfs hc) a cap fs hs hfs hc
 ·rw [show ptD o n t k = .cons o n t k .nil by unfold ptD; rw [if_neg h7]]
  exact parts_one w0 w o n t k h7 a cap fs hs hc
theorem paS (m : Nat) : ∀ f : F, f.deep ≤ m → PaS f := by
 induction m with
 | zero =>
   intro f hf w0 w o n t k p r a cap fs he
   rw [he, F.deep_app] at hf; simp only [F.deep] at hf; omega
 | succ m ih =>
   intro f hf w0 w o n t k p r a cap fs he hn hcnt hw hs hfs hc
   have hk : k.deep ≤ m := by rw [he, F.deep_app] at hf; simp only [F.deep] at hf; omega
   have hn' : niceD (o, n, t, k) = true := by
    rw [he, nice_app, Bool.and_eq_true] at hn
    exact (Bool.and_eq_true_iff.1 hn.2).1
   rw [he, F.cnt_app] at hcnt
   simp only [F.cnt] at hcnt
   exact parts_step w0 w o n t k (ih k hk) hn' (by omega) hw a cap fs hs hfs hc
theorem partsOf (w0 w : World) (o n : Int) (t : ByteArray) (k : F) (hn : niceD (o, n, t, k) = true) (hcnt : k.cnt ≤ 10000) (hw : Ext w0 w) (a : Option Addr) (cap : Nat) (fs : List Nat) (hs : SubAt w0 a k fs) (hfs : ∀ c ∈ fs, c < w0.heap.size) (hc : k.len ≤ cap) :
  Calls Tryz.prog 152 #[.agg #[.int .i64 o, .int .i64 n, .string t, .slice a k.len cap]] w (PtOut w0 w (ptD o n t k) fs) :=
 parts_step w0 w o n t k (paS _ k (Nat.le_refl _)) hn hcnt hw a cap fs hs hfs hc
end Go.Proofs.YtjcaiecapapceaaGreat.Nf
namespace Go.Proofs.YtjcaiecapapceaaGreat.Nf
open Go.RowKit P1 Copy Rf
attribute [local go_sem] Oper.semAt_some
theorem backK (a : Option Addr) (n cap : Nat) (w : World) : Calls Tryz.prog 133 #[.slice a n cap] w fun e w' => e = .returned (.func (.func 172) #[] #[.pointer (some ⟨w.heap.size, 0, none⟩)]) ∧ w' = w.alloc (.cells #[.slice a n cap] 23) := by
 go_enter Tryz.func133, Tryz.ntmps133
 go_wp2_with fail
 go_ret
 exact ⟨rfl, rfl⟩
def XA (w0 : World) (K : F) (b off : Nat) (j : Nat) (args : Array Value) (A W : World) : Prop := ∃ (q : Nat) (p : F) (o n : Int) (t : ByteArray) (k r : F) (a : Option Addr) (cap : Nat),
 K = p.app (.cons o n t k r) ∧ p.len = q ∧ q + 1 + j = K.len ∧ args = #[.int .i64 (q : Int), .agg #[.int .i64 o, .int .i64 n, .string t, .slice a k.len cap]] ∧ w0.cell? ⟨b, off + q * 4 + 3, none⟩ = some (.slice a k.len cap)
theorem backAt {B cb : Nat} {w0 wx : World} (hb0 : Below B w0 wx) {K : F} {b0 off cap : Nat} {fs : List Nat} (hK : RowAt w0 K b0 off fs) (hB0 : b0 < B) (hbox : wx.cell? ⟨cb, 0, none⟩ = some (.slice (some ⟨b0, off, none⟩) K.len cap)) (hlen : K.len ≤ 4194304) :
  Gives Tryz.prog 172 #[.pointer (some ⟨cb, 0, none⟩)] (XA w0 K b0 off) (fun c => c < B ∨ c = cb) K.len wx := by
 intro m l J Jx W hm hW hY h0
 have hcbl : cb < wx.heap.size := World.block_lt_of_cell? wx _ hbox
 have HKEEP := Lib.hid (show ∀ w, Keep (fun c => c < B ∨ c = cb) W w → w.cell? ⟨cb, 0, none⟩ = some (.slice (some ⟨b0, off, none⟩) K.len cap) ∧ (∀ c o, c < B → c < w0.heap.size → w.cell? ⟨c, o, none⟩ = w0.cell? ⟨c, o, none⟩) from fun w h => by
  refine ⟨?_, fun c o hc h0 => ?_⟩
  ·rw [World.cell?_of_block (w := W) (h.2 cb (Or.inr rfl) (Nat.lt_of_lt_of_le hcbl hW.size)), hW.cell hcbl]; exact hbox
  ·rw [World.cell?_of_block (w := W) (h.2 c (Or.inl hc) (Nat.lt_of_lt_of_le h0 (Nat.le_trans hb0.size hW.size))), hW.cell (Nat.lt_of_lt_of_le h0 hb0.size)]
   exact Below.cell (p := ⟨c, o, none⟩) hb0 hc)
 have hcb := (HKEEP.out W (Keep.refl _ _)).1
 obtain ⟨N, hN⟩ : ∃ N, K.len = N := ⟨_, rfl⟩
 have HK := Lib.hid (And.intro hK hN)
 rw [hN] at hlen hY hcb HKEEP ⊢
 have HY := Lib.hid hY
 clear hY hN hK hW hbox hb0 hcbl
 refine callsIn_of_wp Tryz.func172 rfl trivial ?_ rfl
 simp only [Tryz.ntmps172, List.size_toArray, List.length_cons, List.length_nil, Nat.reduceAdd, Nat.reduceSub, Array.replicate_succ, Array.replicate_zero, List.push_toArray, List.append_toArray, List.nil_append, List.cons_append]
 gi_wp2_with fail
 gi_loopw [3] (fun i wr => ∃ (q : Nat) (A : World), q ≤ N ∧ i = .int .i64 ((q : Int) - 1) ∧ J (N - q) A ∧ Ext A wr ∧ Keep (fun c => c < B ∨ c = cb) W wr) (fun i _ => (intOf i + 1).toNat)
 case atStart => exact ⟨N, W, Nat.le_refl _, rfl, by rw [Nat.sub_self]; exact h0, Ext.refl _, Keep.refl _ _⟩
 case round =>
  obtain ⟨q, A, hq, rfl, hJ, hA, hKp⟩ := hrel
  cases q with
  | zero =>
    rw [show ((0 : Nat) : Int) - 1 = -1 by omega]
    rw [Nat.sub_zero] at hJ
    gi_wp2_with fail
    go_end0
    exact ⟨⟨_, rfl⟩, .inl ⟨A, hJ, hA⟩⟩
  | succ q =>
    rw [show ((q + 1 : Nat) : Int) - 1 = (q : Int) by omega]
    obtain ⟨c1, hbel⟩ := HKEEP.out wr hKp
    obtain ⟨hrow, hN⟩ := HK.out
    obtain ⟨p, o, n, t, k, r, hsp, hpl⟩ := F.at_len K q (by omega)
    ·rw [hsp] at hrow
     obtain ⟨a1, cap1, f1, d0, d1, d2, d3, hc1, hsub1, hin⟩ := row_at hrow
     rw [hpl] at d0 d1 d2 d3
     have hb1l : b0 < w0.heap.size := World.block_lt_of_cell? w0 _ d0
     have hXA : XA w0 K b0 off (N - (q + 1)) #[.int .i64 (q : Int), .agg #[.int .i64 o, .int .i64 n, .string t, .slice a1 k.len cap1]] A wr :=
      ⟨q, p, o, n, t, k, r, a1, cap1, hsp, hpl, by omega, rfl, d3⟩
     rw [← hbel b0 _ hB0 hb1l] at d0 d1 d2 d3
     obtain ⟨fn, tmps, assign, body, hy, hR⟩ := HY.out (N - (q + 1)) _ A wr (by omega) hJ hA hXA
     have HR := Lib.hid hR
     have hqq : ((N - (q + 1) + 1 : Nat)) = N - q := by omega
     rw [hqq] at HR
     have i0 : (0 : Int) ≤ (q : Int) := Int.natCast_nonneg _
     have i1 : (q : Int) < (N : Int) := by omega
     have HKP := Lib.hid hKp
     clear hR hKp hXA hsub1 hin hrow hbel hsp hpl hqq hJ hA
     gi_wp2_with fail
     refine HR.out.mono ?_
     rintro e W3 (⟨rfl, hJ3, hk3⟩ | ⟨rfl, hJx3⟩)
     ·have HK3 := Lib.hid (HKP.out.trans hk3)
      have HJ3 := Lib.hid hJ3
      clear hJ3 hk3 hy
      gi_wp2_with fail
      go_roundw
      case rel => exact ⟨q, W3, by omega, by go_num, HJ3.out, Ext.refl _, HK3.out⟩
      case measure => simp [intOf]
     ·have HJ3 := Lib.hid hJx3
      clear hJx3 hy
      gi_wp2_with fail
      refine bodyPost_ret (results_none rfl _ _ _) rfl ?_
      exact ⟨⟨_, rfl⟩, .inr ⟨_, HJ3.out, Ext.refl _⟩⟩
end Go.Proofs.YtjcaiecapapceaaGreat.Nf
namespace Go.Proofs.YtjcaiecapapceaaGreat.Nf
open Go.RowKit Go.Shelf P1 Copy Rf
attribute [local go_sem] Oper.semAt_some
def LoOut (lo : Nat) (w : World) (d : D) (e : Ending) (w' : World) : Prop := ∃ (a : Option Addr) (cap : Nat) (fs : List Nat), e = .returned (.agg #[.int .i64 d.1, .int .i64 d.2.1, .string d.2.2.1, .slice a d.2.2.2.len cap]) ∧ d.2.2.2.len ≤ cap ∧ SubAt w' a d.2.2.2 fs ∧ Fresh lo w' fs ∧ Ext w w'
theorem sub_held {w : World} : ∀ (f : F) (b off : Nat) (fs : List Nat), RowAt w f b off fs → ∀ c ∈ fs, ∃ x v, w.cell? ⟨c, x, none⟩ = some v := by
 intro f
 induction f with
 | nil => intro b off fs h c hc; rw [show fs = [] from h] at hc; cases hc
 | cons o n t k r ihk ihr =>
   intro b off fs h c hc
   obtain ⟨a, cap, f1, f2, _, _, _, _, _, hs, hr, rfl⟩ := RowAt.cons_iff.1 h
   rcases List.mem_append.1 hc with hc | hc
   ·rcases hs with ⟨_, _, rfl⟩ | ⟨b1, off1, f', rfl, hne, rfl, hrow⟩
    ·cases hc
    ·rcases List.mem_cons.1 hc with rfl | hc
     ·cases k with
      | nil => exact absurd rfl hne
      | cons o1 n1 t1 k1 r1 =>
        obtain ⟨_, _, _, _, h0, _⟩ := RowAt.cons_iff.1 hrow
        exact ⟨_, _, h0⟩
     ·exact ihk _ _ _ hrow c hc
   ·exact ihr _ _ _ hr c hc
theorem subAt_held {w : World} {a : Option Addr} {k : F} {fs : List Nat} (hs : SubAt w a k fs) : ∀ c ∈ fs, ∃ x v, w.cell? ⟨c, x, none⟩ = some v := by
 intro c hc
 rcases hs with ⟨_, _, rfl⟩ | ⟨b1, off1, f', rfl, hne, rfl, hrow⟩
 ·cases hc
 ·rcases List.mem_cons.1 hc with rfl | hc
  ·cases k with
   | nil => exact absurd rfl hne
   | cons o1 n1 t1 k1 r1 =>
     obtain ⟨_, _, _, _, h0, _⟩ := RowAt.cons_iff.1 hrow
     exact ⟨_, _, h0⟩
  ·exact sub_held _ _ _ _ hrow c hc
theorem subAt_same {A B : World} {a : Option Addr} {k : F} {fs : List Nat} (hs : SubAt A a k fs) (h : ∀ c ∈ fs, B.heap[c]? = A.heap[c]?) : SubAt B a k fs :=
 hs.congr (fun c hc o => World.cell?_of_block (w := A) (h c hc))
theorem fresh_same {A B : World} {lo : Nat} {fs : List Nat} (hf : Fresh lo A fs) (hz : A.heap.size ≤ B.heap.size) (h : ∀ c ∈ fs, B.heap[c]? = A.heap[c]?) : Fresh lo B fs :=
 ⟨hf.1, fun c hc => ⟨(hf.2 c hc).1, Nat.lt_of_lt_of_le (hf.2 c hc).2.1 hz, fun o => (World.frozen?_of_block (w := A) (h c hc)).trans ((hf.2 c hc).2.2 o)⟩⟩
def DVar (A : World) (J : Nat) (d : D) (a : Option Addr) (c : Nat) : Prop := A.heap[J]? = some (.cells #[.int .i64 d.1, .int .i64 d.2.1, .string d.2.2.1, .slice a d.2.2.2.len c] 25 (0, 0))
structure CaI (w : World) (lo : Nat) (p : F) (d : D) (b off J : Nat) (p' g : F) (a : Option Addr) (c : Nat) (fp fJ : List Nat) (A : World) : Prop where
 split : p = p'.app g
 row : RowAt w p' b off fp
 var : DVar A J (catOn g d) a c
 sub : SubAt A a (catOn g d).2.2.2 fJ
 cap : (catOn g d).2.2.2.len ≤ c
 fresh : Fresh lo A (fp ++ fJ)
 old : ∀ q ∈ fp, q < w.heap.size
 apart : ∀ q ∈ fJ, q ≠ J ∧ q ≠ w.heap.size
 zero : A.heap[w.heap.size]? = some (.cells #[.int .i64 0, .int .i64 0, .string ⟨#[]⟩, .slice none 0 0] 25 (0, 0))
 ext : Ext w A
theorem CaI.same {w A B : World} {lo b off J c : Nat} {p p' g : F} {d : D} {a : Option Addr} {fp fJ : List Nat} (h : CaI w lo p d b off J p' g a c fp fJ A) (hz : A.heap.size ≤ B.heap.size) (hb : Ext w B) (hs : ∀ q, (∃ x v, A.cell? ⟨q, x, none⟩ = some v) → B.heap[q]? = A.heap[q]?) : CaI w lo p d b off J p' g a c fp fJ B := by
 have hv : ∀ (q : Nat) (o : Obj) (v : Value), A.heap[q]? = some o → A.cell? ⟨q, 0, none⟩ = some v → B.heap[q]? = some o := fun q o v h1 h2 => (hs q ⟨0, v, h2⟩).trans h1
 have hJ := subAt_held h.sub
 refine ⟨h.split, h.row, hv _ _ (.int .i64 (catOn g d).1) h.var (by simp [World.cell?, show A.heap[J]? = _ from h.var]), subAt_same h.sub (fun q hq => hs q (hJ q hq)), h.cap, fresh_same h.fresh hz (fun q hq => ?_), h.old, h.apart, hv _ _ (.int .i64 0) h.zero (by simp [World.cell?, h.zero]), hb⟩
 rcases List.mem_append.1 hq with hq | hq
 ·exact (hb.block q (h.old q hq)).trans (h.ext.block q (h.old q hq)).symm
 ·exact hs q (hJ q hq)
theorem CaI.turn {w A B : World} {lo b off J c lt : Nat} {p p' g : F} {d : D} {a : Option Addr} {fp fJ : List Nat} (h : CaI w lo p d b off J p' g a c fp fJ A) (hT : Turn lt A B) (hl : w.heap.size ≤ lt) : CaI w lo p d b off J p' g a c fp fJ B :=
 h.same (Nat.le_of_eq hT.size.symm) (Below.trans h.ext (hT.below hl)) (fun q ⟨x, v, hv⟩ => hT.cells hv)
theorem CaI.later {w A B : World} {lo b off J c : Nat} {p p' g : F} {d : D} {a : Option Addr} {fp fJ : List Nat} (h : CaI w lo p d b off J p' g a c fp fJ A) (e : Ext A B) : CaI w lo p d b off J p' g a c fp fJ B :=
 h.same e.size (h.ext.trans e) (fun q ⟨x, v, hv⟩ => e.block q (World.block_lt_of_cell? A _ hv))
theorem set_at {W : World} {b : Nat} {c : Array Value} {T : TypeId} {fz : Nat × Nat} (h : W.heap[b]? = some (.cells c T fz)) (j : Nat) (v : Value) : (W.setCell ⟨b, j, none⟩ v).heap[b]? = some (.cells (c.set! j v) T fz) := by
 obtain ⟨hlt, hk⟩ := Array.getElem?_eq_some_iff.1 h
 show (W.heap.modify b _)[b]? = _
 rw [Array.getElem?_eq_getElem (by rw [Array.size_modify]; exact hlt), Array.getElem_modify_self, hk]
 rfl
theorem set_four {W : World} {b : Nat} {u0 u1 u2 u3 : Value} {T : TypeId} (h : W.heap[b]? = some (.cells #[u0, u1, u2, u3] T (0, 0))) (v0 v1 v2 v3 : Value) :
  ((((W.setCell ⟨b, 0, none⟩ v0).setCell ⟨b, 1, none⟩ v1).setCell ⟨b, 2, none⟩ v2).setCell ⟨b, 3, none⟩ v3).heap[b]? = some (.cells #[v0, v1, v2, v3] T (0, 0)) :=
 set_at (set_at (set_at (set_at h 0 v0) 1 v1) 2 v2) 3 v3
theorem app_split : ∀ (a b c d : F), a.app b = c.app d → a.len = c.len → a = c ∧ b = d := by
 intro a
 induction a with
 | nil =>
   intro b c d h hl
   have hc : c = .nil := F.len_eq_zero hl.symm
   subst hc
   exact ⟨rfl, h⟩
 | cons o n t k r _ ih =>
   intro b c d h hl
   cases c with
   | nil => simp [F.len] at hl
   | cons o2 n2 t2 k2 r2 =>
     simp only [F.app, F.cons.injEq] at h
     obtain ⟨rfl, rfl, rfl, rfl, h⟩ := h
     obtain ⟨rfl, rfl⟩ := ih b r2 d h (by simp only [F.len] at hl; omega)
     exact ⟨rfl, rfl⟩
theorem CaI.round {w W X : World} {lo b off J cJ c1 : Nat} {p p1 p' g k1 kJ : F} {d : D} {aJ a1 : Option Addr} {fp fJ : List Nat} {o1 n1 oJ nJ : Int} {t1 tJ : ByteArray} (h : CaI w lo p d b off J p' g aJ cJ fp fJ W) (hp : p' = p1.app (.cons o1 n1 t1 k1 .nil)) (hcell : w.cell? ⟨b, off + p1.len * 4 + 3, none⟩ = some (.slice a1 k1.len c1))
  (hJ : J = w.heap.size + 1) (hlo : lo ≤ w.heap.size) (hd : catOn g d = (oJ, nJ, tJ, kJ)) (hXs : X.heap.size = W.heap.size) (hXo : ∀ q, q ≠ J → X.heap[q]? = W.heap[q]?) (hXJ : X.heap[J]? = some (.cells #[.int .i64 7, .int .i64 0, .string ⟨#[]⟩, .slice (some ⟨W.heap.size, 0, none⟩) 2 2] 25 (0, 0))) (hXe : Ext w X) :
  ∃ fp' fJ', CaI w lo p d b off J p1 (.cons o1 n1 t1 k1 g) (some ⟨W.heap.size, 0, none⟩) 2 fp' fJ' (X.alloc (.cells #[.int .i64 o1, .int .i64 n1, .string t1, .slice a1 k1.len c1, .int .i64 oJ, .int .i64 nJ, .string tJ, .slice aJ kJ.len cJ] 25)) := by
 have hrow := h.row
 rw [hp] at hrow
 obtain ⟨f1, f2, hr1, hr2, rfl⟩ := RowAt.app_iff.1 hrow
 rw [Nat.mul_comm 4] at hr2
 obtain ⟨ax, cx, g1, g2, _, _, _, e3, hcx, hsx, hg2, rfl⟩ := RowAt.cons_iff.1 hr2
 have hg2' : g2 = [] := hg2
 subst hg2'
 rw [hcell] at e3
 obtain ⟨rfl, rfl⟩ : a1 = ax ∧ c1 = cx := by cases e3; exact ⟨rfl, rfl⟩
 have hfr := h.fresh
 have hJW : J < W.heap.size := (Array.getElem?_eq_some_iff.1 h.var).1
 obtain ⟨Y, hY⟩ : ∃ Y, X.alloc (.cells #[.int .i64 o1, .int .i64 n1, .string t1, .slice a1 k1.len c1, .int .i64 oJ, .int .i64 nJ, .string tJ, .slice aJ kJ.len cJ] 25) = Y := ⟨_, rfl⟩
 have hXY : Ext X Y := by rw [← hY]; exact (Ext.refl X).alloc _
 have hYs : Y.heap.size = W.heap.size + 1 := by rw [← hY]; simp [hXs]
 have hYo : ∀ q, q < W.heap.size → q ≠ J → Y.heap[q]? = W.heap[q]? := fun q hq hne => (hXY.block q (by omega)).trans (hXo q hne)
 have hcl : ∀ i, Y.cell? ⟨W.heap.size, i, none⟩ = (#[.int .i64 o1, .int .i64 n1, .string t1, .slice a1 k1.len c1, .int .i64 oJ, .int .i64 nJ, .string tJ, .slice aJ kJ.len cJ] : Array Value)[i]? := fun i => by rw [← hY, ← hXs]; exact World.cell?_alloc_new _ _ _ _
 have hnew : Y.heap[W.heap.size]? = some (.cells #[.int .i64 o1, .int .i64 n1, .string t1, .slice a1 k1.len c1, .int .i64 oJ, .int .i64 nJ, .string tJ, .slice aJ kJ.len cJ] 25 (0, 0)) := by rw [← hY, ← hXs]; exact World.alloc_heap_new _ _
 rw [hY]
 have hsub := h.sub
 have hcap := h.cap
 rw [hd] at hsub hcap
 have hall : ∀ q ∈ (f1 ++ (g1 ++ [])) ++ fJ, q < W.heap.size ∧ q ≠ J := fun q hq => ⟨(hfr.2 q hq).2.1, by
  rcases List.mem_append.1 hq with hq | hq
  ·have := h.old q hq; omega
  ·exact (h.apart q hq).1⟩
 refine ⟨f1, W.heap.size :: (g1 ++ fJ), by rw [h.split, hp, F.app_assoc]; rfl, hr1, ?_, ?_, ?_, ?_, fun q hq => h.old q (by simp [hq]), ?_, ?_, hXe.trans hXY⟩
 ·exact (hXY.block J (by omega)).trans hXJ
 ·show SubAt Y _ (.cons o1 n1 t1 k1 (consD (catOn g d) .nil)) _
  rw [hd]
  refine .inr ⟨W.heap.size, 0, g1 ++ fJ, rfl, (by intro e; cases e), rfl, RowAt.cons_iff.2 ⟨a1, c1, g1, fJ, hcl 0, hcl 1, hcl 2, hcl 3, hcx, ?_, RowAt.cons_iff.2 ⟨aJ, cJ, fJ, [], hcl 4, hcl 5, hcl 6, hcl 7, hcap, ?_, rfl, by simp⟩, rfl⟩⟩
  ·have hsW := subAt_same hsx (B := Y) (fun q hq => (hXe.trans hXY).block q (h.old q (by simp [hq])))
   exact hsW
  ·exact subAt_same hsub (fun q hq => hYo q (hall q (by simp [hq])).1 (hall q (by simp [hq])).2)
 ·exact Nat.le_refl 2
 ·refine ⟨?_, fun q hq => ?_⟩
  ·rw [List.perm_middle.nodup_iff, List.nodup_cons]
   have hnd := hfr.1
   rw [List.append_nil, List.append_assoc] at hnd
   exact ⟨fun hm => by have := (hall _ (by rw [List.append_nil, List.append_assoc]; exact hm)).1; omega, hnd⟩
  ·rcases (show q = W.heap.size ∨ q ∈ (f1 ++ (g1 ++ [])) ++ fJ by simp at hq ⊢; rcases hq with hq | hq | hq | hq <;> simp [hq]) with rfl | hq
   ·exact ⟨by have := h.ext.size; omega, by omega, fun x => by simp [World.frozen?, hnew]⟩
   ·exact ⟨(hfr.2 q hq).1, by have := (hall q hq).1; omega, fun x => (World.frozen?_of_block (w := W) (hYo q (hall q hq).1 (hall q hq).2)).trans ((hfr.2 q hq).2.2 x)⟩
 ·intro q hq
  rcases List.mem_cons.1 hq with rfl | hq
  ·exact ⟨by omega, by omega⟩
  ·rcases List.mem_append.1 hq with hq | hq
   ·have := h.old q (by simp [hq]); exact ⟨by omega, by omega⟩
   ·exact h.apart q hq
 ·exact (hYo _ (by omega) (by omega)).trans h.zero
theorem catAll_nil (w : World) (lo : Nat) (a : Option Addr) (cap : Nat) : Calls Tryz.prog 154 #[.slice a 0 cap] w (LoOut lo w (catAll .nil)) := by
 go_enter Tryz.func154, Tryz.ntmps154
 go_wp2_with fail
 have z := fun (i : Nat) => World.cell?_alloc_new w #[.int .i64 1, .int .i64 0, .string ⟨#[]⟩, .slice none 0 0] 25 i
 have z0 := z 0
 have z1 := z 1
 have z2 := z 2
 have z3 := z 3
 simp at z0 z1 z2 z3
 refine bodyPost_ret (v := .agg #[.int .i64 1, .int .i64 0, .string ⟨#[]⟩, .slice none 0 0]) (by simp [results, Tryz.results154, go_sem, z0, z1, z2, z3]) rfl ?_
 exact ⟨none, 0, [], rfl, Nat.le_refl _, .inl ⟨rfl, rfl⟩, Fresh.nil _ _, (Ext.refl w).alloc _⟩
theorem catAll_snoc' (w : World) (lo : Nat) (p : F) (o n : Int) (t : ByteArray) (k : F) (b off cap Q : Nat) (fs : List Nat) (hQ : p.len = Q) (hlen : Q ≤ 100000) (hlo : lo ≤ w.heap.size) (hrow : RowAt w (p.app (.cons o n t k .nil)) b off fs) (hb : b < w.heap.size) (hfr : Fresh lo w fs) (hcap : Q + 1 ≤ cap) :
  Calls Tryz.prog 154 #[.slice (some ⟨b, off, none⟩) (Q + 1) cap] w (LoOut lo w (catOn p (o, n, t, k))) := by
 obtain ⟨f1, f2, hr1, hr2, rfl⟩ := RowAt.app_iff.1 hrow
 rw [hQ, Nat.mul_comm 4] at hr2
 obtain ⟨ak, ck, g1, g2, d0, d1, d2, d3, hck, hsk, hg2, rfl⟩ := RowAt.cons_iff.1 hr2
 have hg2' : g2 = [] := hg2
 subst hg2'
 rw [List.append_nil] at hfr
 have HR := Lib.hid (And.intro hr1 (And.intro hsk (And.intro hck (And.intro hfr hQ))))
 obtain ⟨L, hL⟩ : ∃ L, k.len = L := ⟨_, rfl⟩
 rw [hL] at d3
 have i0 : (0 : Int) ≤ (Q : Int) := Int.natCast_nonneg _
 have i1 : (Q : Int) < ((Q + 1 : Nat) : Int) := by omega
 have i2 : ((Q + 1 : Nat) : Int) - 1 = (Q : Int) := by omega
 clear hrow hr1 hr2 hsk hck hfr hg2
 have HBK := Lib.hid (backK (some ⟨b, off, none⟩) Q cap)
 refine calls_marks Tryz.func154 rfl ?_
 simp only [Tryz.ntmps154, List.size_toArray, List.length_cons, List.length_nil, Nat.reduceAdd, Nat.reduceSub, Array.replicate_succ, Array.replicate_zero, List.push_toArray, List.append_toArray, List.nil_append, List.cons_append]
 go_wp2_with fail
 refine (HBK.out _).mono ?_
 rintro e1 w1 ⟨rfl, rfl⟩
 go_wp2_with fail
 obtain ⟨W0, hW0⟩ : ∃ W0, ((w.alloc (.cells #[.int .i64 0, .int .i64 0, .string ⟨#[]⟩, .slice none 0 0] 25)).alloc (.cells #[.int .i64 o, .int .i64 n, .string t, .slice ak L ck] 25)).alloc (.cells #[.slice (some ⟨b, off, none⟩) Q cap] 23) = W0 := ⟨_, rfl⟩
 have hz : W0.heap.size = w.heap.size + 3 := by rw [← hW0]; simp
 have hE0 : Ext w W0 := by rw [← hW0]; exact (((Ext.refl w).alloc _).alloc _).alloc _
 have hZ0 : W0.heap[w.heap.size]? = some (.cells #[.int .i64 0, .int .i64 0, .string ⟨#[]⟩, .slice none 0 0] 25 (0, 0)) := by
  rw [← hW0]; exact (((Ext.refl _).alloc _).alloc _).block _ (by simp) |>.trans (World.alloc_heap_new w _)
 have hJ0 : W0.heap[w.heap.size + 1]? = some (.cells #[.int .i64 o, .int .i64 n, .string t, .slice ak L ck] 25 (0, 0)) := by
  rw [← hW0, ← World.size_alloc w (.cells #[.int .i64 0, .int .i64 0, .string ⟨#[]⟩, .slice none 0 0] 25)]; exact ((Ext.refl _).alloc _).block _ (by simp) |>.trans (World.alloc_heap_new _ _)
 have hbx : W0.cell? ⟨w.heap.size + 2, 0, none⟩ = some (.slice (some ⟨b, off, none⟩) Q cap) := by
  rw [← hW0, show w.heap.size + 2 = ((w.alloc (.cells #[.int .i64 0, .int .i64 0, .string ⟨#[]⟩, .slice none 0 0] 25)).alloc (.cells #[.int .i64 o, .int .i64 n, .string t, .slice ak L ck] 25)).heap.size by simp, World.cell?_alloc_new]; rfl
 try rw [hW0]
 obtain ⟨hrp, hsk, hck, hfr, _⟩ := HR.out
 have hI0 : CaI w lo p (o, n, t, k) b off (w.heap.size + 1) p .nil ak ck f1 g1 W0 := by
  refine ⟨(F.app_nil p).symm, hrp, ?_, subAt_same hsk (fun c hc => hE0.block c (hfr.2 c (by simp [hc])).2.1), hck, fresh_same hfr hE0.size (fun c hc => hE0.block c (hfr.2 c hc).2.1), fun c hc => (hfr.2 c (by simp [hc])).2.1, fun c hc => by have := (hfr.2 c (by simp [hc])).2.1; exact ⟨by omega, by omega⟩, hZ0, hE0⟩
  show W0.heap[w.heap.size + 1]? = some (.cells #[.int .i64 o, .int .i64 n, .string t, .slice ak k.len ck] 25 (0, 0))
  rw [hL]; exact hJ0
 rw [← hQ] at hbx hlen
 refine wpIn_wide.1 (rangeFunc_gives2 (n := 7) (gf := 172) (lb := #[.pointer (some ⟨w.heap.size + 1 + 1, 0, none⟩)]) (X := XA w p b off) (Pc := fun c => c < w.heap.size ∨ c = w.heap.size + 2) (N := p.len) ?g0 (enters_of Tryz.func172 (by kernel_rfl) rfl) (by omega) (backAt hE0 hrp hb hbx (by omega)) (fun c hc => by omega) (fun k args A W hX => by obtain ⟨q, p, o1, n1, t1, k1, r1, a1, c1, _, _, _, rfl, _⟩ := hX; rfl)
  (fun j A => ∃ p' g a c fp fJ, g.len = j ∧ CaI w lo p (o, n, t, k) b off (w.heap.size + 1) p' g a c fp fJ A)
  (fun _ _ => False)
  (fun j A B h hA hT => by obtain ⟨p', g, a, c, fp, fJ, h1, h2⟩ := h; exact ⟨p', g, a, c, fp, fJ, h1, h2.turn hT (by omega)⟩)
  (fun A B h hE => by obtain ⟨p', g, a, c, fp, fJ, h1, h2⟩ := h; exact ⟨p', g, a, c, fp, fJ, h1, h2.later hE⟩)
  (fun _ _ _ h => h.elim)
  ⟨p, .nil, ak, ck, f1, g1, rfl, hI0⟩
  (fun args W => { tmps := #[.slice (some ⟨b, off, none⟩) (Q + 1) cap, undef, .pointer (some ⟨w.heap.size, 0, none⟩), .int .i64 (Q : Int), .pointer (some ⟨w.heap.size + 1, 0, none⟩), undef, .pointer (some ⟨W.heap.size, 0, none⟩), .slice (some ⟨b, off, none⟩) (Q + 1) cap, .int .i64 ((Q : Int) + 1), .bool false, undef, .slice (some ⟨b, off, none⟩) (Q + 1) cap, .int .i64 ((Q : Int) + 1), .int .i64 (Q : Int), .slice (some ⟨b, off, none⟩) (Q + 1) cap, .int .i64 (Q : Int), .pointer (some ⟨b, off + Q * 4, none⟩), .agg #[.int .i64 o, .int .i64 n, .string t, .slice ak L ck], .slice (some ⟨b, off, none⟩) (Q + 1) cap, .int .i64 (Q : Int), .slice (some ⟨b, off, none⟩) Q cap, .func (.func 172) #[] #[.pointer (some ⟨w.heap.size + 2, 0, none⟩)], args.getD 0 undef, args.getD 1 undef, undef, undef, undef, undef, undef], defers := [] })
  (fun args W => W.alloc (.cells (args.getD 1 undef).cells 25)) (fun args W => (Ext.refl W).alloc _) ?assign ?body ?done ?stop)
 case g0 => rfl
 case assign =>
  rintro l j args A W K ⟨q, p1, o1, n1, t1, k1, r1, a1, c1, hsp, hpl, hrl, rfl, hcell⟩ hK
  clear hsp hpl hrl hcell
  gi_wp2_with fail
  exact hK
 case body =>
  rintro l j A0 A Wp W hj hz1 ⟨p', g, aJ, cJ, fp, fJ, hgl, hI⟩ hE ⟨q, p1, o1, n1, t1, k1, r1, a1, c1, hsp, hpl, hrl, rfl, hcell⟩ hT
  have hIW := (hI.later (hE.trans ((Ext.refl _).alloc (.cells #[.int .i64 o1, .int .i64 n1, .string t1, .slice a1 k1.len c1] 25)))).turn hT (by omega)
  have y0 : W.cell? ⟨Wp.heap.size, 0, none⟩ = some (.int .i64 o1) := hT.cell (by rw [World.cell?_alloc_new]; rfl)
  have y1 : W.cell? ⟨Wp.heap.size, 1, none⟩ = some (.int .i64 n1) := hT.cell (by rw [World.cell?_alloc_new]; rfl)
  have y2 : W.cell? ⟨Wp.heap.size, 2, none⟩ = some (.string t1) := hT.cell (by rw [World.cell?_alloc_new]; rfl)
  have y3 : W.cell? ⟨Wp.heap.size, 3, none⟩ = some (.slice a1 k1.len c1) := hT.cell (by rw [World.cell?_alloc_new]; rfl)
  obtain ⟨⟨oJ, nJ, tJ, kJ⟩, hdJ⟩ : ∃ d : D, catOn g (o, n, t, k) = d := ⟨_, rfl⟩
  have hv := hIW.var
  rw [hdJ] at hv
  have hv' : W.heap[w.heap.size + 1]? = some (.cells #[.int .i64 oJ, .int .i64 nJ, .string tJ, .slice aJ kJ.len cJ] 25 (0, 0)) := hv
  have x0 : W.cell? ⟨w.heap.size + 1, 0, none⟩ = some (.int .i64 oJ) := by simp [World.cell?, hv']
  have x1 : W.cell? ⟨w.heap.size + 1, 1, none⟩ = some (.int .i64 nJ) := by simp [World.cell?, hv']
  have x2 : W.cell? ⟨w.heap.size + 1, 2, none⟩ = some (.string tJ) := by simp [World.cell?, hv']
  have x3 : W.cell? ⟨w.heap.size + 1, 3, none⟩ = some (.slice aJ kJ.len cJ) := by simp [World.cell?, hv']
  have z0 : W.frozen? ⟨w.heap.size + 1, 0, none⟩ = false := by simp [World.frozen?, hv']
  have z1 : W.frozen? ⟨w.heap.size + 1, 1, none⟩ = false := by simp [World.frozen?, hv']
  have z2 : W.frozen? ⟨w.heap.size + 1, 2, none⟩ = false := by simp [World.frozen?, hv']
  have z3 : W.frozen? ⟨w.heap.size + 1, 3, none⟩ = false := by simp [World.frozen?, hv']
  have hl1 : w.heap.size + 1 < W.heap.size := (Array.getElem?_eq_some_iff.1 hv').1
  have HH := Lib.hid (And.intro hIW (And.intro hdJ (And.intro hgl (And.intro hsp (And.intro hpl (And.intro hrl hcell))))))
  obtain ⟨L1, hL1⟩ : ∃ L, k1.len = L := ⟨_, rfl⟩
  obtain ⟨LJ, hLJ⟩ : ∃ L, kJ.len = L := ⟨_, rfl⟩
  rw [hL1] at y3
  rw [hLJ] at x3
  clear hIW hI hdJ hgl hsp hpl hrl hcell hE hT hv hv' hI0 hrp hsk hck hfr hbx hZ0 hJ0 hE0
  gi_wp2_with fail
  obtain ⟨hI, hdJ, hgl, hsp, hpl, hrl, hcell⟩ := HH.out
  have hlen' : p.len = p'.len + g.len := by rw [hI.split, F.len_app]
  have hpp : p' = p1.app (.cons o1 n1 t1 k1 .nil) := by
   refine (app_split p' g (p1.app (.cons o1 n1 t1 k1 .nil)) r1 ?_ ?_).1
   ·rw [← hI.split, hsp, F.app_assoc]; rfl
   ·rw [F.len_app]; simp only [F.len]; omega
  have hv' : W.heap[w.heap.size + 1]? = some (.cells #[.int .i64 oJ, .int .i64 nJ, .string tJ, .slice aJ kJ.len cJ] 25 (0, 0)) := by have := hI.var; rw [hdJ] at this; exact this
  obtain ⟨X, hX⟩ : ∃ X, (((W.setCell ⟨w.heap.size + 1, 0, none⟩ (.int .i64 7)).setCell ⟨w.heap.size + 1, 1, none⟩ (.int .i64 0)).setCell ⟨w.heap.size + 1, 2, none⟩ (.string ⟨#[]⟩)).setCell ⟨w.heap.size + 1, 3, none⟩ (.slice (some ⟨W.heap.size, 0, none⟩) 2 2) = X := ⟨_, rfl⟩
  have hXJ := set_four hv' (.int .i64 7) (.int .i64 0) (.string ⟨#[]⟩) (.slice (some ⟨W.heap.size, 0, none⟩) 2 2)
  have hXe : Ext w X := by rw [← hX]; exact ((((Below.setCell hI.ext (p := ⟨w.heap.size + 1, 0, none⟩) (by simp) _).setCell (p := ⟨w.heap.size + 1, 1, none⟩) (by simp) _).setCell (p := ⟨w.heap.size + 1, 2, none⟩) (by simp) _).setCell (p := ⟨w.heap.size + 1, 3, none⟩) (by simp) _)
  have hXk : KeepsOthers W X := by rw [← hX]; exact (((KeepsOthers.setCell _ _ _).trans (KeepsOthers.setCell _ _ _)).trans (KeepsOthers.setCell _ _ _)).trans (KeepsOthers.setCell _ _ _)
  have hXs : X.heap.size = W.heap.size := by rw [← hX]; simp
  have hXo : ∀ q, q ≠ w.heap.size + 1 → X.heap[q]? = W.heap[q]? := fun q hq => by
   rw [← hX]
   exact (((Below.heap_setCell _ _ _ q hq).trans (Below.heap_setCell _ _ _ q hq)).trans (Below.heap_setCell _ _ _ q hq)).trans (Below.heap_setCell _ _ _ q hq)
  rw [hX] at hXJ ⊢
  rw [← hpl] at hcell
  obtain ⟨fp', fJ', hR⟩ := hI.round hpp hcell rfl hlo hdJ hXs hXo hXJ hXe
  rw [← hL1, ← hLJ]
  have hXY := keeps_of_ext ((Ext.refl X).alloc (.cells #[.int .i64 o1, .int .i64 n1, .string t1, .slice a1 k1.len c1, .int .i64 oJ, .int .i64 nJ, .string tJ, .slice aJ kJ.len cJ] 25))
  refine ⟨hXk.trans hXY, ⟨by simp [hXs], fun c hc hl => ?_⟩, ⟨p1, .cons o1 n1 t1 k1 g, _, _, fp', fJ', by simp only [F.len]; omega, hR⟩⟩
  exact ((Below.heap_alloc _ _ _ (by omega)).trans (hXo c (by omega)))
 case done =>
  rintro De A W hD ⟨p', g, aJ, cJ, fp, fJ, hgl, hI⟩ ⟨B', hE, hT⟩ hK
  have hp' : p' = .nil := F.len_eq_zero (by have := congrArg F.len hI.split; rw [F.len_app] at this; omega)
  subst hp'
  obtain rfl : p = g := hI.split
  have hIW := (hI.later hE).turn hT (by omega)
  obtain ⟨⟨oJ, nJ, tJ, kJ⟩, hdJ⟩ : ∃ d : D, catOn p (o, n, t, k) = d := ⟨_, rfl⟩
  have hv := hIW.var
  rw [hdJ] at hv ⊢
  have hv' : W.heap[w.heap.size + 1]? = some (.cells #[.int .i64 oJ, .int .i64 nJ, .string tJ, .slice aJ kJ.len cJ] 25 (0, 0)) := hv
  have x0 : W.cell? ⟨w.heap.size + 1, 0, none⟩ = some (.int .i64 oJ) := by simp [World.cell?, hv']
  have x1 : W.cell? ⟨w.heap.size + 1, 1, none⟩ = some (.int .i64 nJ) := by simp [World.cell?, hv']
  have x2 : W.cell? ⟨w.heap.size + 1, 2, none⟩ = some (.string tJ) := by simp [World.cell?, hv']
  have x3 : W.cell? ⟨w.heap.size + 1, 3, none⟩ = some (.slice aJ kJ.len cJ) := by simp [World.cell?, hv']
  have hz' := hIW.zero
  have y0 : W.cell? ⟨w.heap.size, 0, none⟩ = some (.int .i64 0) := by simp [World.cell?, hz']
  have y1 : W.cell? ⟨w.heap.size, 1, none⟩ = some (.int .i64 0) := by simp [World.cell?, hz']
  have y2 : W.cell? ⟨w.heap.size, 2, none⟩ = some (.string ⟨#[]⟩) := by simp [World.cell?, hz']
  have y3 : W.cell? ⟨w.heap.size, 3, none⟩ = some (.slice none 0 0) := by simp [World.cell?, hz']
  have z0 : W.frozen? ⟨w.heap.size, 0, none⟩ = false := by simp [World.frozen?, hz']
  have z1 : W.frozen? ⟨w.heap.size, 1, none⟩ = false := by simp [World.frozen?, hz']
  have z2 : W.frozen? ⟨w.heap.size, 2, none⟩ = false := by simp [World.frozen?, hz']
  have z3 : W.frozen? ⟨w.heap.size, 3, none⟩ = false := by simp [World.frozen?, hz']
  have HI := Lib.hid (And.intro hIW (And.intro hz' hK))
  clear hI hE hT hIW hv hv' hz' hI0 hrp hsk hck hfr hbx hZ0 hJ0 hE0 hK
  go_wp2_with fail
  obtain ⟨hI, hz', hK⟩ := HI.out
  obtain ⟨X, hX⟩ : ∃ X, (((W.setCell ⟨w.heap.size, 0, none⟩ (.int .i64 oJ)).setCell ⟨w.heap.size, 1, none⟩ (.int .i64 nJ)).setCell ⟨w.heap.size, 2, none⟩ (.string tJ)).setCell ⟨w.heap.size, 3, none⟩ (.slice aJ kJ.len cJ) = X := ⟨_, rfl⟩
  have hXz := set_four hz' (.int .i64 oJ) (.int .i64 nJ) (.string tJ) (.slice aJ kJ.len cJ)
  have hXe : Ext w X := by rw [← hX]; exact ((((Below.setCell hI.ext (p := ⟨w.heap.size, 0, none⟩) (by simp) _).setCell (p := ⟨w.heap.size, 1, none⟩) (by simp) _).setCell (p := ⟨w.heap.size, 2, none⟩) (by simp) _).setCell (p := ⟨w.heap.size, 3, none⟩) (by simp) _)
  have hXs : X.heap.size = W.heap.size := by rw [← hX]; simp
  have hXo : ∀ q, q ≠ w.heap.size → X.heap[q]? = W.heap[q]? := fun q hq => by
   rw [← hX]
   exact (((Below.heap_setCell _ _ _ q hq).trans (Below.heap_setCell _ _ _ q hq)).trans (Below.heap_setCell _ _ _ q hq)).trans (Below.heap_setCell _ _ _ q hq)
  rw [hX] at hXz ⊢
  have hKX : X.heap[De]? = some (.deferred (some [])) := (hXo De (by omega)).trans hK
  have hT2 : Turn W0.heap.size X (X.putObj De (.deferred none)) := turn_put _ hKX rfl hD
  have c0 : (X.putObj De (.deferred none)).cell? ⟨w.heap.size, 0, none⟩ = some (.int .i64 oJ) := hT2.cell (by simp [World.cell?, hXz])
  have c1 : (X.putObj De (.deferred none)).cell? ⟨w.heap.size, 1, none⟩ = some (.int .i64 nJ) := hT2.cell (by simp [World.cell?, hXz])
  have c2 : (X.putObj De (.deferred none)).cell? ⟨w.heap.size, 2, none⟩ = some (.string tJ) := hT2.cell (by simp [World.cell?, hXz])
  have c3 : (X.putObj De (.deferred none)).cell? ⟨w.heap.size, 3, none⟩ = some (.slice aJ kJ.len cJ) := hT2.cell (by simp [World.cell?, hXz])
  have hsub := hI.sub
  have hcap := hI.cap
  rw [hdJ] at hsub hcap
  have hsame : ∀ q ∈ fJ, (X.putObj De (.deferred none)).heap[q]? = W.heap[q]? := fun q hq => by
   obtain ⟨x, v, hv⟩ := subAt_held hsub q hq
   have e := hXo q (hI.apart q hq).2
   exact (hT2.cells ((World.cell?_of_block (w := W) (a := ⟨q, x, none⟩) e).trans hv)).trans e
  refine leave_mark hKX (v := .agg #[.int .i64 oJ, .int .i64 nJ, .string tJ, .slice aJ kJ.len cJ]) (by simp [results, Tryz.results154, go_sem, c0, c1, c2, c3]) ?_
  have hfr := hI.fresh
  exact ⟨aJ, cJ, fJ, rfl, hcap, subAt_same hsub hsame, fresh_same ⟨(List.nodup_append.1 hfr.1).2.1, fun q hq => hfr.2 q (by simp [hq])⟩ (by rw [hT2.size, hXs]; exact Nat.le_refl _) hsame, Below.trans hXe (hT2.below (by omega))⟩
 case stop =>
  rintro D c A Y _ h _ _
  exact h.elim
theorem snoc_of : ∀ f : F, f ≠ .nil → ∃ (p : F) (o n : Int) (t : ByteArray) (k : F), f = p.app (.cons o n t k .nil) := by
 intro f
 induction f with
 | nil => intro h; exact absurd rfl h
 | cons o n t k r _ ih =>
   intro _
   by_cases hr : r = .nil
   ·subst hr; exact ⟨.nil, o, n, t, k, rfl⟩
   ·obtain ⟨p, o2, n2, t2, k2, rfl⟩ := ih hr
    exact ⟨.cons o n t k p, o2, n2, t2, k2, rfl⟩
theorem catAllOf (w : World) (lo : Nat) (f : F) (a : Option Addr) (cap : Nat) (fs : List Nat) (hlen : f.len ≤ 100000) (hlo : lo ≤ w.heap.size) (hs : SubAt w a f fs) (hfr : Fresh lo w fs) (hcap : f.len ≤ cap) :
  Calls Tryz.prog 154 #[.slice a f.len cap] w (LoOut lo w (catAll f)) := by
 by_cases hf : f = .nil
 ·subst hf; exact catAll_nil w lo a cap
 ·rcases hs with ⟨h, _⟩ | ⟨b, off, f', rfl, _, rfl, hrow⟩
  ·exact absurd h hf
  ·obtain ⟨p, o, n, t, k, rfl⟩ := snoc_of f hf
   have e : (p.app (.cons o n t k .nil)).len = p.len + 1 := by rw [F.len_app]; rfl
   rw [e] at hlen hcap ⊢
   rw [show F.cons o n t k .nil = consD (o, n, t, k) .nil from rfl, catAll_snoc]
   exact catAll_snoc' w lo p o n t k b off cap p.len f' rfl (by omega) hlo hrow (hfr.2 b (by simp)).2.1 ⟨(List.nodup_cons.1 hfr.1).2, fun c hc => hfr.2 c (by simp [hc])⟩ hcap
end Go.Proofs.YtjcaiecapapceaaGreat.Nf
namespace Go.Proofs.YtjcaiecapapceaaGreat.Nf
open Go.RowKit P1 Copy
def RowOut (lo : Nat) (w : World) (f : F) (e : Ending) (w' : World) : Prop := ∃ (a : Option Addr) (cap : Nat) (fs : List Nat), e = .returned (.slice a f.len cap) ∧ f.len ≤ cap ∧ SubAt w' a f fs ∧ Fresh lo w' fs ∧ Ext w w'
structure ListFn (g : Nat) (lb : Array Value) (Φ : F → F) : Prop where
 enter : ∀ (args : Array Value) (W : World), (callFunc g args).run Tryz.prog W = .ok (.enter g args) W
 call : ∀ (lo : Nat) (W : World) (o n : Int) (t : ByteArray) (k : F) (a : Option Addr) (cap : Nat) (fs : List Nat), niceD (o, n, t, k) = true → k.cnt ≤ 10000 → SubAt W a (psD Φ o n t k) fs → Fresh lo W fs → (psD Φ o n t k).len ≤ cap → lo ≤ W.heap.size →
  Calls Tryz.prog g (#[.slice a (psD Φ o n t k).len cap] ++ lb) W (RowOut lo W (Φ (psD Φ o n t k)))
 len : ∀ (o n : Int) (t : ByteArray) (k : F), niceD (o, n, t, k) = true → k.cnt ≤ 10000 → (Φ (psD Φ o n t k)).len ≤ 100000
def CrS (g : Nat) (lb : Array Value) (Φ : F → F) (f : F) : Prop := ∀ (w : World) (o n : Int) (t : ByteArray) (k : F) (p r : F) (a : Option Addr) (cap : Nat) (fs : List Nat), f = p.app (.cons o n t k r) → nice f = true → f.cnt ≤ 10000 → SubAt w a k fs → (∀ c ∈ fs, c < w.heap.size) → k.len ≤ cap →
 Calls Tryz.prog 106 #[.agg #[.int .i64 o, .int .i64 n, .string t, .slice a k.len cap], .func (.func g) #[] lb] w (NewD w (rowD Φ o n t k))
theorem cr_kid {g : Nat} {lb : Array Value} {Φ : F → F} {k : F} (ih : CrS g lb Φ k) (hn : nice k = true) (hcnt : k.cnt ≤ 10000) {w : World} {b : Nat} (hb : b < w.heap.size) (hc : w.cell? ⟨b, 0, none⟩ = some (.func (.func g) #[] lb)) :
  KidFn 153 #[.pointer (some ⟨b, 0, none⟩)] (rowD Φ) k w := by
 refine ⟨enters_of Tryz.func153 (by kernel_rfl) rfl, fun W p o n t q r a cap fs hk he hs hfs hc' => ?_⟩
 show Calls Tryz.prog 153 #[.agg #[.int .i64 o, .int .i64 n, .string t, .slice a q.len cap], .pointer (some ⟨b, 0, none⟩)] W _
 have c0 := (he.cell (o := 0) hb).trans hc
 have hbW : b < W.heap.size := Nat.lt_of_lt_of_le hb he.size
 have hd := fun (W1 : World) (h1 : Ext W W1) => ih W1 o n t q p r a cap fs hk hn hcnt (h1.sub hs hfs) (fun c hc => Nat.lt_of_lt_of_le (hfs c hc) h1.size) hc'
 obtain ⟨⟨o2, n2, t2, k2⟩, hφ⟩ : ∃ d : D, rowD Φ o n t q = d := ⟨_, rfl⟩
 rw [hφ] at hd ⊢
 have HD := Lib.hid hd
 have HE := Lib.hid (show ∀ x y, Ext W ((W.alloc x).alloc y) from fun x y => ((Ext.refl W).alloc x).alloc y)
 obtain ⟨L, hL⟩ : ∃ L, q.len = L := ⟨_, rfl⟩
 rw [hL] at HD ⊢
 clear hd he hs hfs hc' hk ih hn hcnt hb hc hφ
 go_enter Tryz.func153, Tryz.ntmps153
 go_wp2_with fail
 refine (HD.out _ (HE.out _ _)).mono ?_
 rintro e1 w1 ⟨a2, cap2, f2, rfl, hc2, hs2, hfr2, hb2⟩
 simp only at hc2 hs2 ⊢
 have hcell : ∀ o, w1.cell? ⟨W.heap.size + 1, o, none⟩ = _ := fun o => hb2.cell (p := ⟨W.heap.size + 1, o, none⟩) (by simp)
 have hfz : ∀ o, w1.frozen? ⟨W.heap.size + 1, o, none⟩ = _ := fun o => hb2.frozen (p := ⟨W.heap.size + 1, o, none⟩) (by simp)
 have hz1 : W.heap.size + 2 ≤ w1.heap.size := by have := hb2.size; simp at this; omega
 have H2 := Lib.hid (And.intro hc2 (And.intro hs2 (And.intro hfr2 hb2)))
 clear hc2 hs2 hfr2 hb2
 go_wp2_with fail
 refine bodyPost_ret (v := .agg #[.int .i64 o2, .int .i64 n2, .string t2, .slice a2 k2.len cap2]) (by simp [results, Tryz.results153, go_sem, hcell, hfz, show W.heap.size + 1 < w1.heap.size by omega]) rfl ?_
 obtain ⟨hc2, hs2, hfr2, hb2⟩ := H2.out
 refine end_new2 (lo := W.heap.size + 1) (hi := W.heap.size + 2) hs2 (hfr2.mono (lo' := W.heap.size + 2) (by simp)) hc2 (Nat.le_refl _) (by omega) (by omega) (Below.trans (HE.out _ _) (hb2.mono (by simp; omega))) ?_
 repeat (first | exact Touch.refl _ _ _ | refine Touch.setCell ?_ (by simp) (by simp) _)
theorem parts_deep : ∀ f : F, (parts0 f).deep ≤ f.deep := by
 intro f
 induction f with
 | nil => exact Nat.le_refl _
 | cons o n t k r ihk ihr =>
   rw [parts0_cons, F.deep_app]
   have h : (ptD o n t k).deep ≤ k.deep + 1 := by
    unfold ptD
    split
    ·omega
    ·simp only [F.deep]; omega
   simp only [F.deep]
   omega
theorem part_of {o n : Int} {t : ByteArray} {k p k1 r : F} {o1 n1 : Int} {t1 : ByteArray} (h : ptD o n t k = p.app (.cons o1 n1 t1 k1 r)) (hn : niceD (o, n, t, k) = true) (hc : k.cnt ≤ 10000) : nice k1 = true ∧ k1.cnt ≤ 10000 ∧ k1.deep ≤ k.deep := by
 have hN : nice (.cons o n t k .nil) = true := by rw [show nice (.cons o n t k .nil) = (niceD (o, n, t, k) && nice .nil) from rfl, hn]; rfl
 have e : parts0 (.cons o n t k .nil) = ptD o n t k := by rw [parts0_cons, show parts0 .nil = .nil from rfl, F.app_nil]
 have h1 := parts_nice _ hN
 have h2 := parts_cnt _ hN
 have h3 := parts_deep (.cons o n t k .nil)
 have h4 := parts_len _ hN
 rw [e, h] at h1 h2 h3 h4
 rw [nice_app, Bool.and_eq_true] at h1
 have hn1 := (Bool.and_eq_true_iff.1 h1.2).1
 rw [F.cnt_app] at h2
 rw [F.deep_app] at h3
 simp only [F.cnt, F.deep, F.len] at h2 h3 h4
 exact ⟨(Bool.and_eq_true_iff.1 hn1).2, by omega, by omega⟩
theorem part_at {w0 w : World} {lo g cap : Nat} {p k1 r : F} {o1 n1 : Int} {t1 : ByteArray} {gs : List Nat} (h : PtAt w0 lo (.slice (some ⟨g, 0, none⟩) (p.app (.cons o1 n1 t1 k1 r)).len cap) (p.app (.cons o1 n1 t1 k1 r)) gs w) :
  ∃ (a1 : Option Addr) (c1 : Nat) (f1 : List Nat), w.cell? ⟨g, p.len * 4, none⟩ = some (.int .i64 o1) ∧ w.cell? ⟨g, p.len * 4 + 1, none⟩ = some (.int .i64 n1) ∧ w.cell? ⟨g, p.len * 4 + 2, none⟩ = some (.string t1) ∧ w.cell? ⟨g, p.len * 4 + 3, none⟩ = some (.slice a1 k1.len c1) ∧ k1.len ≤ c1 ∧ SubAt w0 a1 k1 f1 ∧ ∀ c ∈ f1, c ∈ gs := by
 obtain ⟨xs, hown, hsh⟩ := h
 have hspl : ∀ (p : F) (xs : List Value) (gs : List Nat), Sh w0 (p.app (.cons o1 n1 t1 k1 r)) xs gs → ∃ (a1 : Option Addr) (c1 : Nat) (f1 : List Nat) (ys zs : List Value), xs = ys ++ (.int .i64 o1 :: .int .i64 n1 :: .string t1 :: .slice a1 k1.len c1 :: zs) ∧ ys.length = p.len * 4 ∧ k1.len ≤ c1 ∧ SubAt w0 a1 k1 f1 ∧ ∀ c ∈ f1, c ∈ gs := by
  intro p
  induction p with
  | nil =>
    rintro xs gs ⟨a, c, f1, f2, ys, rfl, hc, hs, _, rfl⟩
    exact ⟨a, c, f1, [], ys, rfl, rfl, hc, hs, fun c hc => by simp [hc]⟩
  | cons o n t k q _ ih =>
    rintro xs gs ⟨a, c, f1, f2, ys, rfl, hc, hs, hr, rfl⟩
    obtain ⟨a1, c1, g1, y1, z1, rfl, hl, hc1, hs1, hi⟩ := ih ys f2 hr
    exact ⟨a1, c1, g1, .int .i64 o :: .int .i64 n :: .string t :: .slice a k.len c :: y1, z1, rfl, by simp only [List.length_cons, hl, F.len]; omega, hc1, hs1, fun c hc => by simp [hi c hc]⟩
 obtain ⟨a1, c1, f1, ys, zs, rfl, hl, hc1, hs1, hi⟩ := hspl p xs gs hsh
 have hcell : ∀ i, i < 4 → w.cell? ⟨g, p.len * 4 + i, none⟩ = (ys ++ (Value.int .i64 o1 :: .int .i64 n1 :: .string t1 :: .slice a1 k1.len c1 :: zs))[p.len * 4 + i]? := fun i hi => by
  have hlt : p.len * 4 + i < (p.app (.cons o1 n1 t1 k1 r)).len * 4 := by rw [F.len_app]; simp only [F.len]; omega
  have := hown.cellAt (p.len * 4 + i) hlt
  exact this
 have hget : ∀ i, (ys ++ (Value.int .i64 o1 :: .int .i64 n1 :: .string t1 :: .slice a1 k1.len c1 :: zs))[p.len * 4 + i]? = (Value.int .i64 o1 :: .int .i64 n1 :: .string t1 :: .slice a1 k1.len c1 :: zs)[i]? := fun i => by
  rw [← hl, List.getElem?_append_right (by omega), Nat.add_sub_cancel_left]
 exact ⟨a1, c1, f1, (hcell 0 (by omega)).trans (hget 0), (hcell 1 (by omega)).trans (hget 1), (hcell 2 (by omega)).trans (hget 2), (hcell 3 (by omega)).trans (hget 3), hc1, hs1, hi⟩
def CrMid (w4 : World) (Φ : F → F) (P : F) (j : Nat) (v : Value) (wr : World) : Prop := ∃ (p g : F) (fs : List Nat), P = p.app g ∧ p.len = j ∧ Grow wr 25 w4.heap.size v (mapL (kidR Φ) p) fs ∧ Ext w4 wr
theorem cr_step {g : Nat} {lb : Array Value} {Φ : F → F} (R : ListFn g lb Φ) (w : World) (o n : Int) (t : ByteArray) (k : F) (ih : ∀ f : F, f.deep ≤ k.deep → CrS g lb Φ f) (hn : niceD (o, n, t, k) = true) (hcnt : k.cnt ≤ 10000) (a : Option Addr) (cap : Nat) (fs : List Nat) (hs : SubAt w a k fs) (hfs : ∀ c ∈ fs, c < w.heap.size) (hc : k.len ≤ cap) :
  Calls Tryz.prog 106 #[.agg #[.int .i64 o, .int .i64 n, .string t, .slice a k.len cap], .func (.func g) #[] lb] w (NewD w (rowD Φ o n t k)) := by
 obtain ⟨i0, hi, hz0, hz1, hz2⟩ := info_parts To.info
 have HI := Lib.hid (And.intro hi (And.intro hz0 (And.intro hz1 hz2)))
 obtain ⟨P, hP⟩ : ∃ P, ptD o n t k = P := ⟨_, rfl⟩
 have hps : psD Φ o n t k = mapL (kidR Φ) P := by rw [ps_parts, hP]
 have hPl : P.len ≤ 20000 := by
  have hN : nice (.cons o n t k .nil) = true := by rw [show nice (.cons o n t k .nil) = (niceD (o, n, t, k) && nice .nil) from rfl, hn]; rfl
  have h2 := parts_cnt _ hN
  rw [parts0_cons, show parts0 .nil = .nil from rfl, F.app_nil, hP] at h2
  simp only [F.cnt, F.len] at h2
  omega
 have hkid := fun (W : World) (hW : Ext w W) (b : Nat) (hb : b < W.heap.size) (c : W.cell? ⟨b, 0, none⟩ = some (.func (.func g) #[] lb)) (p : F) (o1 n1 : Int) (t1 : ByteArray) (k1 r : F) (a1 : Option Addr) (c1 : Nat) (f1 : List Nat) (h : P = p.app (.cons o1 n1 t1 k1 r)) (hs1 : SubAt w a1 k1 f1) (hf1 : ∀ c ∈ f1, c ∈ fs) (hc1 : k1.len ≤ c1) =>
  (show Calls Tryz.prog 147 #[.agg #[.int .i64 o1, .int .i64 n1, .string t1, .slice a1 k1.len c1], .func (.func 153) #[] #[.pointer (some ⟨b, 0, none⟩)]] W (NewOut W o1 n1 t1 (mapL (rowD Φ) k1)) from by
   obtain ⟨q1, q2, q3⟩ := part_of (hP.trans h) hn hcnt
   have hl := F.len_le_cnt k1
   exact changeKids W o1 n1 t1 k1 (rowD Φ) _ _ (cr_kid (ih k1 q3) q1 q2 hb c) a1 c1 f1 (hW.sub hs1 (fun c hc => hfs c (hf1 c hc))) (fun c hc => Nat.lt_of_lt_of_le (hfs c (hf1 c hc)) hW.size) hc1 (by omega))
 have hpo := fun (W : World) (hW : Ext w W) => partsOf w W o n t k hn hcnt hW a cap fs hs hfs hc
 rw [hP] at hpo
 have he := R.enter
 have hlist := fun (lo : Nat) (W : World) (a : Option Addr) (cap : Nat) (fs : List Nat) => R.call lo W o n t k a cap fs hn hcnt
 have hlen := R.len o n t k hn hcnt
 have HLL := Lib.hid hlen
 rw [hps] at hlist
 have HML := Lib.hid (show (mapL (kidR Φ) P).len = P.len from len_mapL _ _)
 have HK := Lib.hid hkid
 have HP := Lib.hid hpo
 have HL := Lib.hid hlist
 have HPS := Lib.hid (And.intro hps hPl)
 have HE := Lib.hid (show ∀ x y z, Ext w (((w.alloc x).alloc y).alloc z) from fun x y z => (((Ext.refl w).alloc x).alloc y).alloc z)
 obtain ⟨L, hL⟩ : ∃ L, k.len = L := ⟨_, rfl⟩
 rw [hL] at HP ⊢
 clear hkid hpo hlist hlen hps hPl hL hP hn hcnt hs hfs hc ih R hi hz0 hz1 hz2
 go_enter Tryz.func106, Tryz.ntmps106
 go_wp2_with fail
 have HZ := Lib.hid (zbox_third w (.cells #[.int .i64 o, .int .i64 n, .string t, .slice a L cap] 25) (.cells #[.func (.func g) #[] lb] 136) 25)
 have hfc := (show (((w.alloc (.cells #[.int .i64 o, .int .i64 n, .string t, .slice a L cap] 25)).alloc (.cells #[.func (.func g) #[] lb] 136)).alloc (.cells #[.int .i64 0, .int .i64 0, .string ⟨#[]⟩, .slice none 0 0] 25)).cell? ⟨w.heap.size + 1, 0, none⟩ = some (.func (.func g) #[] lb) by
  rw [World.cell?_alloc_lt _ _ _ (by simp), show w.heap.size + 1 = (w.alloc (.cells #[.int .i64 o, .int .i64 n, .string t, .slice a L cap] 25)).heap.size by simp, World.cell?_alloc_new]; rfl)
 refine (HP.out _ (HE.out _ _ _)).mono ?_
 rintro e1 w4 ⟨g0, cap0, gs, rfl, hg1, hg2, hA, hsl, hb4⟩
 have hz4 : w.heap.size + 3 ≤ w4.heap.size := by have := hb4.size; simp at this; omega
 have hE4 : Ext w w4 := (HE.out _ _ _).trans hb4
 have hfc4 := (hb4.cell (p := ⟨w.heap.size + 1, 0, none⟩) (by simp)).trans hfc
 have HZ4 := Lib.hid (zbox_below HZ.out (hb4.mono (by simp)) (Nat.lt_succ_self _))
 obtain ⟨N, hN⟩ : ∃ N, P.len = N := ⟨_, rfl⟩
 have HN := Lib.hid hN
 have H4 := Lib.hid (And.intro hA (And.intro hsl (And.intro hE4 (And.intro hfc4 hz4))))
 rw [hN]
 have hNl : N ≤ 20000 := by have := HPS.out.2; omega
 clear hA hsl hE4 hfc4 hb4 hfc hg1 hN
 go_wp2_with fail
 go_loopw [11, 5] (fun i v wr => ∃ j : Nat, j ≤ N ∧ i = .int .i64 j ∧ CrMid w4 Φ P j v wr) (fun i _ _ => N - (intOf i).toNat)
 case atStart => exact ⟨0, by omega, rfl, ⟨.nil, P, [], rfl, rfl, Grow.start _ _ _ (Nat.le_refl _), Ext.refl _⟩⟩
 case round =>
  obtain ⟨j, hj, rfl, ⟨p, q, fs1, h3, h5, hG, hbw⟩⟩ := hrel
  have h7 : q.len = N - j := by have := HN.out; rw [h3, F.len_app, h5] at this; omega
  obtain ⟨hA, hsl, hE4, hfc4, hz4⟩ := H4.out
  have hfcr := (hbw.cell (o := 0) (by omega)).trans hfc4
  have hzr := hbw.size
  cases q with
  | nil =>
    have hjL : N ≤ j := by simp only [F.len] at h7; omega
    rw [F.app_nil] at h3
    obtain rfl : p = P := h3.symm
    obtain ⟨a', cap', rfl, hcap', hsub', hcm⟩ := hG.slice
    have hl5 := HL.out w4.heap.size wr a' cap' fs1 hsub' hG.fresh hcap' hzr
    have hcl : (Φ (mapL (kidR Φ) p)).len ≤ 100000 := by have := HLL.out; rw [HPS.out.1] at this; exact this
    have hca := fun (W : World) (a : Option Addr) (cap : Nat) (fs : List Nat) => catAllOf W w4.heap.size (Φ (mapL (kidR Φ) p)) a cap fs hcl
    obtain ⟨⟨o6, n6, t6, k6⟩, hd6⟩ : ∃ d : D, catAll (Φ (mapL (kidR Φ) p)) = d := ⟨_, rfl⟩
    rw [hd6] at hca
    have hrow : rowD Φ o n t k = (o6, n6, t6, k6) := by show catAll (Φ (psD Φ o n t k)) = _; rw [HPS.out.1]; exact hd6
    have HROW := Lib.hid hrow
    obtain ⟨M, hM⟩ : ∃ M, (mapL (kidR Φ) p).len = M := ⟨_, rfl⟩
    rw [hM] at hl5 ⊢
    have HC := Lib.hid hca
    have HL5 := Lib.hid hl5
    have HB := Lib.hid hbw
    have HE4 := Lib.hid hE4
    clear hca hl5 hbw hE4 hG hA hsl hsub' hcap' hcm hd6 hrow hM hcl h3 h5 h7
    go_wp2_with (first
     | (go_at_fn g; refine HL5.out.mono ?_; rintro e5 w5 ⟨a5, cap5, f5, rfl, hc5, hs5, hfr5, hb5⟩; have HC5 := Lib.hid (HC.out w5 a5 cap5 f5 (Nat.le_trans hzr hb5.size) hs5 hfr5 hc5); have HB5 := Lib.hid (HB.out.trans hb5); obtain ⟨M5, hM5⟩ : ∃ M, (Φ (mapL (kidR Φ) p)).len = M := ⟨_, rfl⟩; rw [hM5] at HC5 ⊢; clear hc5 hs5 hfr5 hb5 hM5)
     | (go_at_call 154; refine HC5.out.mono ?_; rintro e6 w6 ⟨a6, cap6, f6, rfl, hc6, hs6, hfr6, hb6⟩; simp only at hc6 hs6 ⊢; have hE6 := HB5.out.trans hb6; obtain ⟨⟨z0, z1, z2, z3⟩, ⟨z4, z5, z6, z7⟩, z8⟩ := zbox_below HZ4.out hE6 (by omega); have H6 := Lib.hid (And.intro hc6 (And.intro hs6 (And.intro hfr6 hE6))); clear hc6 hs6 hfr6 hE6 hb6))
    refine bodyPost_ret (v := .agg #[.int .i64 o6, .int .i64 n6, .string t6, .slice a6 k6.len cap6]) (by simp [results, Tryz.results106, go_sem, z0, z1, z2, z3, z4, z5, z6, z7, z8]) rfl ?_
    obtain ⟨hc6, hs6, hfr6, hE6⟩ := H6.out
    rw [HROW.out]
    refine end_new2 (lo := w.heap.size + 1 + 1) (hi := w.heap.size + 3) (w3 := w6) hs6 hfr6 hc6 hz4 (by omega) (by omega) (HE4.out.trans hE6) ?_
    repeat (first | exact Touch.refl _ _ _ | refine Touch.setCell ?_ (by simp) (by simp) _)
  | cons o1 n1 t1 k1 r1 =>
    have hjL : j < N := by simp only [F.len] at h7; omega
    have hA' := hA.later hbw
    rw [h3] at hA'
    obtain ⟨a1, cap1, f1, c0, c1, c2, c3, hc1', hsub1, hin⟩ := part_at hA'
    rw [h5] at c0 c1 c2 c3
    have hd := fun (ob : Obj) => HK.out (wr.alloc ob) ((hE4.trans hbw).alloc _) (w.heap.size + 1) (by simp; omega) ((((Ext.refl wr).alloc ob).cell (o := 0) (by omega)).trans hfcr) p o1 n1 t1 k1 r1 a1 cap1 f1 h3 hsub1 (fun c hc => hsl.subset (hin c hc)) hc1'
    obtain ⟨K2, hK2⟩ : ∃ K, mapL (rowD Φ) k1 = K := ⟨_, rfl⟩
    rw [hK2] at hd
    obtain ⟨L1, hL1⟩ : ∃ L, k1.len = L := ⟨_, rfl⟩
    rw [hL1] at hd c3
    have HD := Lib.hid hd
    have HF := Lib.hid hK2
    have H := Lib.hid (And.intro h3 (And.intro h5 (And.intro hG hbw)))
    clear hd h3 h5 h7 hbw hG hA hA' hsl hE4 hK2 hsub1 hc1' hL1
    go_wp2_with (first
     | (go_at_call 147; refine (HD.out _).mono ?_; rintro e1 w1 ⟨a2, cap2, f2, rfl, hc2, hs2, hfr2, hb2⟩; have hstep := fun (ob : Obj) => copy_mid (w1 := w1) (ob := ob) H.out.2.2.1 hb2; have H2 := Lib.hid (And.intro hs2 (And.intro hfr2 (And.intro hb2 hc2))); clear hs2 hfr2 hb2 c0 c1 c2 c3; have HST := Lib.hid hstep; clear hstep)
     | (at_builtin; refine append_doc rfl (.tmp 15) (.tmp 19) 23 rfl Tryz.underlying23 HI.out.1 HI.out.2.1 HI.out.2.2.1 HI.out.2.2.2 rfl rfl (HST.out _).1 (d := w1.heap.size) (c := 1) rfl (cell_new w1 _ _ 0 _ rfl) (cell_new w1 _ _ 1 _ rfl) (cell_new w1 _ _ 2 _ rfl) (cell_new w1 _ _ 3 _ rfl) H2.out.2.2.2 (H2.out.1.below H2.out.2.1.lt ((Below.refl _ _).alloc (Nat.le_refl _) _)) (H2.out.2.1.below H2.out.2.1.lt ((Below.refl _ _).alloc (Nat.le_refl _) _)) (HST.out (.cells #[] 0)).2.1 (HST.out (.cells #[] 0)).2.2.1 (HST.out (.cells #[] 0)).2.2.2.1 (by rw [len_mapL]; have := H.out.2.1; omega) ?_; intro v' w2 fs' hG' hb' hg'))
    go_roundw
    case rel =>
     obtain ⟨h3, h5, hG, hbw⟩ := H.out
     have hch := copy_end H2.out.2.2.1 hb' hG.2.2.2
     refine ⟨j + 1, by omega, by go_num, ⟨p.app (.cons o1 n1 t1 k1 .nil), r1, fs', by rw [h3, F.app_assoc]; rfl, by rw [F.len_app, h5]; rfl, ?_, Below.trans hbw hch⟩⟩
     rw [mapL_app, show mapL (kidR Φ) (.cons o1 n1 t1 k1 .nil) = .cons o1 n1 t1 K2 .nil by rw [← HF.out]; rfl]
     exact hG'
    case measure => simp [intOf]; omega
theorem crS {g : Nat} {lb : Array Value} {Φ : F → F} (R : ListFn g lb Φ) (m : Nat) : ∀ f : F, f.deep ≤ m → CrS g lb Φ f := by
 induction m with
 | zero =>
   intro f hf w o n t k p r a cap fs he
   rw [he, F.deep_app] at hf; simp only [F.deep] at hf; omega
 | succ m ih =>
   intro f hf w o n t k p r a cap fs he hn hcnt hs hfs hc
   have hk : k.deep ≤ m := by rw [he, F.deep_app] at hf; simp only [F.deep] at hf; omega
   have hn' : niceD (o, n, t, k) = true := by
    rw [he, nice_app, Bool.and_eq_true] at hn
    exact (Bool.and_eq_true_iff.1 hn.2).1
   rw [he, F.cnt_app] at hcnt
   simp only [F.cnt] at hcnt
   exact cr_step R w o n t k (fun f hf => ih f (Nat.le_trans hf hk)) hn' (by omega) a cap fs hs hfs hc
theorem changeRows {g : Nat} {lb : Array Value} {Φ : F → F} (R : ListFn g lb Φ) (w : World) (o n : Int) (t : ByteArray) (k : F) (hn : niceD (o, n, t, k) = true) (hcnt : k.cnt ≤ 10000) (a : Option Addr) (cap : Nat) (fs : List Nat) (hs : SubAt w a k fs) (hfs : ∀ c ∈ fs, c < w.heap.size) (hc : k.len ≤ cap) :
  Calls Tryz.prog 106 #[.agg #[.int .i64 o, .int .i64 n, .string t, .slice a k.len cap], .func (.func g) #[] lb] w (NewD w (rowD Φ o n t k)) :=
 cr_step R w o n t k (fun f _ => crS R _ f (Nat.le_refl _)) hn hcnt a cap fs hs hfs hc
end Go.Proofs.YtjcaiecapapceaaGreat.Nf
namespace Go.Proofs.YtjcaiecapapceaaGreat.Nf
open Go.RowKit P1 Copy CatD
theorem cat_keep : ∀ f : F, nice f = true → f ≠ .nil → niceD (catAll f) = true ∧ (catAll f).2.2.2.cnt + 2 = f.cnt + f.len := by
 intro f
 induction f with
 | nil => intro _ h; exact absurd rfl h
 | cons o n t k r _ ih =>
   intro h _
   have hD : niceD (o, n, t, k) = true := by simp only [nice, Bool.and_eq_true] at h; exact Bool.and_eq_true_iff.2 h.1
   have hr : nice r = true := by simp only [nice, Bool.and_eq_true] at h; exact h.2
   by_cases he : r.len = 0
   ·have := F.len_eq_zero he
    subst this
    rw [show catAll (.cons o n t k .nil) = (o, n, t, k) from rfl]
    exact ⟨hD, by simp only [F.cnt, F.len]; omega⟩
   ·obtain ⟨h1, h2⟩ := ih hr (by intro e; rw [e] at he; exact he rfl)
    have e : catAll (.cons o n t k r) = (7, 0, ⟨#[]⟩, .cons o n t k (consD (catAll r) .nil)) := by show (if r.len = 0 then _ else _) = _; rw [if_neg he]
    rw [e]
    have hk : nice (.cons o n t k (consD (catAll r) .nil)) = true := by
     show (niceD (o, n, t, k) && (niceD (catAll r) && nice .nil)) = true
     rw [hD, h1]; rfl
    refine ⟨?_, ?_⟩
    ·show (nodeB 7 0 ⟨#[]⟩ 2 && nice (.cons o n t k (consD (catAll r) .nil))) = true
     rw [hk, Bool.and_true]; decide
    ·show 1 + k.cnt + (1 + (catAll r).2.2.2.cnt + 0) + 2 = 1 + k.cnt + r.cnt + (r.len + 1)
     omega
theorem ps_pos (g : F → F) {o n : Int} {t : ByteArray} {k : F} (h : niceD (o, n, t, k) = true) : psD g o n t k ≠ .nil := by
 intro e
 have h1 := pt_pos h
 have h2 : (psD g o n t k).len = (ptD o n t k).len := by rw [ps_parts, len_mapL]
 rw [e] at h2
 simp only [F.len] at h2
 omega
theorem ri_keep : ∀ f : F, nice f = true → nice (pr (fun f => f) f).1 = true ∧ nice (pr (fun f => f) f).2 = true ∧ (pr (fun f => f) f).1.cnt + (pr (fun f => f) f).1.len = f.cnt + f.len ∧ (pr (fun f => f) f).2.cnt = f.cnt := by
 intro f
 induction f with
 | nil => intro _; exact ⟨rfl, rfl, rfl, rfl⟩
 | cons o n t k r ihk ihr =>
   intro h
   have hD : niceD (o, n, t, k) = true := by simp only [nice, Bool.and_eq_true] at h; exact Bool.and_eq_true_iff.2 h.1
   have hr : nice r = true := by simp only [nice, Bool.and_eq_true] at h; exact h.2
   obtain ⟨a1, a2, a3, a4⟩ := ihk (nice_kids hD).2
   obtain ⟨b1, b2, b3, b4⟩ := ihr hr
   have hps : nice (psD (fun f => f) o n t k) = true ∧ (psD (fun f => f) o n t k).cnt + (psD (fun f => f) o n t k).len = k.cnt + 2 := by
    unfold psD
    split
    ·rename_i h7
     obtain ⟨x, y, hxy⟩ := kids_two hD h7
     have e2 : k.len = 2 := by rw [hxy]; rfl
     exact ⟨a1, by omega⟩
    ·refine ⟨?_, by simp only [F.cnt, F.len]; omega⟩
     have hl : (pr (fun f => f) k).2.len = k.len := by rw [pr_map, len_mapL]
     show (nodeB o n t (pr (fun f => f) k).2.len && nice (pr (fun f => f) k).2 && nice .nil) = true
     rw [hl, a2]
     have h1 : nodeB o n t k.len = true := by unfold niceD at hD; exact (Bool.and_eq_true_iff.1 hD).1
     rw [h1]; rfl
   obtain ⟨c1, c2⟩ := cat_keep _ hps.1 (ps_pos _ hD)
   rw [pr_cons]
   refine ⟨by rw [nice_app, hps.1, b1]; rfl, ?_, ?_, ?_⟩
   ·show (niceD (rowD (fun f => f) o n t k) && nice (pr (fun f => f) r).2) = true
    rw [b2, Bool.and_true]; exact c1
   ·show ((psD (fun f => f) o n t k).app (pr (fun f => f) r).1).cnt + ((psD (fun f => f) o n t k).app (pr (fun f => f) r).1).len = 1 + k.cnt + r.cnt + (r.len + 1)
    rw [F.cnt_app, F.len_app]; omega
   ·show 1 + (catAll (psD (fun f => f) o n t k)).2.2.2.cnt + (pr (fun f => f) r).2.cnt = 1 + k.cnt + r.cnt
    omega
theorem ri_parts {o n : Int} {t : ByteArray} {k : F} (h : niceD (o, n, t, k) = true) : nice (psD (fun f => f) o n t k) = true ∧ (psD (fun f => f) o n t k).cnt + (psD (fun f => f) o n t k).len = k.cnt + 2 := by
 obtain ⟨h1, _, h3, _⟩ := ri_keep (.cons o n t k .nil) (by rw [show nice (.cons o n t k .nil) = (niceD (o, n, t, k) && nice .nil) from rfl, h]; rfl)
 rw [pr_cons, show (pr (fun f => f) .nil).1 = .nil from rfl, F.app_nil] at h1 h3
 simp only [F.cnt, F.len] at h3
 exact ⟨h1, by omega⟩
end Go.Proofs.YtjcaiecapapceaaGreat.Nf

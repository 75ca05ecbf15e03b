import Derived.Test.YtafhefmjnjibdaaNfB
import Derived.Test.YtafhefmjnjibdaaNfA
import Derived.Test.YtafhefmjnjibdaaCpA
import Derived.Deep.AppendLies
import Derived.Deep.RegionLaw
/-
  What impl.partsOf comes to: the parts of a document's row, in a row of the call's own, their Kids where they were.
-/
set_option linter.unusedVariables false
set_option linter.unusedSimpArgs false
namespace Go.Proofs.Ytafhefmjnjibdaa.Nf
open Go.RowKit P1 Copy

/-- the cells of documents whose Kids lie in a world; gs: the blocks of those -/
def Sh (w : World) : F → List Value → List Nat → Prop
  | .nil, xs, gs => xs = [] ∧ gs = []
  | .cons o n t k r, xs, gs => ∃ (a : Option Addr) (cap : Nat) (f1 f2 : List Nat) (ys : List Value), xs = .int .i64 o :: .int .i64 n :: .string t :: .slice a k.len cap :: ys ∧ k.len ≤ cap ∧ SubAt w a k f1 ∧ Sh w r ys f2 ∧ gs = f1 ++ f2
theorem Sh.len {w : World} : ∀ {f : F} {xs : List Value} {gs : List Nat}, Sh w f xs gs → xs.length = f.len * 4 := by
  intro f
  induction f with
  | nil => rintro xs gs ⟨rfl, rfl⟩; rfl
  | cons o n t k r _ ih => rintro xs gs ⟨a, cap, f1, f2, ys, rfl, _, _, h, rfl⟩; simp only [List.length_cons, ih h, F.len]; omega
theorem Sh.one {w : World} : ∀ {f : F} {xs : List Value} {gs : List Nat}, Sh w f xs gs → ∀ u ∈ xs, u.oneCell' = true := by
  intro f
  induction f with
  | nil => rintro xs gs ⟨rfl, rfl⟩ u hu; cases hu
  | cons o n t k r _ ih =>
    rintro xs gs ⟨a, cap, f1, f2, ys, rfl, _, _, h, rfl⟩ u hu
    simp only [List.mem_cons] at hu
    rcases hu with rfl | rfl | rfl | rfl | hu
    · rfl
    · rfl
    · rfl
    · rfl
    · exact ih h u hu
theorem Sh.app {w : World} {g : F} {ys : List Value} {hs : List Nat} (k : Sh w g ys hs) : ∀ {f : F} {xs : List Value} {gs : List Nat}, Sh w f xs gs → Sh w (f.app g) (xs ++ ys) (gs ++ hs) := by
  intro f
  induction f with
  | nil => rintro xs gs ⟨rfl, rfl⟩; exact k
  | cons o n t kk r _ ih =>
    rintro xs gs ⟨a, cap, f1, f2, zs, rfl, h1, h2, h3, rfl⟩
    exact ⟨a, cap, f1, f2 ++ hs, zs ++ ys, by simp, h1, h2, ih h3, by simp⟩

/-- the parts in a row of the call's own -/
def PtAt (w0 : World) (lo : Nat) (v : Value) (f : F) (gs : List Nat) (w : World) : Prop := ∃ xs, w.ownsRow lo 25 4 v f.len xs ∧ Sh w0 f xs gs
theorem PtAt.later {w0 : World} {lo : Nat} {v : Value} {f : F} {gs : List Nat} {w w' : World} (h : PtAt w0 lo v f gs w) (e : Ext w w') : PtAt w0 lo v f gs w' := by
  obtain ⟨xs, h1, h2⟩ := h
  have hg : w.grownBy w' none := ⟨e.os, e.tape, e.output, e.size, fun i hi _ => e.block i hi⟩
  exact ⟨xs, h1.kept hg (by cases hv : v.ownBlock <;> simp), h2⟩
theorem PtAt.mono {w0 : World} {lo lo' : Nat} {v : Value} {f : F} {gs : List Nat} {w : World} (h : PtAt w0 lo v f gs w) (e : lo' ≤ lo) : PtAt w0 lo' v f gs w := by
  obtain ⟨xs, ⟨h1, h2⟩, h3⟩ := h
  refine ⟨xs, ⟨h1, ?_⟩, h3⟩
  rcases h2 with h2 | ⟨g, cap, cur, hv, hb, hr⟩
  · exact .inl h2
  · exact .inr ⟨g, cap, cur, hv, Nat.le_trans e hb, hr⟩
theorem PtAt.form {w0 : World} {lo : Nat} {v : Value} {f : F} {gs : List Nat} {w : World} (h : PtAt w0 lo v f gs w) (hn : 0 < f.len) : ∃ g cap, v = .slice (some ⟨g, 0, none⟩) f.len cap ∧ lo ≤ g ∧ g < w.heap.size := by
  obtain ⟨xs, h1, _⟩ := h
  exact h1.form hn

/-- what partsOf answers -/
def PtOut (w0 w : World) (f : F) (fs : List Nat) (e : Ending) (w' : World) : Prop := ∃ (g cap : Nat) (gs : List Nat), e = .returned (.slice (some ⟨g, 0, none⟩) f.len cap) ∧ w.heap.size ≤ g ∧ g < w'.heap.size ∧ PtAt w0 w.heap.size (.slice (some ⟨g, 0, none⟩) f.len cap) f gs w' ∧ gs.Sublist fs ∧ Below w.heap.size w w'

def PaS (f : F) : Prop := ∀ (w0 w : World) (o n : Int) (t : ByteArray) (k : F) (p r : F) (a : Option Addr) (cap : Nat) (fs : List Nat), f = p.app (.cons o n t k r) → nice f = true → f.cnt ≤ 10000 → Ext w0 w → SubAt w0 a k fs → (∀ c ∈ fs, c < w0.heap.size) → k.len ≤ cap →
  Calls Try.prog 134 #[.agg #[.int .i64 o, .int .i64 n, .string t, .slice a k.len cap]] w (PtOut w0 w (ptD o n t k) fs)

set_option maxRecDepth 100000 in
set_option maxHeartbeats 1600000 in
theorem parts_one (w0 w : World) (o n : Int) (t : ByteArray) (k : F) (h7 : o ≠ 7) (a : Option Addr) (cap : Nat) (fs : List Nat) (hs : SubAt w0 a k fs) (hc : k.len ≤ cap) :
    Calls Try.prog 134 #[.agg #[.int .i64 o, .int .i64 n, .string t, .slice a k.len cap]] w (PtOut w0 w (.cons o n t k .nil) fs) := by
  obtain ⟨L, hL⟩ : ∃ L, k.len = L := ⟨_, rfl⟩
  have HS := Lib.hid (And.intro hs (And.intro hc hL))
  rw [hL]
  have q7 : (o != 7) = true := by simpa using h7
  clear hs hc hL h7
  go_enter Try.func134, Try.ntmps134
  go_wp2_with fail
  go_ret
  obtain ⟨hs, hc, hL⟩ := HS.out
  have e : (w.alloc (.cells #[.int .i64 o, .int .i64 n, .string t, .slice a L cap] 25)).heap.size = w.heap.size + 1 := by simp
  have hrow := World.ownsRow_lit (base := w.heap.size) (e := 25) (size := 4) (w.alloc (.cells #[.int .i64 o, .int .i64 n, .string t, .slice a L cap] 25)) #[.int .i64 o, .int .i64 n, .string t, .slice a L cap] 1 (by simp) (by simp [maxLen]) rfl
  rw [e] at hrow
  exact ⟨w.heap.size + 1, 1, fs, rfl, by omega, by simp, ⟨_, hrow, a, cap, fs, [], [], by rw [hL], hc, hs, ⟨rfl, rfl⟩, by simp⟩, List.Sublist.refl _, ((Ext.refl w).alloc _).alloc _⟩

/-- the law of an append of parts, as a step of a region that draws -/
theorem step_parts {P : Program} {w0 w : World} {ops : Array Oper} {op : Oper} {ac : Act} {K : Act → World → Prop} {Q : Exit → Act → World → Prop} {E : Prop} (hgd : op.guard = none) (s x : Operand) (t : TypeId)
    (ho : op.op = .call { callee := .builtin .append, args := #[s, x], argTypes := #[t, t] }) {i : TypeInfo} {z : Value} (ht : P.underlying t = some (.slice 25)) (hi : P.info? 25 = some i) (hz : i.zero = some z) (h4 : i.size = 4) (h56 : i.bytes = 56) (hzs : z.cells.size = 4)
    {lo m g cap g2 cap2 : Nat} {f f2 : F} {gs hs : List Nat} (hsv : ac.eval s = .slice (some ⟨g, 0, none⟩) f.len cap) (hxv : ac.eval x = .slice (some ⟨g2, 0, none⟩) f2.len cap2)
    (A : PtAt w0 lo (.slice (some ⟨g, 0, none⟩) f.len cap) f gs w) (B : PtAt w0 m (.slice (some ⟨g2, 0, none⟩) f2.len cap2) f2 hs w) (hn : 0 < f2.len) (hl : f.len + f2.len ≤ 100000) (hlo : lo ≤ w.heap.size) (hg : lo ≤ g)
    (h : ∀ g' cap' w', PtAt w0 lo (.slice (some ⟨g', 0, none⟩) (f.app f2).len cap') (f.app f2) (gs ++ hs) w' → Below lo w w' → lo ≤ g' → g' < w'.heap.size → K (ac.put op.dst (.slice (some ⟨g', 0, none⟩) (f.app f2).len cap')) w') :
    if Region.wanted op (yielded ops ac.tmps) = true then Oper.wp P op ac w K Q else E := by
  obtain ⟨xs, hown, hsh⟩ := A
  obtain ⟨ys, hown2, hsh2⟩ := B
  have hnews : ∀ j u, ys[j]? = some u → w.cell? ((⟨g2, 0, none⟩ : Addr).add j) = some u := fun j u hu => by
    have hj : j < f2.len * 4 := by have := (List.getElem?_eq_some_iff.1 hu).1; rw [hsh2.len] at this; exact this
    rw [add_at, Nat.zero_add, hown2.cellAt j hj]
    exact hu
  refine step_append_lies w hgd s x t ho lo 25 i z 4 56 ht hi hz h4 h56 hzs (by omega) _ f.len xs hsv hown ⟨g2, 0, none⟩ f2.len cap2 ys hxv hsh2.len hnews hsh2.one hn (by unfold maxLen; omega) (by omega) hlo w.heap.size rfl ?_
  intro g' cap' w' h1 h2 h3 h4'
  have hbel : Below lo w w' := ⟨h2.os, h2.tape, h2.output, h2.size, fun q hq => h2.block q (by omega) (fun e => by simp only [Value.ownBlock, Option.some.injEq] at e; omega)⟩
  have hle : (f.app f2).len = f.len + f2.len := F.len_app f f2
  rw [← hle] at h1 ⊢
  refine h g' cap' w' ⟨_, h1, hsh2.app hsh⟩ hbel ?_ h4'
  rcases h3 with h3 | h3
  · simp only [Value.ownBlock, Option.some.injEq] at h3; omega
  · omega

/-- the cells that a pair's region reads -/
theorem pair_at {w : World} {b off : Nat} {o1 n1 : Int} {t1 : ByteArray} {k1 : F} {o2 n2 : Int} {t2 : ByteArray} {k2 : F} {fs : List Nat} (h : RowAt w (.cons o1 n1 t1 k1 (.cons o2 n2 t2 k2 .nil)) b off fs) :
    ∃ (a1 : Option Addr) (c1 : Nat) (f1 : List Nat) (a2 : Option Addr) (c2 : Nat) (f2 : List Nat), w.cell? ⟨b, off, none⟩ = some (.int .i64 o1) ∧ w.cell? ⟨b, off + 1, none⟩ = some (.int .i64 n1) ∧ w.cell? ⟨b, off + 2, none⟩ = some (.string t1) ∧ w.cell? ⟨b, off + 3, none⟩ = some (.slice a1 k1.len c1) ∧
      w.cell? ⟨b, off + 4, none⟩ = some (.int .i64 o2) ∧ w.cell? ⟨b, off + 4 + 1, none⟩ = some (.int .i64 n2) ∧ w.cell? ⟨b, off + 4 + 2, none⟩ = some (.string t2) ∧ w.cell? ⟨b, off + 4 + 3, none⟩ = some (.slice a2 k2.len c2) ∧
      k1.len ≤ c1 ∧ k2.len ≤ c2 ∧ SubAt w a1 k1 f1 ∧ SubAt w a2 k2 f2 ∧ fs = f1 ++ f2 := by
  obtain ⟨a1, c1, f1, f3, h0, h1, h2, h3, h4, h5, h6, rfl⟩ := RowAt.cons_iff.1 h
  obtain ⟨a2, c2, f2, f4, g0, g1, g2, g3, g4, g5, g6, rfl⟩ := RowAt.cons_iff.1 h6
  have h7 : f4 = [] := g6
  subst h7
  exact ⟨a1, c1, f1, a2, c2, f2, h0, h1, h2, h3, g0, g1, g2, g3, h4, g4, h5, g5, by simp⟩

/-- eight cells that stay -/
abbrev Eight8 (b off : Nat) (u0 u1 u2 u3 v0 v1 v2 v3 : Value) (w' : World) : Prop := w'.cell? ⟨b, off, none⟩ = some u0 ∧ w'.cell? ⟨b, off + 1, none⟩ = some u1 ∧ w'.cell? ⟨b, off + 2, none⟩ = some u2 ∧ w'.cell? ⟨b, off + 3, none⟩ = some u3 ∧ w'.cell? ⟨b, off + 4, none⟩ = some v0 ∧ w'.cell? ⟨b, off + 4 + 1, none⟩ = some v1 ∧ w'.cell? ⟨b, off + 4 + 2, none⟩ = some v2 ∧ w'.cell? ⟨b, off + 4 + 3, none⟩ = some v3
theorem Eight8.ext {b off : Nat} {u0 u1 u2 u3 v0 v1 v2 v3 : Value} {w w' : World} (h : Eight8 b off u0 u1 u2 u3 v0 v1 v2 v3 w) (hb : b < w.heap.size) (e : Ext w w') : Eight8 b off u0 u1 u2 u3 v0 v1 v2 v3 w' := by
  obtain ⟨h0, h1, h2, h3, h4, h5, h6, h7⟩ := h
  exact ⟨(e.cell hb).trans h0, (e.cell hb).trans h1, (e.cell hb).trans h2, (e.cell hb).trans h3, (e.cell hb).trans h4, (e.cell hb).trans h5, (e.cell hb).trans h6, (e.cell hb).trans h7⟩

set_option maxRecDepth 100000 in
set_option maxHeartbeats 3200000 in
theorem parts_two (w0 w : World) (n : Int) (t : ByteArray) (o1 n1 : Int) (t1 : ByteArray) (k1 : F) (o2 n2 : Int) (t2 : ByteArray) (k2 : F) (P1 P2 : F) (hP1 : 0 < P1.len) (hP2 : 0 < P2.len) (hPl : P1.len + P2.len ≤ 100000) (hw : Ext w0 w)
    (ih1 : ∀ (W : World) (a : Option Addr) (cap : Nat) (fs : List Nat), Ext w0 W → SubAt w0 a k1 fs → (∀ c ∈ fs, c < w0.heap.size) → k1.len ≤ cap → Calls Try.prog 134 #[.agg #[.int .i64 o1, .int .i64 n1, .string t1, .slice a k1.len cap]] W (PtOut w0 W P1 fs))
    (ih2 : ∀ (W : World) (a : Option Addr) (cap : Nat) (fs : List Nat), Ext w0 W → SubAt w0 a k2 fs → (∀ c ∈ fs, c < w0.heap.size) → k2.len ≤ cap → Calls Try.prog 134 #[.agg #[.int .i64 o2, .int .i64 n2, .string t2, .slice a k2.len cap]] W (PtOut w0 W P2 fs))
    (a : Option Addr) (cap : Nat) (fs : List Nat) (hs : SubAt w0 a (.cons o1 n1 t1 k1 (.cons o2 n2 t2 k2 .nil)) fs) (hfs : ∀ c ∈ fs, c < w0.heap.size) (hc : 2 ≤ cap) :
    Calls Try.prog 134 #[.agg #[.int .i64 7, .int .i64 n, .string t, .slice a 2 cap]] w (PtOut w0 w (P1.app P2) fs) := by
  obtain ⟨i0, hi, hz0, hz1, hz2⟩ := info_parts To.info
  have HI := Lib.hid (And.intro hi (And.intro hz0 (And.intro hz1 hz2)))
  rcases hs with ⟨h, _⟩ | ⟨b, off, f', rfl, _, rfl, hrow⟩
  · cases h
  have hb0 : b < w0.heap.size := hfs b (by simp)
  have hb : b < w.heap.size := Nat.lt_of_lt_of_le hb0 hw.size
  obtain ⟨a1, c1, f1, a2, c2, f2, x0, x1, x2, x3, y0, y1, y2, y3, hc1, hc2, hs1, hs2, rfl⟩ := pair_at hrow
  have H1 := Lib.hid (fun (W : World) (e : Ext w0 W) => ih1 W a1 c1 f1 e hs1 (fun c hc => hfs c (by simp [hc])) hc1)
  have H2 := Lib.hid (fun (W : World) (e : Ext w0 W) => ih2 W a2 c2 f2 e hs2 (fun c hc => hfs c (by simp [hc])) hc2)
  obtain ⟨L1, hL1⟩ : ∃ L, k1.len = L := ⟨_, rfl⟩
  obtain ⟨L2, hL2⟩ : ∃ L, k2.len = L := ⟨_, rfl⟩
  rw [hL1] at x3 H1
  rw [hL2] at y3 H2
  have h8 : Eight8 b off (.int .i64 o1) (.int .i64 n1) (.string t1) (.slice a1 L1 c1) (.int .i64 o2) (.int .i64 n2) (.string t2) (.slice a2 L2 c2) w0 := ⟨x0, x1, x2, x3, y0, y1, y2, y3⟩
  have H8 := Lib.hid (fun (W : World) (e : Ext w0 W) => h8.ext hb0 e)
  have HW := Lib.hid (show ∀ x, Ext w0 (w.alloc x) from fun x => hw.alloc x)
  have HB0 := Lib.hid (And.intro hb0 (And.intro hw (And.intro hP1 (And.intro hP2 hPl))))
  clear hfs hrow hs1 hs2 hc1 hc2 ih1 ih2 x0 x1 x2 x3 y0 y1 y2 y3 h8 hL1 hL2 hi hz0 hz1 hz2 hP1 hP2 hPl
  obtain ⟨x0, x1, x2, x3, y0, y1, y2, y3⟩ := H8.out w hw
  clear hw
  go_enter Try.func134, Try.ntmps134
  go_wp2_with fail
  go_region_law (first
    | (refine step_parts (w0 := w0) rfl (.tmp 12) (.tmp 17) 23 rfl Try.underlying23 HI.out.1 HI.out.2.1 HI.out.2.2.1 HI.out.2.2.2 rfl (f := P1) (f2 := P2) rfl rfl (PtAt.later HQ1.out.1 q12) HQ2.out.1 HB0.out.2.2.2.1 HB0.out.2.2.2.2 (by have h1 := HQ1.out.2.1; have h2 := (show Ext w1 w2 from q12).size; omega) HQ1.out.2.1.1 ?_; intro g' cap' w3 hA hb3 hg1 hg2; have HQ3 := Lib.hid (And.intro hA (And.intro hb3 (And.intro hg1 hg2))); clear hA hb3 hg1 hg2)
    | (go_simp; go_at_call_of 134 (Value.agg #[.int .i64 o1, .int .i64 n1, .string t1, .slice a1 L1 c1]); refine (H1.out _ (by first | exact (HW.out _).drew | exact HW.out _)).mono ?_; rintro e1 w1 ⟨g1, p1, gs1, rfl, hg1, hg2, hA1, hsl1, hb1⟩; have q01 : Below (w.heap.size + 1) (w.alloc (.cells #[.int .i64 7, .int .i64 n, .string t, .slice (some ⟨b, off, none⟩) 2 cap] 25)) w1 := (by first | exact (Below.refl _ _).drew.trans (hb1.mono (by simp)) | exact hb1.mono (by simp)); have HQ1 := Lib.hid (And.intro hA1 (And.intro (And.intro hg1 hg2) hsl1)); have HQ01 := Lib.hid q01; obtain ⟨x0, x1, x2, x3, y0, y1, y2, y3⟩ := H8.out w1 ((HW.out _).trans (q01.mono (by simp))); have hb' := Nat.lt_of_lt_of_le HB0.out.1 (Ext.size ((HW.out _).trans (q01.mono (by simp)))); have z3 := (q01.cell (p := ⟨w.heap.size, 3, none⟩) (by simp)).trans (World.cell?_alloc_new _ _ _ _); have hl1 : w.heap.size < w1.heap.size := (by have := q01.size; simp at this; omega); simp at z3; clear hA1 hsl1 hb1 hg1 hg2)
    | (go_simp; go_at_call_of 134 (Value.agg #[.int .i64 o2, .int .i64 n2, .string t2, .slice a2 L2 c2]); refine (H2.out _ (by first | exact ((HW.out _).trans (HQ01.out.mono (by simp))).drew | exact (HW.out _).trans (HQ01.out.mono (by simp)))).mono ?_; rintro e2 w2 ⟨g2, p2, gs2, rfl, hh1, hh2, hA2, hsl2, hb2⟩; have q12 : Ext w1 w2 := (by first | exact hb2 | exact (Ext.refl w1).drew.trans hb2); have HQ2 := Lib.hid (And.intro hA2 hsl2); clear hA2 hsl2 hb2 hh1 hh2))
  all_goals
    go_wp2_with fail
    go_ret
    have k3 := HQ3.out
    have k01 := HQ01.out
    have ks : w.heap.size + 1 ≤ w1.heap.size := by have := k01.size; simp at this; omega
    have ks2 : w1.heap.size ≤ w2.heap.size := (show Ext w1 w2 from q12).size
    have kk : Below w.heap.size w w1 := ((Ext.refl w).alloc _).trans (k01.mono (by simp))
    have kk2 : Below w.heap.size w w2 := kk.trans ((show Ext w1 w2 from q12).mono (by omega))
    exact ⟨_, _, _, rfl, by have h1 := k3.2.2.1; simp at h1; omega, k3.2.2.2, k3.1.mono (by simp), List.Sublist.cons _ (HQ1.out.2.2.append HQ2.out.2), kk2.trans (k3.2.1.mono (by simp))⟩

theorem pt_pos {o n : Int} {t : ByteArray} {k : F} (h : niceD (o, n, t, k) = true) : 0 < (ptD o n t k).len := by
  have hn : nice (.cons o n t k .nil) = true := by rw [show nice (.cons o n t k .nil) = (niceD (o, n, t, k) && nice .nil) from rfl, h]; rfl
  have h1 := parts_len _ hn
  rw [parts0_cons, show parts0 .nil = .nil from rfl, F.app_nil] at h1
  simp only [F.len] at h1
  omega

theorem parts_step (w0 w : World) (o n : Int) (t : ByteArray) (k : F) (ih : PaS k) (hn : niceD (o, n, t, k) = true) (hcnt : k.cnt ≤ 10000) (hw : Ext w0 w) (a : Option Addr) (cap : Nat) (fs : List Nat) (hs : SubAt w0 a k fs) (hfs : ∀ c ∈ fs, c < w0.heap.size) (hc : k.len ≤ cap) :
    Calls Try.prog 134 #[.agg #[.int .i64 o, .int .i64 n, .string t, .slice a k.len cap]] w (PtOut w0 w (ptD o n t k) fs) := by
  by_cases h7 : o = 7
  · subst h7
    have hnk := (nice_kids hn).2
    obtain ⟨⟨o1, n1, t1, k1⟩, ⟨o2, n2, t2, k2⟩, rfl⟩ := kids_two hn rfl
    have hk1 : niceD (o1, n1, t1, k1) = true := by simp only [consD, nice, Bool.and_eq_true] at hnk; exact Bool.and_eq_true_iff.2 hnk.1
    have hk2 : niceD (o2, n2, t2, k2) = true := by simp only [consD, nice, Bool.and_eq_true] at hnk; exact Bool.and_eq_true_iff.2 hnk.2.1
    have e : ptD 7 n t (consD (o1, n1, t1, k1) (consD (o2, n2, t2, k2) .nil)) = (ptD o1 n1 t1 k1).app (ptD o2 n2 t2 k2) := by
      show (ptD o1 n1 t1 k1).app ((ptD o2 n2 t2 k2).app .nil) = _
      rw [F.app_nil]
    have hlen : (ptD o1 n1 t1 k1).len + (ptD o2 n2 t2 k2).len ≤ 100000 := by
      have h := parts_cnt _ hnk
      rw [← F.len_app, ← e]
      show (parts0 (consD (o1, n1, t1, k1) (consD (o2, n2, t2, k2) .nil))).len ≤ _
      have h2 : (consD (o1, n1, t1, k1) (consD (o2, n2, t2, k2) F.nil)).len = 2 := rfl
      omega
    rw [e]
    exact parts_two w0 w n t o1 n1 t1 k1 o2 n2 t2 k2 _ _ (pt_pos hk1) (pt_pos hk2) hlen hw
      (fun W a cap fs hW hs hfs hc => ih w0 W o1 n1 t1 k1 .nil (consD (o2, n2, t2, k2) .nil) a cap fs rfl hnk hcnt hW hs hfs hc)
      (fun W a cap fs hW hs hfs hc => ih w0 W o2 n2 t2 k2 (consD (o1, n1, t1, k1) .nil) .nil a cap fs rfl hnk hcnt hW hs hfs hc) a cap fs hs hfs hc
  · rw [show ptD o n t k = .cons o n t k .nil by unfold ptD; rw [if_neg h7]]
    exact parts_one w0 w o n t k h7 a cap fs hs hc

/-- The contract of partsOf, at the documents of every list. -/
theorem paS (m : Nat) : ∀ f : F, f.deep ≤ m → PaS f := by
  induction m with
  | zero =>
    intro f hf w0 w o n t k p r a cap fs he
    rw [he, F.deep_app] at hf; simp only [F.deep] at hf; omega
  | succ m ih =>
    intro f hf w0 w o n t k p r a cap fs he hn hcnt hw hs hfs hc
    have hk : k.deep ≤ m := by rw [he, F.deep_app] at hf; simp only [F.deep] at hf; omega
    have hn' : niceD (o, n, t, k) = true := by
      rw [he, nice_app, Bool.and_eq_true] at hn
      exact (Bool.and_eq_true_iff.1 hn.2).1
    rw [he, F.cnt_app] at hcnt
    simp only [F.cnt] at hcnt
    exact parts_step w0 w o n t k (ih k hk) hn' (by omega) hw a cap fs hs hfs hc

theorem partsOf (w0 w : World) (o n : Int) (t : ByteArray) (k : F) (hn : niceD (o, n, t, k) = true) (hcnt : k.cnt ≤ 10000) (hw : Ext w0 w) (a : Option Addr) (cap : Nat) (fs : List Nat) (hs : SubAt w0 a k fs) (hfs : ∀ c ∈ fs, c < w0.heap.size) (hc : k.len ≤ cap) :
    Calls Try.prog 134 #[.agg #[.int .i64 o, .int .i64 n, .string t, .slice a k.len cap]] w (PtOut w0 w (ptD o n t k) fs) :=
  parts_step w0 w o n t k (paS _ k (Nat.le_refl _)) hn hcnt hw a cap fs hs hfs hc

end Go.Proofs.Ytafhefmjnjibdaa.Nf


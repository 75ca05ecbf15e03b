import Derived.Test.YtmkibpimjaofgaaIn
import Derived.Test.YtmkibpimjaofgaaLdX
import Derived.Test.YtmkibpimjaofgaaLyA
/-
  The first layout of a list that another list has not; OnlyLayout and SameLayouts of the program.
-/
set_option linter.unusedVariables false
set_option linter.unusedSimpArgs false
namespace Go.Proofs.Ytmkibpimjaofgaa.Eqd
open Go.RowKit P1 LayL LayV LayM LayN It
open Ls hiding Lay


/-- the first layout of a list that is none of another -/
def onlyR : List Ls.Lay → List Ls.Lay → Ls.Lay × Bool
  | [], _ => ([], false)
  | x :: xs, ys => if inL ys x then onlyR xs ys else (x, true)
theorem only_yes : ∀ {xs ys : List Ls.Lay} {k : Nat} (hk : k < xs.length), (∀ j, (hj : j < xs.length) → j < k → inL ys xs[j] = true) → inL ys xs[k] = false → onlyR xs ys = (xs[k], true) := by
  intro xs
  induction xs with
  | nil => intro ys k hk; simp at hk
  | cons x xs ih =>
    intro ys k hk h1 h2
    cases k with
    | zero => show (if inL ys x then _ else _) = _; rw [if_neg (by simpa using h2)]; rfl
    | succ k =>
      have h0 := h1 0 (by simp) (by omega)
      show (if inL ys x then _ else _) = _
      rw [if_pos (by simpa using h0)]
      exact ih (by simpa using hk) (fun j hj hjk => h1 (j + 1) (by simp; omega) (by omega)) (by simpa using h2)
theorem only_no : ∀ {xs ys : List Ls.Lay}, (∀ j, (hj : j < xs.length) → inL ys xs[j] = true) → onlyR xs ys = ([], false) := by
  intro xs
  induction xs with
  | nil => intro ys _; rfl
  | cons x xs ih =>
    intro ys h
    have h0 := h 0 (by simp)
    show (if inL ys x then _ else _) = _
    rw [if_pos (by simpa using h0)]
    exact ih (fun j hj => h (j + 1) (by simp; omega))
theorem only_len {xs ys : List Ls.Lay} {B : Nat} (h : ∀ x ∈ xs, x.length ≤ B) : (onlyR xs ys).1.length ≤ B := by
  induction xs with
  | nil => exact Nat.zero_le _
  | cons x xs ih =>
    show (if inL ys x then onlyR xs ys else (x, true)).1.length ≤ B
    split
    · exact ih (fun y hy => h y (by simp [hy]))
    · exact h x (by simp)
def onlyLay (o n : Int) (t : ByteArray) (k : F) (o' n' : Int) (t' : ByteArray) (k' : F) : Ls.Lay × Bool := if (toldD o n t k && toldD o' n' t' k') = true then onlyR (laysD o n t k) (laysD o' n' t' k') else ([], false)
def sameLay (o n : Int) (t : ByteArray) (k : F) (o' n' : Int) (t' : ByteArray) (k' : F) : Bool := (toldD o n t k && toldD o' n' t' k') && (!(onlyR (laysD o n t k) (laysD o' n' t' k')).2 && !(onlyR (laysD o' n' t' k') (laysD o n t k)).2)
theorem only_small (o n : Int) (t : ByteArray) (k : F) (o' n' : Int) (t' : ByteArray) (k' : F) : (onlyLay o n t k o' n' t' k').1.length ≤ 200 := by
  unfold onlyLay
  split
  · exact only_len (fun x hx => (lv_len (lays_good x hx)).2)
  · exact Nat.zero_le _

/-- a document in memory that may be written, of a bounded size -/
structure DocIn (w : World) (t : ByteArray) (k : F) (a : Option Addr) (cap : Nat) (fs : List Nat) : Prop where
  sub : SubAt w a k fs
  ok : ∀ c ∈ fs, c < w.heap.size ∧ ∀ o, w.frozen? ⟨c, o, none⟩ = false
  cap_le : k.len ≤ cap
  size : t.size + k.size ≤ 2000000
  fits : k.Fits
  tfit : t.size ≤ maxLen
theorem DocIn.ext {w w' : World} {t : ByteArray} {k : F} {a : Option Addr} {cap : Nat} {fs : List Nat} (h : DocIn w t k a cap fs) (e : Ext w w') : DocIn w' t k a cap fs :=
  ⟨e.sub h.sub (fun c hc => (h.ok c hc).1), fun c hc => ⟨Nat.lt_of_lt_of_le (h.ok c hc).1 e.size, fun o => (e.frozen (h.ok c hc).1).trans ((h.ok c hc).2 o)⟩, h.cap_le, h.size, h.fits, h.tfit⟩
theorem DocIn.lt {w : World} {t : ByteArray} {k : F} {a : Option Addr} {cap : Nat} {fs : List Nat} (h : DocIn w t k a cap fs) : ∀ c ∈ fs, c < w.heap.size := fun c hc => (h.ok c hc).1

/-- the four cells of a variable -/
abbrev Fr (b : Nat) (u0 u1 u2 u3 : Value) (w : World) : Prop := w.cell? ⟨b, 0, none⟩ = some u0 ∧ w.cell? ⟨b, 1, none⟩ = some u1 ∧ w.cell? ⟨b, 2, none⟩ = some u2 ∧ w.cell? ⟨b, 3, none⟩ = some u3
theorem Fr.below {b B : Nat} {u0 u1 u2 u3 : Value} {W w' : World} (h : Fr b u0 u1 u2 u3 W) (k : Below B W w') (hb : b < B) : Fr b u0 u1 u2 u3 w' :=
  ⟨(k.cell (p := ⟨_, _, _⟩) hb).trans h.1, (k.cell (p := ⟨_, _, _⟩) hb).trans h.2.1, (k.cell (p := ⟨_, _, _⟩) hb).trans h.2.2.1, (k.cell (p := ⟨_, _, _⟩) hb).trans h.2.2.2⟩
theorem Fr.new (w : World) (u0 u1 u2 u3 : Value) (T : TypeId) : Fr w.heap.size u0 u1 u2 u3 (w.alloc (.cells #[u0, u1, u2, u3] T)) := by
  refine ⟨?_, ?_, ?_, ?_⟩ <;> (rw [World.cell?_alloc_new]; rfl)
theorem two_new (w : World) (u0 u1 u2 u3 v0 v1 v2 v3 : Value) (T : TypeId) {w' : World} (k : Ext ((w.alloc (.cells #[u0, u1, u2, u3] T)).alloc (.cells #[v0, v1, v2, v3] T)) w') : Fr w.heap.size u0 u1 u2 u3 w' ∧ Fr (w.heap.size + 1) v0 v1 v2 v3 w' ∧ Ext w w' := by
  have e : (w.alloc (.cells #[u0, u1, u2, u3] T)).heap.size = w.heap.size + 1 := by simp
  have h1 := Fr.new w u0 u1 u2 u3 T
  have h2 := Fr.new (w.alloc (.cells #[u0, u1, u2, u3] T)) v0 v1 v2 v3 T
  rw [e] at h2
  exact ⟨(h1.below ((Below.refl _ _).alloc (Nat.le_refl _) _) (by simp)).below k (by simp; omega), h2.below k (by simp), Ext.trans (((Ext.refl w).alloc _).alloc _) k⟩

/-- a layout of a list of layouts lies among the list's blocks -/
theorem lay_fresh {w : World} {a : Option Addr} {l : Ls.Lay} {f fs : List Nat} {lo : Nat} (h : LaySub w a l f) (hm : ∀ c ∈ f, c ∈ fs) (hF : Fresh lo w fs) : Fresh lo w f := by
  refine ⟨?_, fun c hc => hF.2 c (hm c hc)⟩
  rcases h with ⟨_, rfl⟩ | ⟨b, off, ha, hn, rfl, hr⟩
  · exact List.nodup_nil
  · simp


set_option maxRecDepth 100000 in
set_option maxHeartbeats 1600000 in
theorem notIn (ys : List Ls.Lay) (l : Ls.Lay) (hg : ∀ x ∈ ys, x.length ≤ maxLen) (w : World) (a : Option Addr) (cap : Nat) (fs : List Nat) (hs : LLSub w a ys fs) (hc : ys.length ≤ cap) (hn : ys.length ≤ 1000000) (b : Nat) (a' : Option Addr) (cap' : Nat) (fs' : List Nat) (hs' : LaySub w a' l fs') (hc' : l.length ≤ cap') (hl : l.length ≤ maxLen) (hb : w.cell? ⟨b, 0, none⟩ = some (.slice a ys.length cap)) :
    Calls Try.prog 122 #[.slice a' l.length cap', .pointer (some ⟨b, 0, none⟩)] w fun e w' => e = .returned (.bool (!inL ys l)) ∧ Below w.heap.size w w' := by
  have H := Lib.hid (containsLayout ys l hg w a cap fs hs hc hn a' cap' fs' hs' hc' hl)
  clear hs hs'
  go_enter Try.func122, Try.ntmps122
  go_wp2_with fail
  refine H.out.mono ?_
  rintro e1 w1 ⟨rfl, hb1⟩
  have H1 := Lib.hid hb1
  clear hb1 hb
  go_wp2_with fail
  go_ret
  exact ⟨rfl, H1.out⟩

/-- where the first layout of xs lies that ys has not -/
def IdxOut (w : World) (xs ys : List Ls.Lay) (e : Ending) (w' : World) : Prop := ∃ r : Int, e = .returned (.int .i64 r) ∧ ((r = -1 ∧ onlyR xs ys = ([], false)) ∨ ∃ (k : Nat) (hk : k < xs.length), r = (k : Int) ∧ onlyR xs ys = (xs[k], true)) ∧ Below w.heap.size w w'
set_option maxRecDepth 100000 in
set_option maxHeartbeats 3200000 in
theorem indexOnly (xs ys : List Ls.Lay) (hgx : ∀ x ∈ xs, x.length ≤ maxLen) (hgy : ∀ x ∈ ys, x.length ≤ maxLen) (w : World) (a : Option Addr) (cap : Nat) (fs : List Nat) (hs : LLSub w a xs fs) (hc : xs.length ≤ cap) (hn : xs.length ≤ 1000000) (b : Nat) (a' : Option Addr) (cap' : Nat) (fs' : List Nat) (hs' : LLSub w a' ys fs') (hc' : ys.length ≤ cap') (hn' : ys.length ≤ 1000000) (hb : w.cell? ⟨b, 0, none⟩ = some (.slice a' ys.length cap')) (hbw : b < w.heap.size) :
    Calls Try.prog 121 #[.slice a xs.length cap, .func (.func 122) #[] #[.pointer (some ⟨b, 0, none⟩)]] w (IdxOut w xs ys) := by
  have HR := Lib.hid (show ∀ W, Below w.heap.size w W → ∀ k, (h : k < xs.length) → ∃ bb off a1 c1, a = some ⟨bb, off, none⟩ ∧ bb < W.heap.size ∧ W.cell? ⟨bb, off + k, none⟩ = some (.slice a1 xs[k].length c1) ∧ Calls Try.prog 122 #[.slice a1 xs[k].length c1, .pointer (some ⟨b, 0, none⟩)] W fun e w' => e = .returned (.bool (!inL ys xs[k])) ∧ Below W.heap.size W w' from fun W hW k h => by
    obtain ⟨bb, off, a1, c1, f1, ha, hbb, hcell, hc1, hs1, _⟩ := (hs.below hs.lt hW).get h
    exact ⟨bb, off, a1, c1, ha, hbb, hcell, notIn ys xs[k] hgy W a' cap' fs' (hs'.below hs'.lt hW) hc' hn' b a1 c1 f1 hs1 hc1 (hgx _ (List.getElem_mem h)) ((hW.cell (p := ⟨b, 0, none⟩) hbw).trans hb)⟩)
  obtain ⟨m, hm⟩ : ∃ m, xs.length = m := ⟨_, rfl⟩
  have HM := Lib.hid hm
  rw [hm] at hc hn ⊢
  clear hm hs hs' hb hgx hgy hc' hn'
  go_enter Try.func121, Try.ntmps121
  go_wp2_with fail
  go_loopw [8] (fun i wr => ∃ (k : Nat), k ≤ m ∧ i = .int .i64 k ∧ Hid (∀ j, (hj : j < xs.length) → j < k → inL ys xs[j] = true) ∧ Below w.heap.size w wr) (fun i _ => m - (intOf i).toNat)
  case atStart => exact ⟨0, Nat.zero_le _, rfl, Lib.hid (fun j _ (h : j < 0) => absurd h (Nat.not_lt_zero j)), Below.refl _ _⟩
  case round =>
    obtain ⟨k, hk, rfl, HN, hbk⟩ := hrel
    by_cases hkm : k < m
    · have hkl : k < xs.length := by rw [HM.out]; exact hkm
      obtain ⟨bb, off, a1, c1, rfl, hbb, hcell, hcall⟩ := HR.out wr hbk k hkl
      have HC := Lib.hid hcall
      obtain ⟨len1, hlen1⟩ : ∃ n, (xs[k]).length = n := ⟨_, rfl⟩
      rw [hlen1] at hcell HC
      cases he : inL ys xs[k] with
      | false =>
        rw [he] at HC
        have HY := Lib.hid (only_yes hkl HN.out he)
        have HB := Lib.hid hbk
        have HKL := Lib.hid hkl
        clear hcall hlen1 hbk he
        go_wp2_with fail
        refine HC.out.mono ?_
        rintro e1 w1 ⟨rfl, hb1⟩
        have H1 := Lib.hid (HB.out.trans (hb1.mono HB.out.size))
        clear hb1 hcell hbb
        go_wp2_with fail
        go_ret
        exact ⟨_, rfl, Or.inr ⟨k, HKL.out, rfl, HY.out⟩, H1.out⟩
      | true =>
        rw [he] at HC
        have HE := Lib.hid he
        have HB := Lib.hid hbk
        clear hcall hlen1 hbk he
        go_wp2_with fail
        refine HC.out.mono ?_
        rintro e1 w1 ⟨rfl, hb1⟩
        have H1 := Lib.hid (HB.out.trans (hb1.mono HB.out.size))
        clear hb1 hcell hbb
        go_wp2_with fail
        go_roundw
        case rel => exact ⟨k + 1, by omega, by go_num, Lib.hid (fun j hj h => by
          by_cases hjk : j < k
          · exact HN.out j hj hjk
          · obtain rfl : j = k := by omega
            exact HE.out), H1.out⟩
        case measure => simp [intOf]; omega
    · have hF := Lib.hid (only_no (fun j hj => HN.out j hj (by have := HM.out; omega)))
      go_wp2_with fail
      go_ret
      exact ⟨_, rfl, Or.inl ⟨rfl, hF.out⟩, hbk⟩

/-- a layout of a list, and whether there is one; it lies among blocks of the list -/
def OneOf (w : World) (fs : List Nat) (r : Ls.Lay × Bool) (e : Ending) (w' : World) : Prop := ∃ (a : Option Addr) (cap : Nat) (f : List Nat), e = .returned (.tuple #[.slice a r.1.length cap, .bool r.2]) ∧ r.1.length ≤ cap ∧ LaySub w' a r.1 f ∧ (∀ c ∈ f, c ∈ fs) ∧ Below w.heap.size w w'

set_option maxRecDepth 100000 in
set_option maxHeartbeats 3200000 in
theorem firstOnly (xs ys : List Ls.Lay) (hgx : ∀ x ∈ xs, x.length ≤ maxLen) (hgy : ∀ x ∈ ys, x.length ≤ maxLen) (w : World) (a : Option Addr) (cap : Nat) (fs : List Nat) (hs : LLSub w a xs fs) (hc : xs.length ≤ cap) (hn : xs.length ≤ 1000000) (a' : Option Addr) (cap' : Nat) (fs' : List Nat) (hs' : LLSub w a' ys fs') (hc' : ys.length ≤ cap') (hn' : ys.length ≤ 1000000) :
    Calls Try.prog 73 #[.slice a xs.length cap, .slice a' ys.length cap'] w (OneOf w fs (onlyR xs ys)) := by
  have H := Lib.hid (fun (T : TypeId) => indexOnly xs ys hgx hgy (w.alloc (.cells #[.slice a' ys.length cap'] T)) a cap fs (hs.below hs.lt ((Ext.refl w).alloc _)) hc hn w.heap.size a' cap' fs' (hs'.below hs'.lt ((Ext.refl w).alloc _)) hc' hn' (by rw [World.cell?_alloc_new]; rfl) (by simp))
  have HR := Lib.hid (show ∀ W, Ext w W → ∀ k, (h : k < xs.length) → ∃ bb off a1 c1 f1, a = some ⟨bb, off, none⟩ ∧ bb < W.heap.size ∧ W.cell? ⟨bb, off + k, none⟩ = some (.slice a1 xs[k].length c1) ∧ xs[k].length ≤ c1 ∧ LaySub W a1 xs[k] f1 ∧ (∀ c ∈ f1, c ∈ fs) from fun W hW k h => (hs.ext hW).get h)
  have B1 := Lib.hid (show ∀ ob, Ext w (w.alloc ob) from fun ob => (Ext.refl w).alloc _)
  obtain ⟨m, hm⟩ : ∃ m, xs.length = m := ⟨_, rfl⟩
  obtain ⟨m', hm'⟩ : ∃ m', ys.length = m' := ⟨_, rfl⟩
  have HM := Lib.hid hm
  rw [hm, hm'] at H
  rw [hm'] at hc' hn' ⊢
  rw [hm] at hc hn ⊢
  clear hs hs' hgx hgy hm hm'
  go_enter Try.func73, Try.ntmps73
  go_wp2_with fail
  refine (H.out _).mono ?_
  rintro e1 w1 ⟨r, rfl, hr, hb1⟩
  have H1 := Lib.hid ((B1.out _).trans hb1)
  rcases hr with ⟨rfl, hr⟩ | ⟨k, hk, rfl, hr⟩
  · have HQ := Lib.hid hr
    clear hb1 hr
    go_wp2_with fail
    go_ret2
    rw [HQ.out]
    exact ⟨none, 0, [], rfl, Nat.le_refl _, .inl ⟨rfl, rfl⟩, fun c hc => absurd hc (by simp), H1.out⟩
  · obtain ⟨bb, off, a1, c1, f1, rfl, hbb, hcell, hc1, hs1, hm1⟩ := HR.out w1 H1.out k hk
    have HQ := Lib.hid (And.intro hr (And.intro hc1 (And.intro hs1 hm1)))
    have hkm : k < m := by have := HM.out; omega
    obtain ⟨len1, hlen1⟩ : ∃ n, (xs[k]).length = n := ⟨_, rfl⟩
    rw [hlen1] at hcell
    have HL := Lib.hid hlen1
    have i0 : (0 : Int) ≤ (k : Int) := Int.natCast_nonneg _
    have i1 : (k : Int) < (m : Int) := by omega
    clear hb1 hr hc1 hs1 hm1 hlen1
    go_wp2_with fail
    go_ret2
    obtain ⟨h1, h2, h3, h4⟩ := HQ.out
    rw [h1, ← HL.out]
    exact ⟨a1, c1, f1, rfl, h2, h3, h4, H1.out⟩


set_option maxRecDepth 100000 in
set_option maxHeartbeats 3200000 in
theorem implOnlyLayout (w : World) (o0 n0 : Int) (t0 : ByteArray) (k0 : F) (a0 : Option Addr) (c0 : Nat) (f0 : List Nat) (h0 : DocIn w t0 k0 a0 c0 f0) (o1 n1 : Int) (t1 : ByteArray) (k1 : F) (a1 : Option Addr) (c1 : Nat) (f1 : List Nat) (h1 : DocIn w t1 k1 a1 c1 f1) :
    Calls Try.prog 26 #[.agg #[.int .i64 o0, .int .i64 n0, .string t0, .slice a0 k0.len c0], .agg #[.int .i64 o1, .int .i64 n1, .string t1, .slice a1 k1.len c1]] w (LayRes w (onlyLay o0 n0 t0 k0 o1 n1 t1 k1)) := by
  have hA := fun (W : World) (e : Ext w W) => It.implLayoutsOf W o0 n0 t0 k0 a0 c0 f0 (h0.ext e).sub (h0.ext e).ok (h0.ext e).cap_le (h0.ext e).size (h0.ext e).fits (h0.ext e).tfit
  have hB := fun (W : World) (e : Ext w W) => It.implLayoutsOf W o1 n1 t1 k1 a1 c1 f1 (h1.ext e).sub (h1.ext e).ok (h1.ext e).cap_le (h1.ext e).size (h1.ext e).fits (h1.ext e).tfit
  have hgx := good_len (lays_good (o := o0) (n := n0) (t := t0) (k := k0))
  have hgy := good_len (lays_good (o := o1) (n := n1) (t := t1) (k := k1))
  have hnx := lays_len o0 n0 t0 k0
  have hny := lays_len o1 n1 t1 k1
  unfold onlyLay
  obtain ⟨X, hX⟩ : ∃ X, laysD o0 n0 t0 k0 = X := ⟨_, rfl⟩
  obtain ⟨Y, hY⟩ : ∃ Y, laysD o1 n1 t1 k1 = Y := ⟨_, rfl⟩
  obtain ⟨p0, hp0⟩ : ∃ p, toldD o0 n0 t0 k0 = p := ⟨_, rfl⟩
  obtain ⟨p1, hp1⟩ : ∃ p, toldD o1 n1 t1 k1 = p := ⟨_, rfl⟩
  rw [hX] at hA hgx hnx
  rw [hY] at hB hgy hny
  rw [hp0] at hA
  rw [hp1] at hB
  rw [hX, hY, hp0, hp1]
  have HT := Lib.hid (fun (w' : World) => two_new w (.int .i64 o0) (.int .i64 n0) (.string t0) (.slice a0 k0.len c0) (.int .i64 o1) (.int .i64 n1) (.string t1) (.slice a1 k1.len c1) 29 (w' := w'))
  have HE := Lib.hid (show ∀ x y, Ext w ((w.alloc x).alloc y) from fun x y => ((Ext.refl w).alloc x).alloc y)
  obtain ⟨L0, hL0⟩ : ∃ L, k0.len = L := ⟨_, rfl⟩
  obtain ⟨L1, hL1⟩ : ∃ L, k1.len = L := ⟨_, rfl⟩
  rw [hL0] at hA
  rw [hL1] at hB
  rw [hL0, hL1] at HT ⊢
  have HA := Lib.hid hA
  have HB := Lib.hid hB
  have HGX := Lib.hid (And.intro hgx hnx)
  have HGY := Lib.hid (And.intro hgy hny)
  clear hA hB hgx hgy hnx hny h0 h1 hX hY hp0 hp1 hL0 hL1
  by_cases hp : (p0 && p1) = true
  · obtain ⟨rfl, rfl⟩ : p0 = true ∧ p1 = true := by simpa using hp
    clear hp
    rw [if_pos (by rfl : (true && true) = true)]
    obtain ⟨⟨R, q⟩, hR⟩ : ∃ r, onlyR X Y = r := ⟨_, rfl⟩
    rw [hR]
    have HR0 := Lib.hid hR
    clear hR
    go_enter Try.func26, Try.ntmps26
    go_wp2_with fail
    refine (HA.out _ (HE.out _ _)).mono ?_
    rintro e1 w1 ⟨x1, y1, g1, rfl, hc1', hs1, hF1, hb1⟩
    have H1 := Lib.hid (And.intro hs1 hF1)
    have K1 := Lib.hid (And.intro hb1 hc1')
    obtain ⟨⟨u0, u1, u2, u3⟩, ⟨v0, v1, v2, v3⟩, e1⟩ := HT.out _ hb1
    have E1 := Lib.hid e1
    clear hb1 hs1 hF1 hc1' e1
    obtain ⟨m, hm⟩ : ∃ m, X.length = m := ⟨_, rfl⟩
    rw [hm]
    go_wp2_with fail
    refine (HB.out _ E1.out).mono ?_
    rintro e2 w2 ⟨x2, y2, g2, rfl, hc2', hs2, hF2, hb2⟩
    have H2 := Lib.hid (And.intro hs2 (And.intro hF2 hc2'))
    have E2 := Lib.hid (Ext.trans E1.out hb2)
    have HS1 := Lib.hid (And.intro (H1.out.1.below H1.out.1.lt hb2) (H1.out.2.below H1.out.1.lt hb2))
    clear hb2 hs2 hF2 hc2' u0 u1 u2 u3 v0 v1 v2 v3
    obtain ⟨m2, hm2⟩ : ∃ m, Y.length = m := ⟨_, rfl⟩
    rw [hm2]
    have hfo := firstOnly X Y HGX.out.1 HGY.out.1 w2 x1 y1 g1 HS1.out.1 K1.out.2 (by have := HGX.out.2; omega) x2 y2 g2 H2.out.1 H2.out.2.2 (by have := HGY.out.2; omega)
    rw [hm, hm2] at hfo
    have HFO := Lib.hid hfo
    clear hfo hm hm2
    rw [HR0.out] at HFO
    go_wp2_with fail
    refine HFO.out.mono ?_
    rintro e3 w3 ⟨a3, c3, f3, rfl, hc3, hs3, hm3, hb3⟩
    have H3 := Lib.hid (And.intro hc3 (And.intro hs3 (And.intro hm3 hb3)))
    clear hc3 hs3 hm3 hb3
    go_wp2_with fail
    go_ret2
    obtain ⟨hc3, hs3, hm3, hb3⟩ := H3.out
    refine ⟨a3, c3, f3, rfl, hc3, hs3, lay_fresh hs3 hm3 ((HS1.out.2.mono ?_).below HS1.out.1.lt hb3), Ext.trans E2.out hb3⟩
    simp; omega
  · have hq : (p0 && p1) = false := by simpa using hp
    rw [if_neg hp]
    clear hp
    cases p0 <;> cases p1 <;> first | (exact absurd hq (by decide)) | skip
    all_goals
      clear hq
      go_enter Try.func26, Try.ntmps26
      go_wp2_with fail
      refine (HA.out _ (HE.out _ _)).mono ?_
      rintro e1 w1 ⟨x1, y1, g1, rfl, hc1', hs1, hF1, hb1⟩
      have H1 := Lib.hid (And.intro hs1 hF1)
      have K1 := Lib.hid (And.intro hb1 hc1')
      obtain ⟨⟨u0, u1, u2, u3⟩, ⟨v0, v1, v2, v3⟩, e1⟩ := HT.out _ hb1
      have E1 := Lib.hid e1
      clear hb1 hs1 hF1 hc1' e1
      obtain ⟨m, hm⟩ : ∃ m, X.length = m := ⟨_, rfl⟩
      rw [hm]
      go_wp2_with fail
      refine (HB.out _ E1.out).mono ?_
      rintro e2 w2 ⟨x2, y2, g2, rfl, hc2', hs2, hF2, hb2⟩
      have H2 := Lib.hid (And.intro hs2 (And.intro hF2 hc2'))
      have E2 := Lib.hid (Ext.trans E1.out hb2)
      have HS1 := Lib.hid (And.intro (H1.out.1.below H1.out.1.lt hb2) (H1.out.2.below H1.out.1.lt hb2))
      clear hb2 hs2 hF2 hc2' u0 u1 u2 u3 v0 v1 v2 v3
      obtain ⟨m2, hm2⟩ : ∃ m, Y.length = m := ⟨_, rfl⟩
      rw [hm2]
      clear hm hm2
      go_wp2_with fail
      go_ret2
      exact ⟨none, 0, [], rfl, Nat.le_refl _, .inl ⟨rfl, rfl⟩, Fresh.nil _ _, E2.out⟩


set_option maxRecDepth 100000 in
set_option maxHeartbeats 3200000 in
theorem implSameLayouts (w : World) (o0 n0 : Int) (t0 : ByteArray) (k0 : F) (a0 : Option Addr) (c0 : Nat) (f0 : List Nat) (h0 : DocIn w t0 k0 a0 c0 f0) (o1 n1 : Int) (t1 : ByteArray) (k1 : F) (a1 : Option Addr) (c1 : Nat) (f1 : List Nat) (h1 : DocIn w t1 k1 a1 c1 f1) :
    Calls Try.prog 31 #[.agg #[.int .i64 o0, .int .i64 n0, .string t0, .slice a0 k0.len c0], .agg #[.int .i64 o1, .int .i64 n1, .string t1, .slice a1 k1.len c1]] w fun e w' => e = .returned (.bool (sameLay o0 n0 t0 k0 o1 n1 t1 k1)) ∧ Below w.heap.size w w' := by
  have hA := fun (W : World) (e : Ext w W) => It.implLayoutsOf W o0 n0 t0 k0 a0 c0 f0 (h0.ext e).sub (h0.ext e).ok (h0.ext e).cap_le (h0.ext e).size (h0.ext e).fits (h0.ext e).tfit
  have hB := fun (W : World) (e : Ext w W) => It.implLayoutsOf W o1 n1 t1 k1 a1 c1 f1 (h1.ext e).sub (h1.ext e).ok (h1.ext e).cap_le (h1.ext e).size (h1.ext e).fits (h1.ext e).tfit
  have hgx := good_len (lays_good (o := o0) (n := n0) (t := t0) (k := k0))
  have hgy := good_len (lays_good (o := o1) (n := n1) (t := t1) (k := k1))
  have hnx := lays_len o0 n0 t0 k0
  have hny := lays_len o1 n1 t1 k1
  unfold sameLay
  obtain ⟨X, hX⟩ : ∃ X, laysD o0 n0 t0 k0 = X := ⟨_, rfl⟩
  obtain ⟨Y, hY⟩ : ∃ Y, laysD o1 n1 t1 k1 = Y := ⟨_, rfl⟩
  obtain ⟨p0, hp0⟩ : ∃ p, toldD o0 n0 t0 k0 = p := ⟨_, rfl⟩
  obtain ⟨p1, hp1⟩ : ∃ p, toldD o1 n1 t1 k1 = p := ⟨_, rfl⟩
  rw [hX] at hA hgx hnx
  rw [hY] at hB hgy hny
  rw [hp0] at hA
  rw [hp1] at hB
  rw [hX, hY, hp0, hp1]
  have HT := Lib.hid (fun (w' : World) => two_new w (.int .i64 o0) (.int .i64 n0) (.string t0) (.slice a0 k0.len c0) (.int .i64 o1) (.int .i64 n1) (.string t1) (.slice a1 k1.len c1) 29 (w' := w'))
  have HE := Lib.hid (show ∀ x y, Ext w ((w.alloc x).alloc y) from fun x y => ((Ext.refl w).alloc x).alloc y)
  obtain ⟨L0, hL0⟩ : ∃ L, k0.len = L := ⟨_, rfl⟩
  obtain ⟨L1, hL1⟩ : ∃ L, k1.len = L := ⟨_, rfl⟩
  rw [hL0] at hA
  rw [hL1] at hB
  rw [hL0, hL1] at HT ⊢
  have HA := Lib.hid hA
  have HB := Lib.hid hB
  have HGX := Lib.hid (And.intro hgx hnx)
  have HGY := Lib.hid (And.intro hgy hny)
  clear hA hB hgx hgy hnx hny h0 h1 hX hY hp0 hp1 hL0 hL1
  by_cases hp : (p0 && p1) = true
  · obtain ⟨rfl, rfl⟩ : p0 = true ∧ p1 = true := by simpa using hp
    clear hp
    rw [show (true && true && (!(onlyR X Y).2 && !(onlyR Y X).2)) = (!(onlyR X Y).2 && !(onlyR Y X).2) by simp]
    obtain ⟨⟨R, q⟩, hR⟩ : ∃ r, onlyR X Y = r := ⟨_, rfl⟩
    obtain ⟨⟨R', q'⟩, hR'⟩ : ∃ r, onlyR Y X = r := ⟨_, rfl⟩
    rw [hR, hR']
    have HR0 := Lib.hid hR
    have HR1 := Lib.hid hR'
    clear hR hR'
    go_enter Try.func31, Try.ntmps31
    go_wp2_with fail
    refine (HA.out _ (HE.out _ _)).mono ?_
    rintro e1 w1 ⟨x1, y1, g1, rfl, hc1', hs1, hF1, hb1⟩
    have H1 := Lib.hid (And.intro hs1 hF1)
    have K1 := Lib.hid (And.intro hb1 hc1')
    obtain ⟨⟨u0, u1, u2, u3⟩, ⟨v0, v1, v2, v3⟩, e1⟩ := HT.out _ hb1
    have E1 := Lib.hid e1
    clear hb1 hs1 hF1 hc1' e1
    obtain ⟨m, hm⟩ : ∃ m, X.length = m := ⟨_, rfl⟩
    rw [hm]
    go_wp2_with fail
    refine (HB.out _ E1.out).mono ?_
    rintro e2 w2 ⟨x2, y2, g2, rfl, hc2', hs2, hF2, hb2⟩
    have H2 := Lib.hid (And.intro hs2 (And.intro hF2 hc2'))
    have E2 := Lib.hid (Ext.trans E1.out hb2)
    have HS1 := Lib.hid (And.intro (H1.out.1.below H1.out.1.lt hb2) (H1.out.2.below H1.out.1.lt hb2))
    clear hb2 hs2 hF2 hc2' u0 u1 u2 u3 v0 v1 v2 v3
    obtain ⟨m2, hm2⟩ : ∃ m, Y.length = m := ⟨_, rfl⟩
    rw [hm2]
    have hfo := firstOnly X Y HGX.out.1 HGY.out.1 w2 x1 y1 g1 HS1.out.1 K1.out.2 (by have := HGX.out.2; omega) x2 y2 g2 H2.out.1 H2.out.2.2 (by have := HGY.out.2; omega)
    have hfp := fun (W : World) (e : Ext w2 W) => firstOnly Y X HGY.out.1 HGX.out.1 W x2 y2 g2 (H2.out.1.ext e) H2.out.2.2 (by have := HGY.out.2; omega) x1 y1 g1 (HS1.out.1.ext e) K1.out.2 (by have := HGX.out.2; omega)
    rw [hm, hm2] at hfo hfp
    have HFO := Lib.hid hfo
    have HFP := Lib.hid hfp
    clear hfo hfp hm hm2
    rw [HR0.out] at HFO
    rw [HR1.out] at HFP
    go_wp2_with fail
    refine HFO.out.mono ?_
    rintro e3 w3 ⟨a3, c3, f3, rfl, hc3, hs3, hm3, hb3⟩
    have E3 := Lib.hid (show Ext w2 w3 from hb3)
    clear hc3 hs3 hm3 hb3
    simp only
    obtain ⟨m3, hm3⟩ : ∃ m, R.length = m := ⟨_, rfl⟩
    rw [hm3]
    clear hm3
    go_wp2_with fail
    refine (HFP.out _ E3.out).mono ?_
    rintro e4 w4 ⟨a4, c4, f4, rfl, hc4, hs4, hm4, hb4⟩
    have E4 := Lib.hid (Ext.trans E2.out (Ext.trans E3.out hb4))
    clear hc4 hs4 hm4 hb4
    simp only
    obtain ⟨m4, hm4⟩ : ∃ m, R'.length = m := ⟨_, rfl⟩
    rw [hm4]
    clear hm4
    cases q <;> cases q'
    all_goals
      go_wp2_with fail
      go_ret
      exact ⟨rfl, E4.out⟩
  · have hq : (p0 && p1) = false := by simpa using hp
    rw [hq, Bool.false_and]
    clear hp
    cases p0 <;> cases p1 <;> first | (exact absurd hq (by decide)) | skip
    all_goals
      clear hq
      go_enter Try.func31, Try.ntmps31
      go_wp2_with fail
      refine (HA.out _ (HE.out _ _)).mono ?_
      rintro e1 w1 ⟨x1, y1, g1, rfl, hc1', hs1, hF1, hb1⟩
      have H1 := Lib.hid (And.intro hs1 hF1)
      have K1 := Lib.hid (And.intro hb1 hc1')
      obtain ⟨⟨u0, u1, u2, u3⟩, ⟨v0, v1, v2, v3⟩, e1⟩ := HT.out _ hb1
      have E1 := Lib.hid e1
      clear hb1 hs1 hF1 hc1' e1
      obtain ⟨m, hm⟩ : ∃ m, X.length = m := ⟨_, rfl⟩
      rw [hm]
      go_wp2_with fail
      refine (HB.out _ E1.out).mono ?_
      rintro e2 w2 ⟨x2, y2, g2, rfl, hc2', hs2, hF2, hb2⟩
      have H2 := Lib.hid (And.intro hs2 (And.intro hF2 hc2'))
      have E2 := Lib.hid (Ext.trans E1.out hb2)
      have HS1 := Lib.hid (And.intro (H1.out.1.below H1.out.1.lt hb2) (H1.out.2.below H1.out.1.lt hb2))
      clear hb2 hs2 hF2 hc2' u0 u1 u2 u3 v0 v1 v2 v3
      obtain ⟨m2, hm2⟩ : ∃ m, Y.length = m := ⟨_, rfl⟩
      rw [hm2]
      clear hm hm2
      go_wp2_with fail
      go_ret
      exact ⟨rfl, E2.out⟩


end Go.Proofs.Ytmkibpimjaofgaa.Eqd


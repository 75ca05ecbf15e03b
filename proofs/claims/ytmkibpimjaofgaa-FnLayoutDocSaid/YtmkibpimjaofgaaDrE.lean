import Derived.Test.YtmkibpimjaofgaaDrY
import Derived.Test.YtmkibpimjaofgaaOpX
/-
  What the model's l2Draw comes to: some layout of a bounded size, in memory of its own.
-/
set_option linter.unusedVariables false
set_option linter.unusedSimpArgs false
set_option maxRecDepth 100000
set_option maxHeartbeats 6400000
namespace Go.Proofs.Ytmkibpimjaofgaa.DrE
open Go.RowKit P1 Draw Draw2 DrA DrD LayL LayV LayM LayN LayC OpenR

def Small (l : List (Int × ByteArray)) : Prop := l.length ≤ 200 ∧ ∀ r ∈ l, -1 ≤ r.1 ∧ r.1 ≤ 401 ∧ r.2.size ≤ 2000
theorem Small.nil : Small [] := ⟨by simp, fun r hr => by simp at hr⟩
theorem Small.of_lv {l : List (Int × ByteArray)} (h : lv l = true) : Small l := ⟨(lv_len h).2, fun r hr => by
  obtain ⟨i, hi, rfl⟩ := List.getElem_of_mem hr
  have := rv_len (lv_get h hi); omega⟩
theorem Small.set {l : List (Int × ByteArray)} (h : Small l) (k : Nat) {r : Int × ByteArray} (hr : -1 ≤ r.1 ∧ r.1 ≤ 401 ∧ r.2.size ≤ 2000) : Small (l.set k r) :=
  ⟨by simpa using h.1, fun q hq => by
    rcases List.mem_or_eq_of_mem_set hq with hq | rfl
    · exact h.2 q hq
    · exact hr⟩
theorem Small.fits {l : List (Int × ByteArray)} (h : Small l) : L.Fits l ∧ l.length ≤ maxLen := ⟨fun r hr => by have := h.2 r hr; unfold maxLen; omega, by have := h.1; unfold maxLen; omega⟩

def LayDraw (w : World) (x lo p c : Nat) (e : Ending) (w' : World) : Prop := ∃ (l : List (Int × ByteArray)) (a : Option Addr) (cap : Nat) (fs : List Nat) (q : Nat), e = .returned (.slice a l.length cap) ∧ l.length ≤ cap ∧ Small l ∧ LaySub w' a l fs ∧ Fresh w.heap.size w' fs ∧ Rd w' x lo q ∧ q ≤ p + c ∧ But w.heap.size x w w'

structure LInv (w wr : World) (x lo q : Nat) (l : List (Int × ByteArray)) (b off : Nat) : Prop where
  rd : Rd wr x lo q
  but : But w.heap.size x w wr
  row : LayAt wr l b off
  fz : ∀ o, wr.frozen? ⟨b, o, none⟩ = false
  lo_le : w.heap.size ≤ b
  lt : b < wr.heap.size
  sm : Small l
theorem LInv.step {w wr w' : World} {x lo q q' : Nat} {l : List (Int × ByteArray)} {b off : Nat} (h : LInv w wr x lo q l b off) (hx : x < w.heap.size) (k : But wr.heap.size x wr w') (hr : Rd w' x lo q') : LInv w w' x lo q' l b off := by
  have h1 := h.lo_le
  have h2 := h.lt
  exact ⟨hr, h.but.trans (k.mono h.but.size), h.row.congr fun o _ _ => k.cell h2 (by omega), fun o => (k.frozen h2 (by omega)).trans (h.fz o), h1, Nat.lt_of_lt_of_le h2 k.size, h.sm⟩
theorem rdSet {wr : World} {x lo q b o : Nat} (h : Rd wr x lo q) (hb : x < b) (u : Value) : Rd (wr.setCell ⟨b, o, none⟩ u) x lo q := by
  obtain ⟨a, l, c, h0, h1, h2, h3, h4, h5, h6⟩ := h
  refine ⟨a, l, c, by rw [World.cell?_setCell_other _ _ _ _ (by intro e; injection e with e1; omega)]; exact h0, by rw [World.cell?_setCell_other _ _ _ _ (by intro e; injection e with e1; omega)]; exact h1, by rw [World.frozen?_setCell]; exact h2, h3, h4, h5, fun hl => ?_⟩
  obtain ⟨b', off, ha, hb', hc⟩ := h6 hl
  refine ⟨b', off, ha, hb', fun i hi => ?_⟩
  obtain ⟨v, hv, hcell⟩ := hc i hi
  exact ⟨v, hv, by rw [World.cell?_setCell_other _ _ _ _ (by intro e; injection e with e1; omega)]; exact hcell⟩
theorem LInv.setN {w wr : World} {x lo q : Nat} {l : List (Int × ByteArray)} {b off k : Nat} {n : Int} {t : ByteArray} (h : LInv w wr x lo q l b off) (hx : x < w.heap.size) (hk : k < l.length) (e : l[k] = (n, t)) (m : Int) (hm : -1 ≤ m ∧ m ≤ 401) : LInv w (wr.setCell ⟨b, off + k * 2, none⟩ (.int .i64 m)) x lo q (l.set k (m, t)) b off := by
  have h1 := h.lo_le
  have ht : t.size ≤ 2000 := by have := h.sm.2 _ (List.getElem_mem hk); rw [e] at this; exact this.2.2
  exact ⟨rdSet h.rd (by omega) _, h.but.setCell (Or.inr h1) _, h.row.setN hk e m, fun o => by rw [World.frozen?_setCell]; exact h.fz o, h1, by simpa using h.lt, h.sm.set k ⟨hm.1, hm.2, ht⟩⟩
theorem LInv.setT {w wr : World} {x lo q : Nat} {l : List (Int × ByteArray)} {b off k : Nat} {n : Int} {t : ByteArray} (h : LInv w wr x lo q l b off) (hx : x < w.heap.size) (hk : k < l.length) (e : l[k] = (n, t)) (u : ByteArray) (hu : u.size ≤ 2000) : LInv w (wr.setCell ⟨b, off + k * 2 + 1, none⟩ (.string u)) x lo q (l.set k (n, u)) b off := by
  have h1 := h.lo_le
  have hn := h.sm.2 _ (List.getElem_mem hk)
  rw [e] at hn
  exact ⟨rdSet h.rd (by omega) _, h.but.setCell (Or.inr h1) _, h.row.setT hk e u, fun o => by rw [World.frozen?_setCell]; exact h.fz o, h1, by simpa using h.lt, h.sm.set k ⟨hn.1, hn.2.1, hu⟩⟩
theorem LInv.out {w wr : World} {x lo q p c : Nat} {l : List (Int × ByteArray)} {b off m cap : Nat} (h : LInv w wr x lo q l b off) (hm : l.length = m) (hc : m ≤ cap) (hq : q ≤ p + c) : LayDraw w x lo p c (.returned (.slice (some ⟨b, off, none⟩) m cap)) wr := by
  subst hm
  by_cases hl : l = []
  · exact ⟨l, _, cap, [], q, rfl, hc, h.sm, .inl ⟨hl, rfl⟩, Fresh.nil _ _, h.rd, hq, h.but⟩
  · exact ⟨l, _, cap, [b], q, rfl, hc, h.sm, .inr ⟨b, off, rfl, hl, rfl, h.row⟩, Fresh.cons (hi := b + 1) h.lo_le h.lt h.fz (Fresh.nil _ _) (by omega), h.rd, hq, h.but⟩
theorem LInv.none' {w wr : World} {x lo q p c : Nat} {l : List (Int × ByteArray)} {b off cap : Nat} {a : Option Addr} (h : LInv w wr x lo q l b off) (hq : q ≤ p + c) : LayDraw w x lo p c (.returned (.slice a 0 cap)) wr :=
  ⟨[], a, cap, [], q, rfl, by simp, Small.nil, .inl ⟨rfl, rfl⟩, Fresh.nil _ _, h.rd, hq, h.but⟩

def bits2 : List ByteArray := [⟨#[65]⟩, ⟨#[97, 32, 98]⟩, ⟨#[120, 10]⟩, ⟨#[]⟩]
theorem bits_small : ∀ s ∈ bits2, s.size ≤ 2000 := by decide
theorem nums_small {r : Int} (h : r ∈ [(-1 : Int), 401, 3]) : -1 ≤ r ∧ r ≤ 401 := by
  simp only [List.mem_cons, List.not_mem_nil, or_false] at h
  rcases h with rfl | rfl | rfl <;> omega

theorem l2Draw (w : World) (x lo p : Nat) (hrd : Rd w x lo p) (hp : p + 2000 ≤ 1073741824) (hx : x < w.heap.size) :
    Calls Try.prog 99 #[.pointer (some ⟨x, 0, none⟩)] w (LayDraw w x lo p 1100) := by
  have HD := Lib.hid (DrD.l1Draw w x lo p hrd (by omega) hx)
  clear hrd
  go_enter Try.func99, Try.ntmps99
  go_wp2_with fail
  refine HD.out.mono ?_
  rintro e1 w1 ⟨o, n, t, k, a, cap, fs, q, rfl, hc, hsz, hv, hs, hf, hrd1, hq, hbut1⟩
  have HO := Lib.hid (specS_all 40 (by omega) o n t k (by simpa [validD] using (show okD 40 o n t k = true by simp only [validD, Bool.and_eq_true] at hv; exact hv.1)) (by simp only [validD, Bool.and_eq_true, decide_eq_true_eq] at hv; exact hv.2) w1 a cap fs hs hf.lt hc)
  have hlv : lv (openD o n t k) = true := by
    simp only [validD, Bool.and_eq_true, decide_eq_true_eq] at hv
    exact (open_good 40 o n t k hv.1).lv hv.2 (by omega)
  have H1 := Lib.hid (And.intro hlv (And.intro hrd1 (And.intro hq hbut1)))
  clear hc hsz hv hs hf hrd1 hq hbut1 hlv
  go_wp2_with fail
  refine HO.out.mono ?_
  rintro e2 w2 ⟨a2, c2, f2, he2, hc2, hs2, hf2, hb2⟩
  have hlen := lv_len H1.out.1
  obtain ⟨l, hl⟩ : ∃ l, openD o n t k = l := ⟨_, rfl⟩
  have hlv := H1.out.1
  rw [hl] at he2 hc2 hs2 hlen hlv
  obtain ⟨b, off, rfl, rfl, hrow⟩ : ∃ b off, a2 = some ⟨b, off, none⟩ ∧ f2 = [b] ∧ LayAt w2 l b off := by
    rcases hs2 with ⟨rfl, _⟩ | ⟨b, off, h1, _, h2, h3⟩
    · simp at hlen
    · exact ⟨b, off, h1, h2, h3⟩
  have hxw1 : x < w1.heap.size := Nat.lt_of_lt_of_le hx H1.out.2.2.2.size
  have HI := Lib.hid (show LInv w w2 x lo q l b off from ⟨rdBelow H1.out.2.1 hxw1 hb2, H1.out.2.2.2.trans (But.of_below (hb2.mono H1.out.2.2.2.size)), hrow, (hf2.2 b (by simp)).2.2, Nat.le_trans H1.out.2.2.2.size (hf2.2 b (by simp)).1, (hf2.2 b (by simp)).2.1, Small.of_lv hlv⟩)
  subst he2
  obtain ⟨m, hm⟩ : ∃ m, l.length = m := ⟨_, rfl⟩
  rw [hm] at hc2 hlen ⊢
  have HM := Lib.hid hm
  have HQ := Lib.hid H1.out.2.2.1
  have hqp : q ≤ p + 1000 := H1.out.2.2.1
  obtain ⟨hm1, hm2⟩ := hlen
  have HP := Lib.hid (pick w2 x lo q m HI.out.rd (by omega))
  clear hs2 hf2 hb2 hrow hl hm hlv hxw1
  go_wp2_with fail
  refine HP.out.mono ?_
  rintro e3 w3 ⟨r, rfl, hr0, hr1, hrd3, hbut3⟩
  obtain ⟨i, rfl⟩ := Int.eq_ofNat_of_zero_le hr0
  have him : i < m := by omega
  have H3 := Lib.hid (HI.out.step hx hbut3 hrd3)
  have HP2 := Lib.hid (pick w3 x lo (q + 1) 16 H3.out.rd (by omega))
  clear hr0 hr1 hrd3 hbut3
  go_wp2_with fail
  refine HP2.out.mono ?_
  rintro e4 w4 ⟨s, rfl, hs0, hs1, hrd4, hbut4⟩
  have H4 := Lib.hid (H3.out.step hx hbut4 hrd4)
  have hsc : s = 0 ∨ s = 1 ∨ s = 2 ∨ (s ≠ 0 ∧ s ≠ 1 ∧ s ≠ 2) := by omega
  have hil : i < l.length := by rw [HM.out]; exact him
  obtain ⟨⟨n0, t0⟩, hnt⟩ : ∃ r, l[i] = r := ⟨_, rfl⟩
  have HNT := Lib.hid hnt
  have hA4 : ∀ ob, Below w4.heap.size w4 (w4.alloc ob) := fun ob => (Below.refl _ _).alloc (Nat.le_refl _) _
  have hx4 : x < w4.heap.size := by have := H4.out.lo_le; have := H4.out.lt; omega
  have i1 : (i : Int) < (m : Int) := by omega
  clear hs0 hs1 hrd4 hbut4 hnt
  rcases hsc with rfl | rfl | rfl | ⟨g0, g1, g2⟩
  · have HN := Lib.hid (Draw.num (w4.alloc (.cells #[.int .i64 (-1), .int .i64 401, .int .i64 3] 3)) x lo (q + 1 + 1) w4.heap.size 0 3 [-1, 401, 3] (rdBelow H4.out.rd hx4 (hA4 _)) (by omega) (fun j hj => by
      rw [World.cell?_alloc_new]
      have hj' : j < 3 := hj
      match j, hj' with
      | 0, _ => rfl
      | 1, _ => rfl
      | 2, _ => rfl) (by decide) (by decide) (by decide) (by simp) (by omega))
    clear hA4
    go_wp2_with fail
    refine HN.out.mono ?_
    rintro e5 w5 ⟨r5, hmem, rfl, hrd5, hbutn⟩
    have hbut5 : But w4.heap.size x w4 w5 := ((But.refl _ _ _).alloc (Nat.le_refl _) _).trans (hbutn.mono (by simp))
    have hI5 := H4.out.step hx hbut5 hrd5
    have c0 := (hI5.row i hil).1
    have z0 := hI5.fz (off + i * 2)
    have H5 := Lib.hid (hI5.setN hx hil HNT.out r5 (nums_small hmem))
    clear hmem hrd5 hbutn hbut5 hI5
    go_wp2_with fail
    go_ret
    exact H5.out.out (by rw [List.length_set, HM.out]) hc2 (by omega)
  · have HN := Lib.hid (Draw.of (w4.alloc (.cells #[.string ⟨#[65]⟩, .string ⟨#[97, 32, 98]⟩, .string ⟨#[120, 10]⟩, .string ⟨#[]⟩] 9)) x lo (q + 1 + 1) w4.heap.size 0 4 bits2 (rdBelow H4.out.rd hx4 (hA4 _)) (by omega) (fun j hj => by
      rw [World.cell?_alloc_new]
      have hj' : j < 4 := hj
      match j, hj' with
      | 0, _ => rfl
      | 1, _ => rfl
      | 2, _ => rfl
      | 3, _ => rfl) (by decide) (by decide) (by decide) (by simp) (by omega))
    clear hA4
    go_wp2_with fail
    refine HN.out.mono ?_
    rintro e5 w5 ⟨r5, hmem, rfl, hrd5, hbutn⟩
    have hbut5 : But w4.heap.size x w4 w5 := ((But.refl _ _ _).alloc (Nat.le_refl _) _).trans (hbutn.mono (by simp))
    have hI5 := H4.out.step hx hbut5 hrd5
    have c1 := (hI5.row i hil).2
    have z1 := hI5.fz (off + i * 2 + 1)
    have H5 := Lib.hid (hI5.setT hx hil HNT.out r5 (bits_small _ hmem))
    clear hmem hrd5 hbutn hbut5 hI5
    go_wp2_with fail
    go_ret
    exact H5.out.out (by rw [List.length_set, HM.out]) hc2 (by omega)
  · clear hA4
    go_wp2_with fail
    all_goals
      go_ret
      exact H4.out.none' (by omega)
  · have b0 : (s == 0) = false := beq_eq_false_iff_ne.2 g0
    have b1 : (s == 1) = false := beq_eq_false_iff_ne.2 g1
    have b2 : (s == 2) = false := beq_eq_false_iff_ne.2 g2
    clear g0 g1 g2 hA4
    go_wp2_with fail
    go_ret
    exact H4.out.out HM.out hc2 (by omega)

end Go.Proofs.Ytmkibpimjaofgaa.DrE


/-
  What ParseDoc of the model comes to: the valid document of the text, in new memory, or nothing.
-/
import Derived.Test.YtjpgnhpfmdjamaaSpR3b
import Derived.Test.YtjpgnhpfmdjamaaSpecC
set_option linter.unusedVariables false
set_option linter.unusedSimpArgs false
namespace Go.Proofs.Ytjpgnhpfmdjamaa.ParseD
open Go.RowKit P1 Copy CatD ReadDocs Read2 SpR SpR2

/-- what ParseDoc answers -/
def parR (chk : Bool) (l : List UInt8) : Bool × D := match parse chk l with
  | none => (false, zeroD)
  | some x => (true, x)

theorem parR_same (l : List UInt8) : parR true l = parR false l := by unfold parR; rw [parse_same]
theorem parR_none {chk : Bool} {l : List UInt8} (h : rdD chk 40 l = none) : parR chk l = (false, zeroD) := by unfold parR parse; rw [h]
theorem parR_more {chk : Bool} {l r : List UInt8} {x : D} {c : UInt8} (h : rdD chk 40 l = some (x, c :: r)) : parR chk l = (false, zeroD) := by unfold parR parse; rw [h]
theorem parR_bad {chk : Bool} {l : List UInt8} {o n : Int} {t : ByteArray} {k : F} (h : rdD chk 40 l = some ((o, n, t, k), [])) (hv : validD o n t k = false) : parR chk l = (false, zeroD) := by unfold parR parse; rw [h]; simp [hv]
theorem parR_good {chk : Bool} {l : List UInt8} {o n : Int} {t : ByteArray} {k : F} (h : rdD chk 40 l = some ((o, n, t, k), [])) (hv : validD o n t k = true) : parR chk l = (true, (o, n, t, k)) := by unfold parR parse; rw [h]; simp [hv]

theorem par_no {w w3 w4 : World} {r : Bool × D} (hr : r = (false, zeroD)) (hb : Below w.heap.size w w3) (ht : Touch w.heap.size (w.heap.size + 1) w3 w4) :
    DocRes w r (.returned (.tuple #[.agg #[.int .i64 0, .int .i64 0, .string ⟨#[]⟩, .slice none 0 0], .bool false])) w4 := by
  subst hr
  exact ⟨none, 0, [], rfl, by simp [zeroD, F.len], Or.inl ⟨rfl, rfl⟩, Fresh.nil w.heap.size w4, ht.below hb (Nat.le_refl _)⟩
theorem par_noA {w w3 w5 : World} {r : Bool × D} {ob : Obj} (hr : r = (false, zeroD)) (hb : Below w.heap.size w w3) (ht : Touch w.heap.size (w.heap.size + 1) w3 w5) :
    DocRes w r (.returned (.tuple #[.agg #[.int .i64 0, .int .i64 0, .string ⟨#[]⟩, .slice none 0 0], .bool false])) (w5.alloc ob) := by
  subst hr
  have h5 := ht.below hb (Nat.le_refl _)
  exact ⟨none, 0, [], rfl, by simp [zeroD, F.len], Or.inl ⟨rfl, rfl⟩, Fresh.nil w.heap.size _, h5.alloc h5.size _⟩
theorem par_yes {w w3 w4 : World} {r : Bool × D} {o n : Int} {t : ByteArray} {k : F} {a : Option Addr} {cap : Nat} {fs : List Nat} (hr : r = (true, (o, n, t, k))) (hb : Below w.heap.size w w3) (hc : k.len ≤ cap) (hs : SubAt w3 a k fs) (hf : Fresh (w.heap.size + 1) w3 fs) (ht : Touch w.heap.size (w.heap.size + 1) w3 w4) :
    DocRes w r (.returned (.tuple #[.agg #[.int .i64 o, .int .i64 n, .string t, .slice a k.len cap], .bool true])) w4 := by
  subst hr
  exact ⟨a, cap, fs, rfl, hc, ht.sub hs (fun c hc => Or.inr (hf.2 c hc).1), (ht.fresh hf (fun c hc => Or.inr (hf.2 c hc).1)).mono (by omega), ht.below hb (Nat.le_refl _)⟩

set_option maxRecDepth 100000 in
set_option maxHeartbeats 3200000 in
theorem specParseDoc (w : World) (l : List UInt8) (hl : l.length ≤ 1048576) :
    Calls Try.prog 36 #[.string ⟨l.toArray⟩] w (DocRes w (parR false l)) := by
  have hN : (⟨l.toArray⟩ : ByteArray).size = l.length := strSize l
  have hD := fun ob => SpR3.reS 40 (w.alloc ob) ⟨l.toArray⟩ 0 l 40 0 (by rw [hN]; exact hl) (by simp) (Nat.zero_le _) rfl rfl (by omega)
  rw [hN] at hD
  have HD := Lib.hid hD
  clear hD hN
  go_enter Try.func36, Try.ntmps36
  go_wp2_with fail
  refine (HD.out _).mono fun e1 w1 hq => ?_
  cases hr : rdD false 40 l with
  | none =>
    obtain ⟨o, n, t, a, ll, c, rfl, hb1⟩ := SpOut.of_none (by rw [hr] at hq; exact hq)
    have hcell : ∀ o, w1.cell? ⟨w.heap.size, o, none⟩ = _ := fun o => hb1.cell (p := ⟨w.heap.size, o, none⟩) (by simp)
    have hfz : ∀ o, w1.frozen? ⟨w.heap.size, o, none⟩ = _ := fun o => hb1.frozen (p := ⟨w.heap.size, o, none⟩) (by simp)
    have hz : w.heap.size < w1.heap.size := by have := hb1.size; simp at this; omega
    have hne : ((-1 : Int) != (l.length : Int)) = true := by rw [bne_iff_ne]; omega
    have H1 := Lib.hid (And.intro hr (((Below.refl w.heap.size w).alloc (Nat.le_refl _) _).trans (hb1.mono (by simp))))
    clear hq hr hb1
    go_wp2_with fail
    refine bodyPost_ret (v := .tuple #[.agg #[.int .i64 0, .int .i64 0, .string ⟨#[]⟩, .slice none 0 0], .bool false]) (by simp [results, Try.results36, go_sem, hcell, hz]) rfl ?_
    refine par_noA (w3 := w1) (parR_none H1.out.1) H1.out.2 ?_
    repeat (first | exact Touch.refl _ _ _ | refine Touch.setCell ?_ (by simp) (by simp) _)
  | some q =>
    obtain ⟨⟨o, n, t, k⟩, l'⟩ := q
    obtain ⟨a, cap, fs, rfl, hc, hs, hf, hb1⟩ := SpOut.of_some (by rw [hr] at hq; exact hq)
    have hsz := rdD_size false 40 l o n t k l' hr
    have hkl := F.len_le_size k
    have hcell : ∀ o, w1.cell? ⟨w.heap.size, o, none⟩ = _ := fun o => hb1.cell (p := ⟨w.heap.size, o, none⟩) (by simp)
    have hfz : ∀ o, w1.frozen? ⟨w.heap.size, o, none⟩ = _ := fun o => hb1.frozen (p := ⟨w.heap.size, o, none⟩) (by simp)
    have hz : w.heap.size < w1.heap.size := by have := hb1.size; simp at this; omega
    have hf' : Fresh (w.heap.size + 1) w1 fs := hf.mono (by simp)
    have hE := ((Below.refl w.heap.size w).alloc (Nat.le_refl _) (.cells #[.int .i64 0, .int .i64 0, .string ⟨#[]⟩, .slice none 0 0] 25)).trans (hb1.mono (by simp))
    have hV := fun ob => SpecC.docValid (w1.alloc ob) o n t k a cap fs (hs.below hf.lt ((Below.refl _ _).alloc (Nat.le_refl _) _)) (fun c hc => by have := hf.lt c hc; simp; omega) hc (by omega) (fits_of_size (m := 1048576) (by unfold maxLen; omega) k (by omega)) (by unfold maxLen; omega)
    have H1 := Lib.hid (And.intro hr (And.intro hE (And.intro hc (And.intro hs hf'))))
    cases l' with
    | cons c r =>
      obtain ⟨z, hzz⟩ : ∃ z : Nat, l.length - (c :: r).length = z := ⟨_, rfl⟩
      rw [hzz]
      have hne : ((z : Int) != (l.length : Int)) = true := by rw [bne_iff_ne]; simp at hzz hsz; omega
      clear hq hr hb1 hE hc hs hf hf' hV hsz hkl hzz
      go_wp2_with fail
      refine bodyPost_ret (v := .tuple #[.agg #[.int .i64 0, .int .i64 0, .string ⟨#[]⟩, .slice none 0 0], .bool false]) (by simp [results, Try.results36, go_sem, hcell, hz]) rfl ?_
      refine par_noA (w3 := w1) (parR_more H1.out.1) H1.out.2.1 ?_
      repeat (first | exact Touch.refl _ _ _ | refine Touch.setCell ?_ (by simp) (by simp) _)
    | nil =>
      rw [show l.length - ([] : List UInt8).length = l.length from rfl]
      have hne : ((l.length : Int) != (l.length : Int)) = false := by simp
      cases hv : validD o n t k with
      | false =>
        rw [hv] at hV
        have HV := Lib.hid hV
        have HVV := Lib.hid hv
        clear hq hr hb1 hE hc hs hf hf' hV hv hsz hkl
        go_wp2_with fail
        refine (HV.out _).mono ?_
        rintro e2 w2 ⟨rfl, hb2⟩
        have hcell2 : ∀ o, w2.cell? ⟨w.heap.size, o, none⟩ = _ := fun o => (hb2.cell (p := ⟨w.heap.size, o, none⟩) (by simp; omega)).trans ((World.cell?_alloc_lt w1 _ ⟨w.heap.size, o, none⟩ hz).trans (hcell o))
        have hfz2 : ∀ o, w2.frozen? ⟨w.heap.size, o, none⟩ = _ := fun o => (hb2.frozen (p := ⟨w.heap.size, o, none⟩) (by simp; omega)).trans ((World.frozen?_alloc_old w1 _ ⟨w.heap.size, o, none⟩ (by show w.heap.size ≠ _; omega)).trans (hfz o))
        have hz2 : w.heap.size < w2.heap.size := by have := hb2.size; simp at this; omega
        have H2 := Lib.hid hb2
        clear hb2 hcell hfz
        go_wp2_with fail
        refine bodyPost_ret (v := .tuple #[.agg #[.int .i64 0, .int .i64 0, .string ⟨#[]⟩, .slice none 0 0], .bool false]) (by simp [results, Try.results36, go_sem, hcell2, hz2]) rfl ?_
        refine par_no (w3 := w2) (parR_bad H1.out.1 HVV.out) ((H1.out.2.1.alloc (by omega) _).trans (H2.out.mono (by simp; omega))) ?_
        repeat (first | exact Touch.refl _ _ _ | refine Touch.setCell ?_ (by simp) (by simp) _)
      | true =>
        rw [hv] at hV
        have HV := Lib.hid hV
        have HVV := Lib.hid hv
        clear hq hr hb1 hE hc hs hf hf' hV hv hsz hkl
        go_wp2_with fail
        refine (HV.out _).mono ?_
        rintro e2 w2 ⟨rfl, hb2⟩
        have hcell2 : ∀ o, w2.cell? ⟨w.heap.size, o, none⟩ = _ := fun o => (hb2.cell (p := ⟨w.heap.size, o, none⟩) (by simp; omega)).trans ((World.cell?_alloc_lt w1 _ ⟨w.heap.size, o, none⟩ hz).trans (hcell o))
        have hfz2 : ∀ o, w2.frozen? ⟨w.heap.size, o, none⟩ = _ := fun o => (hb2.frozen (p := ⟨w.heap.size, o, none⟩) (by simp; omega)).trans ((World.frozen?_alloc_old w1 _ ⟨w.heap.size, o, none⟩ (by show w.heap.size ≠ _; omega)).trans (hfz o))
        have hbox : ∀ o, w2.cell? ⟨w1.heap.size, o, none⟩ = _ := fun o => hb2.cell (p := ⟨w1.heap.size, o, none⟩) (by simp)
        have hz2 : w.heap.size < w2.heap.size := by have := hb2.size; simp at this; omega
        have H2 := Lib.hid hb2
        clear hb2 hcell hfz
        go_wp2_with fail
        refine bodyPost_ret (v := .tuple #[.agg #[.int .i64 o, .int .i64 n, .string t, .slice a k.len cap], .bool true]) (by simp [results, Try.results36, go_sem, hcell2, hz2]) rfl ?_
        obtain ⟨hr, hE, hc, hs, hf'⟩ := H1.out
        have BA : Below w1.heap.size w1 w2 := ((Below.refl _ _).alloc (Nat.le_refl _) _).trans (H2.out.mono (by simp))
        refine par_yes (w3 := w2) (parR_good hr HVV.out) (hE.trans (BA.mono (by omega))) hc (hs.below hf'.lt BA) (hf'.below hf'.lt BA) ?_
        repeat (first | exact Touch.refl _ _ _ | refine Touch.setCell ?_ (by simp) (by simp) _)

/-- what is read is valid -/
theorem parR_true {chk : Bool} {l : List UInt8} {o n : Int} {t : ByteArray} {k : F} (h : parR chk l = (true, (o, n, t, k))) : validD o n t k = true ∧ t.size + k.size ≤ l.length := by
  unfold parR parse at h
  cases hr : rdD chk 40 l with
  | none => rw [hr] at h; simp at h
  | some q =>
    obtain ⟨⟨o', n', t', k'⟩, r⟩ := q
    have hs := rdD_size chk 40 l o' n' t' k' r hr
    rw [hr] at h
    cases r with
    | cons c r => simp at h
    | nil =>
      cases hv : validD o' n' t' k' with
      | false => simp [hv] at h
      | true =>
        simp [hv] at h
        obtain ⟨rfl, rfl, rfl, rfl⟩ := h
        exact ⟨hv, by omega⟩

end Go.Proofs.Ytjpgnhpfmdjamaa.ParseD

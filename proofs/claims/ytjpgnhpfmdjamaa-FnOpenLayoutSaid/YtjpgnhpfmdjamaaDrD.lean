/-
  What the model's l1Draw comes to: some valid document of a bounded size, in memory of its own.
-/
import Derived.Test.YtjpgnhpfmdjamaaDrC
import Derived.Test.YtjpgnhpfmdjamaaParseS
import Derived.Test.YtjpgnhpfmdjamaaLawKit
set_option linter.unusedVariables false
set_option linter.unusedSimpArgs false
namespace Go.Proofs.Ytjpgnhpfmdjamaa.DrD
open Go.RowKit P1 Draw Draw2 DrA DrB DrC CatD ParseD

/-- the texts that l1Draw draws from -/
def texts : List ByteArray := [⟨#[91, 40, 34, 102, 40, 34, 40, 50, 60, 40, 46, 40, 34, 97, 97, 97, 97, 44, 34, 40, 95, 34, 98, 98, 98, 98, 34, 41, 41, 41, 62, 40, 46, 34, 41, 34, 41, 41, 41, 93]⟩, ⟨#[40, 34, 97, 34, 40, 95, 40, 34, 98, 34, 40, 95, 34, 99, 34, 41, 41, 41, 41]⟩, ⟨#[91, 40, 34, 97, 97, 34, 40, 95, 91, 40, 34, 98, 98, 34, 40, 95, 34, 99, 99, 34, 41, 41, 93, 41, 41, 93]⟩, ⟨#[51, 60, 91, 40, 34, 120, 61, 49, 34, 40, 95, 34, 121, 34, 41, 41, 93, 62]⟩, ⟨#[40, 34, 123, 34, 40, 50, 60, 40, 33, 40, 34, 97, 58, 49, 44, 34, 40, 33, 34, 98, 58, 50, 34, 41, 41, 41, 62, 40, 33, 34, 125, 34, 41, 41, 41]⟩, ⟨#[40, 91, 40, 34, 97, 34, 40, 95, 34, 98, 34, 41, 41, 93, 91, 40, 34, 99, 34, 40, 46, 34, 100, 34, 41, 41, 93, 41]⟩, ⟨#[126]⟩, ⟨#[34, 97, 98, 99, 34]⟩]
theorem texts_ok : ∀ s ∈ texts, (parR false s.data.toList).1 = true := by decide
theorem texts_small : ∀ s ∈ texts, s.size ≤ 64 := by decide

/-- a valid document that is drawn -/
def DrawRes (w : World) (x lo p c : Nat) (e : Ending) (w' : World) : Prop := ∃ (o n : Int) (t : ByteArray) (k : F) (a : Option Addr) (cap : Nat) (fs : List Nat) (q : Nat), e = .returned (.agg #[.int .i64 o, .int .i64 n, .string t, .slice a k.len cap]) ∧ k.len ≤ cap ∧ t.size + k.size ≤ 1000 ∧ validD o n t k = true ∧
  SubAt w' a k fs ∧ Fresh w.heap.size w' fs ∧ Rd w' x lo q ∧ q ≤ p + c ∧ But w.heap.size x w w'

theorem parseAt (s : ByteArray) (hs : s.size ≤ 64) (w : World) : Calls Try.prog 36 #[.string s] w (DocRes w (parR false s.data.toList)) := by
  have h := specParseDoc w s.data.toList (by simp; omega)
  have e : (⟨s.data.toList.toArray⟩ : ByteArray) = s := by cases s; simp
  rwa [e] at h

/-- what holds at the head of a round of l1Draw -/
structure Inv (w wr : World) (x lo q : Nat) : Prop where
  rd : Rd wr x lo q
  but : But w.heap.size x w wr
  z : ZBox wr w.heap.size
  tx : Strs wr (w.heap.size + 1) 0 texts
  lt : w.heap.size + 1 < wr.heap.size
theorem Inv.step {w wr w' : World} {x lo q q' : Nat} (h : Inv w wr x lo q) (hx : x < w.heap.size) (k : But wr.heap.size x wr w') (hr : Rd w' x lo q') : Inv w w' x lo q' := by
  obtain ⟨⟨h0, h1, h2, h3⟩, ⟨z0, z1, z2, z3⟩, hb⟩ := h.z
  have hl := h.lt
  refine ⟨hr, h.but.trans (k.mono (by omega)), ⟨⟨(k.cell hb (by omega)).trans h0, (k.cell hb (by omega)).trans h1, (k.cell hb (by omega)).trans h2, (k.cell hb (by omega)).trans h3⟩, ⟨(k.frozen hb (by omega)).trans z0, (k.frozen hb (by omega)).trans z1, (k.frozen hb (by omega)).trans z2, (k.frozen hb (by omega)).trans z3⟩, Nat.lt_of_lt_of_le hb k.size⟩, fun i hi => (k.cell hl (by omega)).trans (h.tx i hi), Nat.lt_of_lt_of_le hl k.size⟩
theorem Inv.below {w wr w' : World} {x lo q : Nat} (h : Inv w wr x lo q) (hx : x < w.heap.size) (k : Below wr.heap.size wr w') : Inv w w' x lo q :=
  h.step hx (But.of_below k) (rdBelow h.rd (by have := h.lt; omega) k)

/-- the end: what was made stands in the result's variable, the call's first block -/
theorem end_draw {w w1 w2 : World} {x lo p c q : Nat} {o n : Int} {t : ByteArray} {k : F} {a : Option Addr} {cap : Nat} {fs : List Nat} (hI : Inv w w1 x lo q) (hx : x < w.heap.size) (hc : k.len ≤ cap) (hsz : t.size + k.size ≤ 1000) (hv : validD o n t k = true) (hs : SubAt w1 a k fs) (hf : Fresh (w.heap.size + 1) w1 fs) (hq : q ≤ p + c)
    (ht : Touch w.heap.size (w.heap.size + 1) w1 w2) : DrawRes w x lo p c (.returned (.agg #[.int .i64 o, .int .i64 n, .string t, .slice a k.len cap])) w2 :=
  ⟨o, n, t, k, a, cap, fs, q, rfl, hc, hsz, hv, ht.sub hs (fun c hc => Or.inr (hf.2 c hc).1), (ht.fresh hf (fun c hc => Or.inr (hf.2 c hc).1)).mono (by omega), rdTouch hI.rd hx ht, hq, butTouch hI.but ht (Nat.le_refl _)⟩

theorem DrawRes.alloc {w w' : World} {x lo p c : Nat} {e : Ending} (h : DrawRes w x lo p c e w') (ob : Obj) : DrawRes w x lo p c e (w'.alloc ob) := by
  obtain ⟨o, n, t, k, a, cap, fs, q, rfl, h1, h2, h3, h4, h5, h6, h7, h8⟩ := h
  have hA : Below w'.heap.size w' (w'.alloc ob) := (Below.refl _ _).alloc (Nat.le_refl _) _
  have hxl : x < w'.heap.size := by
    obtain ⟨_, _, _, q0, _⟩ := h6
    exact World.block_lt_of_cell? w' _ q0
  exact ⟨o, n, t, k, a, cap, fs, q, rfl, h1, h2, h3, h4.below h5.lt hA, h5.below h5.lt hA, rdBelow h6 hxl hA, h7, h8.trans (But.of_below (hA.mono h8.size))⟩

theorem someAny (r : Int) (hr : r ∈ [(4 : Int), 3, 5, 2]) (w : World) (x lo p : Nat) (h1 : Rd w x lo p) (h2 : p + 188 ≤ 1073741824) (h3 : x < w.heap.size) :
    Calls Try.prog 84 #[.pointer (some ⟨x, 0, none⟩), .int .i64 r] w (SomeOut w x lo p 628 10 188) := by
  simp only [List.mem_cons, List.not_mem_nil, or_false] at hr
  rcases hr with rfl | rfl | rfl | rfl
  · exact (someS 4 (by omega) w x lo p h1 (by simp only [drawB]; omega) h3).mono fun e w' h => h.mono (by decide) (by decide) (by decide)
  · exact (someS 3 (by omega) w x lo p h1 (by simp only [drawB]; omega) h3).mono fun e w' h => h.mono (by decide) (by decide) (by decide)
  · exact (someS 5 (by omega) w x lo p h1 (by simp only [drawB]; omega) h3).mono fun e w' h => h.mono (by decide) (by decide) (by decide)
  · exact (someS 2 (by omega) w x lo p h1 (by simp only [drawB]; omega) h3).mono fun e w' h => h.mono (by decide) (by decide) (by decide)
theorem someTwo (w : World) (x lo p : Nat) (h1 : Rd w x lo p) (h2 : p + 20 ≤ 1073741824) (h3 : x < w.heap.size) :
    Calls Try.prog 84 #[.pointer (some ⟨x, 0, none⟩), .int .i64 2] w (SomeOut w x lo p 68 4 20) :=
  someS 2 (by omega) w x lo p h1 (by simp only [drawB]; omega) h3
theorem valid_two {o n : Int} {t : ByteArray} {k : F} (h : Bd 68 4 o n t k) : validD o n t k = true := by
  obtain ⟨h1, h2, h3⟩ := h
  have := F.cnt_le_size k
  simp only [validD, Bool.and_eq_true, decide_eq_true_eq]
  exact ⟨okD_of_wf h2 (by omega), by omega⟩

set_option maxRecDepth 100000 in
set_option maxHeartbeats 6400000 in
theorem l1Draw (w : World) (x lo p : Nat) (hrd : Rd w x lo p) (hp : p + 1000 ≤ 1073741824) (hx : x < w.heap.size) :
    Calls Try.prog 53 #[.pointer (some ⟨x, 0, none⟩)] w (DrawRes w x lo p 1000) := by
  have hA : ∀ o1 o2, Below w.heap.size w ((w.alloc o1).alloc o2) := fun o1 o2 => ((Below.refl _ _).alloc (Nat.le_refl _) _).alloc (by simp) _
  have HI0 := Lib.hid (fun o1 o2 => rdBelow hrd hx (hA o1 o2))
  have HA := Lib.hid hA
  clear hA hrd
  go_enter Try.func53, Try.ntmps53
  go_wp2_with fail
  go_loopw [4] (fun i wr => ∃ (j q : Nat), j ≤ 3 ∧ i = .int .i64 j ∧ q ≤ p + 200 * j ∧ Inv w wr x lo q) (fun i _ => 3 - (intOf i).toNat)
  case atStart =>
    refine ⟨0, p, by omega, rfl, by omega, HI0.out _ _, But.of_below (HA.out _ _), ?_, fun i hi => ?_, by simp⟩
    · exact (ZBox.alloc w _).ext ((Ext.refl _).alloc _)
    · rw [show w.heap.size + 1 = (w.alloc (.cells #[.int .i64 0, .int .i64 0, .string ⟨#[]⟩, .slice none 0 0] 25)).heap.size by simp, World.cell?_alloc_new]
      have hi' : i < 8 := hi
      match i, hi' with
      | 0, _ => rfl
      | 1, _ => rfl
      | 2, _ => rfl
      | 3, _ => rfl
      | 4, _ => rfl
      | 5, _ => rfl
      | 6, _ => rfl
      | 7, _ => rfl
  case round =>
    obtain ⟨j, q, hj, rfl, hq, hI⟩ := hrel
    by_cases hj3 : j < 3
    · have hxr : x < wr.heap.size := by have := hI.lt; omega
      have HP := Lib.hid (pick wr x lo q 3 hI.rd (by omega))
      have H0 := Lib.hid hI
      clear hI
      go_wp2_with fail
      refine HP.out.mono ?_
      rintro e1 w1 ⟨r, rfl, hr0, hr1, hrd1, hbut1⟩
      have H1 := Lib.hid (H0.out.step hx hbut1 hrd1)
      have hr : r = 0 ∨ r ≠ 0 := by omega
      clear hrd1 hbut1 hr0 hr1
      rcases hr with rfl | hr
      · have HP2 := Lib.hid (pick w1 x lo (q + 1) 8 H1.out.rd (by omega))
        go_wp2_with fail
        refine HP2.out.mono ?_
        rintro e2 w2 ⟨r2, rfl, hr0, hr1, hrd2, hbut2⟩
        have H2 := Lib.hid (H1.out.step hx hbut2 hrd2)
        obtain ⟨i, rfl⟩ := Int.eq_ofNat_of_zero_le hr0
        have hi : i < 8 := by omega
        have hi' : i < texts.length := hi
        have c0 := H2.out.tx i hi'
        rw [Nat.zero_add] at c0
        have hmem := List.getElem_mem hi'
        obtain ⟨s, hs⟩ : ∃ s, texts[i] = s := ⟨_, rfl⟩
        rw [hs] at c0 hmem
        have hok := texts_ok s hmem
        obtain ⟨⟨ok, o, n, t, k⟩, hpar⟩ : ∃ r, parR false s.data.toList = r := ⟨_, rfl⟩
        rw [hpar] at hok
        simp only at hok
        subst hok
        have hval := parR_true hpar
        have hss := texts_small s hmem
        have hpc := parseAt s hss w2
        rw [hpar] at hpc
        have HPC := Lib.hid hpc
        have HV := Lib.hid (And.intro hval.1 (show t.size + k.size ≤ 1000 by have := hval.2; simp at this; omega))
        have i1 : (i : Int) < 8 := by omega
        clear hr1 hrd2 hbut2 hmem hs hpar hval hss hpc hr0
        go_wp2_with fail
        refine HPC.out.mono ?_
        rintro e3 w3 ⟨a, cap, fs, rfl, hc, hsub, hfr, hb3⟩
        simp only at hc hsub
        have hI3 := H2.out.below hx hb3
        obtain ⟨⟨z0, z1, z2, z3⟩, ⟨y0, y1, y2, y3⟩, hz⟩ := hI3.z
        have H3 := Lib.hid (And.intro hI3 (And.intro hc (And.intro hsub (hfr.mono (show w.heap.size + 1 ≤ w2.heap.size by have := H2.out.lt; omega)))))
        clear hI3 hc hsub hfr hb3 c0
        go_wp2_with fail
        refine bodyPost_ret (v := .agg #[.int .i64 o, .int .i64 n, .string t, .slice a k.len cap]) (by simp [results, Try.results53, go_sem, z0, z1, z2, z3, y0, y1, y2, y3, hz]) rfl ?_
        obtain ⟨hI3, hc, hsub, hfr⟩ := H3.out
        refine DrawRes.alloc (end_draw (w1 := w3) (q := q + 1 + 1) hI3 hx hc HV.out.2 HV.out.1 hsub hfr (by omega) ?_) _
        repeat (first | exact Touch.refl _ _ _ | refine Touch.setCell ?_ (by simp) (by simp) _)
      · have hrb : (r == 0) = false := beq_eq_false_iff_ne.2 hr
        have hA1 : ∀ ob, Below w1.heap.size w1 (w1.alloc ob) := fun ob => (Below.refl _ _).alloc (Nat.le_refl _) _
        have HN := Lib.hid (Draw.num (w1.alloc (.cells #[.int .i64 4, .int .i64 3, .int .i64 5, .int .i64 2] 3)) x lo (q + 1) w1.heap.size 0 4 [4, 3, 5, 2] (rdBelow H1.out.rd (by have := H1.out.lt; omega) (hA1 _)) (by omega) (fun i hi => by
          rw [World.cell?_alloc_new]
          have hi' : i < 4 := hi
          match i, hi' with
          | 0, _ => rfl
          | 1, _ => rfl
          | 2, _ => rfl
          | 3, _ => rfl) (by decide) (by decide) (by decide) (by simp) (by have := H1.out.lt; omega))
        clear hr hA1
        go_wp2_with fail
        refine HN.out.mono ?_
        rintro e2 w2 ⟨r2, hmem, rfl, hrd2, hbutn⟩
        have hbut2 : But w1.heap.size x w1 w2 := ((But.refl _ _ _).alloc (Nat.le_refl _) _).trans (hbutn.mono (by simp))
        have H2 := Lib.hid (H1.out.step hx hbut2 hrd2)
        have HS := Lib.hid (someAny r2 hmem w2 x lo (q + 1 + 1) H2.out.rd (by omega) (by have := H2.out.lt; omega))
        clear hmem hrd2 hbutn hbut2
        go_wp2_with fail
        refine HS.out.mono ?_
        rintro e3 w3 ⟨v, q', rfl, ⟨o, n, t, k, a, cap, fs, rfl, hc, hbd, hsub, hfr⟩, hrd3, hq', hbut3⟩
        have H3 := Lib.hid (H2.out.step hx hbut3 hrd3)
        have hcs := F.len_le_size k
        have hls := hbd.1
        have hft : k.Fits := fits_of_size (m := 1000) (by unfold maxLen; omega) k (by omega)
        have HDV := Lib.hid (fun (W : World) (hW : Below w3.heap.size w3 W) => SpecC.docValid W o n t k a cap fs (hsub.below hfr.lt hW) (fun c hc => Nat.lt_of_lt_of_le (hfr.lt c hc) hW.size) hc (by omega) hft (by unfold maxLen; omega))
        have hct := fun (W : World) (hW : Below w3.heap.size w3 W) => SpecC.l1Count W o n t k a cap fs (hsub.below hfr.lt hW) (fun c hc => Nat.lt_of_lt_of_le (hfr.lt c hc) hW.size) hc (by omega)
        obtain ⟨z, hz⟩ : ∃ z : Int, ((1 + k.cnt : Nat) : Int) = z := ⟨_, rfl⟩
        rw [hz] at hct
        have HCT := Lib.hid hct
        clear hct hz
        have H4 := Lib.hid (And.intro hc (And.intro (show t.size + k.size ≤ 1000 by omega) (And.intro hsub (hfr.mono (show w.heap.size + 1 ≤ w2.heap.size by have := H2.out.lt; omega)))))
        have hA3 := Lib.hid (show ∀ ob, Below w3.heap.size w3 (w3.alloc ob) from fun ob => (Below.refl _ _).alloc (Nat.le_refl _) _)
        clear hc hbd hsub hfr hrd3 hbut3 hcs hls hft
        go_wp2_with fail
        refine (HDV.out _ (hA3.out _)).mono ?_
        rintro e4 w4 ⟨rfl, hb4⟩
        have hbx : ∀ i u, (#[Value.int .i64 o, .int .i64 n, .string t, .slice a k.len cap] : Array Value)[i]? = some u → w4.cell? ⟨w3.heap.size, i, none⟩ = some u := fun i u hu => (hb4.cell (p := ⟨w3.heap.size, i, none⟩) (by simp)).trans (by rw [World.cell?_alloc_new]; exact hu)
        have b0 := hbx 0 _ rfl
        have b1 := hbx 1 _ rfl
        have b2 := hbx 2 _ rfl
        have b3 := hbx 3 _ rfl
        have hb34 : Below w3.heap.size w3 w4 := (hA3.out _).trans (hb4.mono (hA3.out _).size)
        have hlt4 : w3.heap.size < w4.heap.size := by have := hb4.size; simp at this; omega
        have HB34 := Lib.hid (And.intro hb34 hlt4)
        clear hbx hb4 hb34 hlt4
        cases hvd : validD o n t k with
        | false =>
          clear hvd
          go_wp2_with fail
          go_roundw
          case rel => exact ⟨j + 1, q', by omega, by go_num, by omega, H3.out.below hx HB34.out.1⟩
          case measure => simp [intOf]; omega
        | true =>
          have HVD := Lib.hid hvd
          clear hvd
          go_wp2_with fail
          refine (HCT.out _ HB34.out.1).mono ?_
          rintro e5 w5 ⟨rfl, hb5⟩
          have hx0 := (hb5.cell (p := ⟨w3.heap.size, 0, none⟩) HB34.out.2).trans b0
          have hx1 := (hb5.cell (p := ⟨w3.heap.size, 1, none⟩) HB34.out.2).trans b1
          have hx2 := (hb5.cell (p := ⟨w3.heap.size, 2, none⟩) HB34.out.2).trans b2
          have hx3 := (hb5.cell (p := ⟨w3.heap.size, 3, none⟩) HB34.out.2).trans b3
          have hb35 : Below w3.heap.size w3 w5 := HB34.out.1.trans (hb5.mono HB34.out.1.size)
          have HB35 := Lib.hid hb35
          have hI5 := H3.out.below hx hb35
          obtain ⟨⟨z0, z1, z2, z3⟩, ⟨y0, y1, y2, y3⟩, hz⟩ := hI5.z
          have HI5 := Lib.hid hI5
          clear hI5 hb35 hb5 b0 b1 b2 b3
          by_cases hcnt : z ≤ 40
          · go_wp2_with fail
            refine bodyPost_ret (v := .agg #[.int .i64 o, .int .i64 n, .string t, .slice a k.len cap]) (by simp [results, Try.results53, go_sem, z0, z1, z2, z3, y0, y1, y2, y3, hz]) rfl ?_
            obtain ⟨hc, hsz, hsub, hfr⟩ := H4.out
            have hfr3 : Fresh (w.heap.size + 1) w3 fs := hfr
            refine end_draw (w1 := w5) (q := q') HI5.out hx hc hsz HVD.out (hsub.below hfr3.lt HB35.out) (hfr3.below hfr3.lt HB35.out) (by omega) ?_
            repeat (first | exact Touch.refl _ _ _ | refine Touch.setCell ?_ (by simp) (by simp) _)
          · clear z0 z1 z2 z3 y0 y1 y2 y3 hz hx0 hx1 hx2 hx3
            go_wp2_with fail
            go_roundw
            case rel => exact ⟨j + 1, q', by omega, by go_num, by omega, HI5.out⟩
            case measure => simp [intOf]; omega
    · have HS := Lib.hid (someTwo wr x lo q hI.rd (by omega) (by have := hI.lt; omega))
      have H0 := Lib.hid hI
      clear hI
      go_wp2_with fail
      refine HS.out.mono ?_
      rintro e3 w3 ⟨v, q', rfl, ⟨o, n, t, k, a, cap, fs, rfl, hc, hbd, hsub, hfr⟩, hrd3, hq', hbut3⟩
      have hI3 := H0.out.step hx hbut3 hrd3
      obtain ⟨⟨z0, z1, z2, z3⟩, ⟨y0, y1, y2, y3⟩, hz⟩ := hI3.z
      have HV := Lib.hid (valid_two hbd)
      have H4 := Lib.hid (And.intro hI3 (And.intro hc (And.intro (show t.size + k.size ≤ 1000 by have := hbd.1; omega) (And.intro hsub (hfr.mono (show w.heap.size + 1 ≤ wr.heap.size by have := H0.out.lt; omega))))))
      clear hI3 hc hbd hsub hfr hrd3 hbut3
      go_wp2_with fail
      refine bodyPost_ret (v := .agg #[.int .i64 o, .int .i64 n, .string t, .slice a k.len cap]) (by simp [results, Try.results53, go_sem, z0, z1, z2, z3, y0, y1, y2, y3, hz]) rfl ?_
      obtain ⟨hI3, hc, hsz, hsub, hfr⟩ := H4.out
      refine end_draw (w1 := w3) (q := q') hI3 hx hc hsz HV.out hsub hfr (by omega) ?_
      repeat (first | exact Touch.refl _ _ _ | refine Touch.setCell ?_ (by simp) (by simp) _)

end Go.Proofs.Ytjpgnhpfmdjamaa.DrD

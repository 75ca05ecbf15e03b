import Derived.Test.YtpiaiandjnpdfaaDrZ
import Derived.Test.YtpiaiandjnpdfaaChS
/-
  What the model's draws of documents with few choices come to: some document of a bounded size in memory of its own, and perhaps a number.
-/
set_option linter.unusedVariables false
set_option linter.unusedSimpArgs false
namespace Go.Proofs.Ytpiaiandjnpdfaa.DrN
open Go.RowKit P1 Draw Draw2 Draw6 Copy DrA DrB DrC CatD ParseD DrD Mut Mut2 DrI

/-- the text that is taken at last -/
def small : ByteArray := ⟨#[91, 40, 34, 97, 34, 40, 95, 91, 40, 34, 98, 34, 40, 46, 34, 99, 34, 41, 41, 93, 41, 41, 93]⟩
theorem small_ok : (parR false small.data.toList).1 = true := by decide
theorem small_size : small.size ≤ 64 := by decide

/-- what holds at the head of a round of l3Small -/
structure InvS (w wr : World) (x lo q : Nat) : Prop where
  rd : Rd wr x lo q
  but : But w.heap.size x w wr
  z : ZBox wr w.heap.size
theorem InvS.lt {w wr : World} {x lo q : Nat} (h : InvS w wr x lo q) : w.heap.size < wr.heap.size := h.z.2.2
theorem InvS.step {w wr w' : World} {x lo q q' : Nat} (h : InvS w wr x lo q) (hx : x < w.heap.size) (k : But wr.heap.size x wr w') (hr : Rd w' x lo q') : InvS w w' x lo q' := by
  obtain ⟨⟨h0, h1, h2, h3⟩, ⟨z0, z1, z2, z3⟩, hb⟩ := h.z
  refine ⟨hr, h.but.trans (k.mono (by omega)), ⟨⟨(k.cell hb (by omega)).trans h0, (k.cell hb (by omega)).trans h1, (k.cell hb (by omega)).trans h2, (k.cell hb (by omega)).trans h3⟩, ⟨(k.frozen hb (by omega)).trans z0, (k.frozen hb (by omega)).trans z1, (k.frozen hb (by omega)).trans z2, (k.frozen hb (by omega)).trans z3⟩, Nat.lt_of_lt_of_le hb k.size⟩⟩
theorem InvS.below {w wr w' : World} {x lo q : Nat} (h : InvS w wr x lo q) (hx : x < w.heap.size) (k : Below wr.heap.size wr w') : InvS w w' x lo q :=
  h.step hx (But.of_below k) (rdBelow h.rd (by have := h.lt; omega) k)
theorem end_small {w w1 w2 : World} {x lo p c q : Nat} {o n : Int} {t : ByteArray} {k : F} {a : Option Addr} {cap : Nat} {fs : List Nat} (hI : InvS w w1 x lo q) (hx : x < w.heap.size) (hc : k.len ≤ cap) (hsz : t.size + k.size ≤ 1000) (hv : validD o n t k = true) (hs : SubAt w1 a k fs) (hf : Fresh (w.heap.size + 1) w1 fs) (hq : q ≤ p + c)
    (ht : Touch w.heap.size (w.heap.size + 1) w1 w2) : DrawRes w x lo p c (.returned (.agg #[.int .i64 o, .int .i64 n, .string t, .slice a k.len cap])) w2 :=
  ⟨o, n, t, k, a, cap, fs, q, rfl, hc, hsz, hv, ht.sub hs (fun c hc => Or.inr (hf.2 c hc).1), (ht.fresh hf (fun c hc => Or.inr (hf.2 c hc).1)).mono (by omega), rdTouch hI.rd hx ht, hq, butTouch hI.but ht (Nat.le_refl _)⟩

set_option maxRecDepth 100000 in
set_option maxHeartbeats 6400000 in
theorem l3Small (w : World) (x lo p : Nat) (hrd : Rd w x lo p) (hp : p + 4000 ≤ 1073741824) (hx : x < w.heap.size) :
    Calls Try.prog 79 #[.pointer (some ⟨x, 0, none⟩)] w (DrawRes w x lo p 4000) := by
  have hA : ∀ o1, Below w.heap.size w (w.alloc o1) := fun o1 => (Below.refl _ _).alloc (Nat.le_refl _) _
  have HI0 := Lib.hid (fun o1 => rdBelow hrd hx (hA o1))
  have HA := Lib.hid hA
  clear hA hrd
  go_enter Try.func79, Try.ntmps79
  go_wp2_with fail
  go_loopw [3] (fun i wr => ∃ (j q : Nat), j ≤ 4 ∧ i = .int .i64 j ∧ q ≤ p + 1000 * j ∧ InvS w wr x lo q) (fun i _ => 4 - (intOf i).toNat)
  case atStart =>
    exact ⟨0, p, by omega, rfl, by omega, HI0.out _, But.of_below (HA.out _), ZBox.alloc w _⟩
  case round =>
    obtain ⟨j, q, hj, rfl, hq, hI⟩ := hrel
    by_cases hj4 : j < 4
    · have hxr : x < wr.heap.size := by have := hI.lt; omega
      have HP := Lib.hid (l1Draw wr x lo q hI.rd (by omega) hxr)
      have H0 := Lib.hid hI
      clear hI
      go_wp2_with fail
      refine HP.out.mono ?_
      rintro e1 w1 ⟨o, n, t, k, a, cap, fs, q', rfl, hc, hsz, hv, hsub, hfr, hrd1, hq', hbut1⟩
      have H1 := Lib.hid (H0.out.step hx hbut1 hrd1)
      have hct := fun (W : World) (hW : Below w1.heap.size w1 W) => ChS.specCount W o n t k a cap fs hv (hsub.below hfr.lt hW) (fun c hc => Nat.lt_of_lt_of_le (hfr.lt c hc) hW.size) hc (by omega)
      obtain ⟨z, hz⟩ : ∃ z : Int, ChS.mn (ChP.ctD o k) = z := ⟨_, rfl⟩
      rw [hz] at hct
      have HCT := Lib.hid hct
      have H4 := Lib.hid (And.intro hc (And.intro hsz (And.intro hv (And.intro hsub (hfr.mono (show w.heap.size + 1 ≤ wr.heap.size by have := H0.out.lt; omega))))))
      have hA1 := Lib.hid (show ∀ ob, Below w1.heap.size w1 (w1.alloc ob) from fun ob => (Below.refl _ _).alloc (Nat.le_refl _) _)
      clear hct hz hc hsz hv hsub hfr hrd1 hbut1
      go_wp2_with fail
      refine (HCT.out _ (hA1.out _)).mono ?_
      rintro e5 w5 ⟨rfl, hb5⟩
      have hbx : ∀ i u, (#[Value.int .i64 o, .int .i64 n, .string t, .slice a k.len cap] : Array Value)[i]? = some u → w5.cell? ⟨w1.heap.size, i, none⟩ = some u := fun i u hu => (hb5.cell (p := ⟨w1.heap.size, i, none⟩) (by simp)).trans (by rw [World.cell?_alloc_new]; exact hu)
      have b0 := hbx 0 _ rfl
      have b1 := hbx 1 _ rfl
      have b2 := hbx 2 _ rfl
      have b3 := hbx 3 _ rfl
      have hb15 : Below w1.heap.size w1 w5 := (hA1.out _).trans (hb5.mono (hA1.out _).size)
      have HB15 := Lib.hid hb15
      have hI5 := H1.out.below hx hb15
      obtain ⟨⟨z0, z1, z2, z3⟩, ⟨y0, y1, y2, y3⟩, hz⟩ := hI5.z
      have HI5 := Lib.hid hI5
      clear hI5 hb15 hb5 hbx
      by_cases hcnt : z ≤ 60
      · go_wp2_with fail
        refine bodyPost_ret (v := .agg #[.int .i64 o, .int .i64 n, .string t, .slice a k.len cap]) (by simp [results, Try.results79, go_sem, z0, z1, z2, z3, y0, y1, y2, y3, hz]) rfl ?_
        obtain ⟨hc, hsz, hv, hsub, hfr⟩ := H4.out
        refine end_small (w1 := w5) (q := q') HI5.out hx hc hsz hv (hsub.below hfr.lt HB15.out) (hfr.below hfr.lt HB15.out) (by omega) ?_
        repeat (first | exact Touch.refl _ _ _ | refine Touch.setCell ?_ (by simp) (by simp) _)
      · clear z0 z1 z2 z3 y0 y1 y2 y3 hz b0 b1 b2 b3
        go_wp2_with fail
        go_roundw
        case rel => exact ⟨j + 1, q', by omega, by go_num, by omega, HI5.out⟩
        case measure => simp [intOf]; omega
    · obtain ⟨⟨ok, o, n, t, k⟩, hpar⟩ : ∃ r, parR false small.data.toList = r := ⟨_, rfl⟩
      have hok := small_ok
      rw [hpar] at hok
      simp only at hok
      subst hok
      have hval := parR_true hpar
      have hpc := parseAt small small_size wr
      rw [hpar] at hpc
      have HPC := Lib.hid (show Calls Try.prog 106 #[.string ⟨#[91, 40, 34, 97, 34, 40, 95, 91, 40, 34, 98, 34, 40, 46, 34, 99, 34, 41, 41, 93, 41, 41, 93]⟩] wr _ from hpc)
      have HV := Lib.hid (And.intro hval.1 (show t.size + k.size ≤ 1000 by have h2 := hval.2; have e : small.data.toList.length = 23 := rfl; rw [e] at h2; omega))
      have H0 := Lib.hid hI
      clear hI hpar hval hpc
      go_wp2_with fail
      refine HPC.out.mono ?_
      rintro e3 w3 ⟨a, cap, fs, rfl, hc, hsub, hfr, hb3⟩
      simp only at hc hsub
      have hI3 := H0.out.below hx hb3
      obtain ⟨⟨z0, z1, z2, z3⟩, ⟨y0, y1, y2, y3⟩, hz⟩ := hI3.z
      have H3 := Lib.hid (And.intro hI3 (And.intro hc (And.intro hsub (hfr.mono (show w.heap.size + 1 ≤ wr.heap.size by have := H0.out.lt; omega)))))
      clear hI3 hc hsub hfr hb3
      go_wp2_with fail
      refine bodyPost_ret (v := .agg #[.int .i64 o, .int .i64 n, .string t, .slice a k.len cap]) (by simp [results, Try.results79, go_sem, z0, z1, z2, z3, y0, y1, y2, y3, hz]) rfl ?_
      obtain ⟨hI3, hc, hsub, hfr⟩ := H3.out
      refine DrawRes.alloc (end_small (w1 := w3) (q := q) hI3 hx hc HV.out.2 HV.out.1 hsub hfr (by omega) ?_) _
      repeat (first | exact Touch.refl _ _ _ | refine Touch.setCell ?_ (by simp) (by simp) _)

set_option maxRecDepth 100000 in
set_option maxHeartbeats 3200000 in
theorem l3Case (w : World) (a : Option Addr) (len cap : Nat) (hb : Bytes w a len) (hlc : len ≤ cap) (hcm : cap ≤ maxLen) :
    Calls Try.prog 48 #[.slice a len cap] w (DocDraw w) := by
  have HO := Lib.hid (fun ob => l15Open (w.alloc ob) a len cap (LawC.bytes_below hb ((Below.refl _ _).alloc (Nat.le_refl _) ob)) hlc hcm)
  clear hb hlc hcm
  go_enter Try.func48, Try.ntmps48
  go_wp2_with fail
  refine (HO.out _).mono ?_
  rintro e1 w1 ⟨rfl, hrd1, hlt1, hb1⟩
  have hth1 := four_new hb1
  simp only [World.size_alloc] at hrd1 hlt1
  have HP := Lib.hid (pick w1 (w.heap.size + 1) _ 0 16 hrd1 (by omega))
  have H1 := Lib.hid (And.intro hlt1 (And.intro (opened' hb1) hth1))
  clear hrd1 hlt1 hb1 hth1
  go_wp2_with fail
  refine HP.out.mono ?_
  rintro e2 w2 ⟨r, rfl, hr0, hr1, hrd2, hbutp⟩
  have hx2 : w.heap.size + 1 < w2.heap.size := Nat.lt_of_lt_of_le H1.out.1 hbutp.size
  have HRD := Lib.hid hrd2
  have H2 := Lib.hid (And.intro hx2 hbutp)
  have hr : r = 0 ∨ r = 1 ∨ (r ≠ 0 ∧ r ≠ 1) := by omega
  clear hrd2 hbutp hx2 hr0 hr1
  rcases hr with rfl | rfl | ⟨hr0, hr1⟩
  · have HD := Lib.hid (l1Draw w2 (w.heap.size + 1) _ _ HRD.out (by omega) H2.out.1)
    go_wp2_with fail
    refine HD.out.mono ?_
    rintro e2 w3 ⟨o1, n1, t1, k1, a1, c1, f1, q1, rfl, hc1, hs1, hv1, hsub1, hfr1, hrd3, hq1, hbut3⟩
    have hx3 : w.heap.size + 1 < w3.heap.size := Nat.lt_of_lt_of_le H2.out.1 hbut3.size
    have HM := Lib.hid (l1Mutate w3 (w.heap.size + 1) _ q1 1000 o1 n1 t1 k1 a1 c1 f1 hsub1 hfr1.lt hc1 hs1 (by omega) hrd3 (by omega) hx3)
    have H3 := Lib.hid (And.intro hx3 hbut3)
    clear hc1 hs1 hv1 hsub1 hfr1 hrd3 hbut3 hx3
    go_wp2_with fail
    refine HM.out.mono ?_
    rintro e3 w4 ⟨o2, n2, t2, k2, a2, c2, f2, q2, rfl, hc2, hs2, hsub2, hfr2, hrd4, hq2, hbut4⟩
    have hx4 : w.heap.size + 1 < w4.heap.size := Nat.lt_of_lt_of_le H3.out.1 hbut4.size
    have HM4 := Lib.hid (l1Mutate w4 (w.heap.size + 1) _ q2 1020 o2 n2 t2 k2 a2 c2 f2 hsub2 hfr2.lt hc2 hs2 (by omega) hrd4 (by omega) hx4)
    have H4 := Lib.hid (And.intro hx4 hbut4)
    clear hc2 hs2 hsub2 hfr2 hrd4 hbut4 hx4
    go_wp2_with fail
    refine HM4.out.mono ?_
    rintro e4 w5 ⟨o3, n3, t3, k3, a3, c3, f3, q3, rfl, hc3, hs3, hsub3, hfr3, hrd5, hq3, hbut5⟩
    have hth5 : w5.there w.heap.size 0 4 := there_but (there_but (there_but (there_but H1.out.2.2 H2.out.2 (by have := H1.out.1; omega) (by omega)) H3.out.2 (by have := H2.out.1; omega) (by omega)) H4.out.2 (by have := H3.out.1; omega) (by omega)) hbut5 (by have := H4.out.1; omega) (by omega)
    have hl5 : w.heap.size < w5.heap.size := by have := H4.out.1; have := hbut5.size; omega
    obtain ⟨⟨u0, u1, u2, u3, y0, y1, y2, y3⟩, z0, z1, z2, z3⟩ := there_at hth5
    have H5 := Lib.hid (And.intro hc3 (And.intro hs3 (And.intro hsub3 (And.intro hfr3 hbut5))))
    clear hc3 hs3 hsub3 hfr3 hrd5 hbut5 hth5
    go_wp2_with fail
    refine bodyPost_ret (v := .agg #[.int .i64 o3, .int .i64 n3, .string t3, .slice a3 k3.len c3]) (by simp [results, Try.results48, go_sem, y0, y1, y2, y3, hl5]) rfl ?_
    have htt : Touch w.heap.size (w.heap.size + 1) w5 ((((w5.setCell ⟨w.heap.size, 0, none⟩ (.int .i64 o3)).setCell ⟨w.heap.size, 1, none⟩ (.int .i64 n3)).setCell ⟨w.heap.size, 2, none⟩ (.string t3)).setCell ⟨w.heap.size, 3, none⟩ (.slice a3 k3.len c3)) := by
      refine Touch.setCell (Touch.setCell (Touch.setCell (Touch.setCell (Touch.refl _ _ _) ?_ ?_ _) ?_ ?_ _) ?_ ?_ _) ?_ ?_ _ <;> simp
    obtain ⟨hc3, hs3, hsub3, hfr3, hbut5⟩ := H5.out
    have g1 := H1.out.1
    have g2 := H1.out.2.1.size
    have g3 := H2.out.2.size
    have g4 := H3.out.2.size
    have g5 := H4.out.2.size
    have hfo : ∀ c ∈ f3, c < w.heap.size ∨ w.heap.size + 1 ≤ c := fun c hc => by have := (hfr3.2 c hc).1; omega
    have hB5 : Below w.heap.size w w5 := (((H1.out.2.1.trans (H2.out.2.below (by omega) (by omega))).trans (H3.out.2.below (by omega) (by omega))).trans (H4.out.2.below (by omega) (by omega))).trans (hbut5.below (by omega) (by omega))
    exact ⟨o3, n3, t3, k3, a3, c3, f3, rfl, hc3, hs3, htt.sub hsub3 hfo, (htt.fresh hfr3 hfo).mono (by omega), htt.below hB5 (Nat.le_refl _)⟩
  · have HD := Lib.hid (l1Draw w2 (w.heap.size + 1) _ _ HRD.out (by omega) H2.out.1)
    go_wp2_with fail
    refine HD.out.mono ?_
    rintro e2 w5 ⟨o3, n3, t3, k3, a3, c3, f3, q3, rfl, hc3, hs3, hv3, hsub3, hfr3, hrd5, hq3, hbut5⟩
    have hth5 : w5.there w.heap.size 0 4 := there_but (there_but H1.out.2.2 H2.out.2 (by have := H1.out.1; omega) (by omega)) hbut5 (by have := H2.out.1; omega) (by omega)
    have hl5 : w.heap.size < w5.heap.size := by have := H2.out.1; have := hbut5.size; omega
    obtain ⟨⟨u0, u1, u2, u3, y0, y1, y2, y3⟩, z0, z1, z2, z3⟩ := there_at hth5
    have H5 := Lib.hid (And.intro hc3 (And.intro hs3 (And.intro hsub3 (And.intro hfr3 hbut5))))
    clear hc3 hs3 hsub3 hfr3 hrd5 hbut5 hth5 hv3
    go_wp2_with fail
    refine bodyPost_ret (v := .agg #[.int .i64 o3, .int .i64 n3, .string t3, .slice a3 k3.len c3]) (by simp [results, Try.results48, go_sem, y0, y1, y2, y3, hl5]) rfl ?_
    have htt : Touch w.heap.size (w.heap.size + 1) w5 ((((w5.setCell ⟨w.heap.size, 0, none⟩ (.int .i64 o3)).setCell ⟨w.heap.size, 1, none⟩ (.int .i64 n3)).setCell ⟨w.heap.size, 2, none⟩ (.string t3)).setCell ⟨w.heap.size, 3, none⟩ (.slice a3 k3.len c3)) := by
      refine Touch.setCell (Touch.setCell (Touch.setCell (Touch.setCell (Touch.refl _ _ _) ?_ ?_ _) ?_ ?_ _) ?_ ?_ _) ?_ ?_ _ <;> simp
    obtain ⟨hc3, hs3, hsub3, hfr3, hbut5⟩ := H5.out
    have g1 := H1.out.1
    have g2 := H1.out.2.1.size
    have g3 := H2.out.2.size
    have hfo : ∀ c ∈ f3, c < w.heap.size ∨ w.heap.size + 1 ≤ c := fun c hc => by have := (hfr3.2 c hc).1; omega
    have hB5 : Below w.heap.size w w5 := (H1.out.2.1.trans (H2.out.2.below (by omega) (by omega))).trans (hbut5.below (by omega) (by omega))
    exact ⟨o3, n3, t3, k3, a3, c3, f3, rfl, hc3, by omega, htt.sub hsub3 hfo, (htt.fresh hfr3 hfo).mono (by omega), htt.below hB5 (Nat.le_refl _)⟩
  · have hrb0 : (r == 0) = false := beq_eq_false_iff_ne.2 hr0
    have hrb1 : (r == 1) = false := beq_eq_false_iff_ne.2 hr1
    have HD := Lib.hid (l3Small w2 (w.heap.size + 1) _ _ HRD.out (by omega) H2.out.1)
    go_wp2_with fail
    refine HD.out.mono ?_
    rintro e2 w5 ⟨o3, n3, t3, k3, a3, c3, f3, q3, rfl, hc3, hs3, hv3, hsub3, hfr3, hrd5, hq3, hbut5⟩
    have hth5 : w5.there w.heap.size 0 4 := there_but (there_but H1.out.2.2 H2.out.2 (by have := H1.out.1; omega) (by omega)) hbut5 (by have := H2.out.1; omega) (by omega)
    have hl5 : w.heap.size < w5.heap.size := by have := H2.out.1; have := hbut5.size; omega
    obtain ⟨⟨u0, u1, u2, u3, y0, y1, y2, y3⟩, z0, z1, z2, z3⟩ := there_at hth5
    have H5 := Lib.hid (And.intro hc3 (And.intro hs3 (And.intro hsub3 (And.intro hfr3 hbut5))))
    clear hc3 hs3 hsub3 hfr3 hrd5 hbut5 hth5 hv3
    go_wp2_with fail
    refine bodyPost_ret (v := .agg #[.int .i64 o3, .int .i64 n3, .string t3, .slice a3 k3.len c3]) (by simp [results, Try.results48, go_sem, y0, y1, y2, y3, hl5]) rfl ?_
    have htt : Touch w.heap.size (w.heap.size + 1) w5 ((((w5.setCell ⟨w.heap.size, 0, none⟩ (.int .i64 o3)).setCell ⟨w.heap.size, 1, none⟩ (.int .i64 n3)).setCell ⟨w.heap.size, 2, none⟩ (.string t3)).setCell ⟨w.heap.size, 3, none⟩ (.slice a3 k3.len c3)) := by
      refine Touch.setCell (Touch.setCell (Touch.setCell (Touch.setCell (Touch.refl _ _ _) ?_ ?_ _) ?_ ?_ _) ?_ ?_ _) ?_ ?_ _ <;> simp
    obtain ⟨hc3, hs3, hsub3, hfr3, hbut5⟩ := H5.out
    have g1 := H1.out.1
    have g2 := H1.out.2.1.size
    have g3 := H2.out.2.size
    have hfo : ∀ c ∈ f3, c < w.heap.size ∨ w.heap.size + 1 ≤ c := fun c hc => by have := (hfr3.2 c hc).1; omega
    have hB5 : Below w.heap.size w w5 := (H1.out.2.1.trans (H2.out.2.below (by omega) (by omega))).trans (hbut5.below (by omega) (by omega))
    exact ⟨o3, n3, t3, k3, a3, c3, f3, rfl, hc3, by omega, htt.sub hsub3 hfo, (htt.fresh hfr3 hfo).mono (by omega), htt.below hB5 (Nat.le_refl _)⟩

/-- the numbers that DrawChoiceOf draws from -/
def nums : List Int := [0, 1, 2, 3, 5, -1, 100000]
theorem nums_ok : ∀ r ∈ nums, -1 ≤ r ∧ r ≤ 100000 := by decide
/-- some document, and a number -/
def ChDraw (w : World) (e : Ending) (w' : World) : Prop := ∃ (o n : Int) (t : ByteArray) (k : F) (a : Option Addr) (cap : Nat) (fs : List Nat) (op : Int), e = .returned (.tuple #[.agg #[.int .i64 o, .int .i64 n, .string t, .slice a k.len cap], .int .i64 op]) ∧ (-1 ≤ op ∧ op ≤ 100000) ∧ k.len ≤ cap ∧ t.size + k.size ≤ 1040 ∧ SubAt w' a k fs ∧ Fresh w.heap.size w' fs ∧ Below w.heap.size w w'

/-- four cells, behind stores to another variable -/
theorem keep4 {W : World} {b c : Nat} {u0 u1 u2 u3 v0 v1 v2 v3 : Value} (h : W.cell? ⟨b, 0, none⟩ = some u0 ∧ W.cell? ⟨b, 1, none⟩ = some u1 ∧ W.cell? ⟨b, 2, none⟩ = some u2 ∧ W.cell? ⟨b, 3, none⟩ = some u3) (hne : ¬ (c = b)) :
    ((((W.setCell ⟨c, 0, none⟩ v0).setCell ⟨c, 1, none⟩ v1).setCell ⟨c, 2, none⟩ v2).setCell ⟨c, 3, none⟩ v3).cell? ⟨b, 0, none⟩ = some u0 ∧ ((((W.setCell ⟨c, 0, none⟩ v0).setCell ⟨c, 1, none⟩ v1).setCell ⟨c, 2, none⟩ v2).setCell ⟨c, 3, none⟩ v3).cell? ⟨b, 1, none⟩ = some u1 ∧ ((((W.setCell ⟨c, 0, none⟩ v0).setCell ⟨c, 1, none⟩ v1).setCell ⟨c, 2, none⟩ v2).setCell ⟨c, 3, none⟩ v3).cell? ⟨b, 2, none⟩ = some u2 ∧ ((((W.setCell ⟨c, 0, none⟩ v0).setCell ⟨c, 1, none⟩ v1).setCell ⟨c, 2, none⟩ v2).setCell ⟨c, 3, none⟩ v3).cell? ⟨b, 3, none⟩ = some u3 := by
  have q : ∀ i, ((((W.setCell ⟨c, 0, none⟩ v0).setCell ⟨c, 1, none⟩ v1).setCell ⟨c, 2, none⟩ v2).setCell ⟨c, 3, none⟩ v3).cell? ⟨b, i, none⟩ = W.cell? ⟨b, i, none⟩ := by
    intro i
    rw [World.cell?_setCell_other _ _ _ _ (by intro e; exact hne (congrArg Addr.block e)), World.cell?_setCell_other _ _ _ _ (by intro e; exact hne (congrArg Addr.block e)), World.cell?_setCell_other _ _ _ _ (by intro e; exact hne (congrArg Addr.block e)), World.cell?_setCell_other _ _ _ _ (by intro e; exact hne (congrArg Addr.block e))]
  exact ⟨(q 0).trans h.1, (q 1).trans h.2.1, (q 2).trans h.2.2.1, (q 3).trans h.2.2.2⟩

/-- a number is drawn, and nothing below the reader is changed -/
def NumPost (B : Nat) (w : World) (e : Ending) (w' : World) : Prop := ∃ op : Int, (-1 ≤ op ∧ op ≤ 100000) ∧ e = .returned (.int .i64 op) ∧ Below B w w' ∧ ∀ c o, c < B → w'.cell? ⟨c, o, none⟩ = w.cell? ⟨c, o, none⟩

theorem numA (w3 : World) (x : Nat) (h : Rd w3 x x 0) (hl : x < w3.heap.size) : Calls Try.prog 99 #[.pointer (some ⟨x, 0, none⟩), .slice (some ⟨w3.heap.size, 0, none⟩) 7 7] (w3.alloc (.cells #[.int .i64 0, .int .i64 1, .int .i64 2, .int .i64 3, .int .i64 5, .int .i64 (-1), .int .i64 100000] 3)) (NumPost x (w3.alloc (.cells #[.int .i64 0, .int .i64 1, .int .i64 2, .int .i64 3, .int .i64 5, .int .i64 (-1), .int .i64 100000] 3))) := by
  refine (Draw.num (w3.alloc (.cells #[.int .i64 0, .int .i64 1, .int .i64 2, .int .i64 3, .int .i64 5, .int .i64 (-1), .int .i64 100000] 3)) x x 0 w3.heap.size 0 7 nums (rdBelow h hl ((Below.refl _ _).alloc (Nat.le_refl _) _)) (by omega) (fun j hj => by
      rw [World.cell?_alloc_new]
      have hj' : j < 7 := hj
      match j, hj' with
      | 0, _ => rfl
      | 1, _ => rfl
      | 2, _ => rfl
      | 3, _ => rfl
      | 4, _ => rfl
      | 5, _ => rfl
      | 6, _ => rfl) (by decide) (by decide) (by decide) (by simp) (by omega)).mono ?_
  rintro e4 w4 ⟨op, hmem, rfl, hrd4, hbutn⟩
  have hb := hbutn.below (C := x) (by simp; omega) (Nat.le_refl _)
  exact ⟨op, nums_ok op hmem, rfl, hb, fun c o hc => hb.cell (p := ⟨c, o, none⟩) hc⟩
theorem numB (V w3 : World) (h : Rd w3 (V.heap.size + 1) (V.heap.size + 1) 0) (hl : V.heap.size + 1 < w3.heap.size) (hb : Below (V.heap.size + 1) (V.alloc (.cells #[.int .i64 0, .int .i64 1, .int .i64 2, .int .i64 3, .int .i64 5, .int .i64 (-1), .int .i64 100000] 3)) w3) : Calls Try.prog 99 #[.pointer (some ⟨V.heap.size + 1, 0, none⟩), .slice (some ⟨V.heap.size, 0, none⟩) 7 7] w3 (NumPost (V.heap.size + 1) w3) := by
  refine (Draw.num w3 (V.heap.size + 1) (V.heap.size + 1) 0 V.heap.size 0 7 nums h (by omega) (fun j hj => by
      rw [hb.cell (p := ⟨V.heap.size, _, none⟩) (by simp), World.cell?_alloc_new]
      have hj' : j < 7 := hj
      match j, hj' with
      | 0, _ => rfl
      | 1, _ => rfl
      | 2, _ => rfl
      | 3, _ => rfl
      | 4, _ => rfl
      | 5, _ => rfl
      | 6, _ => rfl) (by decide) (by decide) (by decide) (by omega) (by omega)).mono ?_
  rintro e4 w4 ⟨op, hmem, rfl, hrd4, hbutn⟩
  have hb := hbutn.below (C := V.heap.size + 1) (by omega) (Nat.le_refl _)
  exact ⟨op, nums_ok op hmem, rfl, hb, fun c o hc => hb.cell (p := ⟨c, o, none⟩) hc⟩

end Go.Proofs.Ytpiaiandjnpdfaa.DrN


import Derived.Test.YtafhefmjnjibdaaNfC
import Derived.Test.YtafhefmjnjibdaaDrY
import Derived.Test.YtafhefmjnjibdaaSpV
/-
  What impl.changed comes to, whatever passes it is given: each one of the result before, if the document and the last result are valid.
-/
set_option linter.unusedVariables false
set_option linter.unusedSimpArgs false
namespace Go.Proofs.Ytafhefmjnjibdaa.Nf
open Go.RowKit P1 Copy CatD

def aggD (d : D) (a : Option Addr) (cap : Nat) : Value := .agg #[.int .i64 d.1, .int .i64 d.2.1, .string d.2.2.1, .slice a d.2.2.2.len cap]

/-- a pass: a function that makes of d in any world the new document d' -/
def PassAt (g : Nat) (d d' : D) : Prop := (∀ (args : Array Value) (W : World), (callFunc g args).run Try.prog W = .ok (.enter g args) W) ∧
  ∀ (W : World) (a : Option Addr) (cap : Nat) (fs : List Nat), SubAt W a d.2.2.2 fs → (∀ c ∈ fs, c < W.heap.size ∧ ∀ o, W.frozen? ⟨c, o, none⟩ = false) → d.2.2.2.len ≤ cap → Calls Try.prog g (#[aggD d a cap] ++ #[]) W (NewD W d')

/-- passes one behind the other, each with what it makes -/
def Chain : List (Nat × D) → D → Prop
  | [], _ => True
  | (g, d') :: r, d => PassAt g d d' ∧ Chain r d'
def lastD : List (Nat × D) → D → D
  | [], d => d
  | (_, d') :: r, _ => lastD r d'

/-- what changed answers, given the last result -/
def chR (d d' : D) : Bool × D := if validD d.1 d.2.1 d.2.2.1 d.2.2.2 then (if validD d'.1 d'.2.1 d'.2.2.1 d'.2.2.2 then (true, d') else (false, zeroD)) else (false, zeroD)

/-- what stands at the head of a round of changed: the variable's document -/
structure ChAt (w : World) (B lo : Nat) (d : D) (wr : World) : Prop where
  bel : Below w.heap.size w wr
  out : ZBox wr (w.heap.size + 1)
  hB : w.heap.size + 2 ≤ lo
  hlo : lo ≤ B
  at_ : ∃ (a : Option Addr) (cap : Nat) (fs : List Nat), DocAt wr B d.1 d.2.1 d.2.2.1 d.2.2.2 a cap fs ∧ Fresh lo wr fs ∧ B ∉ fs
  froz : ∀ j, wr.frozen? ⟨B, j, none⟩ = false

theorem end_doc {w w3 w4 : World} {d : D} {lo hi B : Nat} {a : Option Addr} {cap : Nat} {fs : List Nat} (hc : d.2.2.2.len ≤ cap) (hs : SubAt w3 a d.2.2.2 fs) (hF : Fresh B w3 fs) (hB : hi ≤ B) (hlh : lo ≤ hi) (hlo : w.heap.size ≤ lo) (hb : Below w.heap.size w w3) (ht : Touch lo hi w3 w4) :
    DocRes w (true, d) (.returned (.tuple #[aggD d a cap, .bool true])) w4 :=
  ⟨a, cap, fs, rfl, hc, ht.sub hs (fun c hc => Or.inr (by have := (hF.2 c hc).1; omega)), (ht.fresh hF (fun c hc => Or.inr (by have := (hF.2 c hc).1; omega))).mono (by omega), ht.below hb hlo⟩
theorem end_no {w w3 w4 : World} {lo hi : Nat} (hlo : w.heap.size ≤ lo) (hb : Below w.heap.size w w3) (ht : Touch lo hi w3 w4) :
    DocRes w (false, zeroD) (.returned (.tuple #[.agg #[.int .i64 0, .int .i64 0, .string ⟨#[]⟩, .slice none 0 0], .bool false])) w4 :=
  ⟨none, 0, [], rfl, by simp [zeroD, F.len], Or.inl ⟨rfl, rfl⟩, Fresh.nil w.heap.size w4, ht.below hb hlo⟩

theorem zbox_second (w : World) (x : Obj) (T : TypeId) : ZBox ((w.alloc x).alloc (.cells #[.int .i64 0, .int .i64 0, .string ⟨#[]⟩, .slice none 0 0] T)) (w.heap.size + 1) := by
  have e : (w.alloc x).heap.size = w.heap.size + 1 := by simp
  rw [← e]; exact ZBox.alloc _ _

theorem ChAt.put {w wr w3 : World} {B lo : Nat} {d d' : D} (h : ChAt w B lo d wr) (k : Below wr.heap.size wr w3) {a : Option Addr} {cap : Nat} {fs : List Nat} (hs : SubAt w3 a d'.2.2.2 fs) (hF : Fresh wr.heap.size w3 fs) (hc : d'.2.2.2.len ≤ cap) :
    ChAt w B lo d' ((((w3.setCell ⟨B, 0, none⟩ (.int .i64 d'.1)).setCell ⟨B, 1, none⟩ (.int .i64 d'.2.1)).setCell ⟨B, 2, none⟩ (.string d'.2.2.1)).setCell ⟨B, 3, none⟩ (.slice a d'.2.2.2.len cap)) := by
  obtain ⟨h1, h2, h3, h4, ⟨a0, c0, f0, h5, h6, h7⟩, h8⟩ := h
  have hBl : B < wr.heap.size := h5.blt
  have hB3 : B < w3.heap.size := Nat.lt_of_lt_of_le hBl k.size
  have hn : B ∉ fs := fun hm => by have := (hF.2 B hm).1; omega
  have hw : w.heap.size ≤ wr.heap.size := h1.size
  obtain ⟨b0, b1, b2, b3⟩ := h5.box
  have q0 := (k.cell (p := ⟨B, 0, none⟩) hBl).trans b0
  have q1 := (k.cell (p := ⟨B, 1, none⟩) hBl).trans b1
  have q2 := (k.cell (p := ⟨B, 2, none⟩) hBl).trans b2
  have q3 := (k.cell (p := ⟨B, 3, none⟩) hBl).trans b3
  have hb3 : Below w.heap.size w w3 := h1.trans (k.mono hw)
  have hT : Touch B (B + 1) w3 ((((w3.setCell ⟨B, 0, none⟩ (.int .i64 d'.1)).setCell ⟨B, 1, none⟩ (.int .i64 d'.2.1)).setCell ⟨B, 2, none⟩ (.string d'.2.2.1)).setCell ⟨B, 3, none⟩ (.slice a d'.2.2.2.len cap)) := by
    refine Touch.setCell (Touch.setCell (Touch.setCell (Touch.setCell (Touch.refl _ _ _) ?_ ?_ _) ?_ ?_ _) ?_ ?_ _) ?_ ?_ _ <;> simp
  refine ⟨hT.below hb3 (by omega), ?_, h3, h4, ⟨a, cap, fs, DocAt.stored hs hF.lt hc hn hB3 q0 q1 q2 q3, ?_, hn⟩, fun j => ?_⟩
  · have hz := zbox_below h2 k (by have := h2.2.2; omega)
    have hk : Below (w.heap.size + 2) w3 ((((w3.setCell ⟨B, 0, none⟩ (.int .i64 d'.1)).setCell ⟨B, 1, none⟩ (.int .i64 d'.2.1)).setCell ⟨B, 2, none⟩ (.string d'.2.2.1)).setCell ⟨B, 3, none⟩ (.slice a d'.2.2.2.len cap)) := hT.below (Below.refl _ _) (by omega)
    exact zbox_below hz hk (by omega)
  · exact (hT.fresh hF (fun c hc => Or.inr (by have := (hF.2 c hc).1; omega))).mono (by omega)
  · simp only [World.frozen?_setCell]
    rw [k.frozen (p := ⟨B, j, none⟩) hBl]; exact h8 j

theorem box4 {w w' : World} {b : Nat} {u0 u1 u2 u3 : Value} (h : w.cell? ⟨b, 0, none⟩ = some u0 ∧ w.cell? ⟨b, 1, none⟩ = some u1 ∧ w.cell? ⟨b, 2, none⟩ = some u2 ∧ w.cell? ⟨b, 3, none⟩ = some u3) (hb : b < w.heap.size) (k : Below w.heap.size w w') :
    w'.cell? ⟨b, 0, none⟩ = some u0 ∧ w'.cell? ⟨b, 1, none⟩ = some u1 ∧ w'.cell? ⟨b, 2, none⟩ = some u2 ∧ w'.cell? ⟨b, 3, none⟩ = some u3 :=
  ⟨(k.cell (p := ⟨_, _, _⟩) hb).trans h.1, (k.cell (p := ⟨_, _, _⟩) hb).trans h.2.1, (k.cell (p := ⟨_, _, _⟩) hb).trans h.2.2.1, (k.cell (p := ⟨_, _, _⟩) hb).trans h.2.2.2⟩

theorem drop_cons {α : Type} {l : List α} {j : Nat} (h : j < l.length) : l.drop j = l[j] :: l.drop (j + 1) := List.drop_eq_getElem_cons h

set_option maxRecDepth 100000 in
set_option maxHeartbeats 3200000 in
theorem changed (w : World) (o n : Int) (t : ByteArray) (k : F) (a : Option Addr) (cap : Nat) (fs : List Nat) (hs : SubAt w a k fs) (hfs : ∀ c ∈ fs, c < w.heap.size) (hc : k.len ≤ cap) (hle : t.size + k.size ≤ 1048576)
    (ps : List (Nat × D)) (bp cp : Nat) (hbp : bp < w.heap.size) (hrow : ∀ (j : Nat) (hj : j < ps.length), w.cell? ⟨bp, j, none⟩ = some (.func (.func (ps[j]'hj).1) #[] #[])) (hcp : ps.length ≤ cp) (hpl : ps.length ≤ 1000)
    (hch : validD o n t k = true → Chain ps (o, n, t, k)) (hfit : validD o n t k = true → (lastD ps (o, n, t, k)).2.2.2.size ≤ 1048576 ∧ (lastD ps (o, n, t, k)).2.2.1.size ≤ 1048576) :
    Calls Try.prog 55 #[.agg #[.int .i64 o, .int .i64 n, .string t, .slice a k.len cap], .slice (some ⟨bp, 0, none⟩) ps.length cp] w (DocRes w (chR (o, n, t, k) (lastD ps (o, n, t, k)))) := by
  have hl := F.len_le_size k
  have hft : k.Fits := fits_of_size (m := 1048576) (by unfold maxLen; omega) k (by omega)
  have hval := fun (W : World) (e : Ext w W) => PartV.docValid W o n t k a cap fs (e.sub hs hfs) (fun c hc => Nat.lt_of_lt_of_le (hfs c hc) e.size) hc (by unfold maxLen; omega) hft (by unfold maxLen; omega)
  have hcpy := fun (W : World) (e : Ext w W) => Copy.copyDoc W o n t k a cap fs (e.sub hs hfs) (fun c hc => Nat.lt_of_lt_of_le (hfs c hc) e.size) hc (by omega) (by omega)
  obtain ⟨L, hL⟩ : ∃ L, k.len = L := ⟨_, rfl⟩
  have HL := Lib.hid hL
  obtain ⟨N, hN⟩ : ∃ N, ps.length = N := ⟨_, rfl⟩
  rw [hL] at hval
  rw [hN] at hcp hpl ⊢
  have HN := Lib.hid hN
  obtain ⟨R, hRR⟩ : ∃ R, chR (o, n, t, k) (lastD ps (o, n, t, k)) = R := ⟨_, rfl⟩
  rw [hRR]
  have HV := Lib.hid hval
  have HC := Lib.hid hcpy
  have HE := Lib.hid (show ∀ x y, Ext w ((w.alloc x).alloc y) from fun x y => ((Ext.refl w).alloc x).alloc y)
  have HZ := Lib.hid (fun x => zbox_second w x 25)
  have HROW := Lib.hid hrow
  clear hval hs hfs hc hft hl hrow
  rw [hL] at HC ⊢
  clear hL
  cases hv : validD o n t k with
  | false =>
    have HVV := Lib.hid hv
    have hR : R = (false, zeroD) := by rw [← hRR]; unfold chR; rw [hv]; rfl
    rw [hR]
    clear hch hfit hN hv hcpy hR hRR
    go_enter Try.func55, Try.ntmps55
    go_wp2_with fail
    refine (HV.out _ (HE.out _ _)).mono ?_
    rw [HVV.out]
    rintro e1 w1 ⟨rfl, hb⟩
    have E1 := Lib.hid (Ext.trans (HE.out _ _) hb)
    obtain ⟨⟨z0, z1, z2, z3⟩, ⟨z4, z5, z6, z7⟩, z8⟩ := (HZ.out _).ext hb
    clear hb
    go_wp2_with fail
    refine bodyPost_ret (v := .tuple #[.agg #[.int .i64 0, .int .i64 0, .string ⟨#[]⟩, .slice none 0 0], .bool false]) (by simp [results, Try.results55, go_sem, z0, z1, z2, z3, z4, z5, z6, z7, z8]) rfl ?_
    refine end_no (lo := w.heap.size + 1) (hi := w.heap.size + 2) (by omega) E1.out ?_
    repeat (first | exact Touch.refl _ _ _ | refine Touch.setCell ?_ (by simp) (by simp) _)
  | true =>
    have HVV := Lib.hid hv
    have HCH := Lib.hid (hch hv)
    have HFIT := Lib.hid (hfit hv)
    clear hch hfit hN hcpy
    obtain ⟨d9, hd9⟩ : ∃ d : D, lastD ps (o, n, t, k) = d := ⟨_, rfl⟩
    rw [hd9] at HFIT hRR
    have HLAST := Lib.hid hd9
    have HR := Lib.hid (show R = (if validD d9.1 d9.2.1 d9.2.2.1 d9.2.2.2 then (true, d9) else (false, zeroD)) from by rw [← hRR]; unfold chR; simp only [hv]; rfl)
    clear hRR hv hd9
    go_enter Try.func55, Try.ntmps55
    go_wp2_with fail
    refine (HV.out _ (HE.out _ _)).mono ?_
    rw [HVV.out]
    rintro e1 w1 ⟨rfl, hb⟩
    have E1 := Lib.hid (Ext.trans (HE.out _ _) hb)
    have Z1 := Lib.hid ((HZ.out _).ext hb)
    have hs1 : w.heap.size + 2 ≤ w1.heap.size := by have := hb.size; simp at this; omega
    have C1 := fun o => hb.cell (p := ⟨w.heap.size, o, none⟩) (by simp; omega)
    clear hb
    go_wp2_with fail
    refine (HC.out _ E1.out).mono ?_
    rintro e2 w2 ⟨a2, cap2, f2, rfl, hc2, hs2, hfr2, hb2⟩
    have hs12 := hb2.size
    have hCH : ChAt w w2.heap.size w1.heap.size (o, n, t, k) (w2.alloc (.cells #[.int .i64 o, .int .i64 n, .string t, .slice a2 k.len cap2] 25)) :=
      ⟨(E1.out.trans hb2).alloc _, (Z1.out.ext hb2).ext ((Ext.refl _).alloc _), hs1, hs12, ⟨a2, cap2, f2, DocAt.new hs2 hfr2.lt hc2 o n t _, Ext.fresh ((Ext.refl _).alloc _) hfr2, fun hm => by have := hfr2.lt _ hm; omega⟩, fun j => World.frozen?_alloc_new _ _ _ _⟩
    rw [HL.out] at hCH ⊢
    have HCA := Lib.hid hCH
    clear hc2 hs2 hfr2 hb2 hCH C1
    go_wp2_with fail
    go_loopw [17, 8] (fun i v8 wr => ∃ (j : Nat) (d : D), j ≤ N ∧ i = .int .i64 j ∧ lastD (ps.drop j) d = d9 ∧ Chain (ps.drop j) d ∧ ChAt w w2.heap.size w1.heap.size d wr) (fun i _ _ => N - (intOf i).toNat)
    case atStart => exact ⟨0, (o, n, t, k), by omega, rfl, HLAST.out, HCH.out, HCA.out⟩
    case round =>
      obtain ⟨j, d, hj, rfl, hlast, hchn, hca⟩ := hrel
      by_cases hjN : j < N
      · have hjp : j < ps.length := by have := HN.out; omega
        obtain ⟨⟨g1, d1⟩, hp⟩ : ∃ q, ps[j]'hjp = q := ⟨_, rfl⟩
        have hrw := HROW.out j hjp
        rw [drop_cons hjp, hp] at hlast hchn
        rw [hp] at hrw
        obtain ⟨⟨hen, hpass⟩, hch2⟩ := hchn
        have hl2 : lastD (ps.drop (j + 1)) d1 = d9 := hlast
        have c9 := (hca.bel.cell (p := ⟨bp, j, none⟩) hbp).trans hrw
        obtain ⟨a3, c3, f3, hdoc, hfr, hnB⟩ := hca.at_
        have hcall := hpass wr a3 c3 f3 hdoc.sub (fun c hc => ⟨hfr.lt c hc, (hfr.2 c hc).2.2⟩) hdoc.cap_le
        obtain ⟨b0, b1, b2, b3⟩ := hdoc.box
        have hlB := hdoc.blt
        obtain ⟨L3, hL3⟩ : ∃ L3, d.2.2.2.len = L3 := ⟨_, rfl⟩
        unfold aggD at hcall
        rw [hL3] at hcall b3
        obtain ⟨o3, n3, t3, k3⟩ := d
        obtain ⟨o4, n4, t4, k4⟩ := d1
        simp only at hcall b0 b1 b2 b3
        have HP := Lib.hid hcall
        have HX := Lib.hid (And.intro hl2 (And.intro hch2 hca))
        have i0 : (0 : Int) ≤ (j : Int) := Int.natCast_nonneg _
        clear hcall hl2 hch2 hca hdoc hfr hnB hlast hrw hp hpass hjp hL3
        go_wp2_with (go_at_fn g1; refine HP.out.mono ?_; rintro e1 w3 ⟨a5, c5, f5, rfl, hc5, hs5, hfr5, hb5⟩; have hput := HX.out.2.2.put (d' := (o4, n4, t4, k4)) hb5 hs5 hfr5 hc5; have HPUT := Lib.hid hput; obtain ⟨x0, x1, x2, x3⟩ := box4 (by exact ⟨b0, b1, b2, b3⟩) hlB hb5; have z0 := (hb5.frozen (p := ⟨w2.heap.size, 0, none⟩) hlB).trans (HX.out.2.2.froz 0); have z1 := (hb5.frozen (p := ⟨w2.heap.size, 1, none⟩) hlB).trans (HX.out.2.2.froz 1); have z2 := (hb5.frozen (p := ⟨w2.heap.size, 2, none⟩) hlB).trans (HX.out.2.2.froz 2); have z3 := (hb5.frozen (p := ⟨w2.heap.size, 3, none⟩) hlB).trans (HX.out.2.2.froz 3); have hl3 := Nat.lt_of_lt_of_le hlB hb5.size; clear hput hc5 hs5 hfr5 hb5)
        go_roundw
        case rel => exact ⟨j + 1, (o4, n4, t4, k4), by omega, by go_num, HX.out.1, HX.out.2.1, HPUT.out⟩
        case measure => simp [intOf]; omega
      · have hjn : j = N := by omega
        have hnil : ps.drop j = [] := List.drop_eq_nil_of_le (by have := HN.out; omega)
        rw [hnil] at hlast
        have hd9 : d = d9 := hlast
        subst hd9
        obtain ⟨a3, c3, f3, hdoc, hfr, hnB⟩ := hca.at_
        obtain ⟨o3, n3, t3, k3⟩ := d
        simp only at hdoc
        have hfl := F.len_le_size k3
        have hfit : k3.size ≤ 1048576 ∧ t3.size ≤ 1048576 := HFIT.out
        have hv3 := PartV.docValid wr o3 n3 t3 k3 a3 c3 f3 hdoc.sub hdoc.lt hdoc.cap_le (by unfold maxLen; omega) (fits_of_size (m := 1048576) (by unfold maxLen; omega) k3 hfit.1) (by unfold maxLen; omega)
        obtain ⟨b0, b1, b2, b3⟩ := hdoc.box
        obtain ⟨L3, hL3⟩ : ∃ L3, k3.len = L3 := ⟨_, rfl⟩
        rw [hL3] at hv3 b3
        have HL3 := Lib.hid hL3
        have HX := Lib.hid (And.intro hca (And.intro hdoc hfr))
        have hlB := hdoc.blt
        clear hchn hca hdoc hfr hnB hnil hlast hfl hfit hL3
        cases hq : validD o3 n3 t3 k3 with
        | false =>
          have hR : R = (false, zeroD) := by rw [HR.out]; simp only [hq]; rfl
          rw [hq] at hv3
          have HV3 := Lib.hid hv3
          have HR3 := Lib.hid hR
          clear hv3 hq hR
          go_wp2_with fail
          refine HV3.out.mono ?_
          rintro e1 w3 ⟨rfl, hb3⟩
          obtain ⟨⟨z0, z1, z2, z3⟩, ⟨z4, z5, z6, z7⟩, z8⟩ := HX.out.1.out.ext hb3
          have HB3 := Lib.hid (HX.out.1.bel.trans (hb3.mono HX.out.1.bel.size))
          clear hb3
          go_wp2_with fail
          refine bodyPost_ret (v := .tuple #[.agg #[.int .i64 0, .int .i64 0, .string ⟨#[]⟩, .slice none 0 0], .bool false]) (by simp [results, Try.results55, go_sem, z0, z1, z2, z3, z4, z5, z6, z7, z8]) rfl ?_
          rw [HR3.out]
          refine end_no (lo := w.heap.size + 1) (hi := w.heap.size + 2) (by omega) HB3.out ?_
          repeat (first | exact Touch.refl _ _ _ | refine Touch.setCell ?_ (by simp) (by simp) _)
        | true =>
          have hR : R = (true, (o3, n3, t3, k3)) := by rw [HR.out]; simp only [hq]; rfl
          rw [hq] at hv3
          have HV3 := Lib.hid hv3
          have HR3 := Lib.hid hR
          clear hv3 hq hR
          go_wp2_with fail
          refine HV3.out.mono ?_
          rintro e1 w3 ⟨rfl, hb3⟩
          obtain ⟨⟨z0, z1, z2, z3⟩, ⟨z4, z5, z6, z7⟩, z8⟩ := HX.out.1.out.ext hb3
          obtain ⟨x0, x1, x2, x3⟩ := box4 (by exact ⟨b0, b1, b2, b3⟩) hlB hb3
          have hl3 := Nat.lt_of_lt_of_le hlB hb3.size
          have H3 := Lib.hid hb3
          clear hb3 b0 b1 b2 b3
          go_wp2_with fail
          refine bodyPost_ret (v := .tuple #[.agg #[.int .i64 o3, .int .i64 n3, .string t3, .slice a3 L3 c3], .bool true]) (by simp [results, Try.results55, go_sem, z0, z1, z2, z3, z4, z5, z6, z7, z8]) rfl ?_
          rw [HR3.out, ← HL3.out]
          refine end_doc (d := (o3, n3, t3, k3)) (lo := w.heap.size + 1) (hi := w.heap.size + 2) (B := w1.heap.size) (w3 := w3) HX.out.2.1.cap_le (Ext.sub H3.out HX.out.2.1.sub HX.out.2.1.lt) (Ext.fresh H3.out HX.out.2.2) hs1 (by omega) (by omega) (HX.out.1.bel.trans (H3.out.mono HX.out.1.bel.size)) ?_
          repeat (first | exact Touch.refl _ _ _ | refine Touch.setCell ?_ (by simp) (by simp) _)

end Go.Proofs.Ytafhefmjnjibdaa.Nf


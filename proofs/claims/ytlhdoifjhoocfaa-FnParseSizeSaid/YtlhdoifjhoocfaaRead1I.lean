import Derived.Test.YtlhdoifjhoocfaaReadI
import Derived.Test.YtlhdoifjhoocfaaPl
/-
  What the program's reader of documents comes to: the row of Kids while it is filled.
-/
set_option linter.unusedVariables false
set_option linter.unusedSimpArgs false
namespace Go.Proofs.Ytlhdoifjhoocfaa.Read2
open Go.RowKit P1 Copy ReadDocs

/-- the contract of doc at a depth -/
def DocS (d : Nat) : Prop := ∀ (w : World) (x : Nat) (l : List UInt8) (dp : Int), dp + (d : Int) = 41 → d ≤ 40 → Has w x l → l.length ≤ 1048576 → G0 w → x ≠ 0 →
  Calls Try.prog 13 #[.pointer (some ⟨x, 0, none⟩), .int .i64 dp] w (RdOut w x (rdD true d l))

/-- the boxes of around: its document and its answer -/
def ArBox (w : World) (op num : Int) (L : Nat) (wr : World) : Prop := (wr.cell? ⟨w.heap.size, 0, none⟩ = some (.int .i64 op) ∧ wr.cell? ⟨w.heap.size, 1, none⟩ = some (.int .i64 num) ∧ wr.cell? ⟨w.heap.size, 2, none⟩ = some (.string ⟨#[]⟩) ∧ wr.cell? ⟨w.heap.size, 3, none⟩ = some (.slice (some ⟨w.heap.size + 1 + 1, 0, none⟩) L L)) ∧ ZBox wr (w.heap.size + 1)

theorem ArBox.but {w wr w' : World} {op num : Int} {L x B : Nat} (h : ArBox w op num L wr) (k : But B x wr w') (hB : w.heap.size + 2 ≤ B) (hx : x < w.heap.size) : ArBox w op num L w' := by
  obtain ⟨⟨h0, h1, h2, h3⟩, ⟨c0, c1, c2, c3⟩, ⟨z0, z1, z2, z3⟩, hb⟩ := h
  have e : ∀ b o, w.heap.size ≤ b → b < w.heap.size + 2 → w'.cell? ⟨b, o, none⟩ = wr.cell? ⟨b, o, none⟩ := fun b o h1 h2 => k.cell (by omega) (by omega)
  have f : ∀ b o, w.heap.size ≤ b → b < w.heap.size + 2 → w'.frozen? ⟨b, o, none⟩ = wr.frozen? ⟨b, o, none⟩ := fun b o h1 h2 => k.frozen (by omega) (by omega)
  refine ⟨⟨(e _ _ (by omega) (by omega)).trans h0, (e _ _ (by omega) (by omega)).trans h1, (e _ _ (by omega) (by omega)).trans h2, (e _ _ (by omega) (by omega)).trans h3⟩, ⟨(e _ _ (by omega) (by omega)).trans c0, (e _ _ (by omega) (by omega)).trans c1, (e _ _ (by omega) (by omega)).trans c2, (e _ _ (by omega) (by omega)).trans c3⟩,
    ⟨(f _ _ (by omega) (by omega)).trans z0, (f _ _ (by omega) (by omega)).trans z1, (f _ _ (by omega) (by omega)).trans z2, (f _ _ (by omega) (by omega)).trans z3⟩, Nat.lt_of_lt_of_le hb k.size⟩

/-- what holds at the head of a round of around -/
def ArMid (w : World) (x L : Nat) (g : List UInt8 → Option (D × List UInt8)) (l : List UInt8) (j : Nat) (wr : World) : Prop := ∃ (p : F) (l' : List UInt8) (fs : List Nat), p.len = j ∧ rdK g L l = contK p (rdK g (L - j) l') ∧ l'.length ≤ 1048576 ∧ RowAt wr p (w.heap.size + 1 + 1) 0 fs ∧ Fresh (w.heap.size + 3) wr fs ∧ wr.there (w.heap.size + 1 + 1) 0 (L * 4) ∧ (w.heap.size + 2 < wr.heap.size ∧ ∀ o, wr.frozen? ⟨w.heap.size + 1 + 1, o, none⟩ = false) ∧ Has wr x l' ∧ G0 wr ∧ But w.heap.size x w wr

theorem rdA_of_none {g : List UInt8 → Option (D × List UInt8)} {op num : Int} {cnt : Nat} {sign : UInt8} {s : List UInt8} (h : rdK g cnt s = none) : rdA g op num cnt sign s = none := by unfold rdA; rw [h]
theorem rdA_of_nil {g : List UInt8 → Option (D × List UInt8)} {op num : Int} {cnt : Nat} {sign : UInt8} {s : List UInt8} {f : F} (h : rdK g cnt s = some (f, [])) : rdA g op num cnt sign s = none := by unfold rdA; rw [h]
theorem rdA_of_other {g : List UInt8 → Option (D × List UInt8)} {op num : Int} {cnt : Nat} {sign c : UInt8} {r s : List UInt8} {f : F} (h : rdK g cnt s = some (f, c :: r)) (hc : c ≠ sign) : rdA g op num cnt sign s = none := by unfold rdA; rw [h]; simp [hc]
theorem rdA_of_sign {g : List UInt8 → Option (D × List UInt8)} {op num : Int} {cnt : Nat} {sign : UInt8} {r s : List UInt8} {f : F} (h : rdK g cnt s = some (f, sign :: r)) : rdA g op num cnt sign s = some ((op, num, ⟨#[]⟩, f), r) := by unfold rdA; rw [h]; simp

theorem RdOut.of_none {w : World} {x : Nat} {e : Ending} {w' : World} (h : RdOut w x none e w') : e = .returned (.tuple #[.agg #[.int .i64 0, .int .i64 0, .string ⟨#[]⟩, .slice none 0 0], .bool false]) ∧ But w.heap.size x w w' := ⟨h.2, h.1⟩
theorem RdOut.of_some {w : World} {x : Nat} {o n : Int} {t : ByteArray} {k : F} {l' : List UInt8} {e : Ending} {w' : World} (h : RdOut w x (some ((o, n, t, k), l')) e w') : ∃ (a : Option Addr) (cap : Nat) (fs : List Nat), e = .returned (.tuple #[.agg #[.int .i64 o, .int .i64 n, .string t, .slice a k.len cap], .bool true]) ∧ k.len ≤ cap ∧ SubAt w' a k fs ∧ Fresh w.heap.size w' fs ∧ Has w' x l' ∧ But w.heap.size x w w' := by
  obtain ⟨h1, a, cap, fs, h2, h3, h4, h5, h6⟩ := h
  exact ⟨a, cap, fs, h2, h3, h4, h5, h6, h1⟩

theorem ar_start (w : World) (op num : Int) (L : Nat) (T : TypeId) : ∀ W, W = ((w.alloc (.cells #[.int .i64 op, .int .i64 num, .string ⟨#[]⟩, .slice (some ⟨w.heap.size + 1 + 1, 0, none⟩) L L] T)).alloc (.cells #[.int .i64 0, .int .i64 0, .string ⟨#[]⟩, .slice none 0 0] T)).alloc (.cells (To.zeros (L * 4)) T) →
    ArBox w op num L W ∧ Below w.heap.size w W ∧ W.there (w.heap.size + 1 + 1) 0 (L * 4) ∧ (w.heap.size + 2 < W.heap.size ∧ ∀ o, W.frozen? ⟨w.heap.size + 1 + 1, o, none⟩ = false) := by
  intro W hW
  have hX : ∀ j u, #[Value.int .i64 op, .int .i64 num, .string ⟨#[]⟩, .slice (some ⟨w.heap.size + 1 + 1, 0, none⟩) L L][j]? = some u → (w.alloc (.cells #[.int .i64 op, .int .i64 num, .string ⟨#[]⟩, .slice (some ⟨w.heap.size + 1 + 1, 0, none⟩) L L] T)).cell? ⟨w.heap.size, j, none⟩ = some u := fun j u h => by rw [World.cell?_alloc_new]; exact h
  have x0 := hX 0 _ rfl
  have x1 := hX 1 _ rfl
  have x2 := hX 2 _ rfl
  have x3 := hX 3 _ rfl
  have hZ := ZBox.alloc (w.alloc (.cells #[.int .i64 op, .int .i64 num, .string ⟨#[]⟩, .slice (some ⟨w.heap.size + 1 + 1, 0, none⟩) L L] T)) T
  clear hX
  obtain ⟨W1, hW1⟩ : ∃ W1, W1 = w.alloc (.cells #[.int .i64 op, .int .i64 num, .string ⟨#[]⟩, .slice (some ⟨w.heap.size + 1 + 1, 0, none⟩) L L] T) := ⟨_, rfl⟩
  rw [← hW1] at hW x0 x1 x2 x3 hZ
  have s1 : W1.heap.size = w.heap.size + 1 := by rw [hW1]; simp
  have b1 : Below w.heap.size w W1 := by rw [hW1]; exact (Below.refl _ _).alloc (Nat.le_refl _) _
  clear hW1
  obtain ⟨W2, hW2⟩ : ∃ W2, W2 = W1.alloc (.cells #[.int .i64 0, .int .i64 0, .string ⟨#[]⟩, .slice none 0 0] T) := ⟨_, rfl⟩
  rw [← hW2] at hW hZ
  have s2 : W2.heap.size = w.heap.size + 1 + 1 := by rw [hW2]; simp [s1]
  have b2 : Ext W1 W2 := by rw [hW2]; exact (Ext.refl _).alloc _
  clear hW2
  obtain ⟨C, hC⟩ : ∃ C, C = To.zeros (L * 4) := ⟨_, rfl⟩
  have hCs : C.size = L * 4 := by rw [hC]; exact To.size_zeros _
  rw [← hC] at hW
  clear hC
  have b3 : Ext W2 W := by rw [hW]; exact (Ext.refl _).alloc _
  have hth : W.there W2.heap.size 0 (L * 4) := by rw [hW]; exact there_new W2 C T (L * 4) (by omega)
  have hfz : ∀ o, W.frozen? ⟨W2.heap.size, o, none⟩ = false := fun o => by rw [hW]; exact World.frozen?_alloc_new _ _ _ _
  have s3 : W.heap.size = w.heap.size + 3 := by rw [hW]; simp [s2]
  clear hW
  rw [s2] at hth hfz
  rw [s1] at hZ
  have b13 := b2.trans b3
  have hl : w.heap.size < W1.heap.size := by omega
  exact ⟨⟨⟨(b13.cell hl).trans x0, (b13.cell hl).trans x1, (b13.cell hl).trans x2, (b13.cell hl).trans x3⟩, hZ.ext b3⟩, b1.trans (b13.mono (by omega)), hth, by omega, hfz⟩

/-- one document more is put into the row -/
theorem ar_put {w wr w1 : World} {x L j m : Nat} {op num o n : Int} {t : ByteArray} {k : F} {a1 : Option Addr} {cap1 : Nat} {p : F} {fs1 f1 : List Nat} {g : List UInt8 → Option (D × List UInt8)} {l r : List UInt8} (hx : x < w.heap.size) (hx0 : x ≠ 0) (h1 : p.len = j) (hjL : j < L) (h2 : rdK g L l = contK (p.app (.cons o n t k .nil)) (rdK g m r))
    (hrow : RowAt wr p (w.heap.size + 1 + 1) 0 fs1) (hfr : Fresh (w.heap.size + 3) wr fs1) (hth : wr.there (w.heap.size + 1 + 1) 0 (L * 4)) (hlt : w.heap.size + 2 < wr.heap.size) (hfz : ∀ o, wr.frozen? ⟨w.heap.size + 1 + 1, o, none⟩ = false) (hg0 : G0 wr) (hbut : But w.heap.size x w wr)
    (hc1 : k.len ≤ cap1) (hs1 : SubAt w1 a1 k f1) (hfr1 : Fresh wr.heap.size w1 f1) (hhas1 : Has w1 x r) (hr : r.length ≤ 1048576) (hbut1 : But wr.heap.size x wr w1) (hb1 : ArBox w op num L w1) (ob : Obj) (hm : L - (j + 1) = m) :
    ArMid w x L g l (j + 1) ((w1.alloc ob).setCells (w.heap.size + 1 + 1) (j * 4) [.int .i64 o, .int .i64 n, .string t, .slice a1 k.len cap1]) ∧ ArBox w op num L ((w1.alloc ob).setCells (w.heap.size + 1 + 1) (j * 4) [.int .i64 o, .int .i64 n, .string t, .slice a1 k.len cap1]) := by
  obtain ⟨vs, hvs⟩ : ∃ vs : List Value, vs = [.int .i64 o, .int .i64 n, .string t, .slice a1 k.len cap1] := ⟨_, rfl⟩
  have hinb : ∀ c ∈ fs1, c < wr.heap.size ∧ c ≠ x := fun c hc => ⟨hfr.lt c hc, by have := (hfr.2 c hc).1; omega⟩
  have hrow1 : RowAt w1 p (w.heap.size + 1 + 1) 0 fs1 := hrow.congr (fun o' => hbut1.cell (show w.heap.size + 1 + 1 < _ by omega) (by omega)) (fun c hc o' => hbut1.cell (hinb c hc).1 (hinb c hc).2)
  have hfr1' : Fresh (w.heap.size + 3) w1 fs1 := hfr.alike hbut1.size (fun c hc o' => hbut1.frozen (hinb c hc).1 (hinb c hc).2)
  have BA : Below w1.heap.size w1 (w1.alloc ob) := (Below.refl _ _).alloc (Nat.le_refl _) _
  have hl1 : w.heap.size + 1 + 1 < w1.heap.size := by have := hbut1.size; omega
  have h6 : w1.there (w.heap.size + 1 + 1) 0 (L * 4) := fun i hi => by
    have := hth i hi
    exact ⟨by rw [hbut1.cell (show w.heap.size + 1 + 1 < _ by omega) (by omega)]; exact this.1, by rw [hbut1.frozen (show w.heap.size + 1 + 1 < _ by omega) (by omega)]; exact this.2⟩
  have hth1 : (w1.alloc ob).there (w.heap.size + 1 + 1) 0 (L * 4) := there_below h6 hl1 BA
  have hne1 : ∀ c ∈ fs1, c ≠ w.heap.size + 1 + 1 := fun c hc => by have := (hfr.2 c hc).1; omega
  have hne2 : ∀ c ∈ f1, c ≠ w.heap.size + 1 + 1 := fun c hc => by have := (hfr1.2 c hc).1; omega
  have hput := RowAt.put (o := o) (n := n) (t := t) (hrow1.below hl1 (fun c hc => Nat.lt_of_lt_of_le (hinb c hc).1 hbut1.size) BA) hne1 hne2 hth1 (by rw [h1]; omega) (hs1.below hfr1.lt BA) hc1
  rw [h1, ← hvs] at hput
  rw [← hvs]
  have hout : ∀ c, c ≠ w.heap.size + 1 + 1 → ∀ o', ((w1.alloc ob).setCells (w.heap.size + 1 + 1) (j * 4) vs).cell? ⟨c, o', none⟩ = (w1.alloc ob).cell? ⟨c, o', none⟩ := fun c hcb o' => World.cell?_setCells_out _ _ _ _ ⟨c, o', none⟩ (fun e => absurd e hcb)
  have BS : Below (w.heap.size + 2) (w1.alloc ob) ((w1.alloc ob).setCells (w.heap.size + 1 + 1) (j * 4) vs) := Below.setCells (Nat.le_refl _) vs (j * 4) _ (Below.refl _ _)
  have hszA : (w1.alloc ob).heap.size = w1.heap.size + 1 := by simp
  have hszS : ((w1.alloc ob).setCells (w.heap.size + 1 + 1) (j * 4) vs).heap.size = w1.heap.size + 1 := by rw [size_setCells, hszA]
  have hb01 : But w.heap.size x w w1 := hbut.trans (hbut1.mono (by omega))
  have hbutE : But w.heap.size x w ((w1.alloc ob).setCells (w.heap.size + 1 + 1) (j * 4) vs) := (hb01.trans (But.of_below (BA.mono (by omega)))).trans (But.of_below (BS.mono (by omega)))
  have hxw1 : x < w1.heap.size := hhas1.2.2
  have hhasE : Has ((w1.alloc ob).setCells (w.heap.size + 1 + 1) (j * 4) vs) x r :=
    ⟨(hout x (by omega) 0).trans ((World.cell?_alloc_lt w1 ob ⟨x, 0, none⟩ hxw1).trans hhas1.1), by rw [World.frozen?_setCells]; exact (World.frozen?_alloc_old w1 ob ⟨x, 0, none⟩ (by show x ≠ _; omega)).trans hhas1.2.1, by rw [hszS]; omega⟩
  have hbxE : ArBox w op num L ((w1.alloc ob).setCells (w.heap.size + 1 + 1) (j * 4) vs) :=
    (hb1.but (B := w1.heap.size) (But.of_below (x := x) BA) (by omega) hx).but (B := w.heap.size + 2) (But.of_below (x := x) BS) (Nat.le_refl _) hx
  have hgE : G0 ((w1.alloc ob).setCells (w.heap.size + 1 + 1) (j * 4) vs) := by
    obtain ⟨m0, hm0⟩ := hg0
    exact ⟨m0, (hbutE.cell (show 0 < _ by omega) (Ne.symm hx0)).trans ((hbut.cell (by omega) (Ne.symm hx0)).symm.trans hm0)⟩
  have hfzE : ∀ o', ((w1.alloc ob).setCells (w.heap.size + 1 + 1) (j * 4) vs).frozen? ⟨w.heap.size + 1 + 1, o', none⟩ = false := fun o' => by
    rw [World.frozen?_setCells]
    exact (World.frozen?_alloc_old w1 ob ⟨w.heap.size + 1 + 1, o', none⟩ (by show w.heap.size + 1 + 1 ≠ _; omega)).trans ((hbut1.frozen (show w.heap.size + 1 + 1 < _ by omega) (by omega)).trans (hfz o'))
  have hall : ∀ c ∈ fs1 ++ f1, c < w1.heap.size := fun c hc => by
    rcases List.mem_append.1 hc with hc | hc
    · exact Nat.lt_of_lt_of_le (hinb c hc).1 hbut1.size
    · exact hfr1.lt c hc
  have hfrE : Fresh (w.heap.size + 3) ((w1.alloc ob).setCells (w.heap.size + 1 + 1) (j * 4) vs) (fs1 ++ f1) := by
    refine Fresh.alike (w := w1) (hfr1'.app (hi := wr.heap.size) (fun c hc => (hinb c hc).1) hfr1 (by omega)) (by rw [hszS]; omega) (fun c hc o' => ?_)
    rw [World.frozen?_setCells]
    exact World.frozen?_alloc_old w1 ob ⟨c, o', none⟩ (by show c ≠ _; have := hall c hc; omega)
  exact ⟨⟨p.app (.cons o n t k .nil), r, fs1 ++ f1, by rw [F.len_app, h1]; rfl, by rw [hm]; exact h2, hr, hput, hfrE, World.there_setCells hth1 _ _ _, ⟨by rw [hszS]; omega, hfzE⟩, hhasE, hgE, hbutE⟩, hbxE⟩

end Go.Proofs.Ytlhdoifjhoocfaa.Read2


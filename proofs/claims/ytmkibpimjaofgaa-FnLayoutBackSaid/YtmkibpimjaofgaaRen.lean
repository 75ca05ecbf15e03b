import Derived.Test.YtmkibpimjaofgaaLoA
import Derived.Test.YtmkibpimjaofgaaCsX
/-
  render of the program.
-/
set_option linter.unusedVariables false
set_option linter.unusedSimpArgs false
set_option maxRecDepth 100000
set_option maxHeartbeats 6400000
namespace Go.Proofs.Ytmkibpimjaofgaa.RnM
open Go.RowKit Go.Shelf P1 Cnt CntC Flat Wid ChP Rn Rf Bwd BufQ

theorem right_eq {W o n : Int} {t : ByteArray} {k : F} : rightD W o n t k = (Cst.wv W && validD o n t k) := by
  unfold rightD Cst.wv
  rw [Bool.and_comm]
  congr 1
  rw [Bool.eq_iff_iff]; simp

def RenOut (w : World) (W o n : Int) (t : ByteArray) (k : F) (e : Ending) (w' : World) : Prop :=
  Below w.heap.size w w' ∧ ((rightD W o n t k = false ∧ e = .returned (.tuple #[.pointer none, .bool false])) ∨
  (rightD W o n t k = true ∧ ∃ b, e = .returned (.tuple #[.pointer (some ⟨b, 0, none⟩), .bool true]) ∧ RS w w.heap.size b W [] (St.ended (stD W o n t k)) w'))

theorem ren_start (w w1 : World) (hb : Below w.heap.size w w1) (W o n : Int) (t : ByteArray) (k : F) (a : Option Addr) (cap : Nat) (hk : KidsIn w w.heap.size k a cap) :
    RF w w.heap.size (w1.heap.size + 1) W [⟨0, o, n, t, k⟩] St.zero ⟨.int .i64 W, .slice (some ⟨w1.heap.size, 0, none⟩) 1 1, .slice none 0 0, .int .i64 0, .slice none 0 0⟩
      ((w1.alloc (.cells #[.int .i64 o, .int .i64 n, .string t, .slice a k.len cap, .int .i64 0] 163)).alloc (.cells #[.int .i64 W, .slice none 0 0, .int .i64 0, .pointer none, .slice none 0 0, .slice (some ⟨w1.heap.size, 0, none⟩) 1 1, .slice none 0 0] 118)) := by
  have hz := hb.size
  refine ⟨.inl ⟨by omega, .slice none 0 0, ?_, World.ownsRowF_nil _ _ _ _, by simp [Value.ownBlock], fun _ => rfl⟩, ?_, World.ownsRow_nil _ _ _ _, World.ownsRow_nil _ _ _ _, rfl, rfl⟩
  · have := World.alloc_heap_new (w1.alloc (.cells #[.int .i64 o, .int .i64 n, .string t, .slice a k.len cap, .int .i64 0] 163)) (.cells #[.int .i64 W, .slice none 0 0, .int .i64 0, .pointer none, .slice none 0 0, .slice (some ⟨w1.heap.size, 0, none⟩) 1 1, .slice none 0 0] 118)
    rwa [World.size_alloc] at this
  · exact (StackG.start (CV := ItV w w.heap.size) (n := 5) (x := ⟨0, o, n, t, k⟩) (c := [.int .i64 o, .int .i64 n, .string t, .slice a k.len cap, .int .i64 0]) ⟨a, cap, rfl, hk⟩ rfl rfl hz rfl).below (Nat.le_refl _) ((Below.refl _ _).alloc (Nat.le_refl _) _)

theorem render (w : World) (W o n : Int) (t : ByteArray) (k : F) (a : Option Addr) (cap : Nat) (fs : List Nat) (hs : SubAt w a k fs) (hfs : ∀ c ∈ fs, c < w.heap.size ∧ ∀ o, w.frozen? ⟨c, o, none⟩ = false) (hc : k.len ≤ cap) (hsz : t.size + k.size ≤ 2000000) (hft : k.Fits) (ht : t.size ≤ maxLen) :
    Calls Try.prog 107 #[.agg #[.int .i64 o, .int .i64 n, .string t, .slice a k.len cap], .int .i64 W] w (RenOut w W o n t k) := by
  have HWV := Lib.hid (Cst.widthValid W)
  have B1 := Lib.hid (show ∀ ob, Ext w (w.alloc ob) from fun ob => (Ext.refl w).alloc _)
  have HDV := Lib.hid (fun (W' : World) (h : Ext w W') => PartV.docValid W' o n t k a cap fs (hs.below (fun c hc => (hfs c hc).1) h) (fun c hc => Nat.lt_of_lt_of_le (hfs c hc).1 h.size) hc (by have := F.len_le_size k; unfold maxLen; omega) hft ht)
  unfold RenOut
  rw [right_eq]
  cases hwv : Cst.wv W with
  | false =>
    rw [hwv] at HWV
    clear hs hfs
    go_enter Try.func107, Try.ntmps107
    go_wp2_with fail
    refine (HWV.out _).mono ?_
    rintro e1 w1 ⟨rfl, rfl⟩
    go_wp2_with fail
    go_ret2
    exact ⟨B1.out _, .inl ⟨rfl, rfl⟩⟩
  | true =>
    rw [hwv] at HWV
    have hW : 0 ≤ W ∧ W ≤ 200 := by simpa [Cst.wv] using hwv
    rw [Bool.true_and]
    cases hva : validD o n t k with
    | false =>
      rw [hva] at HDV
      clear hs hfs
      go_enter Try.func107, Try.ntmps107
      go_wp2_with fail
      refine (HWV.out _).mono ?_
      rintro e1 w1 ⟨rfl, rfl⟩
      go_wp2_with fail
      refine (HDV.out _ (B1.out _)).mono ?_
      rintro e2 w2 ⟨rfl, hb2⟩
      have H2 := Lib.hid ((B1.out _).trans hb2)
      clear hb2
      go_wp2_with fail
      go_ret2
      exact ⟨H2.out, .inl ⟨by first | rfl | trivial, rfl⟩⟩
    | true =>
      rw [hva] at HDV
      have HVA := Lib.hid hva
      have HKI := Lib.hid (show KidsIn w w.heap.size k a cap from ⟨hc, fs, hs, fun c hc => (hfs c hc).1⟩)
      clear hs hfs hwv hva
      go_enter Try.func107, Try.ntmps107
      go_wp2_with fail
      refine (HWV.out _).mono ?_
      rintro e1 w1 ⟨rfl, rfl⟩
      go_wp2_with fail
      refine (HDV.out _ (B1.out _)).mono ?_
      rintro e2 w2 ⟨rfl, hb2⟩
      have hx : w2.cell? ⟨w.heap.size, 0, none⟩ = some (.int .i64 o) ∧ w2.cell? ⟨w.heap.size, 1, none⟩ = some (.int .i64 n) ∧ w2.cell? ⟨w.heap.size, 2, none⟩ = some (.string t) ∧ w2.cell? ⟨w.heap.size, 3, none⟩ = some (.slice a k.len cap) := by
        refine ⟨?_, ?_, ?_, ?_⟩
        all_goals (rw [hb2.cell (p := ⟨_, _, _⟩) (by simp)]; simp)
      obtain ⟨x0, x1, x2, x3⟩ := hx
      have hlt : w.heap.size < w2.heap.size := by have := hb2.size; simp at this; omega
      have hbw := (B1.out _).trans hb2
      have HST := Lib.hid (ren_start w w2 hbw W o n t k a cap HKI.out)
      have H2 := Lib.hid hbw
      clear hb2 hbw
      go_wp2_with fail
      obtain ⟨V, hV⟩ : ∃ V, (w2.alloc (.cells #[.int .i64 o, .int .i64 n, .string t, .slice a k.len cap, .int .i64 0] 163)).alloc (.cells #[.int .i64 W, .slice none 0 0, .int .i64 0, .pointer none, .slice none 0 0, .slice (some ⟨w2.heap.size, 0, none⟩) 1 1, .slice none 0 0] 118) = V := ⟨_, rfl⟩
      have HBV := Lib.hid (show Below w.heap.size w V by rw [← hV]; exact (H2.out.alloc _).alloc _)
      obtain ⟨b, hbe⟩ : ∃ b, w2.heap.size + 1 = b := ⟨_, rfl⟩
      rw [hV, hbe] at HST
      rw [hV]
      try rw [hbe]
      clear hV hbe x0 x1 x2 x3 hlt
      go_loopg [7, 8] (1 + k.cnt) (fun N v u wr => ∃ its s, RS w w.heap.size b W its s wr ∧ Bnd (1 + t.size + k.size) its s ∧ rnI W its s = stD W o n t k ∧ wtI its ≤ N ∧ Below w.heap.size w wr)
      case atStart => exact ⟨_, _, ⟨_, HST.out⟩, bnd_start HVA.out, stD_items W o n t k, by simp [wtI], HBV.out⟩
      case round =>
        obtain ⟨its, s, ⟨⟨fa, fr, fl, fi, fg⟩, hF⟩, hbd, hrn, hwt, hbw⟩ := hrel
        cases its with
        | nil =>
          obtain ⟨a0, c0, rfl, _⟩ : ∃ a cap, fr = .slice a 0 cap ∧ 0 ≤ cap := by obtain ⟨xs, x1, _⟩ := hF.rest; exact own_slice x1
          obtain ⟨_, c1, _, _, _, _, _, _⟩ := hF.cells
          have HEL := Lib.hid (endLine hbw.size ⟨_, hF⟩ (by have := hbd.wt; omega))
          have HRN := Lib.hid (show s = stD W o n t k from hrn)
          have HBW := Lib.hid hbw
          clear hF hbd hrn hwt hbw
          go_wp2_with fail
          refine HEL.out.mono ?_
          rintro e3 w3 ⟨rfl, hR3, hb3, _⟩
          have H3 := Lib.hid (And.intro hR3 (HBW.out.trans hb3))
          clear hR3 hb3 c1
          go_wp2_with fail
          go_ret2
          refine ⟨H3.out.2, .inr ⟨by first | rfl | trivial, b, rfl, ?_⟩⟩
          rw [← HRN.out]; exact H3.out.1
        | cons x r =>
          obtain ⟨g, cp, ax, cx, rfl, hg, hle, hkid, ⟨d0, d1, d2, d3, d4⟩, hpop⟩ := hF.pop
          obtain ⟨_, c1, _, _, _, hz, hbl, _⟩ := hF.cells
          have f1 := hz 5
          obtain ⟨m, hm⟩ : ∃ m, r.length = m := ⟨_, rfl⟩
          have hm80 : m ≤ 80 := by have := hbd.wt; have := len_wt r; simp only [wtI] at *; omega
          have hpop2 := (hpop wr (Below.refl _ _)).below ((Below.refl _ _).alloc (Nat.le_refl _) (.cells #[.int .i64 x.o, .int .i64 x.n, .string x.t, .slice ax x.k.len cx, .int .i64 x.i] 163))
          have hbw2 := Below.alloc (hbw.setCell (p := ⟨b, 5, none⟩) (by obtain ⟨_, _, _, _, _, _, _, h⟩ := hF.cells; exact h) (.slice (some ⟨g, 0, none⟩) r.length cp)) (by have := hbw.size; simpa using this) (.cells #[.int .i64 x.o, .int .i64 x.n, .string x.t, .slice ax x.k.len cx, .int .i64 x.i] 163)
          rw [hm] at c1 hle d0 d1 d2 d3 d4 hpop2 hbw2
          have HLO := Lib.hid (layOut hbw2 (Nat.le_refl _) ⟨_, hpop2⟩ hW.1 hW.2 hkid hbd (by omega))
          have HS := Lib.hid (And.intro (hbd.step W) (And.intro ((stepI_run W x r s).trans hrn) (And.intro hwt hbw2)))
          clear hF hpop hpop2 hbw2 hbd hrn hwt hz hkid hm
          go_wp2_with fail
          refine HLO.out.mono ?_
          rintro e3 w3 ⟨rfl, hR3, hb3⟩
          have H3 := Lib.hid (And.intro hR3 (HS.out.2.2.2.trans hb3))
          clear hR3 hb3
          go_wp2_with fail
          go_roundg (wtI (stepI W x r s).1)
          case measure => have h1 := HS.out.1.2; have h2 := HS.out.2.2.1; omega
          case rel => exact ⟨_, _, H3.out.1, HS.out.1.1, HS.out.2.1, Nat.le_refl _, H3.out.2⟩

end Go.Proofs.Ytmkibpimjaofgaa.RnM


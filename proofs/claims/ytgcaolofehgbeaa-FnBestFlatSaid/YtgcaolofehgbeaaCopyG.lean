import Derived.Test.YtgcaolofehgbeaaCopyS2
/-
  What the model's l1Copy comes to, with the row that its list lies in: the same document, its list grown in a row of the call's own.
-/
set_option linter.unusedVariables false
set_option linter.unusedSimpArgs false
namespace Go.Proofs.Ytgcaolofehgbeaa.CopyS
open Go.RowKit P1 Copy

/-- a document whose list lies in a row of the call's own -/
def GrownOut (w : World) (o n : Int) (t : ByteArray) (k : F) (e : Ending) (w' : World) : Prop := ∃ (v : Value) (fs : List Nat), e = .returned (.agg #[.int .i64 o, .int .i64 n, .string t, v]) ∧ Grow w' 25 (w.heap.size + 3) v k fs ∧ Below w.heap.size w w'

set_option maxRecDepth 100000 in
set_option maxHeartbeats 3200000 in
theorem copy_grow (w : World) (o n : Int) (t : ByteArray) (k : F) (ih : CpS k) (a : Option Addr) (cap : Nat) (fs : List Nat) (hs : SubAt w a k fs) (hfs : ∀ c ∈ fs, c < w.heap.size) (hc : k.len ≤ cap) (hsz : k.size ≤ 4194304) (ht : t.size ≤ 4194304) :
    Calls Try.prog 114 #[.agg #[.int .i64 o, .int .i64 n, .string t, .slice a k.len cap]] w (GrownOut w o n t k) := by
  obtain ⟨i0, hi, hz0, hz1, hz2⟩ := info_parts To.info
  have hl4 := F.len_le_size k
  obtain ⟨L, hL⟩ : ∃ L, k.len = L := ⟨_, rfl⟩
  rw [hL] at hc hl4 ⊢
  have hL4 : L ≤ 4194304 := by omega
  have HL := Lib.hid hL
  clear hL hl4
  have hsub : 0 < L → ∃ b off f', a = some ⟨b, off, none⟩ ∧ RowAt w k b off f' ∧ b < w.heap.size ∧ ∀ c ∈ f', c < w.heap.size := by
    intro h0
    rcases hs with ⟨rfl, rfl⟩ | ⟨b, off, f', rfl, hnil, rfl, hrow⟩
    · have := HL.out; simp only [F.len] at this; omega
    · exact ⟨b, off, f', rfl, hrow, hfs b (by simp), fun c hc => hfs c (by simp [hc])⟩
  have HSUB := Lib.hid hsub
  have IH := Lib.hid ih
  have HI := Lib.hid (And.intro hi (And.intro hz0 (And.intro hz1 hz2)))
  have hbox : ∀ (C2 : Array Value), C2.size = 4 → CpBox w o n t (.slice a L cap) (.slice none 0 0) (((w.alloc (.cells #[.int .i64 o, .int .i64 n, .string t, .slice a L cap] 25)).alloc (.cells C2 25)).alloc (.cells #[.int .i64 o, .int .i64 n, .string t, .slice none 0 0] 25)) := by
    intro C2 h2
    have s2 : ((w.alloc (.cells #[.int .i64 o, .int .i64 n, .string t, .slice a L cap] 25)).alloc (.cells C2 25)).heap.size = w.heap.size + 2 := by simp
    refine ⟨?_, ?_, ?_, ?_, ?_, ?_, ?_, by simp⟩
    · rw [World.cell?_alloc_lt _ _ _ (by simp; omega), World.cell?_alloc_lt _ _ _ (by simp), World.cell?_alloc_new]; rfl
    · have := there_new (w.alloc (.cells #[.int .i64 o, .int .i64 n, .string t, .slice a L cap] 25)) C2 25 4 (by omega)
      refine there_below (by simpa using this) (B := w.heap.size + 2) (by omega) ((Below.refl _ _).alloc (by simp) _)
    · rw [← s2, World.cell?_alloc_new]; rfl
    · rw [← s2, World.cell?_alloc_new]; rfl
    · rw [← s2, World.cell?_alloc_new]; rfl
    · rw [← s2, World.cell?_alloc_new]; rfl
    · rw [← s2, World.frozen?_alloc_new]
  have HBOX := Lib.hid hbox
  clear hsub hs hfs ih hi hz0 hz1 hz2 hbox
  go_enter Try.func114, Try.ntmps114
  go_wp2_with fail
  go_loopw [4] (fun i wr => ∃ (j : Nat) (v : Value), j ≤ L ∧ i = .int .i64 j ∧ CpMid w k j v wr ∧ CpBox w o n t (.slice a L cap) v wr) (fun i _ => L - (intOf i).toNat)
  case atStart => exact ⟨0, .slice none 0 0, by omega, rfl, ⟨.nil, k, [], rfl, rfl, Grow.start _ _ _ (by simp), (((Below.refl _ _).alloc (Nat.le_refl _) _).alloc (by simp) _).alloc (by simp; omega) _⟩, HBOX.out _ rfl⟩
  case round =>
    obtain ⟨j, v, hj, rfl, ⟨p, g, fs1, h3, h5, hG, hbw⟩, hbx⟩ := hrel
    have h7 : g.len = L - j := by have := HL.out; rw [h3, F.len_app, h5] at this; omega
    cases g with
    | nil =>
      have hjL : L ≤ j := by simp only [F.len] at h7; omega
      rw [F.app_nil] at h3
      subst h3
      obtain ⟨a', cap', rfl, hcap', hsub', hcm⟩ := hG.slice
      obtain ⟨x3, hth, x4, x5, x6, x7, x8, hsz2⟩ := hbx
      obtain ⟨⟨u0, u1, u2, u3, y0, y1, y2, y3⟩, z0, z1, z2, z3⟩ := there_at hth
      have H := Lib.hid (And.intro hG (And.intro hbw (And.intro hsub' (And.intro hcap' h5))))
      have hl1 : w.heap.size + 1 < wr.heap.size := by omega
      clear hG hbw hsub' hth h7 hcm hcap' h5
      go_wp2_with fail
      refine bodyPost_ret (v := .agg #[.int .i64 o, .int .i64 n, .string t, .slice a' k.len cap']) (by simp [results, Try.results114, go_sem, y0, y1, y2, y3, hl1]) rfl ?_
      obtain ⟨hG, hbw, hsub', hcap', h5⟩ := H.out
      refine ⟨_, fs1, rfl, ?_, ?_⟩
      · repeat (first | exact hG | refine Grow.setOld ?_ (by simp) _)
      · repeat (first | exact hbw | refine Below.setCell ?_ (by simp) _)
    | cons o1 n1 t1 k1 r1 =>
      have hjL : j < L := by simp only [F.len] at h7; omega
      obtain ⟨b, off, f', rfl, hrow, hbB, hfB⟩ := HSUB.out (by omega)
      rw [h3] at hrow
      obtain ⟨a1, cap1, f1, c0, c1, c2, c3, hc1', hsub1, hin⟩ := row_at hrow
      rw [h5] at c0 c1 c2 c3
      rw [← hbw.cell (p := ⟨_, _, _⟩) hbB] at c0 c1 c2 c3
      have hd := fun (w1 : World) (hw1 : Below wr.heap.size wr w1) => IH.out w1 o1 n1 t1 k1 p r1 a1 cap1 f1 h3 (hsub1.below (fun c hc => hfB c (hin c hc)) (hbw.trans (hw1.mono hbw.size))) (fun c hc => Nat.lt_of_lt_of_le (hfB c (hin c hc)) (Nat.le_trans hbw.size hw1.size)) hc1' hsz
      have HD := Lib.hid hd
      have H := Lib.hid (And.intro h3 (And.intro h5 (And.intro hG (And.intro hbw hbx))))
      obtain ⟨x3, _, _, _, _, x7, x8, hsz3⟩ := hbx
      have i0' : (0 : Int) ≤ (j : Int) := Int.natCast_nonneg _
      have i1 : (j : Int) < (L : Int) := by omega
      clear hd h3 h5 h7 hbw hrow hG
      go_wp2_with fail
      go_region_law (first
        | (refine step_append_doc rfl (.tmp 20) (.tmp 27) 23 rfl Try.underlying23 HI.out.1 HI.out.2.1 HI.out.2.2.1 HI.out.2.2.2 rfl rfl (HST.out _).1 (d := w1.heap.size) (c := 1) rfl (cell_new w1 _ _ 0 _ rfl) (cell_new w1 _ _ 1 _ rfl) (cell_new w1 _ _ 2 _ rfl) (cell_new w1 _ _ 3 _ rfl) H2.out.2.2.2 (H2.out.1.below H2.out.2.1.lt ((Below.refl _ _).alloc (Nat.le_refl _) _)) (H2.out.2.1.below H2.out.2.1.lt ((Below.refl _ _).alloc (Nat.le_refl _) _)) (HST.out (.cells #[] 0)).2.1 (HST.out (.cells #[] 0)).2.2.1 (HST.out (.cells #[] 0)).2.2.2 (by have := H.out.2.1; omega) ?_; intro v' w2 fs' hG' hb'; obtain ⟨av, cpv, rfl, _, _, _⟩ := hG'.slice; have HE := Lib.hid (And.intro hG' (mid_box H.out.2.2.2.2 H2.out.2.2.1 hb')); obtain ⟨_, _, _, _, _, q7, q8, l8⟩ := HE.out.2.2; clear hG' hb')
        | (go_simp; go_at_call 114; refine (HD.out _ (by first | exact Below.refl _ _ | exact (Below.refl _ _).drew)).mono ?_; rintro e1 w1 ⟨a2, cap2, f2, rfl, hc2, hs2, hfr2, hb2⟩; have H2 := Lib.hid (And.intro hs2 (And.intro hfr2 (And.intro hb2 hc2))); have HST := Lib.hid (fun ob => mid3 (ob := ob) H.out.2.2.1 hb2); obtain ⟨p7, p8, p9⟩ := mid_cell H.out.2.2.2.2 hb2; clear hs2 hfr2 hb2 hc2))
      all_goals
        go_wp2_with fail
        go_roundw
        case rel =>
          obtain ⟨h3, h5, hG, hbw, hbx⟩ := H.out
          obtain ⟨hG', hch, hbx'⟩ := HE.out
          refine ⟨j + 1, _, by omega, by go_num, ⟨p.app (.cons o1 n1 t1 k1 .nil), r1, fs', by rw [h3, F.app_assoc]; rfl, by rw [F.len_app, h5]; rfl, Grow.setOld hG' (by simp) _, ?_⟩, hbx'.put⟩
          exact (hbw.trans (hch.mono (by omega))).setCell (by simp; omega) _
        case measure => simp [intOf]; omega

theorem l1CopyG (w : World) (o n : Int) (t : ByteArray) (k : F) (a : Option Addr) (cap : Nat) (fs : List Nat) (hs : SubAt w a k fs) (hfs : ∀ c ∈ fs, c < w.heap.size) (hc : k.len ≤ cap) (hsz : k.size ≤ 4194304) (ht : t.size ≤ 4194304) :
    Calls Try.prog 114 #[.agg #[.int .i64 o, .int .i64 n, .string t, .slice a k.len cap]] w (GrownOut w o n t k) :=
  copy_grow w o n t k (cpS _ k (Nat.le_refl _)) a cap fs hs hfs hc hsz ht

end Go.Proofs.Ytgcaolofehgbeaa.CopyS


import Derived.Test.YtpiaiandjnpdfaaChT
/-
  What partChoices comes to: the tree of a document's choices, or that there are too many.
-/
set_option linter.unusedVariables false
set_option linter.unusedSimpArgs false
namespace Go.Proofs.Ytpiaiandjnpdfaa.ChT
open Go.RowKit P1 Cnt CntC Wid ChP Tr

set_option maxRecDepth 100000 in
set_option maxHeartbeats 6400000 in
theorem part_step (d : Nat) (ih : PartS d) (B : Nat) (o n : Int) (t : ByteArray) (k : F) (hok : okD (d + 1) o n t k = true) (w : World) (a : Option Addr) (cap : Nat) (fs : List Nat) (hs : SubAt w a k fs) (hfs : ∀ c ∈ fs, c < B ∧ ∀ o, w.frozen? ⟨c, o, none⟩ = false) (hB : B ≤ w.heap.size) (hc : k.len ≤ cap) :
    Calls Try.prog 90 #[.agg #[.int .i64 o, .int .i64 n, .string t, .slice a k.len cap]] w (PartR B w o n t k a cap) := by
  obtain ⟨i0, hi, hz0, hz1, hz2⟩ := info_parts info
  obtain ⟨hn, hkok⟩ := okD_parts hok
  have hL2 : k.len ≤ 2 := by rcases node_kinds hn with ⟨_, _, h⟩ | ⟨_, _, h⟩ | ⟨_, _, _, _, h⟩ | ⟨_, _, h⟩ | ⟨_, _, h⟩ <;> omega
  obtain ⟨L, hL⟩ : ∃ L, k.len = L := ⟨_, rfl⟩
  rw [hL] at hc hL2 ⊢
  have HL := Lib.hid hL
  have HI := Lib.hid (And.intro hi (And.intro hz0 (And.intro hz1 hz2)))
  obtain ⟨h0, hh0⟩ : ∃ h0, (o == 5) = h0 := ⟨_, rfl⟩
  have IH := Lib.hid ih
  have HS := Lib.hid hs
  have HFS := Lib.hid hfs
  have HOK := Lib.hid (And.intro hn hkok)
  have HH0 := Lib.hid hh0
  have HB := Lib.hid hB
  have hinit : ∀ (C2 : Array Value), C2 = #[.int .i64 0, .int .i64 0, .string ⟨#[]⟩, .slice none 0 0, .int .i64 0, .bool false, .slice none 0 0] → Inv B w (((w.alloc (.cells #[.int .i64 o, .int .i64 n, .string t, .slice a L cap] 25)).alloc (.cells C2 70)).alloc (.cells #[.int .i64 o, .int .i64 n, .string t, .slice a L cap, .int .i64 1, .bool h0, .slice none 0 0] 70)) o n t a L cap .nil h0 (.slice none 0 0) := by
    rintro C2 rfl
    have e1 : (w.alloc (.cells #[.int .i64 o, .int .i64 n, .string t, .slice a L cap] 25)).heap.size = w.heap.size + 1 := by simp
    have e2 : ((w.alloc (.cells #[.int .i64 o, .int .i64 n, .string t, .slice a L cap] 25)).alloc (.cells #[.int .i64 0, .int .i64 0, .string ⟨#[]⟩, .slice none 0 0, .int .i64 0, .bool false, .slice none 0 0] 70)).heap.size = w.heap.size + 2 := by simp
    refine ⟨(((Below.refl _ _).alloc (Nat.le_refl _) _).alloc (by simp) _).alloc (by simp; omega) _, by simp, ⟨none, 0, rfl, ?_⟩, ?_, ?_, ?_, GrowT.start _ _ _ _, by simp [ctF]⟩
    · rw [← e2, show (h0 || !noF .nil) = h0 by simp [noF]]; exact Root.new _ _ _ _ _ _ _ _ _ _ _ _ _
    · rw [← e2]; exact Loose.new _ _ _
    · rw [← e1]; exact (Root.new _ _ _ _ _ _ _ _ _ _ _ _ _).cong (fun i => World.cell?_alloc_lt _ _ _ (by simp))
    · rw [← e1]; exact (Loose.new _ _ _).cong (fun i => ((Below.refl _ _).alloc (Nat.le_refl _) _).frozen (p := ⟨_, _, _⟩) (by simp))
  have HINIT := Lib.hid hinit
  clear hs hfs hi hz0 hz1 hz2 hinit hn hkok hL hok ih
  go_enter Try.func90, Try.ntmps90
  go_wp2_with fail
  go_loopw [17] (fun i wr => ∃ (p g : F) (v : Value), k = p.app g ∧ i = .int .i64 (p.len : Int) ∧ Inv B w wr o n t a L cap p h0 v) (fun i _ => L - (intOf i).toNat)
  case atStart => exact ⟨.nil, k, .slice none 0 0, rfl, rfl, HINIT.out _ rfl⟩
  case round =>
    obtain ⟨p, g, v, hk, rfl, hinv⟩ := hrel
    obtain ⟨J, hp⟩ : ∃ J, p.len = J := ⟨_, rfl⟩
    rw [hp]
    have h7 : g.len = L - J := by have := HL.out; rw [hk, F.len_app, hp] at this; omega
    obtain ⟨av, cv, rfl, r0, r1, r2, r3, r4, r5, r6⟩ := hinv.root
    obtain ⟨l0, l1, l2, l3, l4, l5, l6⟩ := hinv.loose
    obtain ⟨s0, s1, s2, s3, s4, s5, s6⟩ := hinv.res
    obtain ⟨m0, m1, m2, m3, m4, m5, m6⟩ := hinv.resl
    have hsz3 := hinv.size
    have lb2 : w.heap.size + 2 < wr.heap.size := by omega
    have lb1 : w.heap.size + 1 < wr.heap.size := by omega
    obtain ⟨C, hC⟩ : ∃ C, ctF p = C := ⟨_, rfl⟩
    obtain ⟨hd, hhd⟩ : ∃ hd, (h0 || !noF p) = hd := ⟨_, rfl⟩
    rw [hC] at r4
    rw [hhd] at r5
    rw [hp] at r6
    have hCp : 0 < C := by rw [← hC]; exact ctF_pos p
    cases g with
    | nil =>
      have hJL : L ≤ J := by simp only [F.len] at h7; omega
      rw [F.app_nil] at hk
      have hJ : J = L := by have := HL.out; rw [hk, hp] at this; exact this
      have hflat : (o == 8 && !hd) = (o == 8 && noF k) := by
        rw [← hhd, ← hk, ← HH0.out]
        by_cases h8 : o = 8
        · subst h8; simp
        · have h9 : (o == 8) = false := beq_eq_false_iff_ne.2 h8
          rw [h9]; rfl
      have hhard : hd = !noD o k := by rw [← hhd, ← hk, ← HH0.out, noD]; simp [bne]
      have hctd : ctD o k = if (o == 8 && !hd) = true then C + 1 else C := by rw [hflat, ← hC, ← hk]; rfl
      have H := Lib.hid (And.intro hk (And.intro hhard hinv))
      have HCD := Lib.hid hctd
      have hC1 : C ≤ 100000 := by rw [← hC]; exact hinv.small
      subst hJ
      clear hk hp hC hhd h7 hinv hflat hhard hctd
      go_wp2_with fail
      refine (flattens wr (w.heap.size + 2) 0 o hd r0 r5).mono ?_
      rintro e1 w' ⟨rfl, rfl⟩
      cases hfl : (o == 8 && !hd) with
      | true =>
        have HV := Lib.hid (show ctD o k = C + 1 by rw [HCD.out, hfl]; rfl)
        clear hfl
        by_cases hC2 : C + 1 ≤ 100000
        · have hC3 : (C : Int) + 1 ≤ 100000 := by omega
          go_wp2_with fail
          go_region
          all_goals
            go_wp2_with fail
            refine bodyPost_ret (v := .tuple #[.agg #[.int .i64 o, .int .i64 n, .string t, .slice a J cap, .int .i64 ((C : Int) + 1), .bool hd, .slice av J cv], .bool true]) (by simp [results, Try.results90, go_sem, s0, s1, s2, s3, s4, s5, s6]) rfl ?_
            obtain ⟨hk, hhard, hinv⟩ := H.out
            subst hk
            refine ⟨fun _ => part_end (N := C + 1) hinv HB.out HL.out rfl HV.out hhard ?_ ?_, fun h => absurd (by rw [HV.out]; omega) h⟩
            · have hBB := HB.out
              have hx1 : ∀ c, (c < B ∨ w.heap.size + 3 ≤ c) → c ≠ w.heap.size + 1 := fun c hc => by omega
              have hx2 : ∀ c, (c < B ∨ w.heap.size + 3 ≤ c) → c ≠ w.heap.size + 1 + 1 := fun c hc => by omega
              repeat (first | (with_reducible refine Stay.drew ?_) | (with_reducible refine Stay.setCell ?_ hx1) | (with_reducible refine Stay.setCell ?_ hx2))
              exact Stay.refl _ _
            · have hx1 : w.heap.size ≤ w.heap.size + 1 := by omega
              have hx2 : w.heap.size ≤ w.heap.size + 1 + 1 := by omega
              repeat (first | (with_reducible refine Below.drew ?_) | (with_reducible refine Below.setCell ?_ hx1 _) | (with_reducible refine Below.setCell ?_ hx2 _))
              exact Below.refl _ _
        · have hC3 : ¬ ((C : Int) + 1 ≤ 100000) := by omega
          have hC4 : (100000 : Int) < (C : Int) + 1 := by omega
          go_wp2_with fail
          go_region
          all_goals
            go_wp2_with fail
            refine bodyPost_ret (v := .tuple #[.agg #[.int .i64 o, .int .i64 n, .string t, .slice a J cap, .int .i64 ((C : Int) + 1), .bool hd, .slice av J cv], .bool false]) (by simp [results, Try.results90, go_sem, hC4, s0, s1, s2, s3, s4, s5, s6]) rfl ?_
            obtain ⟨hk, hhard, hinv⟩ := H.out
            subst hk
            refine ⟨fun h => absurd h (by rw [HV.out]; omega), fun _ => ⟨_, _, _, _, _, _, _, _, _, _, _, rfl, ?_⟩⟩
            have hx1 : w.heap.size ≤ w.heap.size + 1 := by omega
            have hx2 : w.heap.size ≤ w.heap.size + 1 + 1 := by omega
            repeat (first | (with_reducible refine Below.drew ?_) | (with_reducible refine Below.setCell ?_ hx1 _) | (with_reducible refine Below.setCell ?_ hx2 _))
            exact hinv.below
      | false =>
        have HV := Lib.hid (show ctD o k = C by rw [HCD.out, hfl]; rfl)
        have hC3 : (C : Int) ≤ 100000 := by omega
        clear hfl
        go_wp2_with fail
        go_region
        all_goals
          go_wp2_with fail
          refine bodyPost_ret (v := .tuple #[.agg #[.int .i64 o, .int .i64 n, .string t, .slice a J cap, .int .i64 (C : Int), .bool hd, .slice av J cv], .bool true]) (by simp [results, Try.results90, go_sem, s0, s1, s2, s3, s4, s5, s6]) rfl ?_
          obtain ⟨hk, hhard, hinv⟩ := H.out
          subst hk
          refine ⟨fun _ => part_end (N := C) hinv HB.out HL.out rfl HV.out hhard ?_ ?_, fun h => absurd (by rw [HV.out]; omega) h⟩
          · have hBB := HB.out
            have hx1 : ∀ c, (c < B ∨ w.heap.size + 3 ≤ c) → c ≠ w.heap.size + 1 := fun c hc => by omega
            have hx2 : ∀ c, (c < B ∨ w.heap.size + 3 ≤ c) → c ≠ w.heap.size + 1 + 1 := fun c hc => by omega
            repeat (first | (with_reducible refine Stay.drew ?_) | (with_reducible refine Stay.setCell ?_ hx1) | (with_reducible refine Stay.setCell ?_ hx2))
            exact Stay.refl _ _
          · have hx1 : w.heap.size ≤ w.heap.size + 1 := by omega
            have hx2 : w.heap.size ≤ w.heap.size + 1 + 1 := by omega
            repeat (first | (with_reducible refine Below.drew ?_) | (with_reducible refine Below.setCell ?_ hx1 _) | (with_reducible refine Below.setCell ?_ hx2 _))
            exact Below.refl _ _
    | cons o1 n1 t1 k1 rr =>
      have hJL : J < L := by simp only [F.len] at h7; omega
      obtain ⟨hn, hkok⟩ := HOK.out
      have hok1 : okD d o1 n1 t1 k1 = true := by
        rw [hk, F.ok_app] at hkok
        simp only [Bool.and_eq_true] at hkok
        have := hkok.2
        rw [ok_cons, Bool.and_eq_true] at this
        exact this.1
      obtain ⟨b, off, rfl, hrow, hbB, hfB⟩ : ∃ b off, a = some ⟨b, off, none⟩ ∧ (∃ f', RowAt w k b off f' ∧ ∀ c ∈ f', c ∈ fs) ∧ b < B ∧ True := by
        rcases HS.out with ⟨h, _⟩ | ⟨b, off, f', rfl, _, hf, hr⟩
        · exfalso; rw [h] at hk; have := congrArg F.len hk; rw [F.len_app] at this; simp [F.len] at this
        · exact ⟨b, off, rfl, ⟨f', hr, fun c hc => by rw [hf]; simp [hc]⟩, (HFS.out b (by rw [hf]; simp)).1, trivial⟩
      obtain ⟨f', hrow, hff⟩ := hrow
      rw [hk] at hrow
      obtain ⟨a1, cap1, f1, c0, c1, c2, c3, hc1, hsub1, hin⟩ := row_at hrow
      rw [hp] at c0 c1 c2 c3
      have hbw : b < w.heap.size := Nat.lt_of_lt_of_le hbB HB.out
      rw [← hinv.below.cell (p := ⟨_, _, _⟩) hbw] at c0 c1 c2 c3
      have hHD := fun (W : World) (hW : Below wr.heap.size wr W) => IH.out B o1 n1 t1 k1 hok1 W a1 cap1 f1 (hsub1.below (B := w.heap.size) (fun c hc => Nat.lt_of_lt_of_le (HFS.out c (hff c (hin c hc))).1 HB.out) (hinv.below.trans (hW.mono hinv.below.size))) (fun c hc => ⟨(HFS.out c (hff c (hin c hc))).1, fun x => ((hinv.below.trans (hW.mono hinv.below.size)).frozen (p := ⟨c, x, none⟩) (Nat.lt_of_lt_of_le (HFS.out c (hff c (hin c hc))).1 HB.out)).trans ((HFS.out c (hff c (hin c hc))).2 x)⟩) (Nat.le_trans HB.out (Nat.le_trans hinv.below.size hW.size)) hc1
      have HD := Lib.hid hHD
      have hDI := fun (W : World) (hW : Below wr.heap.size wr W) => (show DocIn (fun c => c < B) W k1 a1 cap1 from ⟨hc1, f1, hsub1.below (B := w.heap.size) (fun c hc => Nat.lt_of_lt_of_le (HFS.out c (hff c (hin c hc))).1 HB.out) (hinv.below.trans (hW.mono hinv.below.size)), fun c hc => ⟨(HFS.out c (hff c (hin c hc))).1, Nat.lt_of_lt_of_le (HFS.out c (hff c (hin c hc))).1 (Nat.le_trans HB.out (Nat.le_trans hinv.below.size hW.size)), fun x => ((hinv.below.trans (hW.mono hinv.below.size)).frozen (p := ⟨c, x, none⟩) (Nat.lt_of_lt_of_le (HFS.out c (hff c (hin c hc))).1 HB.out)).trans ((HFS.out c (hff c (hin c hc))).2 x)⟩⟩)
      have HDI := Lib.hid hDI
      have hA := Lib.hid (show ∀ ob, Below wr.heap.size wr (wr.alloc ob) from fun ob => (Below.refl _ _).alloc (Nat.le_refl _) _)
      have HSB := Lib.hid (And.intro hsub1 (And.intro hff hin))
      have hpos : ctF k = C * (ctD o1 k1 * ctF rr) := by rw [hk, ctF_app, hC]; rfl
      have H := Lib.hid (And.intro hk (And.intro hp (And.intro hC (And.intro hhd (And.intro hinv hpos)))))
      obtain ⟨Y, hY⟩ : ∃ Y, ctD o1 k1 = Y := ⟨_, rfl⟩
      have hYp : 0 < Y := by rw [← hY]; exact ctD_pos o1 k1
      have hi0 : (0 : Int) ≤ (J : Int) := by omega
      have hi1 : (J : Int) < (L : Int) := by omega
      have HY := Lib.hid hY
      clear hn hkok hok1 hrow hff hHD hDI hsub1 hin hk hp hC hhd hinv hpos hfB h7 hY
      go_wp2_with fail
      by_cases hk1 : Y ≤ 100000
      · refine ((HD.out _ (hA.out _)).mono (fun e w' h => h.1 (by rw [HY.out]; exact hk1))).mono ?_
        rintro e1 w2 ⟨a2, c2', rfl, ht2, hb2⟩
        have hbw2 : Below wr.heap.size wr w2 := (hA.out _).trans (hb2.mono (hA.out _).size)
        rw [HY.out]
        obtain ⟨hd1, hhd1⟩ : ∃ hd1, (!noD o1 k1) = hd1 := ⟨_, rfl⟩
        rw [hhd1]
        go_wp2_with fail
        obtain ⟨V, hV⟩ : ∃ V, w2.alloc (.cells #[.int .i64 o1, .int .i64 n1, .string t1, .slice a1 k1.len cap1, .int .i64 (Y : Int), .bool hd1, .slice a2 k1.len c2'] 70) = V := ⟨_, rfl⟩
        have hbV : Below wr.heap.size wr V := by rw [← hV]; exact hbw2.alloc hbw2.size _
        rw [hV]
        have hiV := Inv.ext H.out.2.2.2.2.1 HB.out hbV
        have q0 : V.cell? ⟨w2.heap.size, 0, none⟩ = some (.int .i64 o1) := by rw [← hV, World.cell?_alloc_new]; rfl
        have q1 : V.cell? ⟨w2.heap.size, 1, none⟩ = some (.int .i64 n1) := by rw [← hV, World.cell?_alloc_new]; rfl
        have q2 : V.cell? ⟨w2.heap.size, 2, none⟩ = some (.string t1) := by rw [← hV, World.cell?_alloc_new]; rfl
        have q3 : V.cell? ⟨w2.heap.size, 3, none⟩ = some (.slice a1 k1.len cap1) := by rw [← hV, World.cell?_alloc_new]; rfl
        have q4 : V.cell? ⟨w2.heap.size, 4, none⟩ = some (.int .i64 (Y : Int)) := by rw [← hV, World.cell?_alloc_new]; rfl
        have q5 : V.cell? ⟨w2.heap.size, 5, none⟩ = some (.bool hd1) := by rw [← hV, World.cell?_alloc_new]; rfl
        have q6 : V.cell? ⟨w2.heap.size, 6, none⟩ = some (.slice a2 k1.len c2') := by rw [← hV, World.cell?_alloc_new]; rfl
        have lq : w2.heap.size < V.heap.size := by rw [← hV]; simp
        have hw2 : w.heap.size + 3 ≤ w2.heap.size := Nat.le_trans hsz3 hbw2.size
        have hwq : (wr.alloc (.cells #[.int .i64 o1, .int .i64 n1, .string t1, .slice a1 k1.len cap1] 25)).heap.size ≤ V.heap.size := by rw [← hV]; have := hb2.size; simp at this ⊢; omega
        have ht2V : TreeSub (fun c => c < B ∨ (wr.alloc (.cells #[.int .i64 o1, .int .i64 n1, .string t1, .slice a1 k1.len cap1] 25)).heap.size ≤ c) V a2 k1 := by rw [← hV]; exact ht2.stay (Stay.below ((Below.refl _ _).alloc (Nat.le_refl _) _))
        clear s0 s1 s2 s3 s4 s5 s6 m0 m1 m2 m3 m4 m5 m6 lb1 c0 c1 c2 c3
        obtain ⟨s0, s1, s2, s3, s4, s5, s6⟩ := hiV.res
        obtain ⟨m0, m1, m2, m3, m4, m5, m6⟩ := hiV.resl
        obtain ⟨f0, f1', f2, f3, f4, f5, f6⟩ := hiV.loose
        clear l0 l1 l2 l3 l4 l5 l6
        have e4 : V.cell? ⟨w.heap.size + 2, 4, none⟩ = some (.int .i64 (C : Int)) := (hbV.cell (p := ⟨w.heap.size + 2, 4, none⟩) lb2).trans r4
        have e5 : V.cell? ⟨w.heap.size + 2, 5, none⟩ = some (.bool hd) := (hbV.cell (p := ⟨w.heap.size + 2, 5, none⟩) lb2).trans r5
        have e6 : V.cell? ⟨w.heap.size + 2, 6, none⟩ = some (.slice av J cv) := (hbV.cell (p := ⟨w.heap.size + 2, 6, none⟩) lb2).trans r6
        have lb1 : w.heap.size + 1 < V.heap.size := by have := hiV.size; omega
        have lbt : w.heap.size + 2 < V.heap.size := by have := hiV.size; omega
        clear lb2 r0 r1 r2 r3 r4 r5 r6
        have HIV := Lib.hid (And.intro hiV (And.intro ht2V (And.intro hw2 (And.intro hbw2 hbV))))
        have HH1 := Lib.hid hhd1
        have hY1 : (1 : Int) ≤ (Y : Int) := by omega
        have hY0 : ¬ ((Y : Int) = 0) := by omega
        have hY2 : (Y : Int) ≤ 100000 := by omega
        have hC1 : (C : Int) ≤ 100000 := by have := H.out.2.2.2.2.1.small; rw [H.out.2.2.1] at this; omega
        clear hV hbV hiV hbw2 hb2 ht2V hw2 hhd1 ht2
        have HWQ := Lib.hid hwq
        clear hwq
        by_cases hp : C * Y ≤ 100000
        · have hdt : (C : Int) ≤ (100000 : Int) / (Y : Int) := (div_test hYp).2 hp
          have hP0 : 0 ≤ (C : Int) * (Y : Int) := Int.mul_nonneg (by omega) (by omega)
          have hP1 : (C : Int) * (Y : Int) ≤ 100000 := by rw [← Int.natCast_mul]; omega
          cases hd with
          | true =>
            have HZ := Lib.hid (show (true || hd1) = true from rfl)
            go_quiet (fail)
            go_wp2_with fail
            obtain ⟨U, hU⟩ : ∃ U, ((V.drewN nq).setCell ⟨w.heap.size + 1 + 1, 4, none⟩ (.int .i64 ((C : Int) * (Y : Int)))).setCell ⟨w.heap.size + 1 + 1, 5, none⟩ (.bool true) = U := ⟨_, rfl⟩
            have hbU : But V.heap.size (w.heap.size + 2) V U := by rw [← hU]; exact ((But.of_below (ext_drewN V nq)).setCell (p := ⟨w.heap.size + 1 + 1, 4, none⟩) (.inl rfl) _).setCell (p := ⟨w.heap.size + 1 + 1, 5, none⟩) (.inl rfl) _
            have hUs : V.heap.size = U.heap.size := by rw [← hU]; simp
            have hUb : U.heap[w.heap.size + 2]? = ((V.setCell ⟨w.heap.size + 2, 4, none⟩ (.int .i64 ((C : Int) * (Y : Int)))).setCell ⟨w.heap.size + 2, 5, none⟩ (.bool true)).heap[w.heap.size + 2]? := by rw [← hU]; exact setCell_at (setCell_at ((ext_drewN V nq).block _ lbt) 4 _) 5 _
            have HBU := Lib.hid (And.intro hbU (And.intro hUs hUb))
            have n6 : U.cell? ⟨w.heap.size + 2, 6, none⟩ = some (.slice av J cv) := by rw [← hU, World.cell?_setCell_other _ _ _ _ (by simp), World.cell?_setCell_other _ _ _ _ (by simp)]; exact ((ext_drewN V nq).cell lbt).trans e6
            have z6 : U.frozen? ⟨w.heap.size + 2, 6, none⟩ = false := by rw [← hU, World.frozen?_setCell, World.frozen?_setCell]; exact ((ext_drewN V nq).frozen lbt).trans f6
            have hqt : w2.heap.size ≠ w.heap.size + 2 := by have := HIV.out.2.2.1; omega
            replace q0 := (hbU.cell (c := w2.heap.size) (o := 0) lq hqt).trans q0
            replace q1 := (hbU.cell (c := w2.heap.size) (o := 1) lq hqt).trans q1
            replace q2 := (hbU.cell (c := w2.heap.size) (o := 2) lq hqt).trans q2
            replace q3 := (hbU.cell (c := w2.heap.size) (o := 3) lq hqt).trans q3
            replace q4 := (hbU.cell (c := w2.heap.size) (o := 4) lq hqt).trans q4
            replace q5 := (hbU.cell (c := w2.heap.size) (o := 5) lq hqt).trans q5
            replace q6 := (hbU.cell (c := w2.heap.size) (o := 6) lq hqt).trans q6
            rw [hU]
            clear hU
            have hGU : GrowT (fun c => c < B ∨ w.heap.size + 3 ≤ c) U 70 (w.heap.size + 3) (.slice av J cv) p := by
              have hg := HIV.out.1.grow
              rw [H.out.2.1] at hg
              exact hg.stay hbU (fun e => by have := hg.own_lt _ e; omega) (fun c hc => by have := HB.out; omega)
            have hown : ∀ k, (Value.slice av J cv).ownBlock = some k → w.heap.size + 3 ≤ k ∧ k < w2.heap.size := by
              intro k e
              have hg := H.out.2.2.2.2.1.grow
              rw [H.out.2.1] at hg
              have := hg.own_lt k e
              have := HIV.out.2.2.2.1.size
              omega
            have lU : w2.heap.size < U.heap.size := by omega
            have lt : w.heap.size + 2 < U.heap.size := by omega
            have hnt : (Value.slice av J cv).ownBlock ≠ some (w.heap.size + 2) := fun e => by have := hown _ e; omega
            have hnq : (Value.slice av J cv).ownBlock ≠ some w2.heap.size := fun e => by have := hown _ e; omega
            have hwt : w.heap.size + 3 ≤ w2.heap.size := HIV.out.2.2.1
            have HG := Lib.hid (fun ob => (hGU.stay (But.of_below (x := w.heap.size + 1) (((Below.refl U.heap.size U).drew).alloc (Nat.le_refl _) ob)) (fun e => by have := hown _ e; omega) (fun c hc => by have := HB.out; omega)))
            have HQ := Lib.hid (And.intro q0 (And.intro q1 (And.intro q2 (And.intro q3 (And.intro q4 (And.intro q5 q6))))))
            have HN := Lib.hid (And.intro n6 (And.intro z6 (And.intro lU (And.intro lt (And.intro hnt (And.intro hnq hown))))))
            have hnx : ∀ (g cp : Nat) (w' : World) (ob : Obj), Mid (fun c => c < B ∨ w.heap.size + 3 ≤ c) w' 70 (w.heap.size + 3) g cp p → (U.drew.alloc ob).grownBy w' (Value.slice av J cv).ownBlock → ((Value.slice av J cv).ownBlock = some g ∨ g = U.heap.size + 1) → ∀ W, Two w' W g (J * 7) (w.heap.size + 1 + 1) [.int .i64 o1, .int .i64 n1, .string t1, .slice a1 k1.len cap1, .int .i64 (Y : Int), .bool hd1, .slice a2 k1.len c2'] (.slice (some ⟨g, 0, none⟩) (J + 1) cp) → Inv B w W o n t (some ⟨b, off, none⟩) L cap (p.app (.cons o1 n1 t1 k1 .nil)) h0 (.slice (some ⟨g, 0, none⟩) (J + 1) cp) := by
              intro g cp w' ob hM hgr hg W hW
              obtain ⟨hk, hp', hC, hhd, hinv0, hpos⟩ := H.out
              obtain ⟨hiV, ht2V, hw2, hbw2, hbV⟩ := HIV.out
              have hiV' := hiV
              rw [hp'] at hiV'
              refine Inv.next (V := V) (U := U) (w' := w') HB.out hp' hC hhd HY.out HH1.out HZ.out hp hiV' HBU.out.1 HBU.out.2.1 HBU.out.2.2 hM hgr hg (fun k e => ?_) HWQ.out ?_ (HDI.out V hbV) ht2V hW
              · have h1 := hinv0.grow
                rw [hp'] at h1
                have h2 := h1.own_lt k e
                exact ⟨h2.1, by simp; omega⟩
              · have h1 := hinv0.size
                simp; omega
            have HNX := Lib.hid hnx
            have HPJ := Lib.hid H.out.2.1
            have HPL := Lib.hid (show p.len + 1 ≤ 100000 by have := H.out.2.1; omega)
            have hj0 : (0 : Int) ≤ (J : Int) := by omega
            have hjl : (J : Int) < (J : Int) + 1 := by omega
            clear hGU hown hnt hnq hqt hbU hUb hnx
            go_region_law (refine step_append_tree (D := fun c => c < B ∨ w.heap.size + 3 ≤ c) (lo := w.heap.size + 3) (v := .slice av J cv) (p := p) (d := U.heap.size) (c := 1) rfl (.tmp 51) (.tmp 54) 68 rfl Try.underlying68 HI.out.1 HI.out.2.1 HI.out.2.2.1 HI.out.2.2.2 (by decide) rfl (by rfl) (HG.out _) (by simp; omega) (by rfl) (zero_new _ _ _ (by simp)) HPL.out (U.heap.size + 1) (by simp) HPJ.out ?_; intro g cp w' hM hgr hg; obtain ⟨⟨y0, y1, y2, y3, y4, y5, y6⟩, yf, lg, hgl⟩ := hM.cells HPJ.out; obtain ⟨tc, tf, tl, tb⟩ := far hgr HN.out.2.2.2.1 HN.out.2.2.2.2.1; obtain ⟨kc, kf, kl, kb⟩ := far hgr HN.out.2.2.1 HN.out.2.2.2.2.2.1; have x6 := (tc 6).trans HN.out.1; have xz := (tf 6).trans HN.out.2.1; have kk0 := (kc 0).trans HQ.out.1; have kk1 := (kc 1).trans HQ.out.2.1; have kk2 := (kc 2).trans HQ.out.2.2.1; have kk3 := (kc 3).trans HQ.out.2.2.2.1; have kk4 := (kc 4).trans HQ.out.2.2.2.2.1; have kk5 := (kc 5).trans HQ.out.2.2.2.2.2.1; have kk6 := (kc 6).trans HQ.out.2.2.2.2.2.2; have z0 := yf (J * 7); have z1 := yf (J * 7 + 1); have z2 := yf (J * 7 + 2); have z3 := yf (J * 7 + 3); have z4 := yf (J * 7 + 4); have z5 := yf (J * 7 + 5); have z7 := yf (J * 7 + 6); have HM := Lib.hid (And.intro hM (And.intro hgr (And.intro hg (And.intro tb (And.intro kb (And.intro tc tf)))))); have hgt : ¬ (g = w.heap.size + 1 + 1) := (by omega); have hgt2 : ¬ (w.heap.size + 1 + 1 = g) := (by omega); clear hM hgr hg yf tc tf tb kc kf kb)
            all_goals
              go_wp2_with fail
              go_roundw
              case rel =>
                obtain ⟨hM, hgr, hg, _⟩ := HM.out
                obtain ⟨hk, hp', _⟩ := H.out
                exact ⟨p.app (.cons o1 n1 t1 k1 .nil), rr, .slice (some ⟨g, 0, none⟩) (J + 1) cp, by rw [hk, F.app_assoc]; rfl, by rw [F.len_app, hp']; go_num, HNX.out g cp w' _ hM hgr hg _ (by with_reducible (first | exact Two.a7 w' _ _ _ _ _ _ _ _ hgt2 | exact Two.b7 w' _ _ _ _ _ _ _ _ hgt2))⟩
              case measure => simp [intOf]; omega
          | false =>
            have HZ := Lib.hid (show (false || hd1) = hd1 from rfl)
            go_quiet (fail)
            go_wp2_with fail
            obtain ⟨U, hU⟩ : ∃ U, ((V.drewN nq).setCell ⟨w.heap.size + 1 + 1, 4, none⟩ (.int .i64 ((C : Int) * (Y : Int)))).setCell ⟨w.heap.size + 1 + 1, 5, none⟩ (.bool hd1) = U := ⟨_, rfl⟩
            have hbU : But V.heap.size (w.heap.size + 2) V U := by rw [← hU]; exact ((But.of_below (ext_drewN V nq)).setCell (p := ⟨w.heap.size + 1 + 1, 4, none⟩) (.inl rfl) _).setCell (p := ⟨w.heap.size + 1 + 1, 5, none⟩) (.inl rfl) _
            have hUs : V.heap.size = U.heap.size := by rw [← hU]; simp
            have hUb : U.heap[w.heap.size + 2]? = ((V.setCell ⟨w.heap.size + 2, 4, none⟩ (.int .i64 ((C : Int) * (Y : Int)))).setCell ⟨w.heap.size + 2, 5, none⟩ (.bool hd1)).heap[w.heap.size + 2]? := by rw [← hU]; exact setCell_at (setCell_at ((ext_drewN V nq).block _ lbt) 4 _) 5 _
            have HBU := Lib.hid (And.intro hbU (And.intro hUs hUb))
            have n6 : U.cell? ⟨w.heap.size + 2, 6, none⟩ = some (.slice av J cv) := by rw [← hU, World.cell?_setCell_other _ _ _ _ (by simp), World.cell?_setCell_other _ _ _ _ (by simp)]; exact ((ext_drewN V nq).cell lbt).trans e6
            have z6 : U.frozen? ⟨w.heap.size + 2, 6, none⟩ = false := by rw [← hU, World.frozen?_setCell, World.frozen?_setCell]; exact ((ext_drewN V nq).frozen lbt).trans f6
            have hqt : w2.heap.size ≠ w.heap.size + 2 := by have := HIV.out.2.2.1; omega
            replace q0 := (hbU.cell (c := w2.heap.size) (o := 0) lq hqt).trans q0
            replace q1 := (hbU.cell (c := w2.heap.size) (o := 1) lq hqt).trans q1
            replace q2 := (hbU.cell (c := w2.heap.size) (o := 2) lq hqt).trans q2
            replace q3 := (hbU.cell (c := w2.heap.size) (o := 3) lq hqt).trans q3
            replace q4 := (hbU.cell (c := w2.heap.size) (o := 4) lq hqt).trans q4
            replace q5 := (hbU.cell (c := w2.heap.size) (o := 5) lq hqt).trans q5
            replace q6 := (hbU.cell (c := w2.heap.size) (o := 6) lq hqt).trans q6
            rw [hU]
            clear hU
            have hGU : GrowT (fun c => c < B ∨ w.heap.size + 3 ≤ c) U 70 (w.heap.size + 3) (.slice av J cv) p := by
              have hg := HIV.out.1.grow
              rw [H.out.2.1] at hg
              exact hg.stay hbU (fun e => by have := hg.own_lt _ e; omega) (fun c hc => by have := HB.out; omega)
            have hown : ∀ k, (Value.slice av J cv).ownBlock = some k → w.heap.size + 3 ≤ k ∧ k < w2.heap.size := by
              intro k e
              have hg := H.out.2.2.2.2.1.grow
              rw [H.out.2.1] at hg
              have := hg.own_lt k e
              have := HIV.out.2.2.2.1.size
              omega
            have lU : w2.heap.size < U.heap.size := by omega
            have lt : w.heap.size + 2 < U.heap.size := by omega
            have hnt : (Value.slice av J cv).ownBlock ≠ some (w.heap.size + 2) := fun e => by have := hown _ e; omega
            have hnq : (Value.slice av J cv).ownBlock ≠ some w2.heap.size := fun e => by have := hown _ e; omega
            have hwt : w.heap.size + 3 ≤ w2.heap.size := HIV.out.2.2.1
            have HG := Lib.hid (fun ob => (hGU.stay (But.of_below (x := w.heap.size + 1) (((Below.refl U.heap.size U).drew).alloc (Nat.le_refl _) ob)) (fun e => by have := hown _ e; omega) (fun c hc => by have := HB.out; omega)))
            have HQ := Lib.hid (And.intro q0 (And.intro q1 (And.intro q2 (And.intro q3 (And.intro q4 (And.intro q5 q6))))))
            have HN := Lib.hid (And.intro n6 (And.intro z6 (And.intro lU (And.intro lt (And.intro hnt (And.intro hnq hown))))))
            have hnx : ∀ (g cp : Nat) (w' : World) (ob : Obj), Mid (fun c => c < B ∨ w.heap.size + 3 ≤ c) w' 70 (w.heap.size + 3) g cp p → (U.drew.alloc ob).grownBy w' (Value.slice av J cv).ownBlock → ((Value.slice av J cv).ownBlock = some g ∨ g = U.heap.size + 1) → ∀ W, Two w' W g (J * 7) (w.heap.size + 1 + 1) [.int .i64 o1, .int .i64 n1, .string t1, .slice a1 k1.len cap1, .int .i64 (Y : Int), .bool hd1, .slice a2 k1.len c2'] (.slice (some ⟨g, 0, none⟩) (J + 1) cp) → Inv B w W o n t (some ⟨b, off, none⟩) L cap (p.app (.cons o1 n1 t1 k1 .nil)) h0 (.slice (some ⟨g, 0, none⟩) (J + 1) cp) := by
              intro g cp w' ob hM hgr hg W hW
              obtain ⟨hk, hp', hC, hhd, hinv0, hpos⟩ := H.out
              obtain ⟨hiV, ht2V, hw2, hbw2, hbV⟩ := HIV.out
              have hiV' := hiV
              rw [hp'] at hiV'
              refine Inv.next (V := V) (U := U) (w' := w') HB.out hp' hC hhd HY.out HH1.out HZ.out hp hiV' HBU.out.1 HBU.out.2.1 HBU.out.2.2 hM hgr hg (fun k e => ?_) HWQ.out ?_ (HDI.out V hbV) ht2V hW
              · have h1 := hinv0.grow
                rw [hp'] at h1
                have h2 := h1.own_lt k e
                exact ⟨h2.1, by simp; omega⟩
              · have h1 := hinv0.size
                simp; omega
            have HNX := Lib.hid hnx
            have HPJ := Lib.hid H.out.2.1
            have HPL := Lib.hid (show p.len + 1 ≤ 100000 by have := H.out.2.1; omega)
            have hj0 : (0 : Int) ≤ (J : Int) := by omega
            have hjl : (J : Int) < (J : Int) + 1 := by omega
            clear hGU hown hnt hnq hqt hbU hUb hnx
            go_region_law (refine step_append_tree (D := fun c => c < B ∨ w.heap.size + 3 ≤ c) (lo := w.heap.size + 3) (v := .slice av J cv) (p := p) (d := U.heap.size) (c := 1) rfl (.tmp 51) (.tmp 54) 68 rfl Try.underlying68 HI.out.1 HI.out.2.1 HI.out.2.2.1 HI.out.2.2.2 (by decide) rfl (by rfl) (HG.out _) (by simp; omega) (by rfl) (zero_new _ _ _ (by simp)) HPL.out (U.heap.size + 1) (by simp) HPJ.out ?_; intro g cp w' hM hgr hg; obtain ⟨⟨y0, y1, y2, y3, y4, y5, y6⟩, yf, lg, hgl⟩ := hM.cells HPJ.out; obtain ⟨tc, tf, tl, tb⟩ := far hgr HN.out.2.2.2.1 HN.out.2.2.2.2.1; obtain ⟨kc, kf, kl, kb⟩ := far hgr HN.out.2.2.1 HN.out.2.2.2.2.2.1; have x6 := (tc 6).trans HN.out.1; have xz := (tf 6).trans HN.out.2.1; have kk0 := (kc 0).trans HQ.out.1; have kk1 := (kc 1).trans HQ.out.2.1; have kk2 := (kc 2).trans HQ.out.2.2.1; have kk3 := (kc 3).trans HQ.out.2.2.2.1; have kk4 := (kc 4).trans HQ.out.2.2.2.2.1; have kk5 := (kc 5).trans HQ.out.2.2.2.2.2.1; have kk6 := (kc 6).trans HQ.out.2.2.2.2.2.2; have z0 := yf (J * 7); have z1 := yf (J * 7 + 1); have z2 := yf (J * 7 + 2); have z3 := yf (J * 7 + 3); have z4 := yf (J * 7 + 4); have z5 := yf (J * 7 + 5); have z7 := yf (J * 7 + 6); have HM := Lib.hid (And.intro hM (And.intro hgr (And.intro hg (And.intro tb (And.intro kb (And.intro tc tf)))))); have hgt : ¬ (g = w.heap.size + 1 + 1) := (by omega); have hgt2 : ¬ (w.heap.size + 1 + 1 = g) := (by omega); clear hM hgr hg yf tc tf tb kc kf kb)
            all_goals
              go_wp2_with fail
              go_roundw
              case rel =>
                obtain ⟨hM, hgr, hg, _⟩ := HM.out
                obtain ⟨hk, hp', _⟩ := H.out
                exact ⟨p.app (.cons o1 n1 t1 k1 .nil), rr, .slice (some ⟨g, 0, none⟩) (J + 1) cp, by rw [hk, F.app_assoc]; rfl, by rw [F.len_app, hp']; go_num, HNX.out g cp w' _ hM hgr hg _ (by with_reducible (first | exact Two.a7 w' _ _ _ _ _ _ _ _ hgt2 | exact Two.b7 w' _ _ _ _ _ _ _ _ hgt2))⟩
              case measure => simp [intOf]; omega
        · have hdt : ¬ ((C : Int) ≤ (100000 : Int) / (Y : Int)) := fun h => hp ((div_test hYp).1 h)
          have hdt2 : (100000 : Int) / (Y : Int) < (C : Int) := by omega
          go_quiet (fail)
          go_wp2_with fail
          refine bodyPost_ret (v := .tuple #[.agg #[.int .i64 0, .int .i64 0, .string ⟨#[]⟩, .slice none 0 0, .int .i64 0, .bool false, .slice none 0 0], .bool false]) (by simp [results, Try.results90, go_sem, s0, s1, s2, s3, s4, s5, s6]) rfl ?_
          obtain ⟨hk, hp', hC, hhd, hinv, hpos⟩ := H.out
          have hbig : ¬ ctD o k ≤ 100000 := by
            have h1 := ctD_ge o k
            have h2 : C * Y ≤ ctF k := by
              rw [hpos, HY.out]
              exact Nat.mul_le_mul_left _ (Nat.le_mul_of_pos_right _ (ctF_pos rr))
            omega
          refine ⟨fun h => absurd h hbig, fun _ => ⟨_, _, _, _, _, _, _, _, _, _, _, rfl, ?_⟩⟩
          have hx1 : w.heap.size ≤ w.heap.size + 1 := by omega
          repeat (first | (with_reducible refine Below.drew ?_) | (with_reducible refine Below.setCell ?_ hx1 _))
          exact HIV.out.1.below.trans ((ext_drewN _ _).mono HIV.out.1.below.size)
      · refine ((HD.out _ (hA.out _)).mono (fun e w' h => h.2 (by rw [HY.out]; exact hk1))).mono ?_
        rintro e1 w2 ⟨ox, nx, tx, ax, lx, cx, xx, yx, ax', lx', cx', rfl, hb2⟩
        have hbw2 : Below wr.heap.size wr w2 := (hA.out _).trans (hb2.mono (hA.out _).size)
        go_wp2_with fail
        obtain ⟨V, hV⟩ : ∃ V, w2.alloc (.cells #[.int .i64 ox, .int .i64 nx, .string tx, .slice ax lx cx, .int .i64 xx, .bool yx, .slice ax' lx' cx'] 70) = V := ⟨_, rfl⟩
        have hbV : Below wr.heap.size wr V := by rw [← hV]; exact hbw2.alloc hbw2.size _
        rw [hV]
        have hiV := Inv.ext H.out.2.2.2.2.1 HB.out hbV
        clear s0 s1 s2 s3 s4 s5 s6 m0 m1 m2 m3 m4 m5 m6 lb1
        obtain ⟨s0, s1, s2, s3, s4, s5, s6⟩ := hiV.res
        obtain ⟨m0, m1, m2, m3, m4, m5, m6⟩ := hiV.resl
        have lb1 : w.heap.size + 1 < V.heap.size := by have := hiV.size; omega
        have HIV := Lib.hid hiV
        clear hV hbV hiV hbw2 hb2 r0 r1 r2 r3 r4 r5 r6 l0 l1 l2 l3 l4 l5 l6 c0 c1 c2 c3
        go_quiet (fail)
        go_wp2_with fail
        refine bodyPost_ret (v := .tuple #[.agg #[.int .i64 0, .int .i64 0, .string ⟨#[]⟩, .slice none 0 0, .int .i64 0, .bool false, .slice none 0 0], .bool false]) (by simp [results, Try.results90, go_sem, s0, s1, s2, s3, s4, s5, s6]) rfl ?_
        obtain ⟨hk, hp, hC, hhd, hinv, hpos⟩ := H.out
        have hbig : ¬ ctD o k ≤ 100000 := by
          have h1 := ctD_ge o k
          have h2 : Y ≤ ctF k := by
            rw [hpos, HY.out]
            exact Nat.le_trans (Nat.le_mul_of_pos_right _ (ctF_pos rr)) (Nat.le_mul_of_pos_left _ hCp)
          omega
        refine ⟨fun h => absurd h hbig, fun _ => ⟨_, _, _, _, _, _, _, _, _, _, _, rfl, ?_⟩⟩
        have hx1 : w.heap.size ≤ w.heap.size + 1 := by omega
        repeat (first | (with_reducible refine Below.drew ?_) | (with_reducible refine Below.setCell ?_ hx1 _))
        exact HIV.out.below.trans ((ext_drewN _ _).mono HIV.out.below.size)

theorem partS_all : ∀ d : Nat, PartS d := by
  intro d
  induction d with
  | zero => intro B o n t k h; rw [okD_zero] at h; cases h
  | succ d ih => intro B o n t k h w a cap fs hs hfs hB hc; exact part_step d ih B o n t k h w a cap fs hs hfs hB hc

end Go.Proofs.Ytpiaiandjnpdfaa.ChT


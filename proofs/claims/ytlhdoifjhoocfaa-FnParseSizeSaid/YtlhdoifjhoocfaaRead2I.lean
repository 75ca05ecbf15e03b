import Derived.Test.YtlhdoifjhoocfaaRead1I
import Derived.Outline
/-
  What the program's reader of documents comes to: its Kids, and whole documents.
-/
set_option linter.unusedVariables false
set_option linter.unusedSimpArgs false
namespace Go.Proofs.Ytlhdoifjhoocfaa.Read2
open Go.RowKit P1 Copy ReadDocs

set_option maxRecDepth 100000 in
set_option maxHeartbeats 3200000 in
theorem around (d : Nat) (ih : DocS d) (hd : d ≤ 40) (w : World) (x : Nat) (l : List UInt8) (op num : Int) (L : Nat) (ci : Int) (hci : ci = (L : Int)) (hL : 1 ≤ L) (hL2 : L ≤ 2) (sg : UInt8) (si : Int) (hsi : si = (sg.toNat : Int)) (hsg : sg.toNat ≠ 0) (dp : Int) (hdp : dp + (d : Int) = 40) (h : Has w x l) (hl : l.length ≤ 1048576) (hg : G0 w) (hx0 : x ≠ 0) :
    Calls Try.prog 27 #[.pointer (some ⟨x, 0, none⟩), .agg #[.int .i64 op, .int .i64 num, .string ⟨#[]⟩, .slice none 0 0], .int .i64 ci, .int .u8 si, .int .i64 dp] w (RdOut w x (rdA (rdD true d) op num L sg l)) := by
  subst hci hsi
  have hmk := To.run_mk L (by omega)
  have hdp0 : -1 ≤ dp := by omega
  have hdp1 : dp ≤ 40 := by omega
  obtain ⟨g, hgg⟩ : ∃ g, rdD true d = g := ⟨_, rfl⟩
  have hx : x < w.heap.size := h.2.2
  have IH : Hid (∀ (w : World) (l : List UInt8), Has w x l → l.length ≤ 1048576 → G0 w → Calls Try.prog 13 #[.pointer (some ⟨x, 0, none⟩), .int .i64 (dp + 1)] w (RdOut w x (g l))) := by
    rw [← hgg]
    exact fun w l h1 h2 h3 => ih w x l (dp + 1) (by omega) hd h1 h2 h3 hx0
  rw [hgg]
  have hstart : ∀ wr, Below w.heap.size w wr → wr.there (w.heap.size + 1 + 1) 0 (L * 4) → (w.heap.size + 2 < wr.heap.size ∧ ∀ o, wr.frozen? ⟨w.heap.size + 1 + 1, o, none⟩ = false) → ArMid w x L g l 0 wr := fun wr h1 h2 h3 =>
    ⟨.nil, l, [], rfl, by simp only [Nat.sub_zero]; cases rdK g L l with
      | none => rfl
      | some q => rfl, hl, rfl, Fresh.nil _ _, h2, h3, h.below hx h1, hg.but (But.of_below (x := x) h1) hg.lt hx0, But.of_below h1⟩
  have HST := Lib.hid hstart
  have HGG := Lib.hid hgg
  clear hstart ih hgg h hg hdp
  go_enter Try.func27, Try.ntmps27
  go_wp2_with fail
  clear hmk
  go_loopw [21] (fun i wr => ∃ j : Nat, j ≤ L ∧ i = .int .i64 j ∧ ArMid w x L g l j wr ∧ ArBox w op num L wr) (fun i _ => L - (intOf i).toNat)
  case atStart =>
    obtain ⟨q1, q2, q3, q4⟩ := ar_start w op num L 26 _ rfl
    exact ⟨0, by omega, rfl, HST.out _ q2 q3 q4, q1⟩
  case round =>
    obtain ⟨j, hj, rfl, ⟨p, l', fs1, h1, h2, h3, hrow, hfr, hth, ⟨hlt, hfz⟩, hhas, hg0, hbut⟩, hbx⟩ := hrel
    have hBx : ∀ (w1 : World), But wr.heap.size x wr w1 → ArBox w op num L w1 := fun w1 hb => hbx.but hb (by omega) hx
    have hxr : x < wr.heap.size := hhas.2.2
    by_cases hjL : j < L
    · obtain ⟨m, hm⟩ : ∃ m, L - j = m + 1 := ⟨L - j - 1, by omega⟩
      have hm' : L - (j + 1) = m := by omega
      rw [hm] at h2
      have H := Lib.hid (And.intro h1 (And.intro h2 (And.intro hrow (And.intro hfr (And.intro hth (And.intro hlt (And.intro hfz (And.intro hg0 (And.intro hbut hBx)))))))))
      have HD := Lib.hid (IH.out wr l' hhas h3 hg0)
      clear h1 h2 hrow hfr hth hlt hfz hhas hg0 hbut hbx hBx hm
      cases hgl : g l' with
      | none =>
        have HGL := Lib.hid hgl
        clear hgl
        go_wp2_with fail
        refine HD.out.mono fun e1 w1 hq => ?_
        obtain ⟨rfl, hbut1⟩ := RdOut.of_none (by rw [HGL.out] at hq; exact hq)
        have hb1 := H.out.2.2.2.2.2.2.2.2.2 w1 hbut1
        obtain ⟨⟨z0, z1, z2, z3⟩, ⟨z4, z5, z6, z7⟩, z8⟩ := hb1.2
        have H1 := Lib.hid hbut1
        clear hq hbut1 hb1
        go_wp2_with fail
        refine bodyPost_ret (v := .tuple #[.agg #[.int .i64 0, .int .i64 0, .string ⟨#[]⟩, .slice none 0 0], .bool false]) (by simp [results, Try.results27, go_sem, z0, z1, z2, z3, z8]) rfl ?_
        obtain ⟨h1, h2, hrow, hfr, hth, hlt, hfz, hg0, hbut, _⟩ := H.out
        rw [rdK_step_none HGL.out] at h2
        rw [rdA_of_none h2]
        refine RdOut.no ?_
        have hbb := hbut.trans (H1.out.mono (by omega))
        repeat (first | exact hbb | refine But.setCell ?_ (Or.inr (by simp)) _ | refine But.alloc ?_ (by have := hbb.size; simp; omega) _)
      | some q =>
        obtain ⟨⟨o, n, t, k⟩, r⟩ := q
        have hrs := rdD_size true d l' o n t k r (by rw [HGG.out]; exact hgl)
        have HGL := Lib.hid hgl
        clear hgl
        go_wp2_with fail
        refine HD.out.mono fun e1 w1 hq => ?_
        obtain ⟨a1, cap1, f1, rfl, hc1, hs1, hfr1, hhas1, hbut1⟩ := RdOut.of_some (by rw [HGL.out] at hq; exact hq)
        have hb1 := H.out.2.2.2.2.2.2.2.2.2 w1 hbut1
        obtain ⟨x0, x1, x2, x3⟩ := hb1.1
        have hz1 : w.heap.size + 2 < w1.heap.size := Nat.lt_of_lt_of_le H.out.2.2.2.2.2.1 hbut1.size
        have l1 : w.heap.size < w1.heap.size := by omega
        have hth1 : ∀ ob, (w1.alloc ob).there (w.heap.size + 1 + 1) (j * 4) 4 := fun ob => by
          have h5 := H.out.2.2.2.2.1
          have h6 : w1.there (w.heap.size + 1 + 1) 0 (L * 4) := fun i hi => by
            have := h5 i hi
            have hl9 := H.out.2.2.2.2.2.1
            exact ⟨by rw [hbut1.cell (show w.heap.size + 1 + 1 < _ by omega) (by omega)]; exact this.1, by rw [hbut1.frozen (show w.heap.size + 1 + 1 < _ by omega) (by omega)]; exact this.2⟩
          exact there_part (there_below h6 (B := w1.heap.size) (by omega) ((Below.refl _ _).alloc (Nat.le_refl _) _)) (by omega)
        have HT := Lib.hid hth1
        have H1 := Lib.hid (And.intro hc1 (And.intro hs1 (And.intro hfr1 (And.intro hhas1 (And.intro hbut1 hb1)))))
        clear hq hc1 hs1 hfr1 hhas1 hbut1 hb1 hth1
        go_wp2_with (refine To.store_doc rfl (.tmp 38) (.tmp 37) rfl (w.heap.size + 1 + 1) (j * 4) o n t a1 k.len cap1 rfl rfl ?_ ?_; exact HT.out _)
        go_roundw
        case rel =>
          obtain ⟨h1, h2, hrow, hfr, hth, hlt, hfz, hg0, hbut, hBx⟩ := H.out
          obtain ⟨hc1, hs1, hfr1, hhas1, hbut1, hb1⟩ := H1.out
          obtain ⟨q1, q2⟩ := ar_put hx hx0 h1 hjL (by rw [h2, rdK_step_some HGL.out]) hrow hfr hth hlt hfz hg0 hbut hc1 hs1 hfr1 hhas1 (by omega) hbut1 hb1 (.cells #[.int .i64 o, .int .i64 n, .string t, .slice a1 k.len cap1] 26) hm'
          exact ⟨j + 1, by omega, by go_num, q1, q2⟩
        case measure => simp [intOf]; omega
    · obtain rfl : j = L := by omega
      rw [Nat.sub_self] at h2
      have hK : rdK g j l = some (p, l') := by rw [h2]; simp [rdK, contK, F.app_nil]
      obtain ⟨⟨x0, x1, x2, x3⟩, ⟨z0, z1, z2, z3⟩, ⟨z4, z5, z6, z7⟩, z8⟩ := hbx
      have hxr1 : x ≠ w.heap.size := by omega
      have hxr2 : x ≠ w.heap.size + 1 := by omega
      have hl0 : w.heap.size < wr.heap.size := by omega
      have hsub : SubAt wr (some ⟨w.heap.size + 1 + 1, 0, none⟩) p ((w.heap.size + 1 + 1) :: fs1) := .inr ⟨_, 0, fs1, rfl, fun e => (by rw [e] at h1; simp [F.len] at h1; omega), rfl, hrow⟩
      have hfrA : Fresh w.heap.size wr ((w.heap.size + 1 + 1) :: fs1) := Fresh.cons (hi := w.heap.size + 3) (by omega) (by omega) hfz hfr (by omega)
      have hfr3 : ∀ c ∈ fs1, w.heap.size + 3 ≤ c := fun c hc => (hfr.2 c hc).1
      have H := Lib.hid (And.intro h1 (And.intro hsub (And.intro hfrA hbut)))
      have HK := Lib.hid hK
      clear h1 h2 hrow hfr hth hlt hfz hg0 hbut hBx hK hsub hfrA
      cases l' with
      | nil =>
        have hb0 : ((0 : Int) != (sg.toNat : Int)) = true := by rw [bne_iff_ne]; omega
        have HN := Lib.hid (next_nil wr x hhas)
        clear hhas
        go_wp2_with fail
        refine HN.out.mono ?_
        rintro e1 w1 ⟨rfl, rfl⟩
        go_wp2_with fail
        refine bodyPost_ret (v := .tuple #[.agg #[.int .i64 0, .int .i64 0, .string ⟨#[]⟩, .slice none 0 0], .bool false]) (by simp [results, Try.results27, go_sem, z0, z1, z2, z3, z8]) rfl ?_
        rw [rdA_of_nil HK.out]
        refine RdOut.no ?_
        have hbb := H.out.2.2.2
        repeat (first | exact hbb | refine But.setCell ?_ (Or.inr (by simp)) _)
      | cons c r =>
        have hN := next_cons wr x c r hhas (by simp at h3; omega)
        obtain ⟨hst, hbst⟩ := hhas.step
        have HN := Lib.hid hN
        have HS := Lib.hid (And.intro hst hbst)
        clear hhas hN hst hbst
        by_cases hcs : c = sg
        · subst hcs
          have hb0 : ((c.toNat : Int) != (c.toNat : Int)) = false := by simp
          go_wp2_with fail
          refine HN.out.mono ?_
          rintro e1 w1 ⟨rfl, rfl⟩
          go_wp2_with fail
          refine bodyPost_ret (v := .tuple #[.agg #[.int .i64 op, .int .i64 num, .string ⟨#[]⟩, .slice (some ⟨w.heap.size + 1 + 1, 0, none⟩) j j], .bool true]) (by simp [results, Try.results27, go_sem, z0, z1, z2, z3, z8, hxr2]) rfl ?_
          rw [rdA_of_sign HK.out]
          obtain ⟨h1, hsub, hfrA, hbut⟩ := H.out
          obtain ⟨hst, hbst⟩ := HS.out
          have T : ∀ w4, Touch (w.heap.size + 1) (w.heap.size + 1 + 1) (wr.setCell ⟨x, 0, none⟩ (.string ⟨r.toArray⟩)) w4 → RdOut w x (some ((op, num, ⟨#[]⟩, p), r)) (.returned (.tuple #[.agg #[.int .i64 op, .int .i64 num, .string ⟨#[]⟩, .slice (some ⟨w.heap.size + 1 + 1, 0, none⟩) j j], .bool true])) w4 := by
            intro w4 ht
            have hge : ∀ c ∈ (w.heap.size + 1 + 1) :: fs1, w.heap.size + 1 + 1 ≤ c ∧ c ≠ x := fun c hc => by
              have h0 := (hfrA.2 c hc).1
              rcases List.mem_cons.1 hc with rfl | hc'
              · exact ⟨Nat.le_refl _, by omega⟩
              · have : w.heap.size + 1 + 1 ≠ c := fun e => (List.nodup_cons.1 hfrA.1).1 (by rw [e]; exact hc')
                exact ⟨by have := H.out; have h9 := hfr3 c hc'; omega, by have h9 := hfr3 c hc'; omega⟩
            refine ⟨butTouch (hbut.trans (hbst.mono (by omega))) ht (by omega), some ⟨w.heap.size + 1 + 1, 0, none⟩, j, (w.heap.size + 1 + 1) :: fs1, by rw [h1], by omega, ht.sub (hsub.congr (fun c hc o' => hbst.cell (hfrA.lt c hc) (hge c hc).2)) (fun c hc => Or.inr (hge c hc).1), ht.fresh (hfrA.alike hbst.size (fun c hc o' => hbst.frozen (hfrA.lt c hc) (hge c hc).2)) (fun c hc => Or.inr (hge c hc).1), ⟨(ht.cell (Or.inl (by omega))).trans hst.1, (ht.frozen (Or.inl (by omega))).trans hst.2.1, by rw [ht.size]; exact hst.2.2⟩⟩
          refine T _ ?_
          repeat (first | exact Touch.refl _ _ _ | refine Touch.setCell ?_ (by simp) (by simp) _)
        · have hb0 : ((c.toNat : Int) != (sg.toNat : Int)) = true := by rw [bne_iff_ne]; intro e; exact hcs (UInt8.toNat_inj.1 (by omega))
          go_wp2_with fail
          refine HN.out.mono ?_
          rintro e1 w1 ⟨rfl, rfl⟩
          go_wp2_with fail
          refine bodyPost_ret (v := .tuple #[.agg #[.int .i64 0, .int .i64 0, .string ⟨#[]⟩, .slice none 0 0], .bool false]) (by simp [results, Try.results27, go_sem, z0, z1, z2, z3, z8, hxr2]) rfl ?_
          rw [rdA_of_other HK.out hcs]
          refine RdOut.no ?_
          have hbb := H.out.2.2.2.trans (HS.out.2.mono (by omega))
          repeat (first | exact hbb | refine But.setCell ?_ (Or.inr (by simp)) _)

end Go.Proofs.Ytlhdoifjhoocfaa.Read2


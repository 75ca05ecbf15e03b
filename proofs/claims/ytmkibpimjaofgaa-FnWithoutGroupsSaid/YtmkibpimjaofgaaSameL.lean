import Derived.Test.YtmkibpimjaofgaaSame1
import Derived.Deep.RegionHeld3
import Derived.Deep.RegionLaw
/-
  What impl.DocSame comes to.
-/
set_option linter.unusedVariables false
set_option linter.unusedSimpArgs false
namespace Go.Proofs.Ytmkibpimjaofgaa.SameL
open Go.RowKit Same1

set_option maxRecDepth 100000 in
set_option maxHeartbeats 3200000 in
theorem docSame (w : World) (A B : D) (c1 c2 : List Value) (h1 : DocV w A c1) (h2 : DocV w B c2) :
    Calls Try.prog 41 #[.agg c1.toArray, .agg c2.toArray] w fun e w' => e = .returned (.bool (sameD A.1 A.2.1 A.2.2.1 A.2.2.2 B.1 B.2.1 B.2.2.1 B.2.2.2)) ∧ Below w.heap.size w w' := by
  have HD := Lib.hid (And.intro h1 h2)
  obtain ⟨a1, cap1, f1, rfl, hc1, hs1, hf1, hz1⟩ := h1
  obtain ⟨a2, cap2, f2, rfl, hc2, hs2, hf2, hz2⟩ := h2
  obtain ⟨o1, n1, t1, k1⟩ := A
  obtain ⟨o2, n2, t2, k2⟩ := B
  simp only at hc1 hs1 hz1 hc2 hs2 hz2 ⊢
  have HS := Lib.hid (And.intro hs1 (And.intro hf1 (And.intro hs2 hf2)))
  clear hs1 hf1 hs2 hf2
  have hmk : ∀ w : World, (Instr.makeMap 86 none).run Try.prog w = .ok (.map (some w.heap.size)) (w.alloc (.map #[] 0)) := fun w => run_makeMap _ w
  go_enter Try.func41, Try.ntmps41
  go_wp2_with fail
  go_loopg [6] (sumZ [((o1, n1, t1, k1), (o2, n2, t2, k2))]) (fun n v wr => Head w (o1, n1, t1, k1) (o2, n2, t2, k2) 87 n v wr)
  case atStart =>
    obtain ⟨hA, hB⟩ := HD.out
    refine ⟨[((o1, n1, t1, k1), (o2, n2, t2, k2))], [], [], Nat.le_refl _, ?_, stack_start hA hB (by simp) (Nat.le_refl _) rfl, SInv.start _ _, ?_, by simp, fun a v h => by simp [look, findI] at h, ?_, by simp⟩
    · have := nodes_size k1
      rw [sumN_cons]
      show 1 + nodes k1 + 0 ≤ _
      omega
    · exact pmap_start (by simp) _
    · exact (((((Below.refl w.heap.size w).alloc (Nat.le_refl _) _).alloc (by simp) _).alloc (by simp; omega) _).alloc (by simp; omega) _)
  case round =>
    obtain ⟨st, seen, m, hn, hsn, hst, hinv, hpm, hm1, hm2, hbw, hsz⟩ := hrel
    have hl : st.length ≤ 4194304 := Nat.le_trans (len_sumN st) hsn
    have HSM := Lib.hid hsn
    clear hsn
    cases st with
    | nil =>
      obtain ⟨xs, hown, _⟩ := hst
      have H := Lib.hid (And.intro (same_yes hinv.end) hbw)
      rcases hown.2 with ⟨rfl, _⟩ | ⟨g, c, cur, rfl, _⟩
      all_goals
        clear hn hl hown hinv hpm hm1 hm2 hbw hsz
        go_wp2_with fail
        go_ret
        exact ⟨ret_bool H.out.1.symm, H.out.2⟩
    | cons p st =>
      obtain ⟨x, y⟩ := p
      obtain ⟨g, cap, c1, c2, rfl, hlo, hlt, hnc, hcm, hx, hy, hcx, hcy, hpop⟩ := hst.top
      obtain ⟨o3, n3, t3, k3⟩ := x
      obtain ⟨o4, n4, t4, k4⟩ := y
      have HX := Lib.hid (And.intro hx hy)
      obtain ⟨a3, cap3, f3, rfl, hc3, hs3, hf3, hz3⟩ := hx
      obtain ⟨a4, cap4, f4, rfl, hc4, hs4, hf4, hz4⟩ := hy
      obtain ⟨L, hL⟩ : ∃ L, st.length = L := ⟨_, rfl⟩
      have x0 := hcx 0 (by omega)
      have x1 := hcx 1 (by omega)
      have x2 := hcx 2 (by omega)
      have x3 := hcx 3 (by omega)
      have y0 := hcy 0 (by omega)
      have y1 := hcy 1 (by omega)
      have y2 := hcy 2 (by omega)
      have y3 := hcy 3 (by omega)
      simp only [List.length_cons] at hl
      rw [hL] at x0 x1 x2 x3 y0 y1 y2 y3 hl hnc
      rw [hL]
      simp only [List.getElem?_cons_zero, List.getElem?_cons_succ, Nat.add_zero] at x0 x1 x2 x3 y0 y1 y2 y3
      have H := Lib.hid (And.intro hn (And.intro hinv (And.intro hpm (And.intro hm1 (And.intro hm2 (And.intro hbw (And.intro hsz (And.intro hpop (And.intro hL hst)))))))))
      have HZ := Lib.hid (And.intro hs3 (And.intro hf3 (And.intro hs4 (And.intro hf4 (And.intro hz3 hz4)))))
      clear hn hinv hpm hm1 hm2 hbw hsz hpop hst hcx hcy hL hs3 hf3 hs4 hf4
      have i0 : (0 : Int) ≤ (L : Int) := by omega
      have i1 : IntKind.i64.wrap ((L : Int) + 1 - 1) = (L : Int) := by rw [IntKind.wrap_i64]; omega
      have i2 : ((L + 1 : Nat) : Int) = (L : Int) + 1 := by omega
      have i3 : (0 : Int) < (L : Int) + 1 := by omega
      go_wp2_with fail
      go_upto_region 4 with (fail)
      go_cut [7, 8] from 16 to 78 (fun s7 s8 wx => ∃ b7 b8, s7 = .pointer (some ⟨b7, 0, none⟩) ∧ s8 = .pointer (some ⟨b8, 0, none⟩) ∧ Two wr wx b7 b8 [.int .i64 o3, .int .i64 n3, .string t3, .slice a3 k3.len cap3] [.int .i64 o4, .int .i64 n4, .string t4, .slice a4 k4.len cap4])
      case first =>
        go_region
        all_goals
          go_wp2_with fail
          go_meet
        all_goals
          case rel =>
            refine ⟨_, _, rfl, rfl, ?_⟩
            first
              | exact Two.mk1 wr _
              | exact (Two.mk1 wr _).swap
      case rest =>
        obtain ⟨b7, b8, rfl, rfl, htwo⟩ := hcut
        have HT := Lib.hid htwo
        obtain ⟨h7, h8, l7, l8, q7, q8, hbx⟩ := htwo
        have x0 := q7 0 (by omega)
        have x1 := q7 1 (by omega)
        have x2 := q7 2 (by omega)
        have x3 := q7 3 (by omega)
        have y0 := q8 0 (by omega)
        have y1 := q8 1 (by omega)
        have y2 := q8 2 (by omega)
        have y3 := q8 3 (by omega)
        simp only [List.getElem?_cons_zero, List.getElem?_cons_succ] at x0 x1 x2 x3 y0 y1 y2 y3
        clear q7 q8 hbx
        have hk3 := F.len_le_size k3
        have hk4 := F.len_le_size k4
        have j0 : (L : Int) ≤ (cap : Int) := by omega
        have hNS := fun w => NodeS.nodeSame w o3 n3 o4 n4 t3 t4 a3 a4 k3.len k4.len cap3 cap4 (by have := HZ.out.2.2.2.2.1; unfold maxLen; omega) (by have := HZ.out.2.2.2.2.2; unfold maxLen; omega)
        cases hns : NodeS.nodeT o3 n3 t3 k3.len o4 n4 t4 k4.len with
        | false =>
          rw [hns] at hNS
          have HNS := Lib.hid hNS
          have HN := Lib.hid hns
          clear hNS hns
          go_wp2_with fail
          refine (HNS.out _).mono ?_
          rintro e1 w1 ⟨rfl, hb1⟩
          have HB1 := Lib.hid hb1
          clear x0 x1 x2 x3 y0 y1 y2 y3 hb1
          go_wp2_with fail
          go_ret
          obtain ⟨hn, hinv, hpm, hm1, hm2, hbw, hsz, hpop, hL, hst⟩ := H.out
          refine ⟨ret_bool (same_no (hinv.fail fun e => ?_)).symm, hbw.trans ((HT.out.2.2.2.2.2.2.trans (HB1.out.mono HT.out.2.2.2.2.2.2.size)).mono hbw.size)⟩
          have := NodeS.nodeT_iff.2 e
          rw [HN.out] at this; cases this
        | true =>
          rw [hns] at hNS
          have HNS := Lib.hid hNS
          have HN := Lib.hid (NodeS.nodeT_iff.1 hns)
          have hlen : k4.len = k3.len := (NodeS.nodeT_iff.1 hns).2.2.2.symm
          rw [hlen] at y3 hNS HNS hk4
          clear hNS hns
          by_cases h0 : k3.len = 0
          · have h0' : ((k3.len : Int) == 0) = true := by rw [beq_iff_eq]; omega
            have H0 := Lib.hid h0
            clear h0
            go_wp2_with fail
            refine (HNS.out _).mono ?_
            rintro e1 w1 ⟨rfl, hb1⟩
            have x3' : w1.cell? ⟨b7, 3, none⟩ = _ := (hb1.cell (p := ⟨b7, 3, none⟩) l7).trans x3
            have HB1 := Lib.hid hb1
            clear x0 x1 x2 x3 y0 y1 y2 y3 hb1
            go_wp2_with fail
            go_roundg (sumZ st)
            case measure =>
              have := H.out.1
              have := sumZ_lt ((o3, n3, t3, k3), (o4, n4, t4, k4)) st
              omega
            case rel =>
              obtain ⟨hn, hinv, hpm, hm1, hm2, hbw, hsz, hpop, hL, hst⟩ := H.out
              exact Head.next (sumN_pop HSM.out) (by rw [← hL]; exact hpop) (hinv.leaf HN.out H0.out) hpm hm1 hm2 hbw hsz (HT.out.2.2.2.2.2.2.trans (HB1.out.mono HT.out.2.2.2.2.2.2.size))
          · have h0' : ((k3.len : Int) == 0) = false := by rw [beq_eq_false_iff_ne]; omega
            obtain ⟨p3, q3, g3, rfl, hg3, hr3⟩ := sub_pos HZ.out.1 h0
            obtain ⟨p4, q4, g4, rfl, hg4, hr4⟩ := sub_pos HZ.out.2.2.1 (by rw [hlen]; exact h0)
            have hp3 : 0 < k3.len := by omega
            have hm3 : k3.len ≤ maxLen := by have := HZ.out.2.2.2.2.1; unfold maxLen; omega
            have H0 := Lib.hid (And.intro h0 (And.intro hg3 (And.intro hr3 (And.intro hg4 hr4))))
            have HK1 := Lib.hid (fun w => kidListOf w p3 q3 k3.len cap3 hp3 hm3)
            have HK2 := Lib.hid (fun w => kidListOf w p4 q4 k3.len cap4 hp3 hm3)
            clear h0 hg3 hr3 hg4 hr4
            go_wp2_with fail
            refine (HNS.out _).mono ?_
            rintro e1 w1 ⟨rfl, hb1⟩
            have x3' : w1.cell? ⟨b7, 3, none⟩ = _ := (hb1.cell (p := ⟨b7, 3, none⟩) l7).trans x3
            have y3' : w1.cell? ⟨b8, 3, none⟩ = _ := (hb1.cell (p := ⟨b8, 3, none⟩) l8).trans y3
            have l7' : b7 < w1.heap.size := Nat.lt_of_lt_of_le l7 hb1.size
            have l8' : b8 < w1.heap.size := Nat.lt_of_lt_of_le l8 hb1.size
            have HB1 := Lib.hid hb1
            clear x0 x1 x2 x3 y0 y1 y2 y3 hb1
            go_wp2_with fail
            go_upto_region 9 with (fail)
            go_cut [9] from 16 to 78 (fun s9 wx => ∃ b9, s9 = .pointer (some ⟨b9, 0, none⟩) ∧ KeyBox w1 wx b9 [.pointer (some ⟨p3, q3, none⟩), .int .i64 k3.len, .pointer (some ⟨p4, q4, none⟩), .int .i64 k3.len])
            case first =>
              have XYH := Lib.hid (And.intro (And.intro x3' y3') (And.intro l7' l8'))
              go_region_held3 (fun w' => w'.cell? ⟨b7, 3, none⟩ = some (.slice (some ⟨p3, q3, none⟩) k3.len cap3) ∧ w'.cell? ⟨b8, 3, none⟩ = some (.slice (some ⟨p4, q4, none⟩) k3.len cap4))
                (first | go_keep | exact xy_ext XYH.out.1 XYH.out.2.1 XYH.out.2.2 r3 | exact xy_ext XYH.out.1 XYH.out.2.1 XYH.out.2.2 r2 | exact xy_ext XYH.out.1 XYH.out.2.1 XYH.out.2.2 (r2.alloc _) | exact xy_ext XYH.out.1 XYH.out.2.1 XYH.out.2.2 (r3.alloc _) | exact xy_ext XYH.out.1 XYH.out.2.1 XYH.out.2.2 ((Ext.refl w1).drew.alloc _) | exact xy_ext XYH.out.1 XYH.out.2.1 XYH.out.2.2 ((((r3.setNew (by first | (simp; done) | (simp; omega)) _).setNew (by first | (simp; done) | (simp; omega)) _).setNew (by first | (simp; done) | (simp; omega)) _).setNew (by first | (simp; done) | (simp; omega)) _))
                (first
                  | (go_at_call_of 88 (Value.slice (some ⟨p3, q3, none⟩) k3.len cap3); refine (HK1.out _).mono ?_; rintro e2 w2 ⟨rfl, hb2⟩; have r2 : Ext w1 w2 := Ext.trans (by first | exact (Ext.refl w1).drew | exact (Ext.refl w1).drew.alloc _ | exact (Ext.refl w1).alloc _ | exact Ext.refl w1) hb2; have l2 := r2.size; first | (have Z2 : ZKey w2 w1.heap.size := (by first | exact ZKey.new hb2 | exact ZKey.new (W := w1.drew) hb2)) | skip)
                  | (go_at_call_of 88 (Value.slice (some ⟨p4, q4, none⟩) k3.len cap4); refine (HK2.out _).mono ?_; rintro e3 w3 ⟨rfl, hb3⟩; have r23 : Ext w2 w3 := Ext.trans (by first | exact Ext.refl w2 | exact (Ext.refl w2).alloc _) hb3; have r3 : Ext w1 w3 := r2.trans r23; have l3 := r23.size; first | (have Z3 : ZKey w3 w1.heap.size := (by exact ZKey.ext Z2 r23); obtain ⟨⟨z0, z1, z2, z3⟩, ⟨z4, z5, z6, z7⟩, z8⟩ := Z3) | (have Z3 : ZKey w3 w2.heap.size := (by exact ZKey.new hb3); obtain ⟨⟨z0, z1, z2, z3⟩, ⟨z4, z5, z6, z7⟩, z8⟩ := Z3) | skip))
              all_goals
                go_wp2_with fail
                go_meet
              all_goals
                case rel =>
                  have hB : w1.heap.size ≤ w2.heap.size := l2
                  first
                    | exact ⟨_, rfl, KeyBox.last r3⟩
                    | exact ⟨_, rfl, KeyBox.stored r3 (Nat.le_refl _) ⟨⟨z0, z1, z2, z3⟩, ⟨z4, z5, z6, z7⟩, z8⟩⟩
                    | exact ⟨_, rfl, KeyBox.stored r3 hB ⟨⟨z0, z1, z2, z3⟩, ⟨z4, z5, z6, z7⟩, z8⟩⟩
            case rest =>
              obtain ⟨b9, rfl, hkb⟩ := hcut
              have HKB := Lib.hid hkb
              obtain ⟨h9, l9, q9, hb9⟩ := hkb
              have z0 := q9 0 (by omega)
              have z1 := q9 1 (by omega)
              have z2 := q9 2 (by omega)
              have z3 := q9 3 (by omega)
              simp only [List.getElem?_cons_zero, List.getElem?_cons_succ] at z0 z1 z2 z3
              clear q9 hb9
              have hall : Below w.heap.size w wc ∧ Below wr.heap.size wr wc := by
                have e1 := HT.out.2.2.2.2.2.2.trans (HB1.out.mono HT.out.2.2.2.2.2.2.size)
                have e2 := e1.trans (HKB.out.2.2.2.mono e1.size)
                exact ⟨H.out.2.2.2.2.2.1.trans (e2.mono H.out.2.2.2.2.2.1.size), e2⟩
              have HALL := Lib.hid hall
              have hpm : PMap wc lk2V (w.heap.size + 1 + 1) m := H.out.2.2.1.of_block (HALL.out.2.block _ (by have := H.out.2.2.2.2.2.2.1; omega))
              have hpl3 : Plain w p3 := row_plain H0.out.2.2.1 H0.out.1 (HZ.out.2.1 p3 (by rw [H0.out.2.1]; simp)).2
              have hpl4 : Plain w p4 := row_plain H0.out.2.2.2.2 (by rw [hlen]; exact H0.out.1) (HZ.out.2.2.2.1 p4 (by rw [H0.out.2.2.2.1]; simp)).2
              have hlt3 : p3 < w.heap.size := (HZ.out.2.1 p3 (by rw [H0.out.2.1]; simp)).1
              have hlt4 : p4 < w.heap.size := (HZ.out.2.2.2.1 p4 (by rw [H0.out.2.2.2.1]; simp)).1
              have hPl : ∀ b, Plain w b → b < w.heap.size → Plain wc b := fun b h hb => Plain.blk h (HALL.out.1.block b hb)
              have hmG : ∀ e ∈ m, Plain wc e.1.1.1 ∧ Plain wc e.1.2.1 := fun e he => by
                obtain ⟨q, _, ⟨_, _, h1, h2⟩, ⟨_, _, h3, h4⟩⟩ := H.out.2.2.2.1 e he
                exact ⟨hPl _ h1 h2, hPl _ h3 h4⟩
              have hz := zero_bool wc
              have hlook := run_look (P := Try.prog) KeysAt.pair_ok Try.underlying86 hz hpm (a := ((p3, q3, k3.len), (p4, q4, k3.len))) ⟨hPl _ hpl3 hlt3, hPl _ hpl4 hlt4⟩ hmG false
              simp only [Bool.false_eq_true, if_false] at hlook
              cases hlk : look ((p3, q3, k3.len), (p4, q4, k3.len)) m with
              | some v =>
                have hv : v = .bool true := H.out.2.2.2.2.1 _ _ hlk
                subst hv
                have hsn := seen_of H.out.2.2.2.1 H0.out.2.2.1 H0.out.2.2.2.2 rfl hlen hlk
                rw [hlk] at hlook
                have HSN := Lib.hid hsn
                have hlook' : (Instr.lookup 86 (.map (some (w.heap.size + 1 + 1))) (.agg #[.pointer (some ⟨p3, q3, none⟩), .int .i64 k3.len, .pointer (some ⟨p4, q4, none⟩), .int .i64 k3.len]) false).run Try.prog wc = .ok (.bool true) wc := hlook
                clear hlook hlk hsn hmG hPl hz hpm hpl3 hpl4 hall
                go_wp2_with fail
                go_roundg (sumZ st)
                case measure =>
                  have := H.out.1
                  have := sumZ_lt ((o3, n3, t3, k3), (o4, n4, t4, k4)) st
                  omega
                case rel =>
                  obtain ⟨hn, hinv, hpm, hm1, hm2, hbw, hsz, hpop, hL, hst⟩ := H.out
                  exact Head.next (sumN_pop HSM.out) (by rw [← hL]; exact hpop) (hinv.known HN.out HSN.out) hpm hm1 hm2 hbw hsz HALL.out.2
              | none =>
                rw [hlk] at hlook
                have hlook' : (Instr.lookup 86 (.map (some (w.heap.size + 1 + 1))) (.agg #[.pointer (some ⟨p3, q3, none⟩), .int .i64 k3.len, .pointer (some ⟨p4, q4, none⟩), .int .i64 k3.len]) false).run Try.prog wc = .ok (.bool false) wc := hlook
                obtain ⟨m', w5, hup, hpm5, hlk5, hkeys5, hgr5⟩ := run_store_map (P := Try.prog) KeysAt.pair_ok Try.underlying86 hpm (a := ((p3, q3, k3.len), (p4, q4, k3.len))) ⟨hPl _ hpl3 hlt3, hPl _ hpl4 hlt4⟩ hmG (.bool true)
                have hup' : (Instr.mapUpdate 86 (.map (some (w.heap.size + 1 + 1))) (.agg #[.pointer (some ⟨p3, q3, none⟩), .int .i64 k3.len, .pointer (some ⟨p4, q4, none⟩), .int .i64 k3.len]) (.bool true)).run Try.prog wc = .ok () w5 := hup
                have x5 : w5.cell? ⟨b7, 3, none⟩ = some (.slice (some ⟨p3, q3, none⟩) k3.len cap3) := hgr5.cell ((HKB.out.2.2.2.cell (p := ⟨b7, 3, none⟩) l7').trans x3') (by have := H.out.2.2.2.2.2.2.1; simp; omega)
                have y5 : w5.cell? ⟨b8, 3, none⟩ = some (.slice (some ⟨p4, q4, none⟩) k3.len cap4) := hgr5.cell ((HKB.out.2.2.2.cell (p := ⟨b8, 3, none⟩) l8').trans y3') (by have := H.out.2.2.2.2.2.2.1; simp; omega)
                have hst5 : Stack w w5 87 (w.heap.size + 3) (.slice (some ⟨g, 0, none⟩) L cap) st := by
                  have h1 := H.out.2.2.2.2.2.2.2.1
                  have h2 := H.out.2.2.2.2.2.2.2.2.1
                  rw [h2] at h1
                  exact (h1.below (Nat.le_refl _) HALL.out.2).kept hgr5 (.inr (by simp [Value.ownBlock]; omega))
                have hm5a : ∀ e ∈ m', ∃ q ∈ (k3, k4) :: seen, Lies w e.1.1 q.1 ∧ Lies w e.1.2 q.2 := fun e he => by
                  rcases hkeys5 e he with h | ⟨y, hy, h⟩
                  · rw [h]
                    exact ⟨(k3, k4), by simp, ⟨rfl, ⟨_, H0.out.2.2.1⟩, hpl3, hlt3⟩, ⟨hlen.symm, ⟨_, H0.out.2.2.2.2⟩, hpl4, hlt4⟩⟩
                  · obtain ⟨q, hq, h1, h2⟩ := H.out.2.2.2.1 y hy
                    rw [← h]
                    exact ⟨q, by simp [hq], h1, h2⟩
                have hm5b : ∀ a v, look a m' = some v → v = .bool true := fun a v h => by
                  rw [hlk5 a] at h
                  split at h
                  · injection h with h; exact h.symm
                  · exact H.out.2.2.2.2.1 a v h
                have hmid : Mid w w5 87 (zipF k3 k4) st m' b7 b8 (.slice (some ⟨p3, q3, none⟩) k3.len cap3) (.slice (some ⟨p4, q4, none⟩) k3.len cap4) 0 (.slice (some ⟨g, 0, none⟩) L cap) := by
                  have hs := H.out.2.2.2.2.2.2.1
                  refine ⟨hst5, hpm5, Ext.trans' (a := w) HALL.out.1 hgr5 (by omega), Nat.le_trans hs (Nat.le_trans HALL.out.2.size hgr5.size), x5, y5, ?_, ?_, fun q hq => ?_⟩
                  · exact Nat.lt_of_lt_of_le l7' (Nat.le_trans HKB.out.2.2.2.size hgr5.size)
                  · exact Nat.lt_of_lt_of_le l8' (Nat.le_trans HKB.out.2.2.2.size hgr5.size)
                  · simp only [Value.ownBlock, Option.some.injEq] at hq
                    exact ⟨by omega, by omega⟩
                have H5 := Lib.hid (And.intro hm5a (And.intro hm5b (And.intro hmid hlen)))
                clear hlook hup hlk hmG hPl hz hpm hpl3 hpl4 hall hpm5 hlk5 hkeys5 hgr5 hst5 hm5a hm5b hmid
                go_wp2_with fail
                have hk9 : k3.len ≤ 2097152 := by have := F.len_le_size k3; have := HZ.out.2.2.2.2.1; omega
                go_loopw [6, 10, 61] (fun v _ i wl => ∃ j : Nat, j ≤ k3.len ∧ i = .int .i64 (j : Int) ∧ Mid w wl 87 (zipF k3 k4) st m' b7 b8 (.slice (some ⟨p3, q3, none⟩) k3.len cap3) (.slice (some ⟨p4, q4, none⟩) k3.len cap4) j v) (fun _ _ i _ => k3.len - (intOf i).toNat)
                case atStart =>
                  exact ⟨0, Nat.zero_le _, rfl, H5.out.2.2.1⟩
                case round =>
                  obtain ⟨j, hj, rfl, hmid⟩ := hrel
                  have HMID := Lib.hid hmid
                  by_cases hjk : j < k3.len
                  · obtain ⟨p, o, n, t, ks, r, hf, hpj⟩ := F.at_len k3 j hjk
                    obtain ⟨p', o', n', t', ks', r', hf', hpj'⟩ := F.at_len k4 j (by have := H5.out.2.2.2; omega)
                    have hr3 := H0.out.2.2.1
                    rw [hf] at hr3
                    obtain ⟨a5, cap5, f5, c0, c1, c2, c3, hc5, hs5, hin5⟩ := row_at hr3
                    have hr4 := H0.out.2.2.2.2
                    rw [hf'] at hr4
                    obtain ⟨a6, cap6, f6, e0, e1, e2, e3, hc6, hs6, hin6⟩ := row_at hr4
                    rw [hpj] at c0 c1 c2 c3
                    rw [hpj'] at e0 e1 e2 e3
                    have hq3 := HZ.out.2.1
                    have hq4 := HZ.out.2.2.2.1
                    rw [H0.out.2.1] at hq3
                    rw [H0.out.2.2.2.1] at hq4
                    have hlt3 : p3 < w.heap.size := (hq3 p3 (by simp)).1
                    have hlt4 : p4 < w.heap.size := (hq4 p4 (by simp)).1
                    have hb := hmid.bel
                    rw [← hb.cell (p := ⟨_, _, _⟩) hlt3] at c0 c1 c2 c3
                    rw [← hb.cell (p := ⟨_, _, _⟩) hlt4] at e0 e1 e2 e3
                    have hX : DocV w (o, n, t, ks) [.int .i64 o, .int .i64 n, .string t, .slice a5 ks.len cap5] := ⟨a5, cap5, f5, rfl, hc5, hs5, fun q hq => hq3 q (by simp [hin5 q hq]), by
                      have h1 := HZ.out.2.2.2.2.1
                      rw [hf, F.size_app] at h1
                      simp only [F.size] at h1 ⊢
                      omega⟩
                    have hY : DocV w (o', n', t', ks') [.int .i64 o', .int .i64 n', .string t', .slice a6 ks'.len cap6] := ⟨a6, cap6, f6, rfl, hc6, hs6, fun q hq => hq4 q (by simp [hin6 q hq]), by
                      have h1 := HZ.out.2.2.2.2.2
                      rw [hf', F.size_app] at h1
                      simp only [F.size] at h1 ⊢
                      omega⟩
                    have hzt : (zipF k3 k4).take (j + 1) = (zipF k3 k4).take j ++ [((o, n, t, ks), (o', n', t', ks'))] := by
                      have := zipF_take (p := p) (p' := p') (o := o) (n := n) (t := t) (k := ks) (r := r) (o' := o') (n' := n') (t' := t') (k' := ks') (r' := r') (hpj.trans hpj'.symm)
                      rw [← hf, ← hf', hpj] at this
                      exact this
                    have x3 := hmid.x
                    have y3 := hmid.y
                    have hl7 := hmid.l7
                    have hl8 := hmid.l8
                    obtain ⟨N2, hN2⟩ : ∃ N2, (((zipF k3 k4).take j).reverse ++ st).length = N2 := ⟨_, rfl⟩
                    have hN3 : N2 ≤ 16777216 := by
                      have h1 := H.out.2.2.2.2.2.2.2.2.1
                      have h2 := zipF_len H5.out.2.2.2.symm
                      rw [← hN2, List.length_append, List.length_reverse, List.length_take, h1]
                      omega
                    obtain ⟨l5, hl5⟩ : ∃ l5, ks.len = l5 := ⟨_, rfl⟩
                    obtain ⟨l6, hl6⟩ : ∃ l6, ks'.len = l6 := ⟨_, rfl⟩
                    rw [hl5] at c3 hX
                    rw [hl6] at e3 hY
                    have HJ := Lib.hid (And.intro hX (And.intro hY (And.intro hzt (And.intro hN2 hN3))))
                    have HM3 := Lib.hid (show w.heap.size + 3 ≤ wr.heap.size from hmid.lo)
                    clear hmid hf hf' hr3 hr4 hc5 hs5 hin5 hc6 hs6 hin6 hq3 hq4 hb hX hY hzt hN2 hN3 hpj hpj' hl5 hl6
                    go_wp2_with fail
                    first | go_region_law (refine step_pair rfl (.tmp 64) (.tmp 76) rfl rfl (HMID.out.st.below (Nat.le_refl _) (((Ext.refl wr).drew).alloc _)) HJ.out.2.2.2.1 rfl _ _ _ _ HJ.out.1 HJ.out.2.1 (cells8 wr.drew _ _ _ _ _ _ _ _ _) HJ.out.2.2.2.2 (Nat.le_trans HM3.out (by simp)) ?_; intro g5 cap5' w6 hst6 hgr6 hat6; have H6 := Lib.hid (And.intro hst6 (And.intro hgr6 hat6)); clear hst6 hgr6 hat6) | fail
                    all_goals
                      go_wp2_with fail
                      go_roundw
                    all_goals first
                      | (exact ⟨j + 1, by omega, by go_num, HMID.out.next (((Ext.refl wr).drew).alloc _) HJ.out.2.2.1 H6.out.1 H6.out.2.1 rfl H6.out.2.2⟩)
                      | (simp [intOf]; omega)
                  · have hjl : j = k3.len := by omega
                    subst hjl
                    clear hmid
                    go_wp2_with fail
                    go_roundg (sumZ ((zipF k3 k4).reverse ++ st))
                    case measure =>
                      have h1 := H.out.1
                      have h2 := sumZ_open (x := (o3, n3, t3, k3)) (y := (o4, n4, t4, k4)) (st := st)
                      exact Nat.lt_of_lt_of_le h2 h1
                    case rel =>
                      obtain ⟨hn, hinv, hpm, hm1, hm2, hbw, hsz, hpop, hL, hst⟩ := H.out
                      have hz : (zipF k3 k4).take k3.len = zipF k3 k4 := List.take_of_length_le (by rw [zipF_len H5.out.2.2.2.symm]; exact Nat.le_refl _)
                      have hs := HMID.out.st
                      rw [hz] at hs
                      exact ⟨_, (k3, k4) :: seen, m', Nat.le_refl _, Nat.le_trans (sumN_open (x := (o3, n3, t3, k3)) (y := (o4, n4, t4, k4)) (st := st)) HSM.out, hs, hinv.open HN.out, HMID.out.map, H5.out.1, H5.out.2.1, HMID.out.bel, HMID.out.lo⟩

end Go.Proofs.Ytmkibpimjaofgaa.SameL


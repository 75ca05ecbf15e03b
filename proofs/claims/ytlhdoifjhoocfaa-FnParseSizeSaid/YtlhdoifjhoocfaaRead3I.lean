import Derived.Test.YtlhdoifjhoocfaaRead2I
/-
  What the program's reader of documents comes to: whole documents, down to a depth.
-/
set_option linter.unusedVariables false
set_option linter.unusedSimpArgs false
namespace Go.Proofs.Ytlhdoifjhoocfaa.Read3
open Go.RowKit P1 Copy ReadDocs Read2

/-- an answer that another reader gave is handed out -/
theorem out_some {w w1 w2 w4 : World} {x : Nat} {o n : Int} {t : ByteArray} {k : F} {l' : List UInt8} {a : Option Addr} {cap : Nat} {fs : List Nat} (hx : x < w.heap.size) (hb01 : But w.heap.size x w w1) (hs1 : w.heap.size + 1 ≤ w1.heap.size) (hc : k.len ≤ cap) (hs : SubAt w2 a k fs) (hf : Fresh w1.heap.size w2 fs) (hh : Has w2 x l') (hb : But w1.heap.size x w1 w2) (ht : Touch w.heap.size (w.heap.size + 1) w2 w4) :
    RdOut w x (some ((o, n, t, k), l')) (.returned (.tuple #[.agg #[.int .i64 o, .int .i64 n, .string t, .slice a k.len cap], .bool true])) w4 :=
  ⟨butTouch (hb01.trans (hb.mono (by omega))) ht (Nat.le_refl _), a, cap, fs, rfl, hc, ht.sub hs (fun c hc => Or.inr (by have := (hf.2 c hc).1; omega)), (ht.fresh hf (fun c hc => Or.inr (by have := (hf.2 c hc).1; omega))).mono (by omega),
    ⟨(ht.cell (Or.inl hx)).trans hh.1, (ht.frozen (Or.inl hx)).trans hh.2.1, by rw [ht.size]; exact hh.2.2⟩⟩
theorem out_none {w w1 w2 w4 : World} {x : Nat} (hb01 : But w.heap.size x w w1) (hs1 : w.heap.size ≤ w1.heap.size) (hb : But w1.heap.size x w1 w2) (ht : Touch w.heap.size (w.heap.size + 1) w2 w4) :
    RdOut w x none (.returned (.tuple #[.agg #[.int .i64 0, .int .i64 0, .string ⟨#[]⟩, .slice none 0 0], .bool false])) w4 := RdOut.no (butTouch (hb01.trans (hb.mono hs1)) ht (Nat.le_refl _))

/-- the first byte is taken, and an answer has been laid -/
theorem first_byte {w : World} {x : Nat} {c : UInt8} {r : List UInt8} (h : Has w x (c :: r)) (ob : Obj) : Has (w.alloc ob) x (c :: r) ∧ Has ((w.setCell ⟨x, 0, none⟩ (.string ⟨r.toArray⟩)).alloc ob) x r ∧ But w.heap.size x w ((w.setCell ⟨x, 0, none⟩ (.string ⟨r.toArray⟩)).alloc ob) ∧ ((w.setCell ⟨x, 0, none⟩ (.string ⟨r.toArray⟩)).alloc ob).heap.size = w.heap.size + 1 :=
  ⟨h.below h.2.2 ((Below.refl _ _).alloc (Nat.le_refl _) _), h.step.1.below h.step.1.2.2 ((Below.refl _ _).alloc (Nat.le_refl _) _), ((But.refl _ _ _).setCell (p := ⟨x, 0, none⟩) (Or.inl rfl) _).alloc (by simp) _, by simp⟩

theorem ne_num (c : UInt8) (k : Nat) (hk : k < 256) (h : c ≠ UInt8.ofNat k) : ((c.toNat : Int) == (k : Int)) = false := by
  rw [beq_eq_false_iff_ne]
  intro e
  exact h (UInt8.toNat_inj.1 (by rw [UInt8.toNat_ofNat']; rw [Nat.mod_eq_of_lt (by simpa using hk)]; omega))

theorem doc_zero : DocS 0 := by
  intro w x l dp hdp _ h hl hg hx0
  obtain rfl : dp = 41 := by omega
  go_enter Try.func13, Try.ntmps13
  go_wp2_with fail
  refine bodyPost_ret (v := .tuple #[.agg #[.int .i64 0, .int .i64 0, .string ⟨#[]⟩, .slice none 0 0], .bool false]) (by simp [results, Try.results13, go_sem]) rfl ?_
  exact RdOut.no ((But.refl _ _ _).alloc (Nat.le_refl _) _)

section
variable (d : Nat) (ih : DocS d) (hd : d + 1 ≤ 40) (w : World) (x : Nat) (r : List UInt8) (dp : Int) (hdp : dp + ((d + 1 : Nat) : Int) = 41) (hl : r.length ≤ 1048575) (hg : G0 w) (hx0 : x ≠ 0)
set_option linter.unusedSectionVars false
include ih hd hdp hl hg hx0

set_option maxRecDepth 100000 in
set_option maxHeartbeats 1600000 in
theorem doc_nil (h : Has w x []) : Calls Try.prog 13 #[.pointer (some ⟨x, 0, none⟩), .int .i64 dp] w (RdOut w x none) := by
  have hd40 : decide (40 < dp) = false := by simp; omega
  have HN := Lib.hid (fun ob => next_nil (w.alloc ob) x (h.below h.2.2 ((Below.refl _ _).alloc (Nat.le_refl _) _)))
  go_enter Try.func13, Try.ntmps13
  go_wp2_with fail
  refine (HN.out _).mono ?_
  rintro e1 w1 ⟨rfl, rfl⟩
  go_wp2_with fail
  refine bodyPost_ret (v := .tuple #[.agg #[.int .i64 0, .int .i64 0, .string ⟨#[]⟩, .slice none 0 0], .bool false]) (by simp [results, Try.results13, go_sem]) rfl ?_
  exact RdOut.no ((But.refl _ _ _).alloc (Nat.le_refl _) _)

set_option maxRecDepth 100000 in
set_option maxHeartbeats 6400000 in
theorem doc_leaf (c : UInt8) (op : Int) (h : Has w x (c :: r)) (hc : (c = 126 ∧ op = 1) ∨ (c = 95 ∧ op = 3) ∨ (c = 46 ∧ op = 4) ∨ (c = 33 ∧ op = 5)) :
    Calls Try.prog 13 #[.pointer (some ⟨x, 0, none⟩), .int .i64 dp] w (RdOut w x (some ((op, 0, ⟨#[]⟩, .nil), r))) := by
  have hd40 : decide (40 < dp) = false := by simp; omega
  have hx := h.2.2
  have hne : x ≠ w.heap.size := by omega
  have HN := Lib.hid (fun ob => next_cons (w.alloc ob) x c r (first_byte h ob).1 (by omega))
  have HF := Lib.hid (fun ob => (first_byte h ob).2)
  clear h
  rcases hc with ⟨rfl, rfl⟩ | ⟨rfl, rfl⟩ | ⟨rfl, rfl⟩ | ⟨rfl, rfl⟩
  all_goals
    go_enter Try.func13, Try.ntmps13
    go_wp2_with fail
    refine (HN.out _).mono ?_
    rintro e1 w1 ⟨rfl, rfl⟩
    go_wp2_with fail
    refine bodyPost_ret (v := .tuple #[.agg #[.int .i64 _, .int .i64 0, .string ⟨#[]⟩, .slice none 0 0], .bool true]) (by simp [results, Try.results13, go_sem, hne, Ne.symm hne]; rfl) rfl ?_
    exact ⟨(HF.out _).2.1, none, 0, [], rfl, by simp [F.len], .inl ⟨rfl, rfl⟩, Fresh.nil _ _, (HF.out _).1⟩

set_option maxRecDepth 100000 in
set_option maxHeartbeats 3200000 in
theorem doc_text (h : Has w x (34 :: r)) : Calls Try.prog 13 #[.pointer (some ⟨x, 0, none⟩), .int .i64 dp] w (RdOut w x (rdT true r)) := by
  have hd40 : decide (40 < dp) = false := by simp; omega
  have hx := h.2.2
  have hne : x ≠ w.heap.size := by omega
  have HN := Lib.hid (fun ob => next_cons (w.alloc ob) x 34 r (first_byte h ob).1 (by omega))
  have HF := Lib.hid (fun ob => (first_byte h ob).2)
  have hgA : ∀ ob, G0 ((w.setCell ⟨x, 0, none⟩ (.string ⟨r.toArray⟩)).alloc ob) := fun ob => hg.but (first_byte h ob).2.2.1 hg.lt hx0
  have hTx := fun ob => text _ x r (first_byte h ob).2.1 (by omega) (hgA ob) hx0
  obtain ⟨res, hres⟩ : ∃ res, rdT true r = res := ⟨_, rfl⟩
  rw [hres] at hTx ⊢
  have HT := Lib.hid hTx
  clear h hgA hTx hres
  go_enter Try.func13, Try.ntmps13
  go_wp2_with fail
  refine (HN.out _).mono ?_
  rintro e1 w1 ⟨rfl, rfl⟩
  go_wp2_with fail
  refine (HT.out _).mono fun e2 w2 hq => ?_
  cases res with
  | none =>
    obtain ⟨rfl, hb2⟩ := RdOut.of_none hq
    have hcell : ∀ o, w2.cell? ⟨w.heap.size, o, none⟩ = _ := fun o => hb2.cell (c := w.heap.size) (o := o) (by simp) (Ne.symm hne)
    have hfz : ∀ o, w2.frozen? ⟨w.heap.size, o, none⟩ = _ := fun o => hb2.frozen (c := w.heap.size) (o := o) (by simp) (Ne.symm hne)
    have hz : w.heap.size < w2.heap.size := by have := hb2.size; simp at this; omega
    have H2 := Lib.hid hb2
    clear hq hb2
    go_wp2_with fail
    refine bodyPost_ret (v := .tuple #[.agg #[.int .i64 0, .int .i64 0, .string ⟨#[]⟩, .slice none 0 0], .bool false]) (by simp [results, Try.results13, go_sem, hne, Ne.symm hne, hcell, hz]) rfl ?_
    refine out_none (HF.out _).2.1 (by rw [(HF.out _).2.2]; omega) H2.out ?_
    repeat (first | exact Touch.refl _ _ _ | refine Touch.setCell ?_ (by simp) (by simp) _)
  | some q =>
    obtain ⟨⟨o, n, t, k⟩, l'⟩ := q
    obtain ⟨a, cap, fs, rfl, hc, hs, hf, hh, hb2⟩ := RdOut.of_some hq
    have hcell : ∀ o, w2.cell? ⟨w.heap.size, o, none⟩ = _ := fun o => hb2.cell (c := w.heap.size) (o := o) (by simp) (Ne.symm hne)
    have hfz : ∀ o, w2.frozen? ⟨w.heap.size, o, none⟩ = _ := fun o => hb2.frozen (c := w.heap.size) (o := o) (by simp) (Ne.symm hne)
    have hz : w.heap.size < w2.heap.size := by have := hb2.size; simp at this; omega
    have H2 := Lib.hid (And.intro hc (And.intro hs (And.intro hf (And.intro hh hb2))))
    clear hq hb2 hc hs hf hh
    go_wp2_with fail
    refine bodyPost_ret (v := .tuple #[.agg #[.int .i64 o, .int .i64 n, .string t, .slice a k.len cap], .bool true]) (by simp [results, Try.results13, go_sem, hne, Ne.symm hne, hcell, hz]) rfl ?_
    obtain ⟨hc, hs, hf, hh, hb2⟩ := H2.out
    refine out_some hx (HF.out _).2.1 (Nat.le_of_eq (HF.out _).2.2.symm) hc hs hf hh hb2 ?_
    repeat (first | exact Touch.refl _ _ _ | refine Touch.setCell ?_ (by simp) (by simp) _)

set_option maxRecDepth 100000 in
set_option maxHeartbeats 6400000 in
theorem doc_pair (c : UInt8) (op : Int) (L : Nat) (sg : UInt8) (h : Has w x (c :: r)) (hc : (c = 40 ∧ op = 7 ∧ L = 2 ∧ sg = 41) ∨ (c = 91 ∧ op = 8 ∧ L = 1 ∧ sg = 93)) :
    Calls Try.prog 13 #[.pointer (some ⟨x, 0, none⟩), .int .i64 dp] w (RdOut w x (rdA (rdD true d) op 0 L sg r)) := by
  have hd40 : decide (40 < dp) = false := by simp; omega
  have hx := h.2.2
  have hne : x ≠ w.heap.size := by omega
  have HN := Lib.hid (fun ob => next_cons (w.alloc ob) x c r (first_byte h ob).1 (by omega))
  have HF := Lib.hid (fun ob => (first_byte h ob).2)
  have hgA : ∀ ob, G0 ((w.setCell ⟨x, 0, none⟩ (.string ⟨r.toArray⟩)).alloc ob) := fun ob => hg.but (first_byte h ob).2.2.1 hg.lt hx0
  have hAr := fun ob ci hci hL hL2 si hsi hsg => around d ih (by omega) _ x r op 0 L ci hci hL hL2 sg si hsi hsg dp (by omega) (first_byte h ob).2.1 (by omega) (hgA ob) hx0
  obtain ⟨res, hres⟩ : ∃ res, rdA (rdD true d) op 0 L sg r = res := ⟨_, rfl⟩
  rw [hres] at hAr ⊢
  have HA := Lib.hid hAr
  clear h hgA hAr hres
  rcases hc with ⟨rfl, rfl, rfl, rfl⟩ | ⟨rfl, rfl, rfl, rfl⟩
  all_goals
    go_enter Try.func13, Try.ntmps13
    go_wp2_with fail
    refine (HN.out _).mono ?_
    rintro e1 w1 ⟨rfl, rfl⟩
    go_wp2_with fail
    refine (HA.out _ _ (by rfl) (by omega) (by omega) _ (by rfl) (by decide)).mono fun e2 w2 hq => ?_
    cases res with
    | none =>
      obtain ⟨rfl, hb2⟩ := RdOut.of_none hq
      have hcell : ∀ o, w2.cell? ⟨w.heap.size, o, none⟩ = _ := fun o => hb2.cell (c := w.heap.size) (o := o) (by simp) (Ne.symm hne)
      have hfz : ∀ o, w2.frozen? ⟨w.heap.size, o, none⟩ = _ := fun o => hb2.frozen (c := w.heap.size) (o := o) (by simp) (Ne.symm hne)
      have hz : w.heap.size < w2.heap.size := by have := hb2.size; simp at this; omega
      have H2 := Lib.hid hb2
      clear hq hb2
      go_wp2_with fail
      refine bodyPost_ret (v := .tuple #[.agg #[.int .i64 0, .int .i64 0, .string ⟨#[]⟩, .slice none 0 0], .bool false]) (by simp [results, Try.results13, go_sem, hne, Ne.symm hne, hcell, hz]) rfl ?_
      refine out_none (HF.out _).2.1 (by rw [(HF.out _).2.2]; omega) H2.out ?_
      repeat (first | exact Touch.refl _ _ _ | refine Touch.setCell ?_ (by simp) (by simp) _)
    | some q =>
      obtain ⟨⟨o, n, t, k⟩, l'⟩ := q
      obtain ⟨a, cap, fs, rfl, hc, hs, hf, hh, hb2⟩ := RdOut.of_some hq
      have hcell : ∀ o, w2.cell? ⟨w.heap.size, o, none⟩ = _ := fun o => hb2.cell (c := w.heap.size) (o := o) (by simp) (Ne.symm hne)
      have hfz : ∀ o, w2.frozen? ⟨w.heap.size, o, none⟩ = _ := fun o => hb2.frozen (c := w.heap.size) (o := o) (by simp) (Ne.symm hne)
      have hz : w.heap.size < w2.heap.size := by have := hb2.size; simp at this; omega
      have H2 := Lib.hid (And.intro hc (And.intro hs (And.intro hf (And.intro hh hb2))))
      clear hq hb2 hc hs hf hh
      go_wp2_with fail
      refine bodyPost_ret (v := .tuple #[.agg #[.int .i64 o, .int .i64 n, .string t, .slice a k.len cap], .bool true]) (by simp [results, Try.results13, go_sem, hne, Ne.symm hne, hcell, hz]) rfl ?_
      obtain ⟨hc, hs, hf, hh, hb2⟩ := H2.out
      refine out_some hx (HF.out _).2.1 (Nat.le_of_eq (HF.out _).2.2.symm) hc hs hf hh hb2 ?_
      repeat (first | exact Touch.refl _ _ _ | refine Touch.setCell ?_ (by simp) (by simp) _)

set_option maxRecDepth 100000 in
set_option maxHeartbeats 3200000 in
theorem doc_other (c : UInt8) (h : Has w x (c :: r)) (h1 : c ≠ 126) (h2 : c ≠ 34) (h3 : c ≠ 95) (h4 : c ≠ 46) (h5 : c ≠ 33) (h6 : c ≠ 40) (h7 : c ≠ 91) (hdg : ¬ (48 ≤ c.toNat ∧ c.toNat ≤ 57)) :
    Calls Try.prog 13 #[.pointer (some ⟨x, 0, none⟩), .int .i64 dp] w (RdOut w x none) := by
  have hd40 : decide (40 < dp) = false := by simp; omega
  have hx := h.2.2
  have hne : x ≠ w.heap.size := by omega
  have HN := Lib.hid (fun ob => next_cons (w.alloc ob) x c r (first_byte h ob).1 (by omega))
  have HF := Lib.hid (fun ob => (first_byte h ob).2)
  have b1 : ((c.toNat : Int) == 126) = false := ne_num c 126 (by omega) h1
  have b2 : ((c.toNat : Int) == 34) = false := ne_num c 34 (by omega) h2
  have b3 : ((c.toNat : Int) == 95) = false := ne_num c 95 (by omega) h3
  have b4 : ((c.toNat : Int) == 46) = false := ne_num c 46 (by omega) h4
  have b5 : ((c.toNat : Int) == 33) = false := ne_num c 33 (by omega) h5
  have b6 : ((c.toNat : Int) == 40) = false := ne_num c 40 (by omega) h6
  have b7 : ((c.toNat : Int) == 91) = false := ne_num c 91 (by omega) h7
  have d0 : ((c.toNat : Int) == 48) = false := by rw [beq_eq_false_iff_ne]; omega
  have d1 : ((c.toNat : Int) == 49) = false := by rw [beq_eq_false_iff_ne]; omega
  have d2 : ((c.toNat : Int) == 50) = false := by rw [beq_eq_false_iff_ne]; omega
  have d3 : ((c.toNat : Int) == 51) = false := by rw [beq_eq_false_iff_ne]; omega
  have d4 : ((c.toNat : Int) == 52) = false := by rw [beq_eq_false_iff_ne]; omega
  have d5 : ((c.toNat : Int) == 53) = false := by rw [beq_eq_false_iff_ne]; omega
  have d6 : ((c.toNat : Int) == 54) = false := by rw [beq_eq_false_iff_ne]; omega
  have d7 : ((c.toNat : Int) == 55) = false := by rw [beq_eq_false_iff_ne]; omega
  have d8 : ((c.toNat : Int) == 56) = false := by rw [beq_eq_false_iff_ne]; omega
  have d9 : ((c.toNat : Int) == 57) = false := by rw [beq_eq_false_iff_ne]; omega
  clear h h1 h2 h3 h4 h5 h6 h7 hdg
  go_enter Try.func13, Try.ntmps13
  go_wp2_with fail
  refine (HN.out _).mono ?_
  rintro e1 w1 ⟨rfl, rfl⟩
  go_wp2_with fail
  refine bodyPost_ret (v := .tuple #[.agg #[.int .i64 0, .int .i64 0, .string ⟨#[]⟩, .slice none 0 0], .bool false]) (by simp [results, Try.results13, go_sem, hne, Ne.symm hne]) rfl ?_
  exact RdOut.no (HF.out _).2.1

set_option maxRecDepth 100000 in
set_option maxHeartbeats 25600000 in
theorem doc_digit (c : UInt8) (h : Has w x (c :: r)) (hc : c = 48 ∨ c = 49 ∨ c = 50 ∨ c = 51 ∨ c = 52 ∨ c = 53 ∨ c = 54 ∨ c = 55 ∨ c = 56 ∨ c = 57) :
    Calls Try.prog 13 #[.pointer (some ⟨x, 0, none⟩), .int .i64 dp] w (RdOut w x (rdN (rdD true d) c r)) := by
  have hd40 : decide (40 < dp) = false := by simp; omega
  have hx := h.2.2
  have hne : x ≠ w.heap.size := by omega
  have HN := Lib.hid (fun ob => next_cons (w.alloc ob) x c r (first_byte h ob).1 (by omega))
  have HF := Lib.hid (fun ob => (first_byte h ob).2)
  cases r with
  | nil =>
    have HN2 := Lib.hid (fun ob => next_nil _ x (first_byte h ob).2.1)
    clear h
    rcases hc with rfl | rfl | rfl | rfl | rfl | rfl | rfl | rfl | rfl | rfl
    all_goals
      go_enter Try.func13, Try.ntmps13
      go_wp2_with fail
      refine (HN.out _).mono ?_
      rintro e1 w1 ⟨rfl, rfl⟩
      go_wp2_with fail
      refine (HN2.out _).mono ?_
      rintro e2 w2 ⟨rfl, rfl⟩
      go_wp2_with fail
      refine bodyPost_ret (v := .tuple #[.agg #[.int .i64 0, .int .i64 0, .string ⟨#[]⟩, .slice none 0 0], .bool false]) (by simp [results, Try.results13, go_sem, hne, Ne.symm hne]) rfl ?_
      exact RdOut.no (HF.out _).2.1
  | cons b r' =>
    have h2 := fun ob => (first_byte h ob).2.1
    have hlr : r'.length ≤ 1048574 := by simp at hl; omega
    have HN2 := Lib.hid (fun ob => next_cons _ x b r' (h2 ob) (by omega))
    have hs2 := h.step.1.step
    have hF2 : ∀ ob, Has (((w.setCell ⟨x, 0, none⟩ (.string ⟨(b :: r').toArray⟩)).setCell ⟨x, 0, none⟩ (.string ⟨r'.toArray⟩)).alloc ob) x r' ∧ But w.heap.size x w (((w.setCell ⟨x, 0, none⟩ (.string ⟨(b :: r').toArray⟩)).setCell ⟨x, 0, none⟩ (.string ⟨r'.toArray⟩)).alloc ob) ∧ (((w.setCell ⟨x, 0, none⟩ (.string ⟨(b :: r').toArray⟩)).setCell ⟨x, 0, none⟩ (.string ⟨r'.toArray⟩)).alloc ob).heap.size = w.heap.size + 1 := fun ob =>
      ⟨hs2.1.below hs2.1.2.2 ((Below.refl _ _).alloc (Nat.le_refl _) _), (((But.refl _ _ _).setCell (p := ⟨x, 0, none⟩) (Or.inl rfl) _).setCell (p := ⟨x, 0, none⟩) (Or.inl rfl) _).alloc (by simp) _, by simp⟩
    have HF2 := Lib.hid hF2
    have hgA : ∀ ob, G0 (((w.setCell ⟨x, 0, none⟩ (.string ⟨(b :: r').toArray⟩)).setCell ⟨x, 0, none⟩ (.string ⟨r'.toArray⟩)).alloc ob) := fun ob => hg.but (hF2 ob).2.1 hg.lt hx0
    by_cases hb : b = 60
    · subst hb
      obtain ⟨res, hres⟩ : ∃ res, rdN (rdD true d) c (60 :: r') = res := ⟨_, rfl⟩
      have hres2 : rdA (rdD true d) 6 ((c.toNat : Int) - 48) 1 62 r' = res := by rw [← hres]; simp [rdN]
      have hAr := fun ob (num : Int) (hnum : (c.toNat : Int) - 48 = num) ci hci hL hL2 si hsi hsg => around d ih (by omega) _ x r' 6 num 1 ci hci hL hL2 62 si hsi hsg dp (by omega) (hF2 ob).1 (by omega) (hgA ob) hx0
      have hres3 : ∀ num : Int, (c.toNat : Int) - 48 = num → rdA (rdD true d) 6 num 1 62 r' = res := fun num e => by rw [← e]; exact hres2
      rw [hres]
      have HA := Lib.hid hAr
      have HR3 := Lib.hid hres3
      clear h h2 hs2 hF2 hgA hAr hres hres2 hres3
      rcases hc with rfl | rfl | rfl | rfl | rfl | rfl | rfl | rfl | rfl | rfl
      all_goals
        go_enter Try.func13, Try.ntmps13
        go_wp2_with fail
        refine (HN.out _).mono ?_
        rintro e1 w1 ⟨rfl, rfl⟩
        go_wp2_with fail
        refine (HN2.out _).mono ?_
        rintro e2 w2 ⟨rfl, rfl⟩
        go_wp2_with fail
        refine (HA.out _ _ (by decide) _ (by rfl) (by omega) (by omega) _ (by rfl) (by decide)).mono fun e2 w2 hq => ?_
        rw [HR3.out _ (by decide)] at hq
        cases res with
        | none =>
          obtain ⟨rfl, hb2⟩ := RdOut.of_none hq
          have hcell : ∀ o, w2.cell? ⟨w.heap.size, o, none⟩ = _ := fun o => hb2.cell (c := w.heap.size) (o := o) (by simp) (Ne.symm hne)
          have hfz : ∀ o, w2.frozen? ⟨w.heap.size, o, none⟩ = _ := fun o => hb2.frozen (c := w.heap.size) (o := o) (by simp) (Ne.symm hne)
          have hz : w.heap.size < w2.heap.size := by have := hb2.size; simp at this; omega
          have H2 := Lib.hid hb2
          clear hq hb2
          go_wp2_with fail
          refine bodyPost_ret (v := .tuple #[.agg #[.int .i64 0, .int .i64 0, .string ⟨#[]⟩, .slice none 0 0], .bool false]) (by simp [results, Try.results13, go_sem, hne, Ne.symm hne, hcell, hz]) rfl ?_
          refine out_none (HF2.out _).2.1 (by rw [(HF2.out _).2.2]; omega) H2.out ?_
          repeat (first | exact Touch.refl _ _ _ | refine Touch.setCell ?_ (by simp) (by simp) _)
        | some q =>
          obtain ⟨⟨o, n, t, k⟩, l'⟩ := q
          obtain ⟨a, cap, fs, rfl, hc, hs, hf, hh, hb2⟩ := RdOut.of_some hq
          have hcell : ∀ o, w2.cell? ⟨w.heap.size, o, none⟩ = _ := fun o => hb2.cell (c := w.heap.size) (o := o) (by simp) (Ne.symm hne)
          have hfz : ∀ o, w2.frozen? ⟨w.heap.size, o, none⟩ = _ := fun o => hb2.frozen (c := w.heap.size) (o := o) (by simp) (Ne.symm hne)
          have hz : w.heap.size < w2.heap.size := by have := hb2.size; simp at this; omega
          have H2 := Lib.hid (And.intro hc (And.intro hs (And.intro hf (And.intro hh hb2))))
          clear hq hb2 hc hs hf hh
          go_wp2_with fail
          refine bodyPost_ret (v := .tuple #[.agg #[.int .i64 o, .int .i64 n, .string t, .slice a k.len cap], .bool true]) (by simp [results, Try.results13, go_sem, hne, Ne.symm hne, hcell, hz]) rfl ?_
          obtain ⟨hc, hs, hf, hh, hb2⟩ := H2.out
          refine out_some hx (HF2.out _).2.1 (Nat.le_of_eq (HF2.out _).2.2.symm) hc hs hf hh hb2 ?_
          repeat (first | exact Touch.refl _ _ _ | refine Touch.setCell ?_ (by simp) (by simp) _)
    · have hbn : ((b.toNat : Int) != 60) = true := by have := ne_num b 60 (by omega) hb; rw [bne, show ((b.toNat : Int) == 60) = false from this]; rfl
      have hres : rdN (rdD true d) c (b :: r') = none := by simp [rdN, hb]
      rw [hres]
      clear h h2 hs2 hF2 hgA hb hres
      rcases hc with rfl | rfl | rfl | rfl | rfl | rfl | rfl | rfl | rfl | rfl
      all_goals
        go_enter Try.func13, Try.ntmps13
        go_wp2_with fail
        refine (HN.out _).mono ?_
        rintro e1 w1 ⟨rfl, rfl⟩
        go_wp2_with fail
        refine (HN2.out _).mono ?_
        rintro e2 w2 ⟨rfl, rfl⟩
        go_wp2_with fail
        refine bodyPost_ret (v := .tuple #[.agg #[.int .i64 0, .int .i64 0, .string ⟨#[]⟩, .slice none 0 0], .bool false]) (by simp [results, Try.results13, go_sem, hne, Ne.symm hne]) rfl ?_
        exact RdOut.no (HF2.out _).2.1
end

theorem u8_cases (c : UInt8) : (48 ≤ c.toNat ∧ c.toNat ≤ 57) → c = 48 ∨ c = 49 ∨ c = 50 ∨ c = 51 ∨ c = 52 ∨ c = 53 ∨ c = 54 ∨ c = 55 ∨ c = 56 ∨ c = 57 := by
  intro h
  have e : ∀ k : Nat, k < 256 → c.toNat = k → c = UInt8.ofNat k := fun k hk hc => UInt8.toNat_inj.1 (by rw [UInt8.toNat_ofNat', Nat.mod_eq_of_lt (by simpa using hk)]; exact hc)
  have hc : c.toNat = 48 ∨ c.toNat = 49 ∨ c.toNat = 50 ∨ c.toNat = 51 ∨ c.toNat = 52 ∨ c.toNat = 53 ∨ c.toNat = 54 ∨ c.toNat = 55 ∨ c.toNat = 56 ∨ c.toNat = 57 := by omega
  rcases hc with hc | hc | hc | hc | hc | hc | hc | hc | hc | hc
  · exact .inl (e 48 (by omega) hc)
  · exact .inr (.inl (e 49 (by omega) hc))
  · exact .inr (.inr (.inl (e 50 (by omega) hc)))
  · exact .inr (.inr (.inr (.inl (e 51 (by omega) hc))))
  · exact .inr (.inr (.inr (.inr (.inl (e 52 (by omega) hc)))))
  · exact .inr (.inr (.inr (.inr (.inr (.inl (e 53 (by omega) hc))))))
  · exact .inr (.inr (.inr (.inr (.inr (.inr (.inl (e 54 (by omega) hc)))))))
  · exact .inr (.inr (.inr (.inr (.inr (.inr (.inr (.inl (e 55 (by omega) hc))))))))
  · exact .inr (.inr (.inr (.inr (.inr (.inr (.inr (.inr (.inl (e 56 (by omega) hc)))))))))
  · exact .inr (.inr (.inr (.inr (.inr (.inr (.inr (.inr (.inr (e 57 (by omega) hc)))))))))

/-- The contract of doc, at every depth. -/
theorem docS : ∀ d : Nat, DocS d
  | 0 => doc_zero
  | d + 1 => by
    have ih := docS d
    intro w x l dp hdp hd h hl hg hx0
    cases l with
    | nil => exact doc_nil d ih hd w x [] dp hdp (by simp) hg hx0 h
    | cons c r =>
      have hl' : r.length ≤ 1048575 := by simp at hl; omega
      rw [rdD]
      split
      · rename_i hc; subst hc; exact doc_leaf d ih hd w x r dp hdp hl' hg hx0 _ _ h (.inl ⟨rfl, rfl⟩)
      rename_i h1
      split
      · rename_i hc; subst hc; exact doc_leaf d ih hd w x r dp hdp hl' hg hx0 _ _ h (.inr (.inl ⟨rfl, rfl⟩))
      rename_i h2
      split
      · rename_i hc; subst hc; exact doc_leaf d ih hd w x r dp hdp hl' hg hx0 _ _ h (.inr (.inr (.inl ⟨rfl, rfl⟩)))
      rename_i h3
      split
      · rename_i hc; subst hc; exact doc_leaf d ih hd w x r dp hdp hl' hg hx0 _ _ h (.inr (.inr (.inr ⟨rfl, rfl⟩)))
      rename_i h4
      split
      · rename_i hc; subst hc; exact doc_text d ih hd w x r dp hdp hl' hg hx0 h
      rename_i h5
      split
      · rename_i hc; subst hc; exact doc_pair d ih hd w x r dp hdp hl' hg hx0 _ _ _ _ h (.inl ⟨rfl, rfl, rfl, rfl⟩)
      rename_i h6
      split
      · rename_i hc; subst hc; exact doc_pair d ih hd w x r dp hdp hl' hg hx0 _ _ _ _ h (.inr ⟨rfl, rfl, rfl, rfl⟩)
      rename_i h7
      split
      · rename_i hc
        exact doc_digit d ih hd w x r dp hdp hl' hg hx0 c h (u8_cases c ⟨by have := hc.1; simpa [UInt8.le_iff_toNat_le] using this, by have := hc.2; simpa [UInt8.le_iff_toNat_le] using this⟩)
      · rename_i hc
        exact doc_other d ih hd w x r dp hdp hl' hg hx0 c h h1 h5 h2 h3 h4 h6 h7 (fun hh => hc ⟨by simpa [UInt8.le_iff_toNat_le] using hh.1, by simpa [UInt8.le_iff_toNat_le] using hh.2⟩)

end Go.Proofs.Ytlhdoifjhoocfaa.Read3


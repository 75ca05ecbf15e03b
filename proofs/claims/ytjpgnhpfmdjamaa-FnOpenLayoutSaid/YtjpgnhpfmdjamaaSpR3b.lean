/-
  What the model's reader of documents comes to: whole documents, down to a depth.
-/
import Derived.Test.YtjpgnhpfmdjamaaSpR2b
set_option linter.unusedVariables false
set_option linter.unusedSimpArgs false
namespace Go.Proofs.Ytjpgnhpfmdjamaa.SpR3
open Go.RowKit P1 Copy SpR SpR2

theorem sp_none {w w2 w4 : World} {N : Nat} {ob : Obj} {o n : Int} {t : ByteArray} {a : Option Addr} {l c : Nat} (hb : Below (w.alloc ob).heap.size (w.alloc ob) w2) (ht : Touch w.heap.size (w.heap.size + 1) w2 w4) :
    SpOut w N none (.returned (.tuple #[.agg #[.int .i64 o, .int .i64 n, .string t, .slice a l c], .int .i64 (-1)])) w4 :=
  ⟨ht.below (((Below.refl _ _).alloc (Nat.le_refl _) _).trans (hb.mono (by simp))) (Nat.le_refl _), _, ⟨o, n, t, a, l, c, rfl⟩, rfl⟩

theorem sp_some {w w2 w4 : World} {N : Nat} {ob : Obj} {o n : Int} {t : ByteArray} {k : F} {l' : List UInt8} {a : Option Addr} {cap : Nat} {fs : List Nat} (hb : Below (w.alloc ob).heap.size (w.alloc ob) w2) (hc : k.len ≤ cap) (hs : SubAt w2 a k fs) (hf : Fresh (w.alloc ob).heap.size w2 fs) (ht : Touch w.heap.size (w.heap.size + 1) w2 w4) :
    SpOut w N (some ((o, n, t, k), l')) (.returned (.tuple #[.agg #[.int .i64 o, .int .i64 n, .string t, .slice a k.len cap], .int .i64 ((N - l'.length : Nat) : Int)])) w4 := by
  have hf' : Fresh (w.heap.size + 1) w2 fs := hf.mono (by simp)
  exact ⟨ht.below (((Below.refl _ _).alloc (Nat.le_refl _) _).trans (hb.mono (by simp))) (Nat.le_refl _), a, cap, fs, rfl, hc, ht.sub hs (fun c hc => Or.inr (hf'.2 c hc).1), (ht.fresh hf' (fun c hc => Or.inr (hf'.2 c hc).1)).mono (by omega)⟩

section
variable (w : World) (s : ByteArray) (hs : s.size ≤ 1048576) (p : Nat)
set_option linter.unusedSectionVars false
include hs

set_option maxRecDepth 100000 in
set_option maxHeartbeats 1600000 in
theorem read_zero (hp : p ≤ s.size) : Calls Try.prog 70 #[.string s, .int .i64 (p : Int), .int .i64 0] w (SpOut w s.size none) := by
  by_cases h : p < s.size
  · have hge : decide ((s.size : Int) ≤ (p : Int)) = false := by simp; omega
    go_enter Try.func70, Try.ntmps70
    go_wp2_with fail
    refine bodyPost_ret (v := .tuple #[.agg #[.int .i64 0, .int .i64 0, .string ⟨#[]⟩, .slice none 0 0], .int .i64 (-1)]) (by simp [results, Try.results70, go_sem]) rfl ?_
    exact ⟨(Below.refl _ _).alloc (Nat.le_refl _) _, _, ⟨0, 0, ⟨#[]⟩, none, 0, 0, rfl⟩, rfl⟩
  · have hge : decide ((s.size : Int) ≤ (p : Int)) = true := by simp; omega
    go_enter Try.func70, Try.ntmps70
    go_wp2_with fail
    refine bodyPost_ret (v := .tuple #[.agg #[.int .i64 0, .int .i64 0, .string ⟨#[]⟩, .slice none 0 0], .int .i64 (-1)]) (by simp [results, Try.results70, go_sem]) rfl ?_
    exact ⟨(Below.refl _ _).alloc (Nat.le_refl _) _, _, ⟨0, 0, ⟨#[]⟩, none, 0, 0, rfl⟩, rfl⟩

set_option maxRecDepth 100000 in
set_option maxHeartbeats 1600000 in
theorem read_end (dp : Int) (h : s.size ≤ p) : Calls Try.prog 70 #[.string s, .int .i64 (p : Int), .int .i64 dp] w (SpOut w s.size none) := by
  have hge : decide ((s.size : Int) ≤ (p : Int)) = true := by simp; omega
  go_enter Try.func70, Try.ntmps70
  go_wp2_with fail
  refine bodyPost_ret (v := .tuple #[.agg #[.int .i64 0, .int .i64 0, .string ⟨#[]⟩, .slice none 0 0], .int .i64 (-1)]) (by simp [results, Try.results70, go_sem]) rfl ?_
  exact ⟨(Below.refl _ _).alloc (Nat.le_refl _) _, _, ⟨0, 0, ⟨#[]⟩, none, 0, 0, rfl⟩, rfl⟩

variable (d : Nat) (ih : ReS d) (hd : d + 1 ≤ 40) (dp : Int) (hdp : dp = ((d + 1 : Nat) : Int)) (c : UInt8) (r : List UInt8) (hr : s.data.toList.drop p = c :: r)
include ih hd hdp hr

set_option maxRecDepth 100000 in
set_option maxHeartbeats 6400000 in
theorem read_leaf (op : Int) (hc : (c = 126 ∧ op = 1) ∨ (c = 95 ∧ op = 3) ∨ (c = 46 ∧ op = 4) ∨ (c = 33 ∧ op = 5)) :
    Calls Try.prog 70 #[.string s, .int .i64 (p : Int), .int .i64 dp] w (SpOut w s.size (some ((op, 0, ⟨#[]⟩, .nil), r))) := by
  obtain ⟨hlt, hcc, _, hsz⟩ := at_cons hr
  have hge : decide ((s.size : Int) ≤ (p : Int)) = false := by simp; omega
  have hd0 : (dp == 0) = false := by rw [beq_eq_false_iff_ne]; omega
  have hN : ((s.size - r.length : Nat) : Int) = (p : Int) + 1 := by omega
  have HN := Lib.hid hN
  clear hN hr ih hdp hsz
  rcases hc with ⟨rfl, rfl⟩ | ⟨rfl, rfl⟩ | ⟨rfl, rfl⟩ | ⟨rfl, rfl⟩
  all_goals
    have hb : (s[p].toNat : Int) = _ := congrArg (fun b : UInt8 => (b.toNat : Int)) hcc
    simp at hb
    clear hcc
    go_enter Try.func70, Try.ntmps70
    go_wp2_with fail
    refine bodyPost_ret (v := .tuple #[.agg #[.int .i64 _, .int .i64 0, .string ⟨#[]⟩, .slice none 0 0], .int .i64 ((p : Int) + 1)]) (by simp [results, Try.results70, go_sem]; rfl) rfl ?_
    exact ⟨(Below.refl _ _).alloc (Nat.le_refl _) _, none, 0, [], by rw [HN.out]; rfl, by simp [F.len], .inl ⟨rfl, rfl⟩, Fresh.nil _ _⟩

set_option maxRecDepth 100000 in
set_option maxHeartbeats 3200000 in
theorem read_word (hc : c = 34) :
    Calls Try.prog 70 #[.string s, .int .i64 (p : Int), .int .i64 dp] w (SpOut w s.size (rdT false r)) := by
  obtain ⟨hlt, hcc, hr2, hsz⟩ := at_cons hr
  have hge : decide ((s.size : Int) ≤ (p : Int)) = false := by simp; omega
  have hd0 : (dp == 0) = false := by rw [beq_eq_false_iff_ne]; omega
  have hb : (s[p].toNat : Int) = 34 := by rw [hcc, hc]; rfl
  have hW := fun ob => l1Word (w.alloc ob) s hs p r hr2 hlt
  obtain ⟨res, hres⟩ : ∃ res, rdT false r = res := ⟨_, rfl⟩
  rw [hres] at hW ⊢
  have HW := Lib.hid hW
  clear hr ih hdp hsz hcc hr2 hW hres hc
  go_enter Try.func70, Try.ntmps70
  go_wp2_with fail
  refine (HW.out _).mono fun e2 w2 hq => ?_
  cases res with
  | none =>
    obtain ⟨o, n, t, a, l, cc, rfl, hb2⟩ := SpOut.of_none hq
    have hcell : ∀ o, w2.cell? ⟨w.heap.size, o, none⟩ = _ := fun o => hb2.cell (p := ⟨w.heap.size, o, none⟩) (by simp)
    have hfz : ∀ o, w2.frozen? ⟨w.heap.size, o, none⟩ = _ := fun o => hb2.frozen (p := ⟨w.heap.size, o, none⟩) (by simp)
    have hz : w.heap.size < w2.heap.size := by have := hb2.size; simp at this; omega
    have H2 := Lib.hid hb2
    clear hq hb2
    go_wp2_with fail
    refine bodyPost_ret (v := .tuple #[.agg #[.int .i64 o, .int .i64 n, .string t, .slice a l cc], .int .i64 (-1)]) (by simp [results, Try.results70, go_sem, hcell, hz]) rfl ?_
    refine sp_none H2.out ?_
    repeat (first | exact Touch.refl _ _ _ | refine Touch.setCell ?_ (by simp) (by simp) _)
  | some q =>
    obtain ⟨⟨o, n, t, k⟩, l'⟩ := q
    obtain ⟨a, cap, fs, rfl, hc2, hs2, hf2, hb2⟩ := SpOut.of_some hq
    have hcell : ∀ o, w2.cell? ⟨w.heap.size, o, none⟩ = _ := fun o => hb2.cell (p := ⟨w.heap.size, o, none⟩) (by simp)
    have hfz : ∀ o, w2.frozen? ⟨w.heap.size, o, none⟩ = _ := fun o => hb2.frozen (p := ⟨w.heap.size, o, none⟩) (by simp)
    have hz : w.heap.size < w2.heap.size := by have := hb2.size; simp at this; omega
    obtain ⟨z, hzz⟩ : ∃ z : Nat, s.size - l'.length = z := ⟨_, rfl⟩
    have H2 := Lib.hid (And.intro hb2 (And.intro hc2 (And.intro hs2 (And.intro hf2 hzz))))
    rw [hzz]
    clear hq hb2 hc2 hs2 hf2 hzz
    go_wp2_with fail
    refine bodyPost_ret (v := .tuple #[.agg #[.int .i64 o, .int .i64 n, .string t, .slice a k.len cap], .int .i64 (z : Int)]) (by simp [results, Try.results70, go_sem, hcell, hz]) rfl ?_
    obtain ⟨hb2, hc2, hs2, hf2, hzz⟩ := H2.out
    rw [← hzz]
    refine sp_some hb2 hc2 hs2 hf2 ?_
    repeat (first | exact Touch.refl _ _ _ | refine Touch.setCell ?_ (by simp) (by simp) _)

set_option maxRecDepth 100000 in
set_option maxHeartbeats 6400000 in
theorem read_pair (op : Int) (L : Nat) (sg : UInt8) (hc : (c = 40 ∧ op = 7 ∧ L = 2 ∧ sg = 41) ∨ (c = 91 ∧ op = 8 ∧ L = 1 ∧ sg = 93)) :
    Calls Try.prog 70 #[.string s, .int .i64 (p : Int), .int .i64 dp] w (SpOut w s.size (rdA (rdD false d) op 0 L sg r)) := by
  obtain ⟨hlt, hcc, hr2, hsz⟩ := at_cons hr
  have hge : decide ((s.size : Int) ≤ (p : Int)) = false := by simp; omega
  have hd0 : (dp == 0) = false := by rw [beq_eq_false_iff_ne]; omega
  have hI := fun ob hL x hx ci hci si hsi => l1Inner d ih (by omega) (w.alloc ob) s hs (p + 1) r hr2 (by omega) x hx L ci hci hL sg si hsi dp (by omega)
  rw [rdA_inR]
  obtain ⟨res, hres⟩ : ∃ res, inR (rdD false d) L sg r = res := ⟨_, rfl⟩
  rw [hres] at hI ⊢
  have HI := Lib.hid hI
  clear hr ih hdp hsz hr2 hI hres
  rcases hc with ⟨rfl, rfl, rfl, rfl⟩ | ⟨rfl, rfl, rfl, rfl⟩
  all_goals
    have hb : (s[p].toNat : Int) = _ := congrArg (fun b : UInt8 => (b.toNat : Int)) hcc
    simp at hb
    clear hcc
    go_enter Try.func70, Try.ntmps70
    go_wp2_with fail
    refine (HI.out _ (by omega) _ (by omega) _ (by rfl) _ (by rfl)).mono fun e2 w2 hq => ?_
    cases res with
    | none =>
      obtain ⟨a, l, cc, rfl, hb2⟩ := InOut.of_none hq
      have hcell : ∀ o, w2.cell? ⟨w.heap.size, o, none⟩ = _ := fun o => hb2.cell (p := ⟨w.heap.size, o, none⟩) (by simp)
      have hfz : ∀ o, w2.frozen? ⟨w.heap.size, o, none⟩ = _ := fun o => hb2.frozen (p := ⟨w.heap.size, o, none⟩) (by simp)
      have hz : w.heap.size < w2.heap.size := by have := hb2.size; simp at this; omega
      have H2 := Lib.hid hb2
      clear hq hb2
      go_wp2_with fail
      refine bodyPost_ret (v := .tuple #[.agg #[.int .i64 _, .int .i64 0, .string ⟨#[]⟩, .slice a l cc], .int .i64 (-1)]) (by simp [results, Try.results70, go_sem, hcell, hz]; rfl) rfl ?_
      refine sp_none H2.out ?_
      repeat (first | exact Touch.refl _ _ _ | refine Touch.setCell ?_ (by simp) (by simp) _)
    | some q =>
      obtain ⟨f, l'⟩ := q
      obtain ⟨a, cap, fs, rfl, hc2, hs2, hf2, hb2⟩ := InOut.of_some hq
      have hcell : ∀ o, w2.cell? ⟨w.heap.size, o, none⟩ = _ := fun o => hb2.cell (p := ⟨w.heap.size, o, none⟩) (by simp)
      have hfz : ∀ o, w2.frozen? ⟨w.heap.size, o, none⟩ = _ := fun o => hb2.frozen (p := ⟨w.heap.size, o, none⟩) (by simp)
      have hz : w.heap.size < w2.heap.size := by have := hb2.size; simp at this; omega
      obtain ⟨z, hzz⟩ : ∃ z : Nat, s.size - l'.length = z := ⟨_, rfl⟩
      have H2 := Lib.hid (And.intro hb2 (And.intro hc2 (And.intro hs2 (And.intro hf2 hzz))))
      rw [hzz]
      clear hq hb2 hc2 hs2 hf2 hzz
      go_wp2_with fail
      refine bodyPost_ret (v := .tuple #[.agg #[.int .i64 _, .int .i64 0, .string ⟨#[]⟩, .slice a f.len cap], .int .i64 (z : Int)]) (by simp [results, Try.results70, go_sem, hcell, hz]; rfl) rfl ?_
      obtain ⟨hb2, hc2, hs2, hf2, hzz⟩ := H2.out
      rw [← hzz]
      refine sp_some hb2 hc2 hs2 hf2 ?_
      repeat (first | exact Touch.refl _ _ _ | refine Touch.setCell ?_ (by simp) (by simp) _)

set_option maxRecDepth 100000 in
set_option maxHeartbeats 6400000 in
theorem read_digit (h1 : 48 ≤ c.toNat) (h2 : c.toNat ≤ 57) :
    Calls Try.prog 70 #[.string s, .int .i64 (p : Int), .int .i64 dp] w (SpOut w s.size (rdN (rdD false d) c r)) := by
  obtain ⟨hlt, hcc, hr2, hsz⟩ := at_cons hr
  have hge : decide ((s.size : Int) ≤ (p : Int)) = false := by simp; omega
  have hd0 : (dp == 0) = false := by rw [beq_eq_false_iff_ne]; omega
  obtain ⟨k, hk⟩ : ∃ k : Nat, c.toNat = k := ⟨_, rfl⟩
  have hkb : (s[p].toNat : Int) = (k : Int) := by rw [hcc, hk]
  rw [hk] at h1 h2
  have b1 : ((s[p].toNat : Int) == 126) = false := by rw [hkb, beq_eq_false_iff_ne]; omega
  have b2 : ((s[p].toNat : Int) == 95) = false := by rw [hkb, beq_eq_false_iff_ne]; omega
  have b3 : ((s[p].toNat : Int) == 46) = false := by rw [hkb, beq_eq_false_iff_ne]; omega
  have b4 : ((s[p].toNat : Int) == 33) = false := by rw [hkb, beq_eq_false_iff_ne]; omega
  have b5 : ((s[p].toNat : Int) == 34) = false := by rw [hkb, beq_eq_false_iff_ne]; omega
  have b6 : ((s[p].toNat : Int) == 40) = false := by rw [hkb, beq_eq_false_iff_ne]; omega
  have b7 : ((s[p].toNat : Int) == 91) = false := by rw [hkb, beq_eq_false_iff_ne]; omega
  have c1 : decide (48 ≤ (s[p].toNat : Int)) = true := by rw [hkb]; simp; omega
  have c2 : decide ((s[p].toNat : Int) ≤ 57) = true := by rw [hkb]; simp; omega
  have c3 : (48 : Int) ≤ (s[p].toNat : Int) := by rw [hkb]; omega
  have c4 : (s[p].toNat : Int) ≤ 57 := by rw [hkb]; omega
  cases r with
  | nil =>
    have hend : decide ((p : Int) + 1 < (s.size : Int)) = false := by simp at hsz ⊢; omega
    have hres : rdN (rdD false d) c [] = none := rfl
    rw [hres]
    clear hr ih hdp hcc hr2 hkb hk h1 h2 hres hsz
    go_enter Try.func70, Try.ntmps70
    go_wp2_with fail
    refine bodyPost_ret (v := .tuple #[.agg #[.int .i64 0, .int .i64 0, .string ⟨#[]⟩, .slice none 0 0], .int .i64 (-1)]) (by simp [results, Try.results70, go_sem]) rfl ?_
    exact ⟨(Below.refl _ _).alloc (Nat.le_refl _) _, _, ⟨0, 0, ⟨#[]⟩, none, 0, 0, rfl⟩, rfl⟩
  | cons b r2 =>
    obtain ⟨hlt2, hcc2, hr3, hsz2⟩ := at_cons hr2
    have hlt3 : decide ((p : Int) + 1 < (s.size : Int)) = true := by simp; omega
    by_cases hb : b = 60
    · subst hb
      have hbb : ((s[p + 1].toNat : Int) == 60) = true := by rw [hcc2]; rfl
      have hI := fun ob x hx ci hci si hsi => l1Inner d ih (by omega) (w.alloc ob) s hs (p + 2) r2 hr3 (by omega) x hx 1 ci hci (by omega) 62 si hsi dp (by omega)
      have hres1 : rdN (rdD false d) c (60 :: r2) = rdA (rdD false d) 6 ((c.toNat : Int) - 48) 1 62 r2 := by simp [rdN]
      rw [hres1, rdA_inR]
      obtain ⟨num, hnum⟩ : ∃ num : Int, (s[p].toNat : Int) - 48 = num := ⟨_, rfl⟩
      have hnum2 : (c.toNat : Int) - 48 = num := by rw [← hnum, hcc]
      rw [hnum2]
      obtain ⟨res, hres⟩ : ∃ res, inR (rdD false d) 1 62 r2 = res := ⟨_, rfl⟩
      rw [hres] at hI ⊢
      have HI := Lib.hid hI
      have HNUM := Lib.hid hnum
      clear hr ih hdp hcc hr2 hkb hk h1 h2 hres hres1 hI hnum hnum2 hcc2 hr3 hsz hsz2
      go_enter Try.func70, Try.ntmps70
      go_wp2_with fail
      refine (HI.out _ _ (by omega) _ (by rfl) _ (by rfl)).mono fun e2 w2 hq => ?_
      cases res with
      | none =>
        obtain ⟨a, l, cc, rfl, hb2⟩ := InOut.of_none hq
        have hcell : ∀ o, w2.cell? ⟨w.heap.size, o, none⟩ = _ := fun o => hb2.cell (p := ⟨w.heap.size, o, none⟩) (by simp)
        have hfz : ∀ o, w2.frozen? ⟨w.heap.size, o, none⟩ = _ := fun o => hb2.frozen (p := ⟨w.heap.size, o, none⟩) (by simp)
        have hz : w.heap.size < w2.heap.size := by have := hb2.size; simp at this; omega
        have H2 := Lib.hid hb2
        clear hq hb2
        go_wp2_with fail
        refine bodyPost_ret (v := .tuple #[.agg #[.int .i64 6, .int .i64 ((s[p].toNat : Int) - 48), .string ⟨#[]⟩, .slice a l cc], .int .i64 (-1)]) (by simp [results, Try.results70, go_sem, hcell, hz]) rfl ?_
        refine sp_none H2.out ?_
        repeat (first | exact Touch.refl _ _ _ | refine Touch.setCell ?_ (by simp) (by simp) _)
      | some q =>
        obtain ⟨f, l'⟩ := q
        obtain ⟨a, cap, fs, rfl, hc2, hs2, hf2, hb2⟩ := InOut.of_some hq
        have hcell : ∀ o, w2.cell? ⟨w.heap.size, o, none⟩ = _ := fun o => hb2.cell (p := ⟨w.heap.size, o, none⟩) (by simp)
        have hfz : ∀ o, w2.frozen? ⟨w.heap.size, o, none⟩ = _ := fun o => hb2.frozen (p := ⟨w.heap.size, o, none⟩) (by simp)
        have hz : w.heap.size < w2.heap.size := by have := hb2.size; simp at this; omega
        obtain ⟨z, hzz⟩ : ∃ z : Nat, s.size - l'.length = z := ⟨_, rfl⟩
        have H2 := Lib.hid (And.intro hb2 (And.intro hc2 (And.intro hs2 (And.intro hf2 hzz))))
        rw [hzz]
        clear hq hb2 hc2 hs2 hf2 hzz
        go_wp2_with fail
        refine bodyPost_ret (v := .tuple #[.agg #[.int .i64 6, .int .i64 ((s[p].toNat : Int) - 48), .string ⟨#[]⟩, .slice a f.len cap], .int .i64 (z : Int)]) (by simp [results, Try.results70, go_sem, hcell, hz]) rfl ?_
        obtain ⟨hb2, hc2, hs2, hf2, hzz⟩ := H2.out
        rw [← hzz, HNUM.out]
        refine sp_some hb2 hc2 hs2 hf2 ?_
        rw [← HNUM.out]
        repeat (first | exact Touch.refl _ _ _ | refine Touch.setCell ?_ (by simp) (by simp) _)
    · have hbb : ((s[p + 1].toNat : Int) == 60) = false := by
        rw [hcc2, beq_eq_false_iff_ne]; intro e; exact hb (UInt8.toNat_inj.1 (by simpa using (by omega : b.toNat = 60)))
      have hres : rdN (rdD false d) c (b :: r2) = none := by simp [rdN, hb]
      rw [hres]
      clear hr ih hdp hcc hr2 hkb hk h1 h2 hres hcc2 hr3 hsz hsz2 hb
      go_enter Try.func70, Try.ntmps70
      go_wp2_with fail
      refine bodyPost_ret (v := .tuple #[.agg #[.int .i64 0, .int .i64 0, .string ⟨#[]⟩, .slice none 0 0], .int .i64 (-1)]) (by simp [results, Try.results70, go_sem]) rfl ?_
      exact ⟨(Below.refl _ _).alloc (Nat.le_refl _) _, _, ⟨0, 0, ⟨#[]⟩, none, 0, 0, rfl⟩, rfl⟩

set_option maxRecDepth 100000 in
set_option maxHeartbeats 3200000 in
theorem read_other (h1 : c ≠ 126) (h2 : c ≠ 34) (h3 : c ≠ 95) (h4 : c ≠ 46) (h5 : c ≠ 33) (h6 : c ≠ 40) (h7 : c ≠ 91) (hdg : ¬ (48 ≤ c.toNat ∧ c.toNat ≤ 57)) :
    Calls Try.prog 70 #[.string s, .int .i64 (p : Int), .int .i64 dp] w (SpOut w s.size none) := by
  obtain ⟨hlt, hcc, hr2, hsz⟩ := at_cons hr
  have hge : decide ((s.size : Int) ≤ (p : Int)) = false := by simp; omega
  have hd0 : (dp == 0) = false := by rw [beq_eq_false_iff_ne]; omega
  have ne : ∀ k : Nat, k < 256 → c ≠ UInt8.ofNat k → ((s[p].toNat : Int) == (k : Int)) = false := fun k hk hc => by
    rw [hcc, beq_eq_false_iff_ne]
    intro e
    exact hc (UInt8.toNat_inj.1 (by rw [UInt8.toNat_ofNat', Nat.mod_eq_of_lt (by simpa using hk)]; omega))
  have b1 : ((s[p].toNat : Int) == 126) = false := ne 126 (by omega) h1
  have b2 : ((s[p].toNat : Int) == 95) = false := ne 95 (by omega) h3
  have b3 : ((s[p].toNat : Int) == 46) = false := ne 46 (by omega) h4
  have b4 : ((s[p].toNat : Int) == 33) = false := ne 33 (by omega) h5
  have b5 : ((s[p].toNat : Int) == 34) = false := ne 34 (by omega) h2
  have b6 : ((s[p].toNat : Int) == 40) = false := ne 40 (by omega) h6
  have b7 : ((s[p].toNat : Int) == 91) = false := ne 91 (by omega) h7
  obtain ⟨k, hk⟩ : ∃ k : Nat, c.toNat = k := ⟨_, rfl⟩
  have hkb : (s[p].toNat : Int) = (k : Int) := by rw [hcc, hk]
  rw [hk] at hdg
  by_cases hlow : k < 48
  · have c1 : decide (48 ≤ (s[p].toNat : Int)) = false := by rw [hkb]; simp; omega
    clear hr ih hdp hcc hr2 hkb hk hdg ne h1 h2 h3 h4 h5 h6 h7 hsz
    go_enter Try.func70, Try.ntmps70
    go_wp2_with fail
    refine bodyPost_ret (v := .tuple #[.agg #[.int .i64 0, .int .i64 0, .string ⟨#[]⟩, .slice none 0 0], .int .i64 (-1)]) (by simp [results, Try.results70, go_sem]) rfl ?_
    exact ⟨(Below.refl _ _).alloc (Nat.le_refl _) _, _, ⟨0, 0, ⟨#[]⟩, none, 0, 0, rfl⟩, rfl⟩
  · have c1 : decide (48 ≤ (s[p].toNat : Int)) = true := by rw [hkb]; simp; omega
    have c2 : decide ((s[p].toNat : Int) ≤ 57) = false := by rw [hkb]; simp; omega
    clear hr ih hdp hcc hr2 hkb hk hdg ne h1 h2 h3 h4 h5 h6 h7 hsz
    go_enter Try.func70, Try.ntmps70
    go_wp2_with fail
    refine bodyPost_ret (v := .tuple #[.agg #[.int .i64 0, .int .i64 0, .string ⟨#[]⟩, .slice none 0 0], .int .i64 (-1)]) (by simp [results, Try.results70, go_sem]) rfl ?_
    exact ⟨(Below.refl _ _).alloc (Nat.le_refl _) _, _, ⟨0, 0, ⟨#[]⟩, none, 0, 0, rfl⟩, rfl⟩
end

/-- The contract of l1Read, at every depth. -/
theorem reS : ∀ d : Nat, ReS d
  | 0 => by
    intro w s p r dp x hs hr hp hx hdp hd
    subst hx hdp
    exact read_zero w s hs p hp
  | d + 1 => by
    have ih := reS d
    intro w s p r dp x hs hr hp hx hdp hd
    subst hx
    cases r with
    | nil => exact read_end w s hs p dp (at_nil hr)
    | cons c r =>
      rw [rdD]
      split
      · rename_i hc; subst hc; exact read_leaf w s hs p d ih hd dp hdp _ r hr _ (.inl ⟨rfl, rfl⟩)
      rename_i h1
      split
      · rename_i hc; subst hc; exact read_leaf w s hs p d ih hd dp hdp _ r hr _ (.inr (.inl ⟨rfl, rfl⟩))
      rename_i h2
      split
      · rename_i hc; subst hc; exact read_leaf w s hs p d ih hd dp hdp _ r hr _ (.inr (.inr (.inl ⟨rfl, rfl⟩)))
      rename_i h3
      split
      · rename_i hc; subst hc; exact read_leaf w s hs p d ih hd dp hdp _ r hr _ (.inr (.inr (.inr ⟨rfl, rfl⟩)))
      rename_i h4
      split
      · rename_i hc; exact read_word w s hs p d ih hd dp hdp c r hr hc
      rename_i h5
      split
      · rename_i hc; exact read_pair w s hs p d ih hd dp hdp c r hr _ _ _ (.inl ⟨hc, rfl, rfl, rfl⟩)
      rename_i h6
      split
      · rename_i hc; exact read_pair w s hs p d ih hd dp hdp c r hr _ _ _ (.inr ⟨hc, rfl, rfl, rfl⟩)
      rename_i h7
      split
      · rename_i hc
        exact read_digit w s hs p d ih hd dp hdp c r hr (by have := hc.1; simpa [UInt8.le_iff_toNat_le] using this) (by have := hc.2; simpa [UInt8.le_iff_toNat_le] using this)
      · rename_i hc
        exact read_other w s hs p d ih hd dp hdp c r hr h1 h5 h2 h3 h4 h6 h7 (fun hh => hc ⟨by simpa [UInt8.le_iff_toNat_le] using hh.1, by simpa [UInt8.le_iff_toNat_le] using hh.2⟩)

end Go.Proofs.Ytjpgnhpfmdjamaa.SpR3

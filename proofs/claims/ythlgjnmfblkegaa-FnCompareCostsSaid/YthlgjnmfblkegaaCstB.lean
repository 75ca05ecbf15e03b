import Derived.Test.YthlgjnmfblkegaaCst
/-
  What CostOf of the program and of the model comes to.
-/
set_option linter.unusedVariables false
set_option linter.unusedSimpArgs false
namespace Go.Proofs.Ythlgjnmfblkegaa.Cst
open Go.RowKit P1 TextV LayV LayW

set_option maxRecDepth 100000 in
set_option maxHeartbeats 1600000 in
theorem l5Cost (l : List (Int × ByteArray)) (x : Int) (w : World) (a : Option Addr) (cap : Nat) (fs : List Nat) (hs : LaySub w a l fs) (hc : l.length ≤ cap) (hlv : lv l = true) (hx0 : 0 ≤ x) (hx1 : x ≤ 9223372036854775807) :
    Calls Try.prog 46 #[.slice a l.length cap, .int .i64 x] w fun e w' => e = .returned (.agg #[.int .i64 (ov x l), .int .i64 (l.length : Int)]) ∧ Below w.heap.size w w' := by
  have H := Lib.hid (fun (W : World) (hW : Ext w W) => l2Over l x W a cap fs (hs.below hs.lt hW) hc hlv hx0 hx1)
  have H0 := Lib.hid (show ∀ o1, Ext w (w.alloc o1) from fun o1 => (Ext.refl w).alloc o1)
  have hl2 := (lv_len hlv).2
  obtain ⟨m, hm⟩ : ∃ m, l.length = m := ⟨_, rfl⟩
  obtain ⟨v, hv⟩ : ∃ v, ov x l = v := ⟨_, rfl⟩
  rw [hm] at H hc hl2 ⊢
  rw [hv] at H ⊢
  clear hm hv hs hlv
  go_enter Try.func46, Try.ntmps46
  go_wp2_with fail
  refine (H.out _ (H0.out _)).mono ?_
  rintro e1 w1 ⟨rfl, hb⟩
  have H1 := Lib.hid ((H0.out _).trans hb)
  have hc0 : w1.cell? ⟨w.heap.size, 0, none⟩ = some (.int .i64 0) := (Below.cell (p := ⟨w.heap.size, 0, none⟩) hb (by simp)).trans (by rw [World.cell?_alloc_new]; rfl)
  have hc1 : w1.cell? ⟨w.heap.size, 1, none⟩ = some (.int .i64 0) := (Below.cell (p := ⟨w.heap.size, 1, none⟩) hb (by simp)).trans (by rw [World.cell?_alloc_new]; rfl)
  have hz0 : w1.frozen? ⟨w.heap.size, 0, none⟩ = false := (Below.frozen (p := ⟨w.heap.size, 0, none⟩) hb (by simp)).trans (World.frozen?_alloc_new _ _ _ _)
  have hz1 : w1.frozen? ⟨w.heap.size, 1, none⟩ = false := (Below.frozen (p := ⟨w.heap.size, 1, none⟩) hb (by simp)).trans (World.frozen?_alloc_new _ _ _ _)
  go_wp2_with fail
  obtain ⟨r0, r1, rl⟩ := pair_set (u := .int .i64 v) (u' := .int .i64 (m : Int)) hc0 hc1 (Nat.lt_of_lt_of_le (by simp) hb.size : w.heap.size < w1.heap.size)
  refine bodyPost_ret (v := .agg #[.int .i64 v, .int .i64 (m : Int)]) (by simp [results, Try.results46, go_sem, r0, r1, rl]) rfl ?_
  exact ⟨rfl, (H1.out.setNew (Nat.le_refl _) _).setNew (Nat.le_refl _) _⟩

theorem wv_bd {x : Int} (h : wv x = true) : 0 ≤ x ∧ x ≤ 200 := by simpa [wv] using h
/-- the cost of a layout: what is beyond, the lines, and whether there is one -/
def coR (l : List (Int × ByteArray)) (x : Int) : Int × Int × Bool := if wv x = true ∧ lv l = true then (ov x l, (l.length : Int), true) else (0, 0, false)
theorem cell0 {w w' : World} {o : Obj} {T : TypeId} (h : Below (w.alloc (.cells #[.int .i64 0, .int .i64 0] T)).heap.size (w.alloc (.cells #[.int .i64 0, .int .i64 0] T)) w') :
    w'.cell? ⟨w.heap.size, 0, none⟩ = some (.int .i64 0) ∧ w'.cell? ⟨w.heap.size, 1, none⟩ = some (.int .i64 0) ∧ w'.frozen? ⟨w.heap.size, 0, none⟩ = false ∧ w'.frozen? ⟨w.heap.size, 1, none⟩ = false ∧ w.heap.size < w'.heap.size :=
  ⟨(Below.cell (p := ⟨w.heap.size, 0, none⟩) h (by simp)).trans (by rw [World.cell?_alloc_new]; rfl), (Below.cell (p := ⟨w.heap.size, 1, none⟩) h (by simp)).trans (by rw [World.cell?_alloc_new]; rfl),
   (Below.frozen (p := ⟨w.heap.size, 0, none⟩) h (by simp)).trans (World.frozen?_alloc_new _ _ _ _), (Below.frozen (p := ⟨w.heap.size, 1, none⟩) h (by simp)).trans (World.frozen?_alloc_new _ _ _ _), Nat.lt_of_lt_of_le (by simp) h.size⟩

set_option maxRecDepth 100000 in
set_option maxHeartbeats 1600000 in
theorem implCostOf (l : List (Int × ByteArray)) (x : Int) (w : World) (a : Option Addr) (cap : Nat) (fs : List Nat) (hs : LaySub w a l fs) (hc : l.length ≤ cap) (hl : l.length ≤ maxLen) (hft : L.Fits l) :
    Calls Try.prog 22 #[.slice a l.length cap, .int .i64 x] w fun e w' => e = .returned (.tuple #[.agg #[.int .i64 (coR l x).1, .int .i64 (coR l x).2.1], .bool (coR l x).2.2]) ∧ Below w.heap.size w w' := by
  have hv := fun (W : World) (hW : Ext w W) => implLayoutValid l W a cap fs (hs.below hs.lt hW) hc hl hft
  have ho := fun (W : World) (hW : Ext w W) (h1 : lv l = true) (h2 : wv x = true) => rowsCost l x W a cap fs (hs.below hs.lt hW) hc h1 (wv_bd h2).1 (by have := (wv_bd h2).2; omega)
  have H0 := Lib.hid (show ∀ o1, Ext w (w.alloc o1) from fun o1 => (Ext.refl w).alloc o1)
  obtain ⟨m, hm⟩ : ∃ m, l.length = m := ⟨_, rfl⟩
  have HCO := Lib.hid (show coR l x = if wv x = true ∧ lv l = true then (ov x l, (l.length : Int), true) else (0, 0, false) from rfl)
  rw [hm] at hv ho HCO hc ⊢
  obtain ⟨v, hvv⟩ : ∃ v, ov x l = v := ⟨_, rfl⟩
  rw [hvv] at ho HCO
  have hl2 : lv l = true → m ≤ 200 := fun h => by have := (lv_len h).2; omega
  clear hm hvv hs hft hl
  cases hw : wv x with
  | false =>
    have HW := Lib.hid (widthValid x)
    have HF := Lib.hid (show coR l x = (0, 0, false) by rw [HCO.out, if_neg (by simp [hw])])
    rw [hw] at HW
    clear hv ho hl2 HCO hw
    go_enter Try.func22, Try.ntmps22
    go_wp2_with fail
    refine (HW.out _).mono ?_
    rintro e1 w1 ⟨rfl, rfl⟩
    obtain ⟨c0, c1, z0, z1, cl⟩ := cell0 (o := .cells #[] 0) (Below.refl (w.alloc (.cells #[.int .i64 0, .int .i64 0] 34)).heap.size _)
    go_wp2_with fail
    refine bodyPost_ret (v := .tuple #[.agg #[.int .i64 0, .int .i64 0], .bool false]) (by simp [results, Try.results22, go_sem, c0, c1, cl]) rfl ?_
    exact ⟨by rw [HF.out], H0.out _⟩
  | true =>
    have HW := Lib.hid (widthValid x)
    rw [hw] at HW
    cases hlv : lv l with
    | false =>
      have HF := Lib.hid (show coR l x = (0, 0, false) by rw [HCO.out, if_neg (by simp [hlv])])
      rw [hlv] at hv
      have HV := Lib.hid hv
      clear hv ho hl2 HCO hw hlv
      go_enter Try.func22, Try.ntmps22
      go_wp2_with fail
      refine (HW.out _).mono ?_
      rintro e1 w1 ⟨rfl, rfl⟩
      go_wp2_with fail
      refine (HV.out _ (H0.out _)).mono ?_
      rintro e1 w1 ⟨rfl, hb⟩
      obtain ⟨c0, c1, z0, z1, cl⟩ := cell0 (o := .cells #[] 0) hb
      have H1 := Lib.hid ((H0.out _).trans hb)
      go_wp2_with fail
      obtain ⟨r0, r1, rl⟩ := pair_set (u := .int .i64 0) (u' := .int .i64 0) c0 c1 cl
      refine bodyPost_ret (v := .tuple #[.agg #[.int .i64 0, .int .i64 0], .bool false]) (by simp [results, Try.results22, go_sem, r0, r1, rl]) rfl ?_
      exact ⟨by rw [HF.out], (H1.out.setNew (Nat.le_refl _) _).setNew (Nat.le_refl _) _⟩
    | true =>
      have HF := Lib.hid (show coR l x = (v, (m : Int), true) by rw [HCO.out, if_pos ⟨hw, hlv⟩])
      rw [hlv] at hv
      have HV := Lib.hid hv
      have HO := Lib.hid (fun W hW => ho W hW hlv hw)
      have hm2 := hl2 hlv
      clear hv ho hl2 HCO hw hlv
      go_enter Try.func22, Try.ntmps22
      go_wp2_with fail
      refine (HW.out _).mono ?_
      rintro e1 w1 ⟨rfl, rfl⟩
      go_wp2_with fail
      refine (HV.out _ (H0.out _)).mono ?_
      rintro e1 w1 ⟨rfl, hb⟩
      have H1 := Lib.hid ((H0.out _).trans hb)
      go_wp2_with fail
      refine (HO.out _ H1.out).mono ?_
      rintro e1 w2 ⟨rfl, hb2⟩
      obtain ⟨c0, c1, z0, z1, cl⟩ := cell0 (o := .cells #[] 0) (hb.trans (hb2.mono hb.size))
      have H2 := Lib.hid (H1.out.trans hb2)
      go_wp2_with fail
      obtain ⟨r0, r1, rl⟩ := pair_set (u := .int .i64 v) (u' := .int .i64 (m : Int)) c0 c1 cl
      refine bodyPost_ret (v := .tuple #[.agg #[.int .i64 v, .int .i64 (m : Int)], .bool true]) (by simp [results, Try.results22, go_sem, r0, r1, rl]) rfl ?_
      exact ⟨by rw [HF.out], (H2.out.setNew (Nat.le_refl _) _).setNew (Nat.le_refl _) _⟩

set_option maxRecDepth 100000 in
set_option maxHeartbeats 1600000 in
theorem specCostOf (l : List (Int × ByteArray)) (x : Int) (w : World) (a : Option Addr) (cap : Nat) (fs : List Nat) (hs : LaySub w a l fs) (hc : l.length ≤ cap) (hl : l.length ≤ maxLen) (hft : L.Fits l) :
    Calls Try.prog 23 #[.slice a l.length cap, .int .i64 x] w fun e w' => e = .returned (.tuple #[.agg #[.int .i64 (coR l x).1, .int .i64 (coR l x).2.1], .bool (coR l x).2.2]) ∧ Below w.heap.size w w' := by
  have hv := fun (W : World) (hW : Ext w W) => specLayoutValid l W a cap fs (hs.below hs.lt hW) hc hl hft
  have ho := fun (W : World) (hW : Ext w W) (h1 : lv l = true) (h2 : wv x = true) => l5Cost l x W a cap fs (hs.below hs.lt hW) hc h1 (wv_bd h2).1 (by have := (wv_bd h2).2; omega)
  have H0 := Lib.hid (show ∀ o1, Ext w (w.alloc o1) from fun o1 => (Ext.refl w).alloc o1)
  obtain ⟨m, hm⟩ : ∃ m, l.length = m := ⟨_, rfl⟩
  have HCO := Lib.hid (show coR l x = if wv x = true ∧ lv l = true then (ov x l, (l.length : Int), true) else (0, 0, false) from rfl)
  rw [hm] at hv ho HCO hc ⊢
  obtain ⟨v, hvv⟩ : ∃ v, ov x l = v := ⟨_, rfl⟩
  rw [hvv] at ho HCO
  have hl2 : lv l = true → m ≤ 200 := fun h => by have := (lv_len h).2; omega
  clear hm hvv hs hft hl
  cases hlv : lv l with
  | false =>
    have HF := Lib.hid (show coR l x = (0, 0, false) by rw [HCO.out, if_neg (by simp [hlv])])
    rw [hlv] at hv
    have HV := Lib.hid hv
    clear hv ho hl2 HCO hlv
    go_enter Try.func23, Try.ntmps23
    go_wp2_with fail
    refine (HV.out _ (H0.out _)).mono ?_
    rintro e1 w1 ⟨rfl, hb⟩
    obtain ⟨c0, c1, z0, z1, cl⟩ := cell0 (o := .cells #[] 0) hb
    have H1 := Lib.hid ((H0.out _).trans hb)
    go_wp2_with fail
    obtain ⟨r0, r1, rl⟩ := pair_set (u := .int .i64 0) (u' := .int .i64 0) c0 c1 cl
    refine bodyPost_ret (v := .tuple #[.agg #[.int .i64 0, .int .i64 0], .bool false]) (by simp [results, Try.results23, go_sem, r0, r1, rl]) rfl ?_
    exact ⟨by rw [HF.out], (H1.out.setNew (Nat.le_refl _) _).setNew (Nat.le_refl _) _⟩
  | true =>
    rw [hlv] at hv
    have HV := Lib.hid hv
    by_cases hx0 : x < 0
    · have HF := Lib.hid (show coR l x = (0, 0, false) by rw [HCO.out, if_neg (by simp [wv]; omega)])
      clear hv ho hl2 HCO hlv
      go_enter Try.func23, Try.ntmps23
      go_wp2_with fail
      refine (HV.out _ (H0.out _)).mono ?_
      rintro e1 w1 ⟨rfl, hb⟩
      obtain ⟨c0, c1, z0, z1, cl⟩ := cell0 (o := .cells #[] 0) hb
      have H1 := Lib.hid ((H0.out _).trans hb)
      go_wp2_with fail
      obtain ⟨r0, r1, rl⟩ := pair_set (u := .int .i64 0) (u' := .int .i64 0) c0 c1 cl
      refine bodyPost_ret (v := .tuple #[.agg #[.int .i64 0, .int .i64 0], .bool false]) (by simp [results, Try.results23, go_sem, r0, r1, rl]) rfl ?_
      exact ⟨by rw [HF.out], (H1.out.setNew (Nat.le_refl _) _).setNew (Nat.le_refl _) _⟩
    · by_cases hx1 : 200 < x
      · have HF := Lib.hid (show coR l x = (0, 0, false) by rw [HCO.out, if_neg (by simp [wv]; omega)])
        clear hv ho hl2 HCO hlv
        go_enter Try.func23, Try.ntmps23
        go_wp2_with fail
        refine (HV.out _ (H0.out _)).mono ?_
        rintro e1 w1 ⟨rfl, hb⟩
        obtain ⟨c0, c1, z0, z1, cl⟩ := cell0 (o := .cells #[] 0) hb
        have H1 := Lib.hid ((H0.out _).trans hb)
        go_wp2_with fail
        obtain ⟨r0, r1, rl⟩ := pair_set (u := .int .i64 0) (u' := .int .i64 0) c0 c1 cl
        refine bodyPost_ret (v := .tuple #[.agg #[.int .i64 0, .int .i64 0], .bool false]) (by simp [results, Try.results23, go_sem, r0, r1, rl]) rfl ?_
        exact ⟨by rw [HF.out], (H1.out.setNew (Nat.le_refl _) _).setNew (Nat.le_refl _) _⟩
      · have hw : wv x = true := by simp [wv]; omega
        have HF := Lib.hid (show coR l x = (v, (m : Int), true) by rw [HCO.out, if_pos ⟨hw, hlv⟩])
        have HO := Lib.hid (fun W hW => ho W hW hlv hw)
        have hm2 := hl2 hlv
        clear hv ho hl2 HCO hw hlv
        go_enter Try.func23, Try.ntmps23
        go_wp2_with fail
        refine (HV.out _ (H0.out _)).mono ?_
        rintro e1 w1 ⟨rfl, hb⟩
        have H1 := Lib.hid ((H0.out _).trans hb)
        go_wp2_with fail
        refine (HO.out _ H1.out).mono ?_
        rintro e1 w2 ⟨rfl, hb2⟩
        obtain ⟨c0, c1, z0, z1, cl⟩ := cell0 (o := .cells #[] 0) (hb.trans (hb2.mono hb.size))
        have H2 := Lib.hid (H1.out.trans hb2)
        go_wp2_with fail
        obtain ⟨r0, r1, rl⟩ := pair_set (u := .int .i64 v) (u' := .int .i64 (m : Int)) c0 c1 cl
        refine bodyPost_ret (v := .tuple #[.agg #[.int .i64 v, .int .i64 (m : Int)], .bool true]) (by simp [results, Try.results23, go_sem, r0, r1, rl]) rfl ?_
        exact ⟨by rw [HF.out], (H2.out.setNew (Nat.le_refl _) _).setNew (Nat.le_refl _) _⟩

end Go.Proofs.Ythlgjnmfblkegaa.Cst


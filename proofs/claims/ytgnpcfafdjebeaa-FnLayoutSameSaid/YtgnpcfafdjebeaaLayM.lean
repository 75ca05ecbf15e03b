/-
  What the law's own helpers that write marks into a layout, and look for them, come to.
-/
import Derived.Test.YtgnpcfafdjebeaaLay
import Derived.Test.YtgnpcfafdjebeaaMarkT
import Derived.Deep.RegionHeld3
set_option linter.unusedVariables false
set_option linter.unusedSimpArgs false
namespace Go.Proofs.Ytgnpcfafdjebeaa.LayM
open Go.RowKit P1 MarkT

theorem ret_int {k : IntKind} {a b : Int} (h : a = b) : Ending.returned (.int k a) = .returned (.int k b) := by rw [h]

theorem markTextI (x : Int) (k : Nat) (hx : x = (k : Int)) (w : World) (h0 : 1 ≤ k) (h : k ≤ 1099511627776) :
    Calls Try.prog 91 #[.int .i64 x] w fun e w' => e = .returned (.string (mt k)) ∧ Below w.heap.size w w' := by
  subst hx; exact markText k w h0 h

theorem part_set {l X : List (Int × ByteArray)} (hX : X.length = l.length) {j : Nat} (hj : j < l.length) : (X.take j ++ l.drop j).set j (X[j]'(by omega)) = X.take (j + 1) ++ l.drop (j + 1) := by
  have hj' : j < X.length := by omega
  have e : (X.take j).length = j := by rw [List.length_take]; omega
  rw [List.set_append_right _ _ (by rw [e]; exact Nat.le_refl _), e, Nat.sub_self, List.drop_eq_getElem_cons hj, List.set_cons_zero, L.take_succ hj', List.append_assoc]
  rfl
theorem part_get {l X : List (Int × ByteArray)} (hX : X.length = l.length) {j : Nat} (hj : j < l.length) (h : j < (X.take j ++ l.drop j).length) : (X.take j ++ l.drop j)[j] = l[j] := by
  rw [List.getElem_append_right (by rw [List.length_take]; omega)]
  simp [List.length_take, Nat.min_eq_left (show j ≤ X.length by omega)]
theorem part_len {l X : List (Int × ByteArray)} (hX : X.length = l.length) {j : Nat} (hj : j ≤ l.length) : (X.take j ++ l.drop j).length = l.length := by
  rw [List.length_append, List.length_take, List.length_drop]; omega

/-- what marking a layout comes to -/
def MkOut (w : World) (a : Option Addr) (l : List (Int × ByteArray)) (fs : List Nat) (m : Nat) (e : Ending) (w' : World) : Prop := e = .returned (.int .i64 ((m + 2 * l.length : Nat) : Int)) ∧ LaySub w' a (L.mk l m) fs ∧ Only fs w w'

set_option maxHeartbeats 400000 in
theorem mark_nil (w : World) (a : Option Addr) (cap m : Nat) (h1 : 1 ≤ m) (h2 : m ≤ 1099511627776) :
    Calls Try.prog 52 #[.slice a 0 cap, .int .i64 (m : Int)] w (MkOut w a [] [] m) := by
  go_enter Try.func52, Try.ntmps52
  go_wp2_with fail
  go_loopw [5, 1] (fun i k wr => i = .int .i64 0 ∧ k = .int .i64 (m : Int) ∧ wr = w) (fun _ _ _ => 0)
  case atStart => exact ⟨rfl, rfl, rfl⟩
  case round =>
    obtain ⟨rfl, rfl, rfl⟩ := hrel
    go_wp2_with fail
    go_ret
    exact ⟨ret_int (by simp), .inl ⟨rfl, rfl⟩, Only.refl _ _⟩

set_option maxRecDepth 100000 in
set_option maxHeartbeats 3200000 in
theorem mark_row (l : List (Int × ByteArray)) (w : World) (b off cap lo m : Nat) (hrow : LayAt w l b off) (hF : Fresh lo w [b]) (hcap : l.length ≤ cap) (h1 : 1 ≤ m) (h2 : m + 2 * l.length ≤ 1099511627000) (hne : l ≠ []) :
    Calls Try.prog 52 #[.slice (some ⟨b, off, none⟩) l.length cap, .int .i64 (m : Int)] w (MkOut w (some ⟨b, off, none⟩) l [b] m) := by
  obtain ⟨X, hX⟩ : ∃ X, L.mk l m = X := ⟨_, rfl⟩
  have hXl : X.length = l.length := by rw [← hX, L.length_mk]
  obtain ⟨n, hn⟩ : ∃ n, l.length = n := ⟨_, rfl⟩
  rw [hn] at hcap h2 ⊢
  have HN := Lib.hid hn
  have HX := Lib.hid (And.intro hX hXl)
  have HF := Lib.hid hF
  have HR := Lib.hid hrow
  clear hn hX hXl hF hrow
  go_enter Try.func52, Try.ntmps52
  go_wp2_with fail
  go_loopw [5, 1] (fun i k wr => ∃ j kk : Nat, Hid (kk = m + 2 * j) ∧ j ≤ n ∧ kk ≤ 1099511627000 ∧ 1 ≤ kk ∧ i = .int .i64 j ∧ k = .int .i64 kk ∧ LayAt wr (X.take j ++ l.drop j) b off ∧ Only [b] w wr) (fun i _ _ => n - (intOf i).toNat)
  case atStart => exact ⟨0, m, Lib.hid rfl, by omega, by omega, h1, rfl, rfl, by simpa using HR.out, Only.refl _ _⟩
  case round =>
    obtain ⟨j, kk, HE, hj, hkk, hk1, rfl, rfl, hrw, hO⟩ := hrel
    by_cases hjn : j < n
    · have hjl : j < l.length := by rw [HN.out]; exact hjn
      have hFr : Fresh lo wr [b] := hO.fresh HF.out
      have hkm : kk + 2 ≤ 1099511627000 := by have := HE.out; omega
      have hpl := part_len HX.out.2 (Nat.le_of_lt hjl)
      obtain ⟨⟨n0, t0⟩, hnt⟩ : ∃ r, l[j] = r := ⟨_, rfl⟩
      have hg : (X.take j ++ l.drop j)[j]'(by omega) = (n0, t0) := by rw [part_get HX.out.2 hjl, hnt]
      have c0 := (hrw j (by omega)).1
      have c1 := (hrw j (by omega)).2
      rw [hg] at c0 c1
      have z : ∀ x, wr.frozen? ⟨b, x, none⟩ = false := (hFr.2 b (by simp)).2.2
      have hbr : b < wr.heap.size := hFr.lt b (by simp)
      have z0 := z (off + j * 2)
      have g1 := hrw.setN (by omega) hg (kk : Int)
      have H := Lib.hid (And.intro hO (And.intro hFr (And.intro g1 (And.intro hpl hjl))))
      clear hO hFr hrw z hnt hg g1 hpl hjl
      go_wp2_with fail
      refine (markTextI _ (kk + 1) (by omega) _ (by omega) (by omega)).mono ?_
      rintro e1 w3 ⟨rfl, hb3⟩
      have hO1 : Only [b] wr (wr.setCell ⟨b, off + j * 2, none⟩ (.int .i64 (kk : Int))) := (Only.refl _ _).setCell (by simp) _
      have hO3 : Only [b] wr w3 := hO1.trans (Only.of_below hb3)
      have hF3 := hO3.fresh H.out.2.1
      have g3 : LayAt w3 _ b off := H.out.2.2.1.below (by simp; omega) hb3
      have c3 := (g3 j (by rw [List.length_set, H.out.2.2.2.1]; exact H.out.2.2.2.2)).2
      rw [List.getElem_set_self] at c3
      have z2 := (hF3.2 b (by simp)).2.2 (off + j * 2 + 1)
      have l3 : b < w3.heap.size := hF3.lt b (by simp)
      have g4 := g3.setT (k := j) (n := (kk : Int)) (t := t0) (by rw [List.length_set, H.out.2.2.2.1]; exact H.out.2.2.2.2) (by rw [List.getElem_set_self]) (mt (kk + 1))
      have hO4 : Only [b] w3 (w3.setCell ⟨b, off + j * 2 + 1, none⟩ (.string (mt (kk + 1)))) := (Only.refl _ _).setCell (by simp) _
      have H4 := Lib.hid (And.intro g4 (hO3.trans hO4))
      clear g3 hO3 hF3 g4 hb3 c0 c1 z0 hO1 hO4
      go_wp2_with fail
      go_roundw
      case rel =>
        refine ⟨j + 1, kk + 2, Lib.hid (by have := HE.out; omega), by omega, by omega, by omega, by go_num, by go_num, ?_, H.out.1.trans H4.out.2⟩
        have h5 := H4.out.1
        rw [List.set_set] at h5
        have hjX : j < X.length := by rw [HX.out.2]; exact H.out.2.2.2.2
        have hXj : X[j] = ((kk : Int), mt (kk + 1)) := by
          have := L.mk_get l m j (by rw [L.length_mk]; exact H.out.2.2.2.2)
          have e := HX.out.1
          subst e
          rw [this, ← HE.out]
        rw [← hXj, part_set HX.out.2 H.out.2.2.2.2] at h5
        exact h5
      case measure => simp [intOf]; omega
    · have H := Lib.hid (And.intro hrw hO)
      clear hrw hO
      go_wp2_with fail
      go_ret
      obtain ⟨hrw, hO⟩ := H.out
      have hn := HN.out
      obtain rfl : j = n := by omega
      rw [List.take_of_length_le (by rw [HX.out.2]; omega), List.drop_eq_nil_of_le (by omega), List.append_nil, ← HX.out.1] at hrw
      exact ⟨ret_int (by rw [HE.out, hn]), .inr ⟨b, off, rfl, fun e => hne ((L.mk_nil_iff _ _).1 e), rfl, hrw⟩, hO⟩

/-- What markRowS comes to. -/
theorem markRowS (l : List (Int × ByteArray)) (m z : Nat) (x : Int) (hx : x = (m : Int)) (hz : m + 2 * l.length = z) (h1 : 1 ≤ m) (h2 : z ≤ 1099511627000) (w : World) (a : Option Addr) (cap : Nat) (fs : List Nat) (lo : Nat) (hs : LaySub w a l fs) (hF : Fresh lo w fs) (hc : l.length ≤ cap) :
    Calls Try.prog 52 #[.slice a l.length cap, .int .i64 x] w fun e w' => e = .returned (.int .i64 (z : Int)) ∧ LaySub w' a (L.mk l m) fs ∧ Only fs w w' := by
  subst hx hz
  rcases hs with ⟨rfl, rfl⟩ | ⟨b, off, rfl, hn, rfl, hr⟩
  · exact mark_nil w a cap m h1 (by omega)
  · exact mark_row l w b off cap lo m hr hF hc h1 h2 hn

set_option maxRecDepth 100000 in
set_option maxHeartbeats 3200000 in
/-- What heldRowS comes to, at a layout that bears marks. -/
theorem heldRowS (l : List (Int × ByteArray)) (m z n : Nat) (x : Int) (hx : x = (m : Int)) (hz : m + 2 * l.length = z) (hn : l.length = n) (h1 : 1 ≤ m) (h2 : z ≤ 1099511627000) (w : World) (a : Option Addr) (cap : Nat) (fs : List Nat) (hs : LaySub w a (L.mk l m) fs) (hc : n ≤ cap) :
    Calls Try.prog 53 #[.slice a n cap, .int .i64 x] w fun e w' => e = .returned (.int .i64 (z : Int)) ∧ Below w.heap.size w w' := by
  subst hx
  have hlen : (L.mk l m).length = n := by rw [L.length_mk, hn]
  have HR := Lib.hid (show ∀ k, k < n → ∃ b off, a = some ⟨b, off, none⟩ ∧ b < w.heap.size ∧ LayAt w (L.mk l m) b off from fun k h => by
    rcases hs with ⟨h0, _⟩ | ⟨b, off, ha, hn, _, hr⟩
    · rw [h0] at hlen; simp at hlen; omega
    · exact ⟨b, off, ha, hr.lt hn, hr⟩)
  rw [hn] at hz
  have HL := Lib.hid hlen
  have HZ := Lib.hid hz
  have hn4 : n ≤ 1099511627000 := by omega
  clear hn hlen hs hz
  go_enter Try.func53, Try.ntmps53
  go_wp2_with fail
  go_loopw [5, 1] (fun i k wr => ∃ (j kk : Nat), Hid (kk = m + 2 * j) ∧ j ≤ n ∧ kk ≤ 1099511627000 ∧ 1 ≤ kk ∧ i = .int .i64 j ∧ k = .int .i64 kk ∧ Below w.heap.size w wr) (fun i _ _ => n - (intOf i).toNat)
  case atStart => exact ⟨0, m, Lib.hid rfl, by omega, by have := HZ.out; omega, h1, rfl, rfl, Below.refl _ _⟩
  case round =>
    obtain ⟨j, kk, HE, hj, hkk, hk1, rfl, rfl, hbw⟩ := hrel
    by_cases hjn : j < n
    · obtain ⟨b, off, rfl, hb, hrow⟩ := HR.out j hjn
      have hrow2 := hrow.below hb hbw
      have hg := L.mk_get l m j (by rw [HL.out]; exact hjn)
      obtain ⟨c0, c1⟩ := hrow2 j (by rw [HL.out]; exact hjn)
      rw [hg, ← HE.out] at c0 c1
      have hkm : kk + 2 ≤ 1099511627000 := by have := HE.out; have := HZ.out; omega
      have hbr : b < wr.heap.size := Nat.lt_of_lt_of_le hb hbw.size
      have hbn : ((kk : Int) != (kk : Int)) = false := by simp
      have i0 : (0 : Int) ≤ (j : Int) := Int.natCast_nonneg _
      have i1 : (j : Int) < (n : Int) := by omega
      clear hrow hrow2 hg
      go_wp2_with fail
      go_region_held3 (fun w' => w'.cell? ⟨b, off + j * 2 + 1, none⟩ = some (.string (mt (kk + 1))))
        (first | go_keep | assumption | (rw [hb3.cell (p := ⟨_, _, _⟩) (by simp; omega)]; assumption))
        (first | (go_at_call 91; refine (markTextI _ (kk + 1) (by omega) _ (by omega) (by omega)).mono ?_; rintro e1 w3 ⟨rfl, hb3⟩))
      have hb3' : Below wr.heap.size wr w3 := by first | exact hb3 | exact (Below.refl _ wr).drew.trans hb3
      have H3 := Lib.hid hb3'
      clear hb3 hb3' c0 c1
      go_wp2_with fail
      go_roundw
      case rel => exact ⟨j + 1, kk + 2, Lib.hid (by have := HE.out; omega), by omega, by omega, by omega, by go_num, by go_num, hbw.trans (H3.out.mono hbw.size)⟩
      case measure => simp [intOf]; omega
    · obtain rfl : j = n := by omega
      go_wp2_with fail
      go_ret
      exact ⟨ret_int (by rw [HE.out, HZ.out]), hbw⟩

end Go.Proofs.Ytgnpcfafdjebeaa.LayM

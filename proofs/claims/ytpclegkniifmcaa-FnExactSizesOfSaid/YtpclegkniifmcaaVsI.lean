import Derived.Test.YtpclegkniifmcaaVsA
import Derived.BigQuiet
import Derived.Deep.QuietTactic
/-
  The laws' helpers over a []int: eqIntS, markIntS, heldIntS.
-/
set_option linter.unusedVariables false
set_option linter.unusedSimpArgs false
namespace Go.Proofs.Ytpclegkniifmcaa.VsI
open Go.RowKit Vs

theorem ret_int {k : IntKind} {a b : Int} (h : a = b) : Ending.returned (.int k a) = .returned (.int k b) := by rw [h]
/-- what a []int is marked with -/
def mk : List Int → Nat → List Int
  | [], _ => []
  | _ :: l, m => (m : Int) :: mk l (m + 1)
theorem mk_len (l : List Int) : ∀ m, (mk l m).length = l.length := by
  induction l with
  | nil => intro m; rfl
  | cons v l ih => intro m; simp [mk, ih]
theorem mk_get (l : List Int) : ∀ (m k : Nat) (h : k < (mk l m).length), (mk l m)[k] = ((m + k : Nat) : Int) := by
  induction l with
  | nil => intro m k h; simp [mk] at h
  | cons v l ih =>
    intro m k h
    cases k with
    | zero => simp [mk]
    | succ k =>
      simp only [mk, List.getElem_cons_succ]
      rw [ih (m + 1) k]
      rw [show m + 1 + k = m + (k + 1) by omega]
abbrev ISub (w : World) (a : Option Addr) (l : List Int) (fs : List Nat) : Prop := VSub w a (l.map (Value.int .i64)) fs
/-- numbers in new memory, and whether there are any -/
def IRes (w : World) : List Int × Bool → Ending → World → Prop
  | (l, ok), e, w' => ∃ (a : Option Addr) (cap : Nat) (fs : List Nat), e = .returned (.tuple #[.slice a l.length cap, .bool ok]) ∧ l.length ≤ cap ∧ ISub w' a l fs ∧ Fresh w.heap.size w' fs ∧ Below w.heap.size w w'
theorem IRes.out {w w' : World} {l : List Int} {ok : Bool} {e : Ending} (h : IRes w (l, ok) e w') : ∃ (a : Option Addr) (cap : Nat) (fs : List Nat), e = .returned (.tuple #[.slice a l.length cap, .bool ok]) ∧ l.length ≤ cap ∧ ISub w' a l fs ∧ Fresh w.heap.size w' fs ∧ Below w.heap.size w w' := h
theorem IRes.none' {w w' : World} {a : Option Addr} {cap : Nat} (hb : Below w.heap.size w w') : IRes w ([], false) (.returned (.tuple #[.slice a 0 cap, .bool false])) w' := ⟨a, cap, [], rfl, by simp, .inl ⟨rfl, rfl⟩, Fresh.nil _ _, hb⟩
theorem below_drewN {w w' : World} (h : Below w.heap.size w w') : ∀ n, Below w.heap.size w (w'.drewN n)
  | 0 => h
  | n + 1 => (below_drewN h n).drew

set_option maxRecDepth 100000 in
set_option maxHeartbeats 1600000 in
theorem eqIntS (bs : List Int) (w : World) (a a' : Option Addr) (cap cap' : Nat) (fs fs' : List Nat) (hs : ISub w a bs fs) (hs' : ISub w a' bs fs') (hc : bs.length ≤ cap) (hc' : bs.length ≤ cap') (hl : bs.length ≤ 1048576) :
    Calls Try.prog 60 #[.slice a bs.length cap, .slice a' bs.length cap'] w fun e w' => e = .returned (.bool true) ∧ Below w.heap.size w w' := by
  have HR := Lib.hid (show ∀ k, (h : k < bs.length) → ∃ b off b' off', a = some ⟨b, off, none⟩ ∧ a' = some ⟨b', off', none⟩ ∧ w.cell? ⟨b, off + k, none⟩ = some (.int .i64 bs[k]) ∧ w.cell? ⟨b', off' + k, none⟩ = some (.int .i64 bs[k]) from fun k h => by
    rcases hs with ⟨h0, _⟩ | ⟨b, off, rfl, _, _, hr⟩
    · rw [List.map_eq_nil_iff] at h0; subst h0; exact absurd h (by simp)
    · rcases hs' with ⟨h0, _⟩ | ⟨b', off', rfl, _, _, hr'⟩
      · rw [List.map_eq_nil_iff] at h0; subst h0; exact absurd h (by simp)
      · have h1 := hr k (by simpa using h)
        have h2 := hr' k (by simpa using h)
        simp only [List.getElem_map] at h1 h2
        exact ⟨b, off, b', off', rfl, rfl, h1, h2⟩)
  obtain ⟨m, hm⟩ : ∃ m, bs.length = m := ⟨_, rfl⟩
  have HM := Lib.hid hm
  rw [hm] at hc hc' hl ⊢
  clear hm hs hs'
  go_enter Try.func60, Try.ntmps60
  go_wp2_with fail
  go_loopw [5] (fun i wr => ∃ (k : Nat), k ≤ m ∧ i = .int .i64 k ∧ ∀ b o, wr.cell? ⟨b, o, none⟩ = w.cell? ⟨b, o, none⟩ ∧ Below w.heap.size w wr) (fun i _ => m - (intOf i).toNat)
  case atStart => exact ⟨0, Nat.zero_le _, rfl, fun _ _ => ⟨rfl, Below.refl _ _⟩⟩
  case round =>
    obtain ⟨k, hk, rfl, hcl⟩ := hrel
    by_cases hkm : k < m
    · obtain ⟨b, off, b', off', rfl, rfl, h1, h2⟩ := HR.out k (by rw [HM.out]; exact hkm)
      rw [← (hcl _ _).1] at h1 h2
      have HCL := Lib.hid hcl
      obtain ⟨x, hx⟩ : ∃ x, bs[k]'(by rw [HM.out]; exact hkm) = x := ⟨_, rfl⟩
      rw [hx] at h1 h2
      have i0 : (0 : Int) ≤ (k : Int) := Int.natCast_nonneg _
      have i1 : (k : Int) < (m : Int) := by omega
      have hxx : (x != x) = false := by simp
      clear hcl hx
      go_wp2_with fail
      go_quiet (fail)
      go_wp2_with fail
      go_roundw
      case rel => exact ⟨k + 1, by omega, by go_num, fun b o => ⟨(HCL.out b o).1, below_drewN (HCL.out b o).2 _⟩⟩
      case measure => simp [intOf]; omega
    · have HCL := Lib.hid hcl
      clear hcl
      go_wp2_with fail
      go_ret
      exact ⟨rfl, (HCL.out 0 0).2⟩

/-- what markIntS comes to -/
def IOut (w : World) (a : Option Addr) (l : List Int) (fs : List Nat) (m : Nat) (e : Ending) (w' : World) : Prop := e = .returned (.int .i64 ((m + l.length : Nat) : Int)) ∧ ISub w' a (mk l m) fs ∧ Only fs w w'

set_option maxRecDepth 100000 in
set_option maxHeartbeats 1600000 in
theorem markInt_nil (w : World) (a : Option Addr) (cap m : Nat) (h1 : 1 ≤ m) (h2 : m ≤ 1099511627776) :
    Calls Try.prog 61 #[.slice a 0 cap, .int .i64 (m : Int)] w (IOut w a [] [] m) := by
  go_enter Try.func61, Try.ntmps61
  go_wp2_with fail
  go_loopw [5, 1] (fun i k wr => i = .int .i64 0 ∧ k = .int .i64 (m : Int) ∧ wr = w) (fun _ _ _ => 0)
  case atStart => exact ⟨rfl, rfl, rfl⟩
  case round =>
    obtain ⟨rfl, rfl, rfl⟩ := hrel
    go_wp2_with fail
    go_ret
    exact ⟨ret_int (by simp), .inl ⟨rfl, rfl⟩, Only.refl _ _⟩

set_option maxRecDepth 100000 in
set_option maxHeartbeats 3200000 in
theorem markInt_row (l : List Int) (w : World) (b off cap lo m : Nat) (hrow : ∀ i, (h : i < l.length) → w.cell? ⟨b, off + i, none⟩ = some (.int .i64 l[i])) (hF : Fresh lo w [b]) (hcap : l.length ≤ cap) (h1 : 1 ≤ m) (h2 : m + l.length ≤ 1099511627000) (hne : l ≠ []) :
    Calls Try.prog 61 #[.slice (some ⟨b, off, none⟩) l.length cap, .int .i64 (m : Int)] w (IOut w (some ⟨b, off, none⟩) l [b] m) := by
  obtain ⟨n, hn⟩ : ∃ n, l.length = n := ⟨_, rfl⟩
  have HR := Lib.hid hrow
  have HF := Lib.hid hF
  rw [hn] at hcap h2 ⊢
  have HN := Lib.hid hn
  clear hn hF hrow
  go_enter Try.func61, Try.ntmps61
  go_wp2_with fail
  go_loopw [5, 1] (fun i k wr => ∃ j kk : Nat, Hid (kk = m + j) ∧ j ≤ n ∧ kk ≤ 1099511627000 ∧ 1 ≤ kk ∧ i = .int .i64 j ∧ k = .int .i64 kk ∧ (∀ i, (h : i < l.length) → wr.cell? ⟨b, off + i, none⟩ = some (.int .i64 (if i < j then ((m + i : Nat) : Int) else l[i]))) ∧ Only [b] w wr) (fun i _ _ => n - (intOf i).toNat)
  case atStart => exact ⟨0, m, Lib.hid rfl, by omega, by omega, h1, rfl, rfl, fun i h => by rw [HR.out i h]; simp, Only.refl _ _⟩
  case round =>
    obtain ⟨j, kk, HE, hj, hkk, hk1, rfl, rfl, hrw, hO⟩ := hrel
    by_cases hjn : j < n
    · have hjl : j < l.length := by rw [HN.out]; exact hjn
      have hFr : Fresh lo wr [b] := hO.fresh HF.out
      have hkm : kk + 1 ≤ 1099511627000 := by have := HE.out; omega
      have z0 : wr.frozen? ⟨b, off + j, none⟩ = false := (hFr.2 b (by simp)).2.2 _
      have hbr : b < wr.heap.size := hFr.lt b (by simp)
      have c0 := hrw j hjl
      rw [if_neg (Nat.lt_irrefl j)] at c0
      obtain ⟨x, hx⟩ : ∃ x, l[j] = x := ⟨_, rfl⟩
      rw [hx] at c0
      have H := Lib.hid (And.intro hO hrw)
      have i0 : (0 : Int) ≤ (j : Int) := Int.natCast_nonneg _
      have i1 : (j : Int) < (n : Int) := by omega
      clear hO hFr hrw hx hjl
      go_wp2_with fail
      go_roundw
      case rel =>
        refine ⟨j + 1, kk + 1, Lib.hid (by have := HE.out; omega), by omega, by omega, by omega, by go_num, by go_num, ?_, H.out.1.trans ((Only.refl _ _).setCell (by simp) _)⟩
        intro i h
        obtain ⟨hh1, hh2⟩ := H.out
        by_cases hij : i = j
        · subst hij
          rw [if_pos (Nat.lt_succ_self i), ← HE.out]
          exact World.cell?_setCell_same _ _ _ c0
        · rw [show (if i < j + 1 then ((m + i : Nat) : Int) else l[i]) = (if i < j then ((m + i : Nat) : Int) else l[i]) by
            by_cases hlt : i < j
            · rw [if_pos hlt, if_pos (by omega)]
            · rw [if_neg hlt, if_neg (by omega)]]
          rw [← hh2 i h]
          exact World.cell?_setCell_other _ _ _ _ (fun e => by have e2 := congrArg Addr.off e; simp at e2; omega)
      case measure => simp [intOf]; omega
    · obtain rfl : j = n := by omega
      go_wp2_with fail
      go_ret
      refine ⟨ret_int (by rw [HE.out]; simp [HN.out]), .inr ⟨b, off, rfl, ?_, rfl, ?_⟩, hO⟩
      · intro h; rw [List.map_eq_nil_iff] at h; have := congrArg List.length h; rw [mk_len] at this; exact hne (List.length_eq_zero_iff.1 this)
      · intro i h
        have h' : i < l.length := by simpa [mk_len] using h
        rw [hrw i h', if_pos (by rw [← HN.out]; exact h'), List.getElem_map, mk_get]

theorem markIntS (l : List Int) (m z : Nat) (x : Int) (hx : x = (m : Int)) (hz : m + l.length = z) (h1 : 1 ≤ m) (h2 : z ≤ 1099511627000) (w : World) (a : Option Addr) (cap : Nat) (fs : List Nat) (lo : Nat) (hs : ISub w a l fs) (hF : Fresh lo w fs) (hc : l.length ≤ cap) :
    Calls Try.prog 61 #[.slice a l.length cap, .int .i64 x] w fun e w' => e = .returned (.int .i64 (z : Int)) ∧ ISub w' a (mk l m) fs ∧ Only fs w w' := by
  subst hx hz
  rcases hs with ⟨h0, rfl⟩ | ⟨b, off, rfl, hn, rfl, hr⟩
  · rw [List.map_eq_nil_iff] at h0; subst h0; exact markInt_nil w a cap m h1 (by simp at h2; omega)
  · exact markInt_row l w b off cap lo m (fun i h => by have := hr i (by simpa using h); rwa [List.getElem_map] at this) hF hc h1 h2 (fun h => hn (by rw [h]; rfl))

set_option maxRecDepth 100000 in
set_option maxHeartbeats 1600000 in
theorem heldIntS (l : List Int) (m z n : Nat) (x : Int) (hx : x = (m : Int)) (hz : m + l.length = z) (hn : l.length = n) (h1 : 1 ≤ m) (h2 : z ≤ 1099511627000) (w : World) (a : Option Addr) (cap : Nat) (fs : List Nat) (hs : ISub w a (mk l m) fs) (hc : n ≤ cap) :
    Calls Try.prog 62 #[.slice a n cap, .int .i64 x] w fun e w' => e = .returned (.int .i64 (z : Int)) ∧ Below w.heap.size w w' := by
  subst hx
  have HR := Lib.hid (show ∀ k, k < n → ∃ b off, a = some ⟨b, off, none⟩ ∧ w.cell? ⟨b, off + k, none⟩ = some (.int .i64 ((m + k : Nat) : Int)) from fun k h => by
    rcases hs with ⟨h0, _⟩ | ⟨b, off, ha, _, _, hr⟩
    · rw [List.map_eq_nil_iff] at h0; have := congrArg List.length h0; rw [mk_len, hn] at this; exact absurd h (by simp at this; omega)
    · have h1 := hr k (by rw [List.length_map, mk_len, hn]; exact h)
      rw [List.getElem_map, mk_get] at h1
      exact ⟨b, off, ha, h1⟩)
  rw [hn] at hz
  have HZ := Lib.hid hz
  have hn4 : n ≤ 1099511627000 := by omega
  clear hn hs hz
  go_enter Try.func62, Try.ntmps62
  go_wp2_with fail
  go_loopw [5, 1] (fun i k wr => ∃ (j kk : Nat), Hid (kk = m + j) ∧ j ≤ n ∧ kk ≤ 1099511627000 ∧ 1 ≤ kk ∧ i = .int .i64 j ∧ k = .int .i64 kk ∧ ∀ b o, wr.cell? ⟨b, o, none⟩ = w.cell? ⟨b, o, none⟩ ∧ Below w.heap.size w wr) (fun i _ _ => n - (intOf i).toNat)
  case atStart => exact ⟨0, m, Lib.hid rfl, by omega, by have := HZ.out; omega, h1, rfl, rfl, fun _ _ => ⟨rfl, Below.refl _ _⟩⟩
  case round =>
    obtain ⟨j, kk, HE, hj, hkk, hk1, rfl, rfl, hcl⟩ := hrel
    by_cases hjn : j < n
    · obtain ⟨b, off, rfl, c0⟩ := HR.out j hjn
      rw [← (hcl _ _).1, ← HE.out] at c0
      have hkm : kk + 1 ≤ 1099511627000 := by have := HE.out; have := HZ.out; omega
      have hyy : ((kk : Int) != (kk : Int)) = false := by simp
      have HCL := Lib.hid hcl
      have i0 : (0 : Int) ≤ (j : Int) := Int.natCast_nonneg _
      have i1 : (j : Int) < (n : Int) := by omega
      clear hcl
      go_wp2_with fail
      go_roundw
      case rel => exact ⟨j + 1, kk + 1, Lib.hid (by have := HE.out; omega), by omega, by omega, by omega, by go_num, by go_num, fun b o => ⟨(HCL.out b o).1, (HCL.out b o).2⟩⟩
      case measure => simp [intOf]; omega
    · obtain rfl : j = n := by omega
      have HCL := Lib.hid hcl
      clear hcl
      go_wp2_with fail
      go_ret
      exact ⟨ret_int (by rw [HE.out, HZ.out]), (HCL.out 0 0).2⟩

end Go.Proofs.Ytpclegkniifmcaa.VsI


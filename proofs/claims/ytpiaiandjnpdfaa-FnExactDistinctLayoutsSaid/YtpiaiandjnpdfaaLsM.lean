import Derived.Test.YtpiaiandjnpdfaaLsP
import Derived.Test.YtpiaiandjnpdfaaLyA
/-
  What the law's own helpers that compare, mark and look through a list of layouts come to.
-/
set_option linter.unusedVariables false
set_option linter.unusedSimpArgs false
namespace Go.Proofs.Ytpiaiandjnpdfaa.Ls
open Go.RowKit P1

/-- all lines of a list of layouts -/
def tot : List Lay → Nat
  | [] => 0
  | l :: ls => l.length + tot ls
theorem tot_app (a b : List Lay) : tot (a ++ b) = tot a + tot b := by
  induction a with
  | nil => simp [tot]
  | cons x a ih => simp only [List.cons_append, tot, ih]; omega
theorem tot_take {ls : List Lay} {k : Nat} (h : k < ls.length) : tot (ls.take (k + 1)) = tot (ls.take k) + ls[k].length := by
  rw [List.take_succ_eq_append_getElem h, tot_app]; simp [tot]
theorem tot_take_le (ls : List Lay) (k : Nat) : tot (ls.take k) ≤ tot ls := by
  have h := tot_app (ls.take k) (ls.drop k)
  rw [List.take_append_drop] at h; omega
theorem tot_le {ls : List Lay} {B : Nat} (h : ∀ l ∈ ls, l.length ≤ B) : tot ls ≤ ls.length * B := by
  induction ls with
  | nil => simp [tot]
  | cons x ls ih =>
    have h1 := h x (by simp)
    have h2 := ih (fun l hl => h l (by simp [hl]))
    simp only [tot, List.length_cons, Nat.succ_mul]; omega

/-- a list of layouts that bears marks -/
def mk : List Lay → Nat → List Lay
  | [], _ => []
  | l :: ls, m => L.mk l m :: mk ls (m + 2 * l.length)
theorem length_mk (ls : List Lay) : ∀ m, (mk ls m).length = ls.length := by
  induction ls with
  | nil => intro m; rfl
  | cons x ls ih => intro m; simp [mk, ih]
theorem mk_get (ls : List Lay) : ∀ (m k : Nat) (h : k < ls.length), (mk ls m)[k]'(by rw [length_mk]; exact h) = L.mk ls[k] (m + 2 * tot (ls.take k)) := by
  induction ls with
  | nil => intro m k h; simp at h
  | cons x ls ih =>
    intro m k h
    cases k with
    | zero => simp [mk, tot]
    | succ k =>
      have := ih (m + 2 * x.length) k (by simpa using h)
      simp only [mk, List.getElem_cons_succ, List.take_succ_cons, tot]
      rw [this]
      congr 1
      omega

/-- one layout of a list is written anew -/
theorem LLSub.put {w : World} {a : Option Addr} {p : List Lay} {l : Lay} {s : List Lay} {fs : List Nat} (h : LLSub w a (p ++ l :: s) fs) (hn : fs.Nodup) :
    ∃ (b off : Nat) (a1 : Option Addr) (c1 : Nat) (f1 : List Nat), a = some ⟨b, off, none⟩ ∧ b < w.heap.size ∧ w.cell? ⟨b, off + p.length, none⟩ = some (.slice a1 l.length c1) ∧ l.length ≤ c1 ∧ LaySub w a1 l f1 ∧ f1.Nodup ∧ (∀ c ∈ f1, c ∈ fs) ∧
      ∀ (w' : World) (l' : Lay), l'.length = l.length → Only f1 w w' → LaySub w' a1 l' f1 → LLSub w' a (p ++ l' :: s) fs := by
  have hlt := h.lt
  rcases h with ⟨h0, _⟩ | ⟨b, off, vs, f, ha, hl, rfl, hr, he⟩
  · simp at h0
  · obtain ⟨vp, a1, c1, us, fp, f1, g, rfl, rfl, hp, hc1, e1, hs, e2⟩ := Each.split he
    obtain ⟨n0, n1⟩ := List.nodup_cons.1 hn
    obtain ⟨n2, n3, n4⟩ := List.nodup_append.1 n1
    obtain ⟨n5, n6, n7⟩ := List.nodup_append.1 n3
    refine ⟨b, off, a1, c1, f1, ha, hlt b (by simp), ?_, hc1, hs, n5, fun c hc => by simp [hc], fun w' l' hl' hO h' => ?_⟩
    · exact hr _ _ (by rw [← hp]; simp)
    · have hb1 : b ∉ f1 := fun hm => n0 (by simp [hm])
      refine .inr ⟨b, off, _, fp ++ (f1 ++ g), ha, by simp, rfl, fun i v hv => ?_, Each.app (e1.congr fun c hc o => ?_) (show Each w' (.slice a1 l.length c1 :: us) (l' :: s) (f1 ++ g) from ⟨a1, c1, f1, g, by rw [hl'], by rw [hl']; exact hc1, h', e2.congr fun c hc o => ?_, rfl⟩)⟩
      · exact (hO.cell (hlt b (by simp)) hb1 _).trans (hr i v hv)
      · exact hO.cell (hlt c (by simp [hc])) (fun hm => n4 c hc c (by simp [hm]) rfl) _
      · exact hO.cell (hlt c (by simp [hc])) (fun hm => n7 c hm c hc rfl) _

/-- a list of layouts that a walk carries: where it lies, and among which blocks -/
structure LLies (w : World) (a : Option Addr) (l : List Lay) (fs : List Nat) (lo hi : Nat) : Prop where
  sub : LLSub w a l fs
  fresh : Fresh lo w fs
  lt : ∀ c ∈ fs, c < hi
theorem LLies.new {w : World} {a : Option Addr} {l : List Lay} {fs : List Nat} {lo : Nat} (h : LLSub w a l fs) (f : Fresh lo w fs) : LLies w a l fs lo w.heap.size := ⟨h, f, f.lt⟩
theorem LLies.below {w w' : World} {a : Option Addr} {l : List Lay} {fs : List Nat} {lo hi : Nat} (h : LLies w a l fs lo hi) (k : Below w.heap.size w w') : LLies w' a l fs lo hi :=
  ⟨h.sub.below h.sub.lt k, h.fresh.below h.fresh.lt k, h.lt⟩
theorem LLies.past {gs : List Nat} {w w' : World} {a : Option Addr} {l : List Lay} {fs : List Nat} {lo hi lo' hi' : Nat} (h : LLies w a l fs lo hi) (k : Only gs w w') (g : In lo' hi' gs) (hh : hi ≤ lo' ∨ hi' ≤ lo) : LLies w' a l fs lo hi :=
  ⟨h.sub.only k (fun c hc hg => by have h1 := h.lt c hc; have h2 := (h.fresh.2 c hc).1; have h3 := g c hg; omega), k.fresh h.fresh, h.lt⟩
theorem LLies.inn {w : World} {a : Option Addr} {l : List Lay} {fs : List Nat} {lo hi : Nat} (h : LLies w a l fs lo hi) : In lo hi fs := fun c hc => ⟨(h.fresh.2 c hc).1, h.lt c hc⟩
theorem LLies.mark {w w' : World} {a : Option Addr} {l l' : List Lay} {fs : List Nat} {lo hi : Nat} (h : LLies w a l fs lo hi) (k : Only fs w w') (hs : LLSub w' a l' fs) : LLies w' a l' fs lo hi := ⟨hs, k.fresh h.fresh, h.lt⟩

theorem eqRowSS_len (ls ls' : List Lay) (w : World) (a a' : Option Addr) (cap cap' : Nat) (hl : ls.length ≤ maxLen) (hl' : ls'.length ≤ maxLen) (h : ls.length ≠ ls'.length) :
    Calls Try.prog 38 #[.slice a ls.length cap, .slice a' ls'.length cap'] w fun e w' => e = .returned (.bool (decide (ls = ls'))) ∧ Below w.heap.size w w' := by
  have hne : ls ≠ ls' := fun e => h (by rw [e])
  have HN := Lib.hid (show decide (ls = ls') = false by simp [hne])
  obtain ⟨m, hm⟩ : ∃ m, ls.length = m := ⟨_, rfl⟩
  obtain ⟨m', hm'⟩ : ∃ m', ls'.length = m' := ⟨_, rfl⟩
  rw [hm, hm'] at h
  rw [hm] at hl ⊢
  rw [hm'] at hl' ⊢
  unfold maxLen at hl hl'
  have hb : ((m : Int) != (m' : Int)) = true := by simp; omega
  clear hm hm' hne
  go_enter Try.func38, Try.ntmps38
  go_wp2_with fail
  go_ret
  exact ⟨LayL.ret_bool HN.out.symm, Below.refl _ _⟩

set_option maxRecDepth 100000 in
set_option maxHeartbeats 1600000 in
theorem eqRowSS (ls ls' : List Lay) (w : World) (a a' : Option Addr) (cap cap' : Nat) (fs fs' : List Nat) (hs : LLSub w a ls fs) (hs' : LLSub w a' ls' fs') (hc : ls.length ≤ cap) (hc' : ls'.length ≤ cap') (hl : ls.length ≤ maxLen) (hl' : ls'.length ≤ maxLen) (hx : ∀ l ∈ ls, l.length ≤ maxLen) (hx' : ∀ l ∈ ls', l.length ≤ maxLen) :
    Calls Try.prog 38 #[.slice a ls.length cap, .slice a' ls'.length cap'] w fun e w' => e = .returned (.bool (decide (ls = ls'))) ∧ Below w.heap.size w w' := by
  by_cases hlen : ls.length = ls'.length
  · have HR := Lib.hid hs
    have HR' := Lib.hid hs'
    have HX := Lib.hid hx
    have HX' := Lib.hid hx'
    obtain ⟨m, hm⟩ : ∃ m, ls.length = m := ⟨_, rfl⟩
    have hm' : ls'.length = m := by rw [← hlen, hm]
    have HM := Lib.hid (And.intro hm hm')
    rw [hm] at hc hl ⊢
    rw [hm'] at hc' hl' ⊢
    have hmm : ((m : Int) != (m : Int)) = false := by simp
    clear hm hm' hs hs' hlen hl' hx hx'
    unfold maxLen at hl
    go_enter Try.func38, Try.ntmps38
    go_wp2_with fail
    go_loopw [5] (fun i wr => ∃ k : Nat, k ≤ m ∧ i = .int .i64 k ∧ Hid (ls.take k = ls'.take k) ∧ Below w.heap.size w wr) (fun i _ => m - (intOf i).toNat)
    case atStart => exact ⟨0, by omega, rfl, Lib.hid rfl, Below.refl _ _⟩
    case round =>
      obtain ⟨k, hk, rfl, HE, hbw⟩ := hrel
      by_cases hkm : k < m
      · have hkl : k < ls.length := by rw [HM.out.1]; exact hkm
        have hkl' : k < ls'.length := by rw [HM.out.2]; exact hkm
        obtain ⟨b, off, a1, c1, f1, rfl, hb, hcell, hcl, hsub, _⟩ := (HR.out.below HR.out.lt hbw).get hkl
        obtain ⟨b', off', a1', c1', f1', rfl, hb', hcell', hcl', hsub', _⟩ := (HR'.out.below HR'.out.lt hbw).get hkl'
        have hlk := HX.out _ (List.getElem_mem hkl)
        have hlk' := HX'.out _ (List.getElem_mem hkl')
        obtain ⟨l, hlv⟩ : ∃ l, ls[k] = l := ⟨_, rfl⟩
        obtain ⟨l', hlv'⟩ : ∃ l', ls'[k] = l' := ⟨_, rfl⟩
        rw [hlv] at hcell hcl hsub hlk
        rw [hlv'] at hcell' hcl' hsub' hlk'
        have HN := Lib.hid (And.intro hlv hlv')
        have i0 : (0 : Int) ≤ (k : Int) := Int.natCast_nonneg _
        have i1 : (k : Int) < (m : Int) := by omega
        have HD := Lib.hid (fun (W : World) (e : Ext wr W) => LayL.eqRowS l l' W a1 a1' c1 c1' f1 f1' (hsub.below hsub.lt e) (hsub'.below hsub'.lt e) hcl hcl' hlk hlk')
        clear hlv hlv' hsub hsub' hcl hcl' hlk hlk'
        cases hsd : decide (l = l') with
        | true =>
          have HSD := Lib.hid hsd
          clear hsd
          go_wp2_with fail
          go_still_tail 8, (by kernel_rfl)
          go_wp2_with (go_at_call 45; refine (HD.out _ (by first | exact Ext.refl _ | exact (Ext.refl _).drew)).mono ?_; rw [HSD.out]; rintro e w' ⟨rfl, hb1⟩)
          go_roundw
          case rel =>
            have e1 := HSD.out
            simp only [decide_eq_true_eq] at e1
            refine ⟨k + 1, by omega, by go_num, Lib.hid ?_, hbw.trans (((Below.refl _ _).drew.trans hb1).mono hbw.size)⟩
            rw [List.take_succ_eq_append_getElem hkl, List.take_succ_eq_append_getElem hkl', HE.out, HN.out.1, HN.out.2, e1]
          case measure => simp [intOf]; omega
        | false =>
          have HSD := Lib.hid hsd
          clear hsd
          go_wp2_with fail
          go_still_tail 8, (by kernel_rfl)
          go_wp2_with (go_at_call 45; refine (HD.out _ (by first | exact Ext.refl _ | exact (Ext.refl _).drew)).mono ?_; rw [HSD.out]; rintro e w' ⟨rfl, hb1⟩)
          go_ret
          refine ⟨LayL.ret_bool ?_, hbw.trans (((Below.refl _ _).drew.trans hb1).mono hbw.size)⟩
          have e1 := HSD.out
          simp only [decide_eq_false_iff_not] at e1
          symm
          rw [decide_eq_false_iff_not]
          intro e
          subst e
          exact e1 (by rw [← HN.out.1, ← HN.out.2])
      · go_wp2_with fail
        go_ret
        refine ⟨LayL.ret_bool ?_, hbw⟩
        have e1 := HE.out
        rw [List.take_of_length_le (by have := HM.out.1; omega), List.take_of_length_le (by have := HM.out.2; omega)] at e1
        subst e1
        simp
  · exact eqRowSS_len ls ls' w a a' cap cap' hl hl' hlen

set_option maxRecDepth 100000 in
set_option maxHeartbeats 3200000 in
theorem markRowSS (ls : List Lay) (m z : Nat) (x : Int) (hx : x = (m : Int)) (hz : m + 2 * tot ls = z) (h1 : 1 ≤ m) (h2 : z ≤ 1099511627000) (hll : ls.length ≤ maxLen) (w : World) (a : Option Addr) (cap : Nat) (fs : List Nat) (lo : Nat) (hs : LLSub w a ls fs) (hF : Fresh lo w fs) (hc : ls.length ≤ cap) :
    Calls Try.prog 41 #[.slice a ls.length cap, .int .i64 x] w fun e w' => e = .returned (.int .i64 (z : Int)) ∧ LLSub w' a (mk ls m) fs ∧ Only fs w w' := by
  subst hx
  obtain ⟨X, hX⟩ : ∃ X, mk ls m = X := ⟨_, rfl⟩
  have hXl : X.length = ls.length := by rw [← hX, length_mk]
  have HG := Lib.hid (show ∀ k, (h : k < ls.length) → (h' : k < X.length) → X[k] = L.mk ls[k] (m + 2 * tot (ls.take k)) from fun k h h' => by subst hX; exact mk_get ls m k h)
  obtain ⟨n, hn⟩ : ∃ n, ls.length = n := ⟨_, rfl⟩
  rw [hn] at hc hll ⊢
  have HN := Lib.hid hn
  have HXE := Lib.hid hX
  have HX := Lib.hid hXl
  have HF := Lib.hid hF
  have HR := Lib.hid hs
  have HZ := Lib.hid hz
  unfold maxLen at hll
  clear hn hX hXl hF hs hz
  go_enter Try.func41, Try.ntmps41
  go_wp2_with fail
  go_loopw [5, 1] (fun i k wr => ∃ j kk : Nat, Hid (kk = m + 2 * tot (ls.take j)) ∧ j ≤ n ∧ kk ≤ 1099511627000 ∧ 1 ≤ kk ∧ i = .int .i64 j ∧ k = .int .i64 kk ∧ LLSub wr a (X.take j ++ ls.drop j) fs ∧ Only fs w wr) (fun i _ _ => n - (intOf i).toNat)
  case atStart => exact ⟨0, m, Lib.hid (by simp [tot]), by omega, by have := HZ.out; omega, h1, rfl, rfl, by simpa using HR.out, Only.refl _ _⟩
  case round =>
    obtain ⟨j, kk, HE, hj, hkk, hk1, rfl, rfl, hrw, hO⟩ := hrel
    by_cases hjn : j < n
    · have hjl : j < ls.length := by rw [HN.out]; exact hjn
      have hjX : j < X.length := by rw [HX.out]; exact hjl
      have hFr : Fresh lo wr fs := hO.fresh HF.out
      have htt := tot_take hjl
      have htl := tot_take_le ls (j + 1)
      rw [List.drop_eq_getElem_cons hjl] at hrw
      obtain ⟨b, off, a1, c1, f1, rfl, hb, hcell, hcl, hsub, hnd, hin, hput⟩ := hrw.put hFr.1
      rw [List.length_take, Nat.min_eq_left (by omega)] at hcell
      have hXj := HG.out j hjl hjX
      rw [← HE.out] at hXj
      obtain ⟨l, hlv⟩ : ∃ l, ls[j] = l := ⟨_, rfl⟩
      rw [hlv] at hcell hcl hsub hput hXj htt
      have i0 : (0 : Int) ≤ (j : Int) := Int.natCast_nonneg _
      have i1 : (j : Int) < (n : Int) := by omega
      obtain ⟨k2, hk2⟩ : ∃ k2, kk + 2 * l.length = k2 := ⟨_, rfl⟩
      have hk2z : k2 ≤ 1099511627000 := by have := HE.out; have := HZ.out; omega
      have HM := Lib.hid (LayM.markRowS l kk k2 (kk : Int) rfl hk2 hk1 hk2z wr a1 c1 f1 lo hsub ⟨hnd, fun c hc => hFr.2 c (hin c hc)⟩ hcl)
      have HP := Lib.hid (And.intro hput (And.intro hXj (And.intro hin (And.intro hO (And.intro htt hk2)))))
      clear hsub hput hXj hin hO hFr hrw hnd hcl htt htl hk2 hlv
      go_wp2_with fail
      refine HM.out.mono ?_
      rintro e1 w3 ⟨rfl, hs3, hO3⟩
      have H3 := Lib.hid (And.intro hs3 hO3)
      clear hs3 hO3 hcell
      go_wp2_with fail
      go_roundw
      case rel =>
        obtain ⟨hput, hXj, hin, hO, htt, hk2⟩ := HP.out
        have hO3 : Only fs wr w3 := H3.out.2.mono hin
        refine ⟨j + 1, k2, Lib.hid (by have := HE.out; omega), by omega, hk2z, by omega, by go_num, rfl, ?_, hO.trans hO3⟩
        have h5 := hput w3 (L.mk l kk) (L.length_mk _ _) H3.out.2 H3.out.1
        rw [← hXj] at h5
        rw [List.take_succ_eq_append_getElem hjX, List.append_assoc]
        exact h5
      case measure => simp [intOf]; omega
    · have H := Lib.hid (And.intro hrw hO)
      clear hrw hO
      go_wp2_with fail
      go_ret
      obtain ⟨hrw, hO⟩ := H.out
      have hn := HN.out
      obtain rfl : j = n := by omega
      rw [List.take_of_length_le (by rw [HX.out]; omega), List.drop_eq_nil_of_le (by omega), List.append_nil, ← HXE.out] at hrw
      refine ⟨LayM.ret_int (by have h1 := HE.out; have h2 := HZ.out; rw [List.take_of_length_le (by omega)] at h1; omega), hrw, hO⟩

set_option maxRecDepth 100000 in
set_option maxHeartbeats 3200000 in
theorem heldRowSS (ls : List Lay) (m z n : Nat) (x : Int) (hx : x = (m : Int)) (hz : m + 2 * tot ls = z) (hn : ls.length = n) (h1 : 1 ≤ m) (h2 : z ≤ 1099511627000) (hll : n ≤ maxLen) (w : World) (a : Option Addr) (cap : Nat) (fs : List Nat) (hs : LLSub w a (mk ls m) fs) (hc : n ≤ cap) :
    Calls Try.prog 42 #[.slice a n cap, .int .i64 x] w fun e w' => e = .returned (.int .i64 (z : Int)) ∧ Below w.heap.size w w' := by
  subst hx
  have hlen : (mk ls m).length = n := by rw [length_mk, hn]
  have HR := Lib.hid hs
  have HG := Lib.hid (show ∀ k, (h : k < ls.length) → (h' : k < (mk ls m).length) → (mk ls m)[k] = L.mk ls[k] (m + 2 * tot (ls.take k)) from fun k h h' => mk_get ls m k h)
  have HN := Lib.hid hn
  have HL := Lib.hid hlen
  have HZ := Lib.hid hz
  unfold maxLen at hll
  clear hn hlen hs hz
  go_enter Try.func42, Try.ntmps42
  go_wp2_with fail
  go_loopw [5, 1] (fun i k wr => ∃ (j kk : Nat), Hid (kk = m + 2 * tot (ls.take j)) ∧ j ≤ n ∧ kk ≤ 1099511627000 ∧ 1 ≤ kk ∧ i = .int .i64 j ∧ k = .int .i64 kk ∧ Below w.heap.size w wr) (fun i _ _ => n - (intOf i).toNat)
  case atStart => exact ⟨0, m, Lib.hid (by simp [tot]), by omega, by have := HZ.out; omega, h1, rfl, rfl, Below.refl _ _⟩
  case round =>
    obtain ⟨j, kk, HE, hj, hkk, hk1, rfl, rfl, hbw⟩ := hrel
    by_cases hjn : j < n
    · have hjl : j < ls.length := by rw [HN.out]; exact hjn
      have hjX : j < (mk ls m).length := by rw [HL.out]; exact hjn
      obtain ⟨b, off, a1, c1, f1, rfl, hb, hcell, hcl, hsub, _⟩ := (HR.out.below HR.out.lt hbw).get hjX
      have htt := tot_take hjl
      have htl := tot_take_le ls (j + 1)
      rw [HG.out j hjl hjX, ← HE.out] at hcell hcl hsub
      obtain ⟨l, hlv⟩ : ∃ l, ls[j] = l := ⟨_, rfl⟩
      rw [hlv] at hcell hcl hsub htt
      rw [L.length_mk] at hcell hcl
      have i0 : (0 : Int) ≤ (j : Int) := Int.natCast_nonneg _
      have i1 : (j : Int) < (n : Int) := by omega
      obtain ⟨k2, hk2⟩ : ∃ k2, kk + 2 * l.length = k2 := ⟨_, rfl⟩
      have hk2z : k2 ≤ 1099511627000 := by have := HE.out; have := HZ.out; omega
      have hk0 : ¬ ((k2 : Int) < 0) := by omega
      have HM := Lib.hid (LayM.heldRowS l kk k2 l.length (kk : Int) rfl hk2 rfl hk1 hk2z wr a1 c1 f1 hsub hcl)
      have HP := Lib.hid (And.intro htt hk2)
      clear hsub hcl htt htl hk2 hlv
      go_wp2_with fail
      refine HM.out.mono ?_
      rintro e1 w3 ⟨rfl, hb3⟩
      have H3 := Lib.hid hb3
      clear hb3 hcell
      go_wp2_with fail
      go_roundw
      case rel => exact ⟨j + 1, k2, Lib.hid (by have := HE.out; have := HP.out; omega), by omega, hk2z, by have := HP.out.2; omega, by go_num, rfl, hbw.trans (H3.out.mono hbw.size)⟩
      case measure => simp [intOf]; omega
    · obtain rfl : j = n := by omega
      go_wp2_with fail
      go_ret
      exact ⟨LayM.ret_int (by have h1 := HE.out; have h2 := HZ.out; have h3 := HN.out; rw [List.take_of_length_le (by omega)] at h1; omega), hbw⟩

end Go.Proofs.Ytpiaiandjnpdfaa.Ls


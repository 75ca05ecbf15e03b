import Derived.Test.YtmkibpimjaofgaaMark
/-
  What the law's own helpers that look for the marks in a document come to, where it bears them.
-/
set_option linter.unusedVariables false
set_option linter.unusedSimpArgs false
namespace Go.Proofs.Ytmkibpimjaofgaa.Held
open Go.RowKit P1 MarkT MarkDocs

/-- the contract of heldDocS at a list that bears marks -/
def HdS (f : F) : Prop := ∀ (w : World) (a : Option Addr) (cap : Nat) (fs : List Nat) (m : Nat) (x : Int), SubAt w a (f.mk m) fs → (∀ c ∈ fs, c < w.heap.size) → f.len ≤ cap → x = (m : Int) → 1 ≤ m → m + 3 * f.cnt ≤ 1099511627000 →
  Calls Try.prog 69 #[.slice a f.len cap, .int .i64 x] w fun e w' => e = .returned (.int .i64 ((m + 3 * f.cnt : Nat) : Int)) ∧ Below w.heap.size w w'

set_option maxHeartbeats 400000 in
theorem hdS_nil (w : World) (a : Option Addr) (cap m : Nat) (h1 : 1 ≤ m) (h2 : m ≤ 1099511627776) :
    Calls Try.prog 69 #[.slice a 0 cap, .int .i64 (m : Int)] w fun e w' => e = .returned (.int .i64 ((m + 3 * F.nil.cnt : Nat) : Int)) ∧ Below w.heap.size w w' := by
  go_enter Try.func69, Try.ntmps69
  go_wp2_with fail
  go_loopw [5, 1] (fun i k wr => i = .int .i64 0 ∧ k = .int .i64 (m : Int) ∧ wr = w) (fun _ _ _ => 0)
  case atStart => exact ⟨rfl, rfl, rfl⟩
  case round =>
    obtain ⟨rfl, rfl, rfl⟩ := hrel
    go_wp2_with fail
    go_ret
    exact ⟨ret_int (by simp [F.cnt]), Below.refl _ _⟩

set_option maxRecDepth 100000 in
set_option maxHeartbeats 3200000 in
theorem hdS_row (f : F) (ih : ∀ o n t k r p, f = F.app p (.cons o n t k r) → HdS k) (w : World) (b off cap : Nat) (fs : List Nat) (m : Nat) (hrow : RowAt w (f.mk m) b off fs) (hb : b < w.heap.size) (hfs : ∀ c ∈ fs, c < w.heap.size) (hcap : f.len ≤ cap) (h1 : 1 ≤ m) (h2 : m + 3 * f.cnt ≤ 1099511627000) :
    Calls Try.prog 69 #[.slice (some ⟨b, off, none⟩) f.len cap, .int .i64 (m : Int)] w fun e w' => e = .returned (.int .i64 ((m + 3 * f.cnt : Nat) : Int)) ∧ Below w.heap.size w w' := by
  have hlc := F.len_le_cnt f
  obtain ⟨L, hL⟩ : ∃ L, f.len = L := ⟨_, rfl⟩
  rw [hL] at hcap hlc ⊢
  have hL4 : L ≤ 1099511627000 := by omega
  have HL := Lib.hid hL
  have IH := Lib.hid ih
  have HR := Lib.hid (And.intro hrow hfs)
  clear hL ih hrow hlc hfs
  go_enter Try.func69, Try.ntmps69
  go_wp2_with fail
  go_loopw [5, 1] (fun i k wr => ∃ (j kk : Nat) (p g : F), Hid (f = p.app g ∧ p.len = j ∧ kk = m + 3 * p.cnt) ∧ j ≤ L ∧ kk ≤ 1099511627000 ∧ 1 ≤ kk ∧ i = .int .i64 j ∧ k = .int .i64 kk ∧ Below w.heap.size w wr) (fun i _ _ => L - (intOf i).toNat)
  case atStart => exact ⟨0, m, .nil, f, Lib.hid ⟨rfl, rfl, rfl⟩, by omega, by omega, h1, rfl, rfl, Below.refl _ _⟩
  case round =>
    obtain ⟨j, kk, p, g, HE, hj, hkk, hk1, rfl, rfl, hbw⟩ := hrel
    have h7 : g.len = L - j := by have := HL.out; rw [HE.out.1, F.len_app, HE.out.2.1] at this; omega
    cases g with
    | nil =>
      have hjL : L ≤ j := by simp only [F.len] at h7; omega
      clear h7
      go_wp2_with fail
      go_ret
      obtain ⟨h3, h5, h6⟩ := HE.out
      rw [F.app_nil] at h3
      subst h3
      exact ⟨ret_int (by rw [h6]), hbw⟩
    | cons o n t ks r =>
      have hjL : j < L := by simp only [F.len] at h7; omega
      have hcnt : kk + 3 * (1 + ks.cnt) ≤ 1099511627000 := by
        obtain ⟨h3, h5, h6⟩ := HE.out
        rw [h3, F.cnt_app] at h2; simp only [F.cnt] at h2; omega
      have hrow2 : RowAt wr ((p.mk m).app (.cons kk ((kk : Int) + 1) (mt (kk + 2)) (ks.mk (kk + 3)) (r.mk (kk + 3 + 3 * ks.cnt)))) b off fs := by
        obtain ⟨h3, h5, h6⟩ := HE.out
        have := HR.out.1
        rw [h3, F.mk_app, ← h6] at this
        exact this.below hb HR.out.2 hbw
      obtain ⟨a1, cap1, f1, c0, c1, c2, c3, hc1', hsub, hin⟩ := row_at hrow2
      rw [F.len_mk, HE.out.2.1] at c0 c1 c2 c3
      rw [F.len_mk] at c3 hc1'
      have hf1 : ∀ c ∈ f1, c < wr.heap.size := fun c hc => Nat.lt_of_lt_of_le (HR.out.2 c (hin c hc)) hbw.size
      have hbr : b < wr.heap.size := Nat.lt_of_lt_of_le hb hbw.size
      have hd := fun (w1 : World) (hw1 : Below wr.heap.size wr w1) => IH.out _ _ _ _ _ _ HE.out.1 w1 a1 cap1 f1 (kk + 3) ((kk : Int) + 1 + 1 + 1) (hsub.below hf1 hw1) (fun c hc => Nat.lt_of_lt_of_le (hf1 c hc) hw1.size) hc1' (by omega) (by omega) (by omega)
      have HD := Lib.hid hd
      have hbn : ((kk : Int) != (kk : Int)) = false := by simp
      have hbn2 : ((kk : Int) + 1 != (kk : Int) + 1) = false := by simp
      have i0 : (0 : Int) ≤ (j : Int) := Int.natCast_nonneg _
      have i1 : (j : Int) < (L : Int) := by omega
      clear hd h7 hrow2 hsub hf1
      go_wp2_with fail
      go_region_held3 (fun w' => w'.cell? ⟨b, off + j * 4 + 2, none⟩ = some (.string (mt (kk + 2))))
        (first | go_keep | assumption | (rw [hb3.cell (p := ⟨_, _, _⟩) (by simp; omega)]; assumption))
        (first | (go_at_call 75; refine (markTextI _ (kk + 2) (by omega) _ (by omega) (by omega)).mono ?_; rintro e1 w3 ⟨rfl, hb3⟩))
      have hb3' : Below wr.heap.size wr w3 := by first | exact hb3 | exact (Below.refl _ wr).drew.trans hb3
      have H3 := Lib.hid hb3'
      have k3 := (hb3'.cell (p := ⟨b, off + j * 4 + 3, none⟩) hbr).trans c3
      have l3 : b < w3.heap.size := Nat.lt_of_lt_of_le hbr hb3'.size
      clear hb3 hb3' c0 c1 c2 c3
      go_wp2_with fail
      refine (HD.out _ H3.out).mono ?_
      rintro e2 w5 ⟨rfl, hb5⟩
      have H5 := Lib.hid hb5
      clear hb5 k3 l3
      obtain ⟨z, hz⟩ : ∃ z : Nat, kk + 3 + 3 * ks.cnt = z := ⟨_, rfl⟩
      rw [hz]
      have hz0 : 1 ≤ z := by omega
      have hz1 : z ≤ 1099511627000 := by omega
      have hzn : ¬ ((z : Int) < 0) := by omega
      have HZ := Lib.hid hz
      clear hz
      go_wp2_with fail
      go_roundw
      case rel =>
        obtain ⟨h3, h5, h6⟩ := HE.out
        refine ⟨j + 1, z, p.app (.cons o n t ks .nil), r, Lib.hid ⟨by rw [h3, F.app_assoc]; rfl, by rw [F.len_app, h5]; rfl, ?_⟩, by omega, by omega, by omega, by go_num, rfl, hbw.trans ((H3.out.trans (H5.out.mono H3.out.size)).mono hbw.size)⟩
        rw [← HZ.out, h6, F.cnt_app]; simp only [F.cnt]; omega
      case measure => simp [intOf]; omega

/-- The contract of heldDocS, at every list. -/
theorem hdS (d : Nat) : ∀ f : F, f.deep ≤ d → HdS f := by
  induction d with
  | zero =>
    intro f hf w a cap fs m x hs hfs hc hx h1 h2
    subst hx
    cases f with
    | nil => exact hdS_nil w a cap m h1 (by omega)
    | cons o n t k r => simp [F.deep] at hf
  | succ d ih =>
    intro f hf w a cap fs m x hs hfs hc hx h1 h2
    subst hx
    rcases hs with ⟨hn, rfl⟩ | ⟨b, off, f', rfl, hnil, rfl, hrow⟩
    · have := (F.mk_nil_iff f m).1 hn
      subst this
      exact hdS_nil w a cap m h1 (by omega)
    · exact hdS_row f (fun o n t k r p e => ih k (by rw [e, F.deep_app] at hf; simp only [F.deep] at hf; omega)) w b off cap f' m hrow (hfs b (by simp)) (fun c hc => hfs c (by simp [hc])) hc h1 h2

set_option maxHeartbeats 400000 in
/-- What heldDoc comes to. -/
theorem heldDoc (o n : Int) (t : ByteArray) (f : F) (w : World) (a : Option Addr) (cap : Nat) (fs : List Nat) (m : Nat) (hs : SubAt w a (f.mk m) fs) (hfs : ∀ c ∈ fs, c < w.heap.size) (hc : f.len ≤ cap) (h1 : 1 ≤ m) (h2 : m + 3 * f.cnt ≤ 1099511627000) :
    Calls Try.prog 24 #[.agg #[.int .i64 o, .int .i64 n, .string t, .slice a f.len cap], .int .i64 (m : Int)] w fun e w' => e = .returned (.int .i64 ((m + 3 * f.cnt : Nat) : Int)) ∧ Below w.heap.size w w' := by
  have B1 : ∀ ob : Obj, Below w.heap.size w (w.alloc ob) := fun ob => (Below.refl _ _).alloc (Nat.le_refl _) _
  have hk := fun (ob : Obj) => hdS _ f (Nat.le_refl _) (w.alloc ob) a cap fs m _ (hs.below hfs (B1 ob)) (fun c hc => by have := hfs c hc; simp; omega) hc rfl h1 h2
  obtain ⟨z, hz⟩ : ∃ z : Nat, m + 3 * f.cnt = z := ⟨_, rfl⟩
  rw [hz] at hk ⊢
  have HK := Lib.hid hk
  have hzn : ¬ ((z : Int) < 0) := by omega
  clear hk hs hfs hz
  go_enter Try.func24, Try.ntmps24
  go_wp2_with fail
  refine (HK.out _).mono ?_
  rintro e w1 ⟨rfl, hb1⟩
  have H := Lib.hid hb1
  clear hb1
  go_wp2_with fail
  go_ret
  exact ⟨rfl, (B1 _).trans (H.out.mono (by simp))⟩

/-- .. with the numbers named -/
theorem heldDocI (o n : Int) (t : ByteArray) (f : F) (m z l : Nat) (x : Int) (hx : x = (m : Int)) (hz : m + 3 * f.cnt = z) (hl : f.len = l) (h1 : 1 ≤ m) (h2 : z ≤ 1099511627000) (w : World) (a : Option Addr) (cap : Nat) (fs : List Nat) (hs : SubAt w a (f.mk m) fs) (hfs : ∀ c ∈ fs, c < w.heap.size) (hc : f.len ≤ cap) :
    Calls Try.prog 24 #[.agg #[.int .i64 o, .int .i64 n, .string t, .slice a l cap], .int .i64 x] w fun e w' => e = .returned (.int .i64 (z : Int)) ∧ Below w.heap.size w w' := by
  subst hx hz hl
  exact heldDoc o n t f w a cap fs m hs hfs hc h1 h2

end Go.Proofs.Ytmkibpimjaofgaa.Held


import Derived.Test.YtmkibpimjaofgaaMarkT
import Derived.Deep.RegionHeld3
/-
  What the law's own helpers that write marks into a document, and look for them, come to.
-/
set_option linter.unusedVariables false
set_option linter.unusedSimpArgs false
namespace Go.Proofs.Ytmkibpimjaofgaa.MarkDocs
open Go.RowKit P1 MarkT

theorem ret_int {k : IntKind} {a b : Int} (h : a = b) : Ending.returned (.int k a) = .returned (.int k b) := by rw [h]

theorem markTextI (x : Int) (k : Nat) (hx : x = (k : Int)) (w : World) (h0 : 1 ≤ k) (h : k ≤ 1099511627776) :
    Calls Try.prog 75 #[.int .i64 x] w fun e w' => e = .returned (.string (mt k)) ∧ Below w.heap.size w w' := by
  subst hx; exact markText k w h0 h

/-- what marking a list comes to -/
def MkOut (w : World) (a : Option Addr) (f : F) (fs : List Nat) (m : Nat) (e : Ending) (w' : World) : Prop := e = .returned (.int .i64 ((m + 3 * f.cnt : Nat) : Int)) ∧ SubAt w' a (f.mk m) fs ∧ Only fs w w'

/-- the contract of markDocS at a list -/
def MkS (f : F) : Prop := ∀ (w : World) (a : Option Addr) (cap : Nat) (fs : List Nat) (lo m : Nat) (x : Int), SubAt w a f fs → Fresh lo w fs → f.len ≤ cap → x = (m : Int) → 1 ≤ m → m + 3 * f.cnt ≤ 1099511627000 →
  Calls Try.prog 68 #[.slice a f.len cap, .int .i64 x] w (MkOut w a f fs m)

set_option maxHeartbeats 400000 in
theorem mkS_nil (w : World) (a : Option Addr) (cap m : Nat) (h1 : 1 ≤ m) (h2 : m ≤ 1099511627776) :
    Calls Try.prog 68 #[.slice a 0 cap, .int .i64 (m : Int)] w (MkOut w a .nil [] m) := by
  go_enter Try.func68, Try.ntmps68
  go_wp2_with fail
  go_loopw [5, 1] (fun i k wr => i = .int .i64 0 ∧ k = .int .i64 (m : Int) ∧ wr = w) (fun _ _ _ => 0)
  case atStart => exact ⟨rfl, rfl, rfl⟩
  case round =>
    obtain ⟨rfl, rfl, rfl⟩ := hrel
    go_wp2_with fail
    go_ret
    exact ⟨ret_int (by simp [F.cnt]), .inl ⟨rfl, rfl⟩, Only.refl _ _⟩

theorem fresh_part {lo : Nat} {w : World} {b : Nat} {fp f1 f2 : List Nat} (h : Fresh lo w (b :: (fp ++ (f1 ++ f2)))) : Fresh lo w f1 :=
  ⟨(List.nodup_append.1 (List.nodup_append.1 (List.nodup_cons.1 h.1).2).2.1).1, fun c hc => h.2 c (by simp [hc])⟩

/-- the first two fields of a document are written, and a text is made -/
theorem mark_mid {wr w3 : World} {q r : F} {o n x y : Int} {t : ByteArray} {k : F} {b off : Nat} {a : Option Addr} {cap : Nat} {fp f1 f2 : List Nat} {j lo : Nat} (hat : AtK wr q r o n t k b off a cap fp f1 f2) (hq : q.len = j) (hF : Fresh lo wr (b :: (fp ++ (f1 ++ f2))))
    (hb3 : Below ((wr.setCell ⟨b, off + j * 4, none⟩ (.int .i64 x)).setCell ⟨b, off + j * 4 + 1, none⟩ (.int .i64 y)).heap.size ((wr.setCell ⟨b, off + j * 4, none⟩ (.int .i64 x)).setCell ⟨b, off + j * 4 + 1, none⟩ (.int .i64 y)) w3) :
    AtK w3 q r x y t k b off a cap fp f1 f2 ∧ Only (b :: (fp ++ (f1 ++ f2))) wr w3 ∧ Fresh lo w3 (b :: (fp ++ (f1 ++ f2))) := by
  subst hq
  have hbf := (List.nodup_cons.1 hF.1).1
  have g1 : AtK (wr.setCell ⟨b, off + q.len * 4, none⟩ (.int .i64 x)) q r x n t k b off a cap fp f1 f2 := hat.set hbf (j := 0) (Or.inl ⟨rfl, rfl, rfl, rfl⟩)
  have g2 : AtK ((wr.setCell ⟨b, off + q.len * 4, none⟩ (.int .i64 x)).setCell ⟨b, off + q.len * 4 + 1, none⟩ (.int .i64 y)) q r x y t k b off a cap fp f1 f2 := g1.set hbf (j := 1) (Or.inr (Or.inl ⟨rfl, rfl, rfl, rfl⟩))
  have hO2 : Only (b :: (fp ++ (f1 ++ f2))) wr ((wr.setCell ⟨b, off + q.len * 4, none⟩ (.int .i64 x)).setCell ⟨b, off + q.len * 4 + 1, none⟩ (.int .i64 y)) := ((Only.refl _ _).setCell (p := ⟨b, off + q.len * 4, none⟩) (by simp) _).setCell (p := ⟨b, off + q.len * 4 + 1, none⟩) (by simp) _
  have hF2 := hO2.fresh hF
  have hO3 := hO2.trans (Only.of_below hb3)
  exact ⟨g2.below (hF2.lt b (by simp)) (fun c hc => hF2.lt c (by simp only [List.mem_cons]; exact Or.inr hc)) hb3, hO3, hO3.fresh hF⟩

/-- .. the text is written -/
theorem mark_put {w3 : World} {q r : F} {x y : Int} {t u : ByteArray} {k : F} {b off : Nat} {a : Option Addr} {cap : Nat} {fp f1 f2 : List Nat} {j lo : Nat} (hat : AtK w3 q r x y t k b off a cap fp f1 f2) (hq : q.len = j) (hF : Fresh lo w3 (b :: (fp ++ (f1 ++ f2)))) :
    AtK (w3.setCell ⟨b, off + j * 4 + 2, none⟩ (.string u)) q r x y u k b off a cap fp f1 f2 ∧ Only (b :: (fp ++ (f1 ++ f2))) w3 (w3.setCell ⟨b, off + j * 4 + 2, none⟩ (.string u)) ∧ Fresh lo (w3.setCell ⟨b, off + j * 4 + 2, none⟩ (.string u)) (b :: (fp ++ (f1 ++ f2))) := by
  subst hq
  have hbf := (List.nodup_cons.1 hF.1).1
  have hO : Only (b :: (fp ++ (f1 ++ f2))) w3 (w3.setCell ⟨b, off + q.len * 4 + 2, none⟩ (.string u)) := (Only.refl _ _).setCell (p := ⟨b, off + q.len * 4 + 2, none⟩) (by simp) _
  exact ⟨hat.set hbf (j := 2) (Or.inr (Or.inr ⟨rfl, rfl, rfl, rfl⟩)), hO, hO.fresh hF⟩

/-- what holds at the head of a round of markDocS -/
def MkMid (w : World) (f : F) (b off : Nat) (fs : List Nat) (m j kk : Nat) (wr : World) : Prop := ∃ p g : F, f = p.app g ∧ p.len = j ∧ kk = m + 3 * p.cnt ∧ RowAt wr ((p.mk m).app g) b off fs ∧ Only (b :: fs) w wr

set_option maxRecDepth 100000 in
set_option maxHeartbeats 3200000 in
theorem mkS_row (f : F) (ih : ∀ o n t k r p, f = F.app p (.cons o n t k r) → MkS k) (w : World) (b off cap : Nat) (fs : List Nat) (lo m : Nat) (hrow : RowAt w f b off fs) (hF : Fresh lo w (b :: fs)) (hcap : f.len ≤ cap) (h1 : 1 ≤ m) (h2 : m + 3 * f.cnt ≤ 1099511627000) (hne : f ≠ .nil) :
    Calls Try.prog 68 #[.slice (some ⟨b, off, none⟩) f.len cap, .int .i64 (m : Int)] w (MkOut w (some ⟨b, off, none⟩) f (b :: fs) m) := by
  have hlc := F.len_le_cnt f
  have hbw : b < w.heap.size := hF.lt b (by simp)
  have hbz : ∀ o, w.frozen? ⟨b, o, none⟩ = false := (hF.2 b (by simp)).2.2
  have hbf : b ∉ fs := (List.nodup_cons.1 hF.1).1
  obtain ⟨L, hL⟩ : ∃ L, f.len = L := ⟨_, rfl⟩
  rw [hL] at hcap hlc ⊢
  have hL4 : L ≤ 1099511627000 := by omega
  have HL := Lib.hid hL
  have HF := Lib.hid hF
  have IH := Lib.hid ih
  have HR := Lib.hid hrow
  clear hL hF ih hrow hlc
  go_enter Try.func68, Try.ntmps68
  go_wp2_with fail
  go_loopw [5, 1] (fun i k wr => ∃ j kk : Nat, j ≤ L ∧ kk ≤ 1099511627000 ∧ 1 ≤ kk ∧ i = .int .i64 j ∧ k = .int .i64 kk ∧ MkMid w f b off fs m j kk wr) (fun i _ _ => L - (intOf i).toNat)
  case atStart => exact ⟨0, m, by omega, by omega, h1, rfl, rfl, .nil, f, rfl, rfl, rfl, HR.out, Only.refl _ _⟩
  case round =>
    obtain ⟨j, kk, hj, hkk, hk1, rfl, rfl, p, g, h3, h5, h6, hrw, hO⟩ := hrel
    have h7 : g.len = L - j := by have := HL.out; rw [h3, F.len_app, h5] at this; omega
    cases g with
    | nil =>
      have hjL : L ≤ j := by simp only [F.len] at h7; omega
      have H := Lib.hid (And.intro h3 (And.intro h6 (And.intro hrw hO)))
      clear h3 h5 h6 h7 hrw hO
      go_wp2_with fail
      go_ret
      obtain ⟨h3, h6, hrw, hO⟩ := H.out
      rw [F.app_nil] at h3 hrw
      subst h3
      exact ⟨ret_int (by rw [h6]), .inr ⟨b, off, fs, rfl, fun e => hne ((F.mk_nil_iff _ _).1 e), rfl, hrw⟩, hO⟩
    | cons o n t ks r =>
      have hjL : j < L := by simp only [F.len] at h7; omega
      have hFr : Fresh lo wr (b :: fs) := hO.fresh HF.out
      have hq : (p.mk m).len = j := by rw [F.len_mk, h5]
      obtain ⟨a1, cap1, fp, f1, f2, rfl, hat⟩ := hrw.atK
      have hcnt : kk + 3 * (1 + ks.cnt) ≤ 1099511627000 := by
        rw [h3, F.cnt_app] at h2; simp only [F.cnt] at h2; omega
      have c0 := hat.c0
      have c1 := hat.c1
      rw [hq] at c0 c1
      have z : ∀ x, wr.frozen? ⟨b, x, none⟩ = false := (hFr.2 b (by simp)).2.2
      have hbr : b < wr.heap.size := hFr.lt b (by simp)
      have H := Lib.hid (And.intro h3 (And.intro h5 (And.intro h6 (And.intro hO (And.intro hFr (And.intro hat hq))))))
      clear h3 h5 h6 h7 hO hFr hat hq hrw hbz
      have z0 := z (off + j * 4)
      have z1 := z (off + j * 4 + 1)
      clear z
      go_wp2_with fail
      refine (markTextI _ (kk + 2) (by omega) _ (by omega) (by omega)).mono ?_
      rintro e1 w3 ⟨rfl, hb3⟩
      obtain ⟨g3, hO3, hF3⟩ := mark_mid H.out.2.2.2.2.2.1 H.out.2.2.2.2.2.2 H.out.2.2.2.2.1 hb3
      have g4 := mark_put (u := mt (kk + 2)) g3 H.out.2.2.2.2.2.2 hF3
      have HI := Lib.hid (IH.out _ _ _ _ _ _ H.out.1 (w3.setCell ⟨b, off + j * 4 + 2, none⟩ (.string (mt (kk + 2)))) a1 cap1 f1 lo (kk + 3) ((kk : Int) + 1 + 1 + 1) g4.1.sub (fresh_part g4.2.2) g4.1.cap_le (by omega) (by omega) (by omega))
      have c2 := g3.c2
      have c3 := g3.c3
      rw [H.out.2.2.2.2.2.2] at c2 c3
      have z2 := (hF3.2 b (by simp)).2.2 (off + j * 4 + 2)
      have l3 : b < w3.heap.size := hF3.lt b (by simp)
      have H4 := Lib.hid (And.intro g4 hO3)
      clear g3 hO3 hF3 g4 hb3 c0 c1 z0 z1
      go_wp2_with fail
      refine HI.out.mono ?_
      rintro e2 w5 ⟨rfl, hs5, hO5⟩
      have H5 := Lib.hid (And.intro hs5 hO5)
      clear hs5 hO5 c2 c3 z2 l3
      obtain ⟨z, hz⟩ : ∃ z : Nat, kk + 3 + 3 * ks.cnt = z := ⟨_, rfl⟩
      rw [hz]
      have hz0 : 1 ≤ z := by omega
      have hz1 : z ≤ 1099511627000 := by omega
      have HZ := Lib.hid hz
      clear hz
      go_wp2_with fail
      go_roundw
      case rel =>
        obtain ⟨h3, h5, h6, hO, hFr, hat, hq⟩ := H.out
        obtain ⟨⟨g4, hO4, hF4⟩, hO3⟩ := H4.out
        obtain ⟨hs5, hO5⟩ := H5.out
        have g5 := g4.kid hF4 hO5 hs5 (F.len_mk _ _)
        refine ⟨j + 1, z, by omega, by omega, by omega, by go_num, rfl, p.app (.cons o n t ks .nil), r, by rw [h3, F.app_assoc]; rfl, by rw [F.len_app, h5]; rfl, ?_, ?_, ?_⟩
        · rw [← HZ.out, h6, F.cnt_app]; simp only [F.cnt]; omega
        · have hr := g5.row
          rw [F.mk_app, ← h6, F.app_assoc]
          exact hr
        · exact ((hO.trans hO3).trans hO4).trans (hO5.mono (fun c hc => by simp [hc]))
      case measure => simp [intOf]; omega

/-- The contract of markDocS, at every list. -/
theorem mkS (d : Nat) : ∀ f : F, f.deep ≤ d → MkS f := by
  induction d with
  | zero =>
    intro f hf w a cap fs lo m x hs hF hc hx h1 h2
    subst hx
    cases f with
    | nil =>
      rcases hs with ⟨_, rfl⟩ | ⟨_, _, _, _, hn, _⟩
      · exact mkS_nil w a cap m h1 (by omega)
      · exact absurd rfl hn
    | cons o n t k r => simp [F.deep] at hf
  | succ d ih =>
    intro f hf w a cap fs lo m x hs hF hc hx h1 h2
    subst hx
    rcases hs with ⟨rfl, rfl⟩ | ⟨b, off, f', rfl, hnil, rfl, hrow⟩
    · exact mkS_nil w a cap m h1 (by omega)
    · exact mkS_row f (fun o n t k r p e => ih k (by rw [e, F.deep_app] at hf; simp only [F.deep] at hf; omega)) w b off cap f' lo m hrow hF hc h1 h2 hnil

set_option maxHeartbeats 400000 in
/-- What markDoc comes to. -/
theorem markDoc (o n : Int) (t : ByteArray) (f : F) (w : World) (a : Option Addr) (cap : Nat) (fs : List Nat) (lo m : Nat) (hs : SubAt w a f fs) (hF : Fresh lo w fs) (hc : f.len ≤ cap) (h1 : 1 ≤ m) (h2 : m + 3 * f.cnt ≤ 1099511627000) :
    Calls Try.prog 23 #[.agg #[.int .i64 o, .int .i64 n, .string t, .slice a f.len cap], .int .i64 (m : Int)] w (MkOut w a f fs m) := by
  have B1 : ∀ ob : Obj, Below w.heap.size w (w.alloc ob) := fun ob => (Below.refl _ _).alloc (Nat.le_refl _) _
  have hk := fun (ob : Obj) => mkS _ f (Nat.le_refl _) (w.alloc ob) a cap fs lo m _ (hs.below hF.lt (B1 ob)) (hF.below hF.lt (B1 ob)) hc rfl h1 h2
  have HK := Lib.hid hk
  clear hk hs hF
  go_enter Try.func23, Try.ntmps23
  go_wp2_with fail
  refine (HK.out _).mono ?_
  rintro e w1 ⟨rfl, hs1, hO1⟩
  have H := Lib.hid (And.intro hs1 hO1)
  clear hs1 hO1
  go_wp2_with fail
  go_ret
  exact ⟨rfl, H.out.1, (Only.of_below (B1 _)).trans H.out.2⟩

/-- .. with the numbers named -/
theorem markDocI (o n : Int) (t : ByteArray) (f : F) (m z : Nat) (x : Int) (hx : x = (m : Int)) (hz : m + 3 * f.cnt = z) (h1 : 1 ≤ m) (h2 : z ≤ 1099511627000) (w : World) (a : Option Addr) (cap : Nat) (fs : List Nat) (lo : Nat) (hs : SubAt w a f fs) (hF : Fresh lo w fs) (hc : f.len ≤ cap) :
    Calls Try.prog 23 #[.agg #[.int .i64 o, .int .i64 n, .string t, .slice a f.len cap], .int .i64 x] w fun e w' => e = .returned (.int .i64 (z : Int)) ∧ SubAt w' a (f.mk m) fs ∧ Only fs w w' := by
  subst hx hz
  exact markDoc o n t f w a cap fs lo m hs hF hc h1 h2

end Go.Proofs.Ytmkibpimjaofgaa.MarkDocs


import Derived.Test.YtafhefmjnjibdaaCopyI
import Derived.Test.YtafhefmjnjibdaaPl
import Derived.Test.YtafhefmjnjibdaaNfP
import Derived.Laws.EntriesVeiled
import Derived.Shelf.Abstract
/-
  What impl.changeKids comes to, whatever function it is given: each of the Kids changed, in new memory.
-/
set_option linter.unusedVariables false
set_option linter.unusedSimpArgs false
namespace Go.Proofs.Ytafhefmjnjibdaa.Nf
open Go.RowKit P1 Copy

/-- a document in new memory -/
def NewD (w : World) (d : D) (e : Ending) (w' : World) : Prop := NewOut w d.1 d.2.1 d.2.2.1 d.2.2.2 e w'

/-- a function value that makes a new document of each document of k, in every later world -/
structure KidFn (g : Nat) (lb : Array Value) (φ : Rule) (k : F) (w : World) : Prop where
  enter : ∀ (args : Array Value) (W : World), (callFunc g args).run Try.prog W = .ok (.enter g args) W
  call : ∀ (W : World) (p : F) (o n : Int) (t : ByteArray) (q r : F) (a : Option Addr) (cap : Nat) (fs : List Nat), k = p.app (.cons o n t q r) → Ext w W → SubAt W a q fs → (∀ c ∈ fs, c < W.heap.size) → q.len ≤ cap →
    Calls Try.prog g (#[.agg #[.int .i64 o, .int .i64 n, .string t, .slice a q.len cap]] ++ lb) W (NewD W (φ o n t q))

/-- what holds at the head of a round -/
def ChMid (w : World) (φ : Rule) (k : F) (j : Nat) (v : Value) (wr : World) : Prop := ∃ (p g : F) (fs : List Nat), k = p.app g ∧ p.len = j ∧ Grow wr 25 (w.heap.size + 2) v (mapL φ p) fs ∧ Below w.heap.size w wr

/-- what the boxes hold all along -/
def ChBox (w : World) (o n : Int) (t : ByteArray) (u : Value) (wr : World) : Prop := wr.cell? ⟨w.heap.size, 0, none⟩ = some (.int .i64 o) ∧ wr.cell? ⟨w.heap.size, 1, none⟩ = some (.int .i64 n) ∧ wr.cell? ⟨w.heap.size, 2, none⟩ = some (.string t) ∧
  wr.cell? ⟨w.heap.size, 3, none⟩ = some u ∧ wr.frozen? ⟨w.heap.size, 3, none⟩ = false ∧ wr.there (w.heap.size + 1) 0 4 ∧ w.heap.size + 2 ≤ wr.heap.size

theorem ChBox.below {w : World} {o n : Int} {t : ByteArray} {u : Value} {wr w' : World} (h : ChBox w o n t u wr) (k : Below (w.heap.size + 2) wr w') : ChBox w o n t u w' := by
  obtain ⟨h1, h2, h3, h3', hz, h4, h5⟩ := h
  refine ⟨?_, ?_, ?_, ?_, ?_, there_below h4 (by omega) k, Nat.le_trans h5 k.size⟩
  · rw [k.cell (p := ⟨_, _, _⟩) (by simp)]; exact h1
  · rw [k.cell (p := ⟨_, _, _⟩) (by simp)]; exact h2
  · rw [k.cell (p := ⟨_, _, _⟩) (by simp)]; exact h3
  · rw [k.cell (p := ⟨_, _, _⟩) (by simp)]; exact h3'
  · rw [k.frozen (p := ⟨_, _, _⟩) (by simp)]; exact hz

/-- the end: the row that has grown is handed out -/
theorem end_ch {w wr w4 : World} {T : TypeId} {o n : Int} {t : ByteArray} {v : Value} {k : F} {fs : List Nat} {a : Option Addr} {cap : Nat} (hG : Grow wr T (w.heap.size + 2) v k fs) (hs : SubAt wr a k fs) (hc : k.len ≤ cap) (hbw : Below w.heap.size w wr)
    (ht : Touch w.heap.size (w.heap.size + 2) wr w4) : NewOut w o n t k (.returned (.agg #[.int .i64 o, .int .i64 n, .string t, .slice a k.len cap])) w4 := by
  have hlo : ∀ c ∈ fs, w.heap.size + 2 ≤ c := fun c hc => (hG.fresh.2 c hc).1
  exact ⟨a, cap, fs, rfl, hc, ht.sub hs (fun c hc => Or.inr (hlo c hc)), ht.fresh (hG.fresh.mono (by omega)) (fun c hc => Or.inr (hlo c hc)), ht.below hbw (Nat.le_refl _)⟩

set_option maxRecDepth 100000 in
set_option maxHeartbeats 1600000 in
theorem changeKids (w : World) (o n : Int) (t : ByteArray) (k : F) (φ : Rule) (g0 : Nat) (lb : Array Value) (hk : KidFn g0 lb φ k w) (a : Option Addr) (cap : Nat) (fs : List Nat) (hs : SubAt w a k fs) (hfs : ∀ c ∈ fs, c < w.heap.size) (hc : k.len ≤ cap) (hsz : k.len ≤ 4194304) :
    Calls Try.prog 129 #[.agg #[.int .i64 o, .int .i64 n, .string t, .slice a k.len cap], .func (.func g0) #[] lb] w (NewOut w o n t (mapL φ k)) := by
  obtain ⟨i0, hi, hz0, hz1, hz2⟩ := info_parts To.info
  obtain ⟨L, hL⟩ : ∃ L, k.len = L := ⟨_, rfl⟩
  rw [hL] at hc hsz ⊢
  have HL := Lib.hid hL
  have HML := Lib.hid (show (mapL φ k).len = L by rw [len_mapL, hL])
  clear hL
  have hsub : 0 < L → ∃ b off f', a = some ⟨b, off, none⟩ ∧ RowAt w k b off f' ∧ b < w.heap.size ∧ ∀ c ∈ f', c < w.heap.size := by
    intro h0
    rcases hs with ⟨rfl, rfl⟩ | ⟨b, off, f', rfl, hnil, rfl, hrow⟩
    · have := HL.out; simp only [F.len] at this; omega
    · exact ⟨b, off, f', rfl, hrow, hfs b (by simp), fun c hc => hfs c (by simp [hc])⟩
  have HSUB := Lib.hid hsub
  have he := hk.enter
  have IH := Lib.hid hk
  have HI := Lib.hid (And.intro hi (And.intro hz0 (And.intro hz1 hz2)))
  have hbox : ∀ (C2 : Array Value), C2.size = 4 → ChBox w o n t (.slice a L cap) ((w.alloc (.cells #[.int .i64 o, .int .i64 n, .string t, .slice a L cap] 25)).alloc (.cells C2 25)) := by
    intro C2 h2
    refine ⟨?_, ?_, ?_, ?_, ?_, ?_, by simp⟩
    · rw [World.cell?_alloc_lt _ _ _ (by simp), World.cell?_alloc_new]; rfl
    · rw [World.cell?_alloc_lt _ _ _ (by simp), World.cell?_alloc_new]; rfl
    · rw [World.cell?_alloc_lt _ _ _ (by simp), World.cell?_alloc_new]; rfl
    · rw [World.cell?_alloc_lt _ _ _ (by simp), World.cell?_alloc_new]; rfl
    · rw [((Below.refl _ _).alloc (Nat.le_refl _) _).frozen (p := ⟨_, _, _⟩) (by simp), World.frozen?_alloc_new]
    · have := there_new (w.alloc (.cells #[.int .i64 o, .int .i64 n, .string t, .slice a L cap] 25)) C2 25 4 (by omega)
      simpa using this
  have HBOX := Lib.hid hbox
  clear hsub hs hfs hk hi hz0 hz1 hz2 hbox
  go_enter Try.func129, Try.ntmps129
  go_wp2_with fail
  go_loopw [11, 5] (fun i v wr => ∃ j : Nat, j ≤ L ∧ i = .int .i64 j ∧ ChMid w φ k j v wr ∧ ChBox w o n t (.slice a L cap) wr) (fun i _ _ => L - (intOf i).toNat)
  case atStart => exact ⟨0, by omega, rfl, ⟨.nil, k, [], rfl, rfl, Grow.start _ _ _ (by simp), ((Below.refl _ _).alloc (Nat.le_refl _) _).alloc (by simp) _⟩, HBOX.out _ rfl⟩
  case round =>
    obtain ⟨j, hj, rfl, ⟨p, g, fs1, h3, h5, hG, hbw⟩, hbx⟩ := hrel
    have h7 : g.len = L - j := by have := HL.out; rw [h3, F.len_app, h5] at this; omega
    cases g with
    | nil =>
      have hjL : L ≤ j := by simp only [F.len] at h7; omega
      rw [F.app_nil] at h3
      subst h3
      obtain ⟨a', cap', rfl, hcap', hsub', hcm⟩ := hG.slice
      rw [HML.out] at hcap'
      have hlen := HML.out
      obtain ⟨x0, x1, x2, x3, xz, hth, hsz2⟩ := hbx
      obtain ⟨⟨u0, u1, u2, u3, y0, y1, y2, y3⟩, z0, z1, z2, z3⟩ := there_at hth
      rw [hlen]
      have H := Lib.hid (And.intro hG (And.intro hbw (And.intro hsub' (And.intro hcap' h5))))
      have hl1 : w.heap.size + 1 < wr.heap.size := by omega
      have hl0 : w.heap.size < wr.heap.size := by omega
      clear hG hbw hsub' hth h7 hcm hcap' h5 hlen
      go_wp2_with fail
      refine bodyPost_ret (v := .agg #[.int .i64 o, .int .i64 n, .string t, .slice a' L cap']) (by simp [results, Try.results129, go_sem, y0, y1, y2, y3, hl1]) rfl ?_
      obtain ⟨hG, hbw, hsub', hcap', h5⟩ := H.out
      rw [← HML.out]
      refine end_ch hG hsub' (by rw [HML.out]; exact hcap') hbw ?_
      repeat (first | exact Touch.refl _ _ _ | refine Touch.setCell ?_ (by simp) (by simp) _)
    | cons o1 n1 t1 k1 r1 =>
      have hjL : j < L := by simp only [F.len] at h7; omega
      obtain ⟨b, off, f', rfl, hrow, hbB, hfB⟩ := HSUB.out (by omega)
      rw [h3] at hrow
      obtain ⟨a1, cap1, f1, c0, c1, c2, c3, hc1', hsub1, hin⟩ := row_at hrow
      rw [h5] at c0 c1 c2 c3
      rw [← hbw.cell (p := ⟨_, _, _⟩) hbB] at c0 c1 c2 c3
      have hd := fun (ob : Obj) => IH.out.call (wr.alloc ob) p o1 n1 t1 k1 r1 a1 cap1 f1 h3 ((show Ext w wr from hbw).alloc _) (hsub1.below (fun c hc => hfB c (hin c hc)) (hbw.trans ((Below.refl _ _).alloc hbw.size _))) (fun c hc => by have := Nat.lt_of_lt_of_le (hfB c (hin c hc)) hbw.size; simp; omega) hc1'
      have HD := Lib.hid hd
      have H := Lib.hid (And.intro h3 (And.intro h5 (And.intro hG (And.intro hbw hbx))))
      clear hd h3 h5 h7 hbw hrow hG hbx
      go_wp2_with (first
        | (go_at_fn g0; refine (HD.out _).mono ?_; rintro e1 w1 ⟨a2, cap2, f2, rfl, hc2, hs2, hfr2, hb2⟩; obtain ⟨⟨o2, n2, t2, k2⟩, hφ⟩ : ∃ d : D, φ o1 n1 t1 k1 = d := ⟨_, rfl⟩; rw [hφ] at hc2 hs2 ⊢; simp only at hc2 hs2 ⊢; have hstep := fun (ob : Obj) => copy_mid (w1 := w1) (ob := ob) H.out.2.2.1 hb2; have HF := Lib.hid hφ; have H2 := Lib.hid (And.intro hs2 (And.intro hfr2 (And.intro hb2 hc2))); clear hs2 hfr2 hb2 c0 c1 c2 c3 hφ; have HST := Lib.hid hstep; clear hstep)
        | (at_builtin; refine append_doc rfl (.tmp 15) (.tmp 19) 23 rfl Try.underlying23 HI.out.1 HI.out.2.1 HI.out.2.2.1 HI.out.2.2.2 rfl rfl (HST.out _).1 (d := w1.heap.size) (c := 1) rfl (cell_new w1 _ _ 0 _ rfl) (cell_new w1 _ _ 1 _ rfl) (cell_new w1 _ _ 2 _ rfl) (cell_new w1 _ _ 3 _ rfl) H2.out.2.2.2 (H2.out.1.below H2.out.2.1.lt ((Below.refl _ _).alloc (Nat.le_refl _) _)) (H2.out.2.1.below H2.out.2.1.lt ((Below.refl _ _).alloc (Nat.le_refl _) _)) (HST.out (.cells #[] 0)).2.1 (HST.out (.cells #[] 0)).2.2.1 (HST.out (.cells #[] 0)).2.2.2.1 (by rw [len_mapL]; have := H.out.2.1; omega) ?_; intro v' w2 fs' hG' hb' hg'))
      go_roundw
      case rel =>
        obtain ⟨h3, h5, hG, hbw, hbx⟩ := H.out
        have hch := copy_end H2.out.2.2.1 hb' hG.2.2.2
        refine ⟨j + 1, by omega, by go_num, ⟨p.app (.cons o1 n1 t1 k1 .nil), r1, fs', by rw [h3, F.app_assoc]; rfl, by rw [F.len_app, h5]; rfl, ?_, hbw.trans (hch.mono (by omega))⟩, hbx.below hch⟩
        rw [mapL_app, show mapL φ (.cons o1 n1 t1 k1 .nil) = .cons o2 n2 t2 k2 .nil by rw [mapL, HF.out]; rfl]
        exact hG'
      case measure => simp [intOf]; omega

end Go.Proofs.Ytafhefmjnjibdaa.Nf


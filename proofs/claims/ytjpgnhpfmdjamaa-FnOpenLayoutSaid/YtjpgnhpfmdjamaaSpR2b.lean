/-
  What the model's reader of documents comes to: Kids, and whole documents.
-/
import Derived.Test.YtjpgnhpfmdjamaaSpRb
set_option linter.unusedVariables false
set_option linter.unusedSimpArgs false
namespace Go.Proofs.Ytjpgnhpfmdjamaa.SpR2
open Go.RowKit P1 Copy SpR Read2

/-- the contract of l1Read at a depth -/
def ReS (d : Nat) : Prop := ∀ (w : World) (s : ByteArray) (p : Nat) (r : List UInt8) (dp x : Int), s.size ≤ 1048576 → s.data.toList.drop p = r → p ≤ s.size → x = (p : Int) → dp = (d : Int) → d ≤ 40 →
  Calls Try.prog 70 #[.string s, .int .i64 x, .int .i64 dp] w (SpOut w s.size (rdD false d r))

/-- documents up to a closing sign -/
def inR (g : List UInt8 → Option (D × List UInt8)) (cnt : Nat) (sign : UInt8) (s : List UInt8) : Option (F × List UInt8) :=
  match rdK g cnt s with
  | none => none
  | some (f, []) => none
  | some (f, c :: r) => if c = sign then some (f, r) else none

theorem rdA_inR {g : List UInt8 → Option (D × List UInt8)} {op num : Int} {cnt : Nat} {sign : UInt8} {s : List UInt8} : rdA g op num cnt sign s = match inR g cnt sign s with
    | none => none
    | some (f, r) => some ((op, num, ⟨#[]⟩, f), r) := by
  unfold rdA inR
  cases rdK g cnt s with
  | none => rfl
  | some q =>
    obtain ⟨f, l⟩ := q
    cases l with
    | nil => rfl
    | cons c r =>
      simp only
      by_cases h : c = sign
      · simp [h]
      · simp [h]

/-- what reading Kids comes to -/
def InOut (w : World) (N : Nat) (r : Option (F × List UInt8)) (e : Ending) (w' : World) : Prop := Below w.heap.size w w' ∧ match r with
  | none => ∃ (a : Option Addr) (l c : Nat), e = .returned (.tuple #[.slice a l c, .int .i64 (-1)])
  | some (f, l') => ∃ (a : Option Addr) (cap : Nat) (fs : List Nat), e = .returned (.tuple #[.slice a f.len cap, .int .i64 ((N - l'.length : Nat) : Int)]) ∧ f.len ≤ cap ∧ SubAt w' a f fs ∧ Fresh w.heap.size w' fs

theorem InOut.of_none {w : World} {N : Nat} {e : Ending} {w' : World} (h : InOut w N none e w') : ∃ (a : Option Addr) (l c : Nat), e = .returned (.tuple #[.slice a l c, .int .i64 (-1)]) ∧ Below w.heap.size w w' := by
  obtain ⟨h1, a, l, c, h2⟩ := h
  exact ⟨a, l, c, h2, h1⟩
theorem InOut.of_some {w : World} {N : Nat} {f : F} {l' : List UInt8} {e : Ending} {w' : World} (h : InOut w N (some (f, l')) e w') : ∃ (a : Option Addr) (cap : Nat) (fs : List Nat), e = .returned (.tuple #[.slice a f.len cap, .int .i64 ((N - l'.length : Nat) : Int)]) ∧ f.len ≤ cap ∧ SubAt w' a f fs ∧ Fresh w.heap.size w' fs ∧ Below w.heap.size w w' := by
  obtain ⟨h1, a, cap, fs, h2, h3, h4, h5⟩ := h
  exact ⟨a, cap, fs, h2, h3, h4, h5, h1⟩

/-- what holds at the head of a round of l1Inner -/
def InMid (w : World) (s : ByteArray) (g : List UInt8 → Option (D × List UInt8)) (cnt : Nat) (r : List UInt8) (j pp : Nat) (v : Value) (wr : World) : Prop := ∃ (p : F) (l' : List UInt8) (fs : List Nat), p.len = j ∧ rdK g cnt r = contK p (rdK g (cnt - j) l') ∧ s.data.toList.drop pp = l' ∧ Grow wr 25 w.heap.size v p fs ∧ Below w.heap.size w wr

theorem suffix_at {s : ByteArray} {p : Nat} {l l2 : List UInt8} (h : s.data.toList.drop p = l) (h2 : l2 <:+ l) : s.data.toList.drop (s.size - l2.length) = l2 ∧ s.size - l2.length ≤ s.size := by
  have h3 : l2 <:+ s.data.toList := h2.trans (h ▸ List.drop_suffix p _)
  have := List.suffix_iff_eq_drop.1 h3
  have hls : s.data.toList.length = s.size := by simp
  rw [hls] at this
  exact ⟨this.symm, Nat.sub_le _ _⟩

theorem cell_new1 (w : World) (ob : Obj) (C : Array Value) (T : TypeId) (j : Nat) (u : Value) (h : C[j]? = some u) : ((w.alloc ob).alloc (.cells C T)).cell? ⟨w.heap.size + 1, j, none⟩ = some u := by
  have e : (w.alloc ob).heap.size = w.heap.size + 1 := by simp
  rw [← e, World.cell?_alloc_new]; exact h

set_option maxRecDepth 100000 in
set_option maxHeartbeats 6400000 in
theorem l1Inner (d : Nat) (ih : ReS d) (hd : d ≤ 40) (w : World) (s : ByteArray) (hs : s.size ≤ 1048576) (q : Nat) (r : List UInt8) (hr : s.data.toList.drop q = r) (hq : q ≤ s.size) (x : Int) (hx : x = (q : Int)) (cnt : Nat) (ci : Int) (hci : ci = (cnt : Int)) (hcnt : cnt ≤ 2) (sg : UInt8) (si : Int) (hsi : si = (sg.toNat : Int)) (dp : Int) (hdp : dp = (d : Int) + 1) :
    Calls Try.prog 95 #[.string s, .int .i64 x, .int .i64 ci, .int .u8 si, .int .i64 dp] w (InOut w s.size (inR (rdD false d) cnt sg r)) := by
  subst hx hci hsi hdp
  obtain ⟨i0, hi, hz0, hz1, hz2⟩ := info_parts To.info
  have HI := Lib.hid (And.intro hi (And.intro hz0 (And.intro hz1 hz2)))
  obtain ⟨g, hgg⟩ : ∃ g, rdD false d = g := ⟨_, rfl⟩
  have hsuf : ∀ l x l2, g l = some (x, l2) → l2 <:+ l := fun l x l2 h => rdD_suffix false d l x l2 (by rw [hgg]; exact h)
  have IH : Hid (∀ (w : World) (p : Nat) (l : List UInt8), s.data.toList.drop p = l → p ≤ s.size → Calls Try.prog 70 #[.string s, .int .i64 (p : Int), .int .i64 (d : Int)] w (SpOut w s.size (g l))) := by
    rw [← hgg]
    exact fun w p l h1 h2 => ih w s p l d p hs h1 h2 rfl rfl hd
  rw [hgg]
  have HSU := Lib.hid hsuf
  have hstart : InMid w s g cnt r 0 q (.slice (some ⟨w.heap.size, 0, none⟩) 0 0) (w.alloc (.cells #[] 25)) :=
    ⟨.nil, r, [], rfl, by simp only [Nat.sub_zero]; cases rdK g cnt r with
      | none => rfl
      | some q => rfl, hr, Grow.made w _ w.heap.size (Nat.le_refl _), (Below.refl _ _).alloc (Nat.le_refl _) _⟩
  have HST := Lib.hid hstart
  clear hstart ih hsuf hgg hr hi hz0 hz1 hz2
  go_enter Try.func95, Try.ntmps95
  go_wp2_with fail
  go_loopw [13, 1, 12] (fun i at_ v wr => ∃ (j pp : Nat), j ≤ cnt ∧ pp ≤ s.size ∧ i = .int .i64 j ∧ at_ = .int .i64 pp ∧ InMid w s g cnt r j pp v wr) (fun i _ _ _ => cnt - (intOf i).toNat)
  case atStart => exact ⟨0, q, by omega, hq, rfl, rfl, HST.out⟩
  case round =>
    obtain ⟨j, pp, hj, hpp, rfl, rfl, p, l', fs, h1, h2, h3, hG, hbw⟩ := hrel
    obtain ⟨av, cv, rfl, hcv, hsv, hcvm⟩ := hG.slice
    by_cases hjc : j < cnt
    · obtain ⟨m, hm⟩ : ∃ m, cnt - j = m + 1 := ⟨cnt - j - 1, by omega⟩
      have hm' : cnt - (j + 1) = m := by omega
      rw [hm] at h2
      have HD := Lib.hid (IH.out wr pp l' h3 hpp)
      have H := Lib.hid (And.intro h1 (And.intro h2 (And.intro h3 (And.intro hG hbw))))
      clear h1 h2 h3 hG hbw hsv hcvm hm hcv
      go_wp2_with fail
      refine HD.out.mono fun e1 w1 hq1 => ?_
      cases hgl : g l' with
      | none =>
        obtain ⟨o, n, t, a, l, c, rfl, hb1⟩ := SpOut.of_none (by rw [hgl] at hq1; exact hq1)
        have H1 := Lib.hid (And.intro hgl hb1)
        clear hq1 hgl hb1
        go_wp2_with fail
        go_ret2
        obtain ⟨h1, h2, h3, hG, hbw⟩ := H.out
        have hn : inR g cnt sg r = none := by unfold inR; rw [h2, rdK_step_none H1.out.1]
        rw [hn]
        exact ⟨(hbw.trans (H1.out.2.mono hbw.size)).alloc (Nat.le_trans hbw.size H1.out.2.size) _, _, _, _, rfl⟩
      | some q1 =>
        obtain ⟨⟨o, n, t, k⟩, l2⟩ := q1
        obtain ⟨a2, cap2, f2, rfl, hc2, hs2, hf2, hb1⟩ := SpOut.of_some (by rw [hgl] at hq1; exact hq1)
        obtain ⟨z, hz⟩ : ∃ z : Nat, s.size - l2.length = z := ⟨_, rfl⟩
        have hsuf := suffix_at H.out.2.2.1 (HSU.out _ _ _ hgl)
        rw [hz] at hsuf ⊢
        have hzn : ¬ ((z : Int) < 0) := by omega
        have H1 := Lib.hid (And.intro hgl (And.intro hc2 (And.intro hs2 (And.intro hf2 (And.intro hb1 hsuf)))))
        have hstep := fun (ob ob2 : Obj) => And.intro (((H.out.2.2.2.1.below (Nat.le_refl _) hb1).alloc ob).alloc ob2) (And.intro (hs2.below hf2.lt (((Below.refl _ _).alloc (Nat.le_refl _) ob).alloc (by simp) ob2)) (hf2.below hf2.lt (((Below.refl _ _).alloc (Nat.le_refl _) ob).alloc (by simp) ob2)))
        have HSTEP := Lib.hid hstep
        have hlo : w.heap.size ≤ wr.heap.size := H.out.2.2.2.2.size
        have hz1n : z ≤ s.size := hsuf.2
        clear hq1 hgl hc2 hs2 hf2 hb1 hstep hz hsuf
        go_wp2_with (at_builtin; refine append_doc rfl (.tmp 33) (.tmp 35) 23 rfl Try.underlying23 HI.out.1 HI.out.2.1 HI.out.2.2.1 HI.out.2.2.2 rfl rfl (HSTEP.out _ _).1 (d := w1.heap.size + 1) (c := 1) rfl (cell_new1 w1 _ _ _ 0 _ rfl) (cell_new1 w1 _ _ _ 1 _ rfl) (cell_new1 w1 _ _ _ 2 _ rfl) (cell_new1 w1 _ _ _ 3 _ rfl) H1.out.2.1 (HSTEP.out _ _).2.1 (HSTEP.out _ _).2.2 hlo (fun q hq => H.out.2.2.2.1.fresh.lt q hq) (fun q hq => (H.out.2.2.2.1.own_lt q hq).2) (by have := H.out.1; omega) ?_; intro v' w2 fs' hG' hb' hg')
        go_roundw
        case rel =>
          obtain ⟨h1, h2, h3, hG, hbw⟩ := H.out
          obtain ⟨hgl, _, _, _, hb1, hsuf⟩ := H1.out
          refine ⟨j + 1, z, by omega, hz1n, by go_num, rfl, p.app (.cons o n t k .nil), l2, fs', by rw [F.len_app, h1]; rfl, by rw [h2, rdK_step_some hgl, hm'], hsuf.1, hG', ?_⟩
          exact (((hbw.trans (hb1.mono hbw.size)).alloc (Nat.le_trans hbw.size hb1.size) _).alloc (by have := hb1.size; have := hbw.size; simp; omega) _).trans hb'
        case measure => simp [intOf]; omega
    · obtain rfl : j = cnt := by omega
      rw [Nat.sub_self] at h2
      have hK : rdK g j r = some (p, l') := by rw [h2]; simp [rdK, contK, F.app_nil]
      have H := Lib.hid (And.intro h1 (And.intro hK (And.intro hG (And.intro hbw (And.intro hsv hcv)))))
      cases hl : l' with
      | nil =>
        have hend := at_nil (h3.trans hl)
        have HN := Lib.hid (show inR g j sg r = none by unfold inR; rw [hK, hl])
        clear h1 h2 hK hG hbw hsv hcvm hcv h3 hl
        go_wp2_with fail
        go_ret2
        rw [HN.out]
        exact ⟨H.out.2.2.2.1, _, _, _, rfl⟩
      | cons c r2 =>
        obtain ⟨hlt, hc, hr2, hsz⟩ := at_cons (h3.trans hl)
        by_cases hcs : c = sg
        · have hb : ((s[pp].toNat : Int) != (sg.toNat : Int)) = false := by rw [hc, hcs]; simp
          have hin : inR g j sg r = some (p, r2) := by unfold inR; rw [hK, hl]; simp [hcs]
          have HN := Lib.hid (And.intro hin (show s.size - r2.length = pp + 1 by omega))
          clear h1 h2 hK hG hbw hsv hcvm hcv h3 hl hc hr2 hsz hcs hin
          go_wp2_with fail
          go_ret2
          obtain ⟨h1, hK, hG, hbw, hsv, hcv⟩ := H.out
          rw [HN.out.1]
          exact ⟨hbw, av, cv, fs, by rw [HN.out.2]; rfl, hcv, hsv, hG.fresh⟩
        · have hb : ((s[pp].toNat : Int) != (sg.toNat : Int)) = true := by rw [bne_iff_ne, hc]; intro e; exact hcs (UInt8.toNat_inj.1 (by omega))
          have HN := Lib.hid (show inR g j sg r = none by unfold inR; rw [hK, hl]; simp [hcs])
          clear h1 h2 hK hG hbw hsv hcvm hcv h3 hl hc hr2 hsz hcs
          go_wp2_with fail
          go_ret2
          rw [HN.out]
          exact ⟨H.out.2.2.2.1, _, _, _, rfl⟩

end Go.Proofs.Ytjpgnhpfmdjamaa.SpR2

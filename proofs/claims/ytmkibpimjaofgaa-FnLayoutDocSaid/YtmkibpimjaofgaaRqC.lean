import Derived.Test.YtmkibpimjaofgaaRnM
/-
  l4Put, l4Used and l4Rest of the model.
-/
set_option linter.unusedVariables false
set_option linter.unusedSimpArgs false
set_option maxRecDepth 100000
set_option maxHeartbeats 3200000
namespace Go.Proofs.Ytmkibpimjaofgaa.Rq
open Go.RowKit Go.Shelf P1 Cnt CntC Flat Wid ChP Rn Bwd RnM
open LayN (cells2 cells2_len cells2_one)
open LayC (cells2_app)

theorem heap_set {w : World} {b : Nat} {c : Array Value} {T : TypeId} {z : Nat × Nat} (hb : w.heap[b]? = some (.cells c T z)) (o : Nat) (u : Value) : (w.setCell ⟨b, o, none⟩ u).heap[b]? = some (.cells (c.setIfInBounds o u) T z) := by
  simp [World.setCell, Array.getElem?_modify, hb]
theorem own_last {w : World} {B g cap n : Nat} {T : TypeId} {R : List (Int × ByteArray)} {i : Int} {X : ByteArray} (h : w.ownsRow B T 2 (.slice (some ⟨g, 0, none⟩) (n + 1) cap) (n + 1) (cells2 (R ++ [(i, X)]))) (hR : R.length = n) :
    w.cell? ⟨g, n * 2, none⟩ = some (.int .i64 i) ∧ w.cell? ⟨g, n * 2 + 1, none⟩ = some (.string X) ∧ w.frozen? ⟨g, n * 2 + 1, none⟩ = false ∧ g < w.heap.size ∧ B ≤ g ∧ n + 1 ≤ cap ∧
    (∀ u, (w.setCell ⟨g, n * 2 + 1, none⟩ (.string u)).ownsRow B T 2 (.slice (some ⟨g, 0, none⟩) (n + 1) cap) (n + 1) (cells2 (R ++ [(i, u)]))) := by
  have hc := h.cells (g := g) rfl
  have hl : (cells2 R).length = n * 2 := by rw [cells2_len, hR]
  have e : ∀ u, cells2 (R ++ [(i, u)]) = cells2 R ++ [.int .i64 i, .string u] := fun u => by rw [cells2_app]; rfl
  rw [e] at hc
  have h0 := hc (n * 2) (.int .i64 i) (by rw [List.getElem?_append_right (by omega), hl, Nat.sub_self]; rfl)
  have h1 := hc (n * 2 + 1) (.string X) (by rw [List.getElem?_append_right (by omega), hl, show n * 2 + 1 - n * 2 = 1 by omega]; rfl)
  rw [add_at, Nat.zero_add] at h0 h1
  obtain ⟨hlen, hrow⟩ := h
  rcases hrow with ⟨e0, _⟩ | ⟨g', cap', cur, e1, hB, hg, hnc, hcm, hcs, htk⟩
  · cases e0
  · injection e1 with e1 _ e2
    injection e1 with e1
    injection e1 with e1
    subst e1 e2
    refine ⟨h0, h1, frozen_of_row w _ _ _ _ hg, (Array.getElem?_eq_some_iff.1 hg).1, hB, hnc, fun u => ⟨?_, .inr ⟨g, cap, _, rfl, hB, heap_set hg _ _, hnc, hcm, by simpa using hcs, ?_⟩⟩⟩
    · rw [e, List.length_append, hl]; simp; omega
    · rw [Array.toList_setIfInBounds, List.take_set, htk, e, e, List.set_append_right _ _ (by omega), hl, show n * 2 + 1 - n * 2 = 1 by omega]; rfl

theorem l4Used (w : World) {B g cap n : Nat} {R : List (Int × ByteArray)} {i : Int} {X : ByteArray} {vg : Value} (h : w.ownsRow B 74 2 (.slice (some ⟨g, 0, none⟩) (n + 1) cap) (n + 1) (cells2 (R ++ [(i, X)]))) (hR : R.length = n) (hn : n ≤ 1000000) (hi0 : 0 ≤ i) (hi1 : i ≤ 1000000) (hX : X.size ≤ 50000000) (ag : Option Addr) (ng cg : Nat) :
    Calls Try.prog 159 #[.agg #[.slice (some ⟨g, 0, none⟩) (n + 1) cap, .slice ag ng cg]] w fun e w' => e = .returned (.int .i64 (i + (X.size : Int))) ∧ Below w.heap.size w w' := by
  obtain ⟨c0, c1, _, hg, _, hcap, _⟩ := own_last h hR
  have B2 := Lib.hid (show ∀ ob ob', Ext w ((w.alloc ob).alloc ob') from fun ob ob' => ((Ext.refl w).alloc _).alloc _)
  have i0 : (0 : Int) ≤ (n : Int) := Int.natCast_nonneg _
  have i1 : (n : Int) < (n : Int) + 1 := by omega
  clear h
  go_enter Try.func159, Try.ntmps159
  go_wp2_with fail
  go_ret
  exact ⟨rfl, B2.out _ _⟩

def ItS (w0 : World) (B : Nat) (x : Itm) (c : List Value) : Prop := ∃ (a : Option Addr) (cap : Nat), c = [.int .i64 x.i, .int .i64 x.o, .int .i64 x.n, .string x.t, .slice a x.k.len cap] ∧ KidsIn w0 B x.k a cap
theorem ItS.len {w0 : World} {B : Nat} : ∀ (x : Itm) (c : List Value), ItS w0 B x c → c.length = 5 := by
  rintro x c ⟨a, cap, rfl, _⟩; rfl
theorem stack_at {w0 w : World} {B : Nat} {T : TypeId} {lo : Nat} {x : Itm} {st : List Itm} : ∀ (p : List Itm) (v : Value), StackG (ItS w0 B) 5 w T lo v (p ++ x :: st) →
    ∃ g cap c, v = .slice (some ⟨g, 0, none⟩) (p ++ x :: st).length cap ∧ g < w.heap.size ∧ lo ≤ g ∧ (p ++ x :: st).length ≤ cap ∧ ItS w0 B x c ∧ (∀ j, j < 5 → w.cell? ⟨g, st.length * 5 + j, none⟩ = c[j]?)
  | [], v, h => by
    obtain ⟨g, cap, c, rfl, h1, h2, h3, _, h5, h6, _⟩ := h.top ItS.len
    exact ⟨g, cap, c, rfl, h2, h1, h3, h5, h6⟩
  | y :: p, v, h => by
    obtain ⟨g, cap, c, rfl, h1, h2, h3, _, h5, h6, h7⟩ := StackG.top ItS.len (x := y) (st := p ++ x :: st) h
    obtain ⟨g', cap', c', e, k2, k1, k3, k5, k6⟩ := stack_at p _ h7
    injection e with e1 e2 e3
    injection e1 with e1
    injection e1 with e1
    subst e1 e3
    exact ⟨g, cap, c', rfl, h2, h1, h3, k5, k6⟩

theorem ldI_cons (x : Itm) (r : List Itm) : ldI (x :: r) = nD x.o x.t x.k + if eD x.o x.k then 0 else ldI r := rfl

theorem l4Rest {w0 w : World} {B lo : Nat} {its : List Itm} {a : Option Addr} {cap : Nat} (hB0 : Below B w0 w) (hB : B ≤ w0.heap.size) (hst : StackG (ItS w0 B) 5 w 166 lo (.slice a its.length cap) its)
    (hlen : its.length ≤ 4194304) (hsz : ∀ x ∈ its, x.t.size + x.k.size ≤ 4194304) (hsum : ldI its ≤ 4194304) :
    Calls Try.prog 161 #[.slice a its.length cap] w fun e w' => e = .returned (.int .i64 (ldI its : Nat)) ∧ Below w.heap.size w w' := by
  have HL := Lib.hid (show ∀ (W : World) (x : Itm), Below w.heap.size w W → x ∈ its → ∀ (ax : Option Addr) (cx : Nat), KidsIn w0 B x.k ax cx → Calls Try.prog 193 #[.agg #[.int .i64 x.o, .int .i64 x.n, .string x.t, .slice ax x.k.len cx]] W fun e w' => e = .returned (.tuple #[.int .i64 ((nD x.o x.t x.k : Nat) : Int), .bool (eD x.o x.k)]) ∧ Below W.heap.size W w' from fun W x hW hx ax cx hk => by
    obtain ⟨hc, fs, hs, hf⟩ := hk
    have hw0 := hB0.size
    exact leads_step W x.o x.n x.t x.k (leadS _ x.k (Nat.le_refl _)) ax cx fs ((hs.below hf hB0).below (fun c hc => by have := hf c hc; omega) hW) (fun c hc => by have := hf c hc; have := hW.size; omega) hc (hsz x hx))
  obtain ⟨N, hN⟩ : ∃ N, its.length = N := ⟨_, rfl⟩
  have HK := Lib.hid (And.intro hst hN)
  obtain ⟨S, hS⟩ : ∃ S, ldI its = S := ⟨_, rfl⟩
  have HS := Lib.hid hS
  rw [hS] at hsum ⊢
  rw [hN] at hlen ⊢
  clear hst hsz hN hS
  go_enter Try.func161, Try.ntmps161
  go_wp2_with fail
  go_loopw [3, 4, 5, 6] (fun s i u v wr => ∃ (q L : Nat) (p r : List Itm), its = p ++ r ∧ r.length = q ∧ s = .int .i64 (L : Int) ∧ i = .int .i64 ((q : Int) - 1) ∧ L + ldI r = S ∧ Below w.heap.size w wr) (fun _ i _ _ _ => (intOf i + 1).toNat)
  case atStart => exact ⟨N, 0, [], its, rfl, HK.out.2, rfl, rfl, by rw [HS.out]; omega, Below.refl _ _⟩
  case round =>
    obtain ⟨q, L, p, r, hsp, hrl, rfl, rfl, hL, hbw⟩ := hrel
    cases r with
    | nil =>
      obtain rfl : q = 0 := by simpa using hrl.symm
      rw [show ((0 : Nat) : Int) - 1 = -1 by omega]
      have HB := Lib.hid (And.intro hbw (show L = S by simpa [ldI] using hL))
      clear hbw hL hsp hrl
      go_wp2_with fail
      go_ret
      exact ⟨by rw [HB.out.2]; rfl, HB.out.1⟩
    | cons x r =>
      obtain ⟨q, rfl⟩ : ∃ q', q = q' + 1 := ⟨r.length, by simpa using hrl.symm⟩
      rw [show ((q + 1 : Nat) : Int) - 1 = (q : Int) by omega]
      have hrl2 : r.length = q := by simpa using hrl
      obtain ⟨hst, hN⟩ := HK.out
      have hqN : q + 1 ≤ N := by rw [← hN, hsp]; simp; omega
      rw [hsp] at hst
      obtain ⟨g, cap', c, e, hgl, _, hcl, ⟨a1, cap1, rfl, hkid⟩, hcell⟩ := stack_at p _ hst
      injection e with e1 e2 e3
      subst e1 e3
      rw [hrl2] at hcell
      rw [← hsp, hN] at hcl
      have d1 := hcell 1 (by omega)
      have d2 := hcell 2 (by omega)
      have d3 := hcell 3 (by omega)
      have d4 := hcell 4 (by omega)
      have hgw : ∀ o, wr.cell? ⟨g, o, none⟩ = w.cell? ⟨g, o, none⟩ := fun o => hbw.cell (p := ⟨g, o, none⟩) hgl
      rw [← hgw] at d1 d2 d3 d4
      simp only [List.getElem?_cons_zero, List.getElem?_cons_succ] at d1 d2 d3 d4
      rw [ldI_cons] at hL
      have hcall := HL.out wr x hbw (by rw [hsp]; simp) a1 cap1 hkid
      have i0 : (0 : Int) ≤ (q : Int) := Int.natCast_nonneg _
      have i1 : (q : Int) < (N : Int) := by omega
      have HSP := Lib.hid (show its = (p ++ [x]) ++ r by rw [hsp]; simp)
      have HRL := Lib.hid hrl2
      obtain ⟨Z, hZ⟩ : ∃ Z, nD x.o x.t x.k = Z := ⟨_, rfl⟩
      rw [hZ] at hcall hL
      cases he : eD x.o x.k with
      | true =>
        rw [he] at hcall hL
        have HL2 := Lib.hid (show L + Z = S by simpa using hL)
        have hLZ : L + Z ≤ 4194304 := by have := HL2.out; omega
        have HC := Lib.hid hcall
        have HB := Lib.hid hbw
        clear hcall hL hbw hgw hst hkid hcell hsp hrl hrl2 hZ he hcl
        go_wp2_with fail
        refine HC.out.mono ?_
        rintro e1 w1 ⟨rfl, hb1⟩
        have H1 := Lib.hid (HB.out.trans (hb1.mono HB.out.size))
        clear hb1
        go_wp2_with fail
        go_ret
        refine ⟨?_, H1.out⟩
        rw [← HL2.out]; simp
      | false =>
        rw [he] at hcall hL
        have HL2 := Lib.hid (show L + Z + ldI r = S by simp at hL; omega)
        have hLZ : L + Z ≤ 4194304 := by have := HL2.out; omega
        have HC := Lib.hid hcall
        have HB := Lib.hid hbw
        clear hcall hL hbw hgw hst hkid hcell hsp hrl hrl2 hZ he hcl
        go_wp2_with fail
        refine HC.out.mono ?_
        rintro e1 w1 ⟨rfl, hb1⟩
        have H1 := Lib.hid (HB.out.trans (hb1.mono HB.out.size))
        clear hb1
        go_wp2_with fail
        go_roundw
        case rel => exact ⟨q, L + Z, p ++ [x], r, HSP.out, HRL.out, by simp, by go_num, HL2.out, H1.out⟩
        case measure => simp [intOf]

theorem l4Put (w : World) {B g cap n : Nat} {R : List (Int × ByteArray)} {i : Int} {X Y : ByteArray} (h : w.ownsRow B 74 2 (.slice (some ⟨g, 0, none⟩) (n + 1) cap) (n + 1) (cells2 (R ++ [(i, X)]))) (hR : R.length = n) (hn : n ≤ 1000000) (hX : X.size ≤ 50000000) (hY : Y.size ≤ 50000000) (ag : Option Addr) (ng cg : Nat) :
    Calls Try.prog 158 #[.agg #[.slice (some ⟨g, 0, none⟩) (n + 1) cap, .slice ag ng cg], .string Y] w fun e w' => e = .returned (.agg #[.slice (some ⟨g, 0, none⟩) (n + 1) cap, .slice ag ng cg]) ∧ w'.ownsRow B 74 2 (.slice (some ⟨g, 0, none⟩) (n + 1) cap) (n + 1) (cells2 (R ++ [(i, X ++ Y)])) ∧ w.grownBy w' (some g) := by
  obtain ⟨c0, c1, f1, hg, hBg, hcap, hset⟩ := own_last h hR
  have i0 : (0 : Int) ≤ (n : Int) := Int.natCast_nonneg _
  have i1 : (n : Int) < (n : Int) + 1 := by omega
  have HSET := Lib.hid (hset (X ++ Y))
  clear h hset
  have hsum : ¬ (9223372036854775807 < X.size + Y.size) := by omega
  go_enter Try.func158, Try.ntmps158
  go_wp2_with fail
  go_region
  go_wp2_with fail
  obtain ⟨V, hV⟩ : ∃ V, (((w.setCell ⟨g, n * 2 + 1, none⟩ (.string (X ++ Y))).alloc (.cells #[.slice (some ⟨g, 0, none⟩) (n + 1) cap, .slice ag ng cg] 121)).alloc (.cells #[.slice (some ⟨g, 0, none⟩) (n + 1) cap, .slice ag ng cg] 121)).drew = V := ⟨_, rfl⟩
  have y : V.cell? ⟨w.heap.size + 1, 0, none⟩ = some (.slice (some ⟨g, 0, none⟩) (n + 1) cap) ∧ V.cell? ⟨w.heap.size + 1, 1, none⟩ = some (.slice ag ng cg) := by
    rw [← hV]
    have e : ((w.setCell ⟨g, n * 2 + 1, none⟩ (.string (X ++ Y))).alloc (.cells #[.slice (some ⟨g, 0, none⟩) (n + 1) cap, .slice ag ng cg] 121)).heap.size = w.heap.size + 1 := by simp
    refine ⟨?_, ?_⟩
    · show World.cell? (World.alloc _ _) _ = _
      rw [← e, World.cell?_alloc_new]; rfl
    · show World.cell? (World.alloc _ _) _ = _
      rw [← e, World.cell?_alloc_new]; rfl
  have hown : V.ownsRow B 74 2 (.slice (some ⟨g, 0, none⟩) (n + 1) cap) (n + 1) (cells2 (R ++ [(i, X ++ Y)])) := by rw [← hV]; exact (HSET.out.alloc _).alloc _
  have hgr : w.grownBy V (some g) := by
    rw [← hV]
    refine ⟨rfl, rfl, rfl, by simp; omega, fun k hk hne => ?_⟩
    show (World.alloc _ _).heap[k]? = _
    rw [Below.heap_alloc _ _ _ (by simp; omega), Below.heap_alloc _ _ _ (by simp; omega)]
    exact Below.heap_setCell _ _ _ _ (fun e => hne (by simp [e]))
  rw [hV]
  clear hV
  refine bodyPost_ret (v := .agg #[.slice (some ⟨g, 0, none⟩) (n + 1) cap, .slice ag ng cg]) (by simp [results, Try.results158, go_sem, y.1, y.2]) rfl ?_
  exact ⟨rfl, hown, hgr⟩

end Go.Proofs.Ytmkibpimjaofgaa.Rq

namespace Go.Proofs.Ytmkibpimjaofgaa.Rq
open Go.RowKit Go.Shelf P1 Cnt CntC Flat Wid ChP Rn Bwd RnM
open LayN (cells2 cells2_len cells2_one)
open LayC (cells2_app)

structure RQ (w0 : World) (B sb : Nat) (its : List Itm) (s : St) (g cap : Nat) (ag : Option Addr) (cg : Nat) (v6 : Value) (w : World) : Prop where
  box : w.heap[sb]? = some (.cells #[.slice (some ⟨g, 0, none⟩) (s.rows.length + 1) cap, .slice ag s.flags.length cg] 121 (0, 0))
  rows : w.ownsRow B 74 2 (.slice (some ⟨g, 0, none⟩) (s.rows.length + 1) cap) (s.rows.length + 1) (cells2 (s.rows ++ [(s.ind, s.txt)]))
  flags : w.ownsRow B 4 1 (.slice ag s.flags.length cg) s.flags.length (s.flags.map Value.bool)
  rest : StackG (ItS w0 B) 5 w 166 B v6 its
  le : B ≤ sb

section
variable {w0 w w' : World} {B sb : Nat} {its : List Itm} {s : St} {g cap : Nat} {ag : Option Addr} {cg : Nat} {v6 : Value}
theorem RQ.grown (h : RQ w0 B sb its s g cap ag cg v6 w) (k : w.grownBy w' none) : RQ w0 B sb its s g cap ag cg v6 w' :=
  ⟨(k.block _ (Array.getElem?_eq_some_iff.1 h.box).1 (by simp)).trans h.box, h.rows.kept k (own_or (by simp)), h.flags.kept k (own_or (by simp)), h.rest.kept k (own_or (by simp)), h.le⟩
theorem RQ.below (h : RQ w0 B sb its s g cap ag cg v6 w) (k : Below w.heap.size w w') : RQ w0 B sb its s g cap ag cg v6 w' := h.grown (BufQ.grown_below k)
theorem RQ.lt (h : RQ w0 B sb its s g cap ag cg v6 w) : sb < w.heap.size := (Array.getElem?_eq_some_iff.1 h.box).1
theorem RQ.cells (h : RQ w0 B sb its s g cap ag cg v6 w) : w.cell? ⟨sb, 0, none⟩ = some (.slice (some ⟨g, 0, none⟩) (s.rows.length + 1) cap) ∧ w.cell? ⟨sb, 1, none⟩ = some (.slice ag s.flags.length cg) ∧ w.frozen? ⟨sb, 0, none⟩ = false ∧ w.frozen? ⟨sb, 1, none⟩ = false := by
  refine ⟨?_, ?_, BufQ.heap_frozen h.box 0, BufQ.heap_frozen h.box 1⟩ <;> (simp only [World.cell?, h.box]; rfl)
theorem keep_row {T T' : TypeId} {n m : Nat} {v : Value} {xs : List Value} {row : Option Nat} (h : w.ownsRow B T n v m xs) (hg : w.grownBy w' row) (hrow : ∀ q, row = some q → ∃ c, w.heap[q]? = some (.cells c T' (0, 0))) (hT : T ≠ T') : w'.ownsRow B T n v m xs :=
  h.kept hg (own_or fun q e => by obtain ⟨c, hc⟩ := hrow q e; exact RnM.own_ne h hc hT)
theorem keep_box {T : TypeId} {c : Array Value} {row : Option Nat} {b : Nat} (h : w.heap[b]? = some (.cells c T (0, 0))) {T' : TypeId} (hg : w.grownBy w' row) (hrow : ∀ q, row = some q → ∃ c, w.heap[q]? = some (.cells c T' (0, 0))) (hT : T ≠ T') : w'.heap[b]? = some (.cells c T (0, 0)) :=
  (hg.block _ (Array.getElem?_eq_some_iff.1 h).1 (fun e => by
    obtain ⟨c', hc⟩ := hrow b e.symm
    rw [h] at hc; injection hc with hc; injection hc with _ hc; exact hT hc)).trans h
theorem keep_stack {α : Type} {CV : α → List Value → Prop} {T T' : TypeId} {n : Nat} {v : Value} {st : List α} {row : Option Nat} (h : StackG CV n w T B v st) (hg : w.grownBy w' row) (hrow : ∀ q, row = some q → ∃ c, w.heap[q]? = some (.cells c T' (0, 0))) (hT : T ≠ T') : StackG CV n w' T B v st := by
  obtain ⟨xs, x1, x2⟩ := h
  exact ⟨xs, keep_row x1 hg hrow hT, x2⟩
theorem set_row {T : TypeId} {n m b : Nat} {v : Value} {xs : List Value} {c : Array Value} {T' : TypeId} (h : w.ownsRow B T n v m xs) (hb : w.heap[b]? = some (.cells c T' (0, 0))) (hT : T ≠ T') (o : Nat) (u : Value) : (w.setCell ⟨b, o, none⟩ u).ownsRow B T n v m xs :=
  h.kept (grown_set w b o u) (own_or (fun k e => by cases e; exact RnM.own_ne h hb hT))
theorem set_stack {α : Type} {CV : α → List Value → Prop} {T : TypeId} {n b : Nat} {v : Value} {st : List α} {c : Array Value} {T' : TypeId} (h : StackG CV n w T B v st) (hb : w.heap[b]? = some (.cells c T' (0, 0))) (hT : T ≠ T') (o : Nat) (u : Value) : StackG CV n (w.setCell ⟨b, o, none⟩ u) T B v st := by
  obtain ⟨xs, x1, x2⟩ := h
  exact ⟨xs, set_row x1 hb hT o u, x2⟩
theorem tn1 : 74 ≠ 4 := by decide
theorem tn2 : 74 ≠ 166 := by decide
theorem tn3 : 4 ≠ 166 := by decide
theorem tn4 : 74 ≠ 121 := by decide
theorem tn5 : 4 ≠ 121 := by decide
theorem tn6 : 166 ≠ 121 := by decide

theorem RQ.put (h : RQ w0 B sb its s g cap ag cg v6 w) {Y : ByteArray} (ho : w'.ownsRow B 74 2 (.slice (some ⟨g, 0, none⟩) (s.rows.length + 1) cap) (s.rows.length + 1) (cells2 (s.rows ++ [(s.ind, s.txt ++ Y)]))) (hg : w.grownBy w' (some g)) : RQ w0 B sb its (s.put Y) g cap ag cg v6 w' := by
  have hrow : ∀ q, some g = some q → ∃ c, w.heap[q]? = some (.cells c 74 (0, 0)) := fun q e => by cases e; exact own_block h.rows _ rfl
  exact ⟨keep_box h.box hg hrow (Ne.symm tn4), ho, keep_row h.flags hg hrow (Ne.symm tn1), keep_stack h.rest hg hrow (Ne.symm tn2), h.le⟩
theorem RQ.same (h : RQ w0 B sb its s g cap ag cg v6 w) : RQ w0 B sb its s g cap ag cg v6 ((w.setCell ⟨sb, 0, none⟩ (.slice (some ⟨g, 0, none⟩) (s.rows.length + 1) cap)).setCell ⟨sb, 1, none⟩ (.slice ag s.flags.length cg)) := by
  have hb1 := heap_set h.box 0 (.slice (some ⟨g, 0, none⟩) (s.rows.length + 1) cap)
  have hb2 := heap_set hb1 1 (.slice ag s.flags.length cg)
  refine ⟨hb2, set_row (set_row h.rows h.box tn4 0 _) hb1 tn4 1 _, set_row (set_row h.flags h.box tn5 0 _) hb1 tn5 1 _, set_stack (set_stack h.rest h.box tn6 0 _) hb1 tn6 1 _, h.le⟩
theorem RQ.line (h : RQ w0 B sb its s g cap ag cg v6 w) {o : Obj} {i : Int} {g' cap' : Nat} {w3 : World} (hg : (w.alloc o).grownBy w3 (Value.slice (some ⟨g, 0, none⟩) (s.rows.length + 1) cap).ownBlock) (ho : w3.ownsRow B 74 2 (.slice (some ⟨g', 0, none⟩) (s.rows.length + 1 + 1) cap') (s.rows.length + 1 + 1) (cells2 (s.rows ++ [(s.ind, s.txt)]) ++ [.int .i64 i, .string ⟨#[]⟩])) :
    RQ w0 B sb its (s.line i) g' cap' ag cg v6 (w3.setCell ⟨sb, 0, none⟩ (.slice (some ⟨g', 0, none⟩) (s.rows.length + 1 + 1) cap')) := by
  have h1 := h.below ((Below.refl w.heap.size w).alloc (Nat.le_refl _) o)
  have hrow := own_block h1.rows
  have hb := keep_box h1.box hg hrow (Ne.symm tn4)
  have hl : (s.line i).rows.length = s.rows.length + 1 := by simp [St.line]
  have hc : cells2 ((s.line i).rows ++ [((s.line i).ind, (s.line i).txt)]) = cells2 (s.rows ++ [(s.ind, s.txt)]) ++ [.int .i64 i, .string ⟨#[]⟩] := by
    show cells2 ((s.rows ++ [(s.ind, s.txt)]) ++ [(i, ⟨#[]⟩)]) = _
    rw [cells2_app]; rfl
  refine ⟨?_, ?_, set_row (keep_row h1.flags hg hrow (Ne.symm tn1)) hb tn5 0 _, set_stack (keep_stack h1.rest hg hrow (Ne.symm tn2)) hb tn6 0 _, h.le⟩
  · rw [heap_set hb, hl]; rfl
  · rw [hl, hc]; exact set_row ho hb tn4 0 _
theorem RQ.flag (h : RQ w0 B sb its s g cap ag cg v6 w) {o : Obj} {x : Bool} {g' cap' : Nat} {w3 : World} (hg : (w.alloc o).grownBy w3 (Value.slice ag s.flags.length cg).ownBlock) (ho : w3.ownsRow B 4 1 (.slice (some ⟨g', 0, none⟩) (s.flags.length + 1) cap') (s.flags.length + 1) (s.flags.map Value.bool ++ [.bool x])) :
    RQ w0 B sb its (s.flag x) g cap (some ⟨g', 0, none⟩) cap' v6 (w3.setCell ⟨sb, 1, none⟩ (.slice (some ⟨g', 0, none⟩) (s.flags.length + 1) cap')) := by
  have h1 := h.below ((Below.refl w.heap.size w).alloc (Nat.le_refl _) o)
  have hrow := own_block h1.flags
  have hb := keep_box h1.box hg hrow (Ne.symm tn5)
  have hl : (s.flag x).flags.length = s.flags.length + 1 := by simp [St.flag]
  have hc : (s.flag x).flags.map Value.bool = s.flags.map Value.bool ++ [.bool x] := by simp [St.flag]
  refine ⟨?_, set_row (keep_row h1.rows hg hrow tn1) hb tn4 1 _, ?_, set_stack (keep_stack h1.rest hg hrow (Ne.symm tn3)) hb tn6 1 _, h.le⟩
  · rw [heap_set hb, hl]; rfl
  · rw [hl, hc]; exact set_row ho hb tn5 1 _
theorem RQ.push (h : RQ w0 B sb its s g cap ag cg v6 w) {o : Obj} {w3 : World} (hg : (w.alloc o).grownBy w3 v6.ownBlock) {v' : Value} {its' : List Itm} (ho : StackG (ItS w0 B) 5 w3 166 B v' its') : RQ w0 B sb its' s g cap ag cg v' w3 := by
  have h1 := h.below ((Below.refl w.heap.size w).alloc (Nat.le_refl _) o)
  obtain ⟨xs, x1, x2⟩ := h1.rest
  have hrow := own_block x1
  exact ⟨keep_box h1.box hg hrow (Ne.symm tn6), keep_row h1.rows hg hrow tn2, keep_row h1.flags hg hrow tn3, ho, h.le⟩
theorem RQ.pop {x : Itm} {r : List Itm} (h : RQ w0 B sb (x :: r) s g cap ag cg v6 w) : ∃ (gi cp : Nat) (a : Option Addr) (c : Nat), v6 = .slice (some ⟨gi, 0, none⟩) (r.length + 1) cp ∧ gi < w.heap.size ∧ r.length + 1 ≤ cp ∧ KidsIn w0 B x.k a c ∧
    (w.cell? ⟨gi, r.length * 5, none⟩ = some (.int .i64 x.i) ∧ w.cell? ⟨gi, r.length * 5 + 1, none⟩ = some (.int .i64 x.o) ∧ w.cell? ⟨gi, r.length * 5 + 2, none⟩ = some (.int .i64 x.n) ∧ w.cell? ⟨gi, r.length * 5 + 3, none⟩ = some (.string x.t) ∧ w.cell? ⟨gi, r.length * 5 + 4, none⟩ = some (.slice a x.k.len c)) ∧
    RQ w0 B sb r s g cap ag cg (.slice (some ⟨gi, 0, none⟩) r.length cp) w := by
  obtain ⟨gi, cp, c, hr, h1, h2, h3, _, ⟨a, ca, rfl, hkid⟩, h5, h6⟩ := StackG.top ItS.len h.rest
  have d0 := h5 0 (by omega)
  have d1 := h5 1 (by omega)
  have d2 := h5 2 (by omega)
  have d3 := h5 3 (by omega)
  have d4 := h5 4 (by omega)
  simp only [List.getElem?_cons_zero, List.getElem?_cons_succ, Nat.add_zero] at d0 d1 d2 d3 d4
  exact ⟨gi, cp, a, ca, hr, h2, h3, hkid, ⟨d0, d1, d2, d3, d4⟩, h.box, h.rows, h.flags, h6, h.le⟩
end

def XB (xb : Nat) (x : Itm) (a : Option Addr) (c : Nat) (w : World) : Prop := w.heap[xb]? = some (.cells #[.int .i64 x.i, .int .i64 x.o, .int .i64 x.n, .string x.t, .slice a x.k.len c] 166 (0, 0))
theorem XB.cells {xb : Nat} {x : Itm} {a : Option Addr} {c : Nat} {w : World} (h : XB xb x a c w) : w.cell? ⟨xb, 0, none⟩ = some (.int .i64 x.i) ∧ w.cell? ⟨xb, 1, none⟩ = some (.int .i64 x.o) ∧ w.cell? ⟨xb, 2, none⟩ = some (.int .i64 x.n) ∧ w.cell? ⟨xb, 3, none⟩ = some (.string x.t) ∧ w.cell? ⟨xb, 4, none⟩ = some (.slice a x.k.len c) := by
  have h' : w.heap[xb]? = _ := h
  refine ⟨?_, ?_, ?_, ?_, ?_⟩ <;> (simp only [World.cell?, h']; rfl)
theorem XB.ext {xb : Nat} {x : Itm} {a : Option Addr} {c : Nat} {w w' : World} (h : XB xb x a c w) (k : Below w.heap.size w w') : XB xb x a c w' := (k.block _ (Array.getElem?_eq_some_iff.1 h).1).trans h
theorem XB.grown {xb : Nat} {x : Itm} {a : Option Addr} {c : Nat} {w w' : World} (h : XB xb x a c w) {row : Option Nat} (hg : w.grownBy w' row) (hne : row ≠ some xb) : XB xb x a c w' := (hg.block _ (Array.getElem?_eq_some_iff.1 h).1 (fun e => hne e.symm)).trans h
theorem XB.set {xb : Nat} {x : Itm} {a : Option Addr} {c : Nat} {w : World} (h : XB xb x a c w) {b : Nat} (hb : xb ≠ b) (o : Nat) (u : Value) : XB xb x a c (w.setCell ⟨b, o, none⟩ u) := (Below.heap_setCell _ _ _ _ hb).trans h
def RunOut (w : World) (s : St) (e : Ending) (w' : World) : Prop := ∃ (g cap : Nat) (ag : Option Addr) (cg : Nat), e = .returned (.agg #[.slice (some ⟨g, 0, none⟩) (s.rows.length + 1) cap, .slice ag s.flags.length cg]) ∧
  w'.ownsRow w.heap.size 74 2 (.slice (some ⟨g, 0, none⟩) (s.rows.length + 1) cap) (s.rows.length + 1) (cells2 s.fin) ∧ w'.ownsRow w.heap.size 4 1 (.slice ag s.flags.length cg) s.flags.length (s.flags.map Value.bool) ∧ Below w.heap.size w w'

end Go.Proofs.Ytmkibpimjaofgaa.Rq


import Derived.Test.YtjcaiecapapceaaGreatRnE
/-
 l4Put, l4Used and l4Rest of the model.
-/
set_option linter.unusedVariables false
set_option linter.unusedSimpArgs false
set_option maxRecDepth 100000
set_option maxHeartbeats 25600000
namespace Go.Proofs.YtjcaiecapapceaaGreat.Rq
theorem zpgRcX {α : Type} : (∀ (l : List α) (i : Nat) (h : i < l.toArray.size), l.toArray[i]'h = l[i]'(by simpa using h)) ∧ (∀ (x : α) (l : List α) (h : 0 < (x :: l).length), (x :: l)[0]'h = x) ∧ (∀ (x : α) (l : List α) (i : Nat) (h : i + 1 < (x :: l).length), (x :: l)[i + 1]'h = l[i]'(by simpa using h)) := ⟨fun _ _ _ => rfl, fun _ _ _ => rfl, fun _ _ _ _ => rfl⟩
open Go.RowKit Go.Shelf P1 Cnt CntC Flat Wid ChP Rn Bwd RnM
open LayN (cells2 cells2_len cells2_one)
open LayC (cells2_app)
theorem heap_set {w : World} {b : Nat} {c : Array Value} {T : TypeId} {z : Nat × Nat} (hb : w.heap[b]? = some (.cells c T z)) (o : Nat) (u : Value) : (w.setCell ⟨b, o, none⟩ u).heap[b]? = some (.cells (c.setIfInBounds o u) T z) := by
 simp [World.setCell, Array.getElem?_modify, hb]
theorem own_last {w : World} {B g cap n : Nat} {T : TypeId} {R : List (Int × ByteArray)} {i : Int} {X : ByteArray} (h : w.ownsRow B T 2 (.slice (some ⟨g, 0, none⟩) (n + 1) cap) (n + 1) (cells2 (R ++ [(i, X)]))) (hR : R.length = n) :
  w.cell? ⟨g, n * 2, none⟩ = some (.int .i64 i) ∧ w.cell? ⟨g, n * 2 + 1, none⟩ = some (.string X) ∧ w.frozen? ⟨g, n * 2 + 1, none⟩ = false ∧ g < w.heap.size ∧ B ≤ g ∧ n + 1 ≤ cap ∧
  (∀ u, (w.setCell ⟨g, n * 2 + 1, none⟩ (.string u)).ownsRow B T 2 (.slice (some ⟨g, 0, none⟩) (n + 1) cap) (n + 1) (cells2 (R ++ [(i, u)]))) := by
 have hc := h.cells (g := g) rfl
 have hl : (cells2 R).length = n * 2 := by rw [cells2_len, hR]
 have e : ∀ u, cells2 (R ++ [(i, u)]) = cells2 R ++ [.int .i64 i, .string u] := fun u => by rw [cells2_app]; rfl
 rw [e] at hc
 have h0 := hc (n * 2) (.int .i64 i) (by rw [List.getElem?_append_right (by omega), hl, Nat.sub_self]; rfl)
 have h1 := hc (n * 2 + 1) (.string X) (by rw [List.getElem?_append_right (by omega), hl, show n * 2 + 1 - n * 2 = 1 by omega]; rfl)
 rw [add_at, Nat.zero_add] at h0 h1
 obtain ⟨hlen, hrow⟩ := h
 rcases hrow with ⟨e0, _⟩ | ⟨g', cap', cur, e1, hB, hg, hnc, hcm, hcs, htk⟩
 ·cases e0
 ·injection e1 with e1 _ e2
  injection e1 with e1
  injection e1 with e1
  subst e1 e2
  refine ⟨h0, h1, frozen_of_row w _ _ _ _ hg, (Array.getElem?_eq_some_iff.1 hg).1, hB, hnc, fun u => ⟨?_, .inr ⟨g, cap, _, rfl, hB, heap_set hg _ _, hnc, hcm, by simpa using hcs, ?_⟩⟩⟩
  ·rw [e, List.length_append, hl]; simp; omega
  ·rw [Array.toList_setIfInBounds, List.take_set, htk, e, e, List.set_append_right _ _ (by omega), hl, show n * 2 + 1 - n * 2 = 1 by omega]; rfl
theorem l4Used (w : World) {B g cap n : Nat} {R : List (Int × ByteArray)} {i : Int} {X : ByteArray} {vg : Value} (h : w.ownsRow B 67 2 (.slice (some ⟨g, 0, none⟩) (n + 1) cap) (n + 1) (cells2 (R ++ [(i, X)]))) (hR : R.length = n) (hn : n ≤ 1000000) (hi0 : 0 ≤ i) (hi1 : i ≤ 1000000) (hX : X.size ≤ 50000000) (ag : Option Addr) (ng cg : Nat) :
  Calls Tryz.prog 87 #[.agg #[.slice (some ⟨g, 0, none⟩) (n + 1) cap, .slice ag ng cg]] w fun e w' => e = .returned (.int .i64 (i + (X.size : Int))) ∧ Below w.heap.size w w' := by
 obtain ⟨c0, c1, _, hg, _, hcap, _⟩ := own_last h hR
 have B2 := Lib.hid (show ∀ ob ob', Ext w ((w.alloc ob).alloc ob') from fun ob ob' => ((Ext.refl w).alloc _).alloc _)
 have i0 : (0 : Int) ≤ (n : Int) := Int.natCast_nonneg _
 have i1 : (n : Int) < (n : Int) + 1 := by omega
 clear h
 go_enter Tryz.func87, Tryz.ntmps87
 go_wp2_with fail
 go_ret
 exact ⟨rfl, B2.out _ _⟩
def ItS (w0 : World) (B : Nat) (x : Itm) (c : List Value) : Prop := ∃ (a : Option Addr) (cap : Nat), c = [.int .i64 x.i, .int .i64 x.o, .int .i64 x.n, .string x.t, .slice a x.k.len cap] ∧ KidsIn w0 B x.k a cap
theorem ItS.len {w0 : World} {B : Nat} : ∀ (x : Itm) (c : List Value), ItS w0 B x c → c.length = 5 := by
 rintro x c ⟨a, cap, rfl, _⟩; rfl
theorem stack_at {w0 w : World} {B : Nat} {T : TypeId} {lo : Nat} {x : Itm} {st : List Itm} : ∀ (p : List Itm) (v : Value), StackG (ItS w0 B) 5 w T lo v (p ++ x :: st) →
  ∃ g cap c, v = .slice (some ⟨g, 0, none⟩) (p ++ x :: st).length cap ∧ g < w.heap.size ∧ lo ≤ g ∧ (p ++ x :: st).length ≤ cap ∧ ItS w0 B x c ∧ (∀ j, j < 5 → w.cell? ⟨g, st.length * 5 + j, none⟩ = c[j]?)
 | [], v, h => by
   obtain ⟨g, cap, c, rfl, h1, h2, h3, _, h5, h6, _⟩ := h.top ItS.len
   exact ⟨g, cap, c, rfl, h2, h1, h3, h5, h6⟩
 | y :: p, v, h => by
   obtain ⟨g, cap, c, rfl, h1, h2, h3, _, h5, h6, h7⟩ := StackG.top ItS.len (x := y) (st := p ++ x :: st) h
   obtain ⟨g', cap', c', e, k2, k1, k3, k5, k6⟩ := stack_at p _ h7
   injection e with e1 e2 e3
   injection e1 with e1
   injection e1 with e1
   subst e1 e3
   exact ⟨g, cap, c', rfl, h2, h1, h3, k5, k6⟩
theorem ldI_cons (x : Itm) (r : List Itm) : ldI (x :: r) = nD x.o x.t x.k + if eD x.o x.k then 0 else ldI r := rfl
theorem l4Rest {w0 w : World} {B lo : Nat} {its : List Itm} {a : Option Addr} {cap : Nat} (hB0 : Below B w0 w) (hB : B ≤ w0.heap.size) (hst : StackG (ItS w0 B) 5 w 112 lo (.slice a its.length cap) its)
  (hlen : its.length ≤ 4194304) (hsz : ∀ x ∈ its, x.t.size + x.k.size ≤ 4194304) (hsum : ldI its ≤ 4194304) :
  Calls Tryz.prog 89 #[.slice a its.length cap] w fun e w' => e = .returned (.int .i64 (ldI its : Nat)) ∧ Below w.heap.size w w' := by
 have HL := Lib.hid (show ∀ (W : World) (x : Itm), Below w.heap.size w W → x ∈ its → ∀ (ax : Option Addr) (cx : Nat), KidsIn w0 B x.k ax cx → Calls Tryz.prog 135 #[.agg #[.int .i64 x.o, .int .i64 x.n, .string x.t, .slice ax x.k.len cx]] W fun e w' => e = .returned (.tuple #[.int .i64 ((nD x.o x.t x.k : Nat) : Int), .bool (eD x.o x.k)]) ∧ Below W.heap.size W w' from fun W x hW hx ax cx hk => by
  obtain ⟨hc, fs, hs, hf⟩ := hk
  have hw0 := hB0.size
  exact leads_step W x.o x.n x.t x.k (leadS _ x.k (Nat.le_refl _)) ax cx fs ((hs.below hf hB0).below (fun c hc => by have := hf c hc; omega) hW) (fun c hc => by have := hf c hc; have := hW.size; omega) hc (hsz x hx))
 obtain ⟨N, hN⟩ : ∃ N, its.length = N := ⟨_, rfl⟩
 have HK := Lib.hid (And.intro hst hN)
 obtain ⟨S, hS⟩ : ∃ S, ldI its = S := ⟨_, rfl⟩
 have HS := Lib.hid hS
 rw [hS] at hsum ⊢
 rw [hN] at hlen ⊢
 clear hst hsz hN hS
 go_enter Tryz.func89, Tryz.ntmps89
 go_wp2_with fail
 go_loopw [3, 4, 5, 6] (fun s i u v wr => ∃ (q L : Nat) (p r : List Itm), its = p ++ r ∧ r.length = q ∧ s = .int .i64 (L : Int) ∧ i = .int .i64 ((q : Int) - 1) ∧ L + ldI r = S ∧ Below w.heap.size w wr) (fun _ i _ _ _ => (intOf i + 1).toNat)
 case atStart => exact ⟨N, 0, [], its, rfl, HK.out.2, rfl, rfl, by rw [HS.out]; omega, Below.refl _ _⟩
 case round =>
  obtain ⟨q, L, p, r, hsp, hrl, rfl, rfl, hL, hbw⟩ := hrel
  cases r with
  | nil =>
    obtain rfl : q = 0 := by simpa using hrl.symm
    rw [show ((0 : Nat) : Int) - 1 = -1 by omega]
    have HB := Lib.hid (And.intro hbw (show L = S by simpa [ldI] using hL))
    clear hbw hL hsp hrl
    go_wp2_with fail
    go_ret
    exact ⟨by rw [HB.out.2]; rfl, HB.out.1⟩
  | cons x r =>
    obtain ⟨q, rfl⟩ : ∃ q', q = q' + 1 := ⟨r.length, by simpa using hrl.symm⟩
    rw [show ((q + 1 : Nat) : Int) - 1 = (q : Int) by omega]
    have hrl2 : r.length = q := by simpa using hrl
    obtain ⟨hst, hN⟩ := HK.out
    have hqN : q + 1 ≤ N := by rw [← hN, hsp]; simp; omega
    rw [hsp] at hst
    obtain ⟨g, cap', c, e, hgl, _, hcl, ⟨a1, cap1, rfl, hkid⟩, hcell⟩ := stack_at p _ hst
    injection e with e1 e2 e3
    subst e1 e3
    rw [hrl2] at hcell
    rw [← hsp, hN] at hcl
    have d1 := hcell 1 (by omega)
    have d2 := hcell 2 (by omega)
    have d3 := hcell 3 (by omega)
    have d4 := hcell 4 (by omega)
    have hgw : ∀ o, wr.cell? ⟨g, o, none⟩ = w.cell? ⟨g, o, none⟩ := fun o => hbw.cell (p := ⟨g, o, none⟩) hgl
    rw [← hgw] at d1 d2 d3 d4
    simp only [List.getElem?_cons_zero, List.getElem?_cons_succ] at d1 d2 d3 d4
    rw [ldI_cons] at hL
    have hcall := HL.out wr x hbw (by rw [hsp]; simp) a1 cap1 hkid
    have i0 : (0 : Int) ≤ (q : Int) := Int.natCast_nonneg _
    have i1 : (q : Int) < (N : Int) := by omega
    have HSP := Lib.hid (show its = (p ++ [x]) ++ r by rw [hsp]; simp)
    have HRL := Lib.hid hrl2
    obtain ⟨Z, hZ⟩ : ∃ Z, nD x.o x.t x.k = Z := ⟨_, rfl⟩
    rw [hZ] at hcall hL
    cases he : eD x.o x.k with
    | true =>
      rw [he] at hcall hL
      have HL2 := Lib.hid (show L + Z = S by simpa using hL)
      have hLZ : L + Z ≤ 4194304 := by have := HL2.out; omega
      have HC := Lib.hid hcall
      have HB := Lib.hid hbw
      clear hcall hL hbw hgw hst hkid hcell hsp hrl hrl2 hZ he hcl
      go_wp2_with fail
      refine HC.out.mono ?_
      rintro e1 w1 ⟨rfl, hb1⟩
      have H1 := Lib.hid (HB.out.trans (hb1.mono HB.out.size))
      clear hb1
      go_wp2_with fail
      go_ret
      refine ⟨?_, H1.out⟩
      rw [← HL2.out]; simp
    | false =>
      rw [he] at hcall hL
      have HL2 := Lib.hid (show L + Z + ldI r = S by simp at hL; omega)
      have hLZ : L + Z ≤ 4194304 := by have := HL2.out; omega
      have HC := Lib.hid hcall
      have HB := Lib.hid hbw
      clear hcall hL hbw hgw hst hkid hcell hsp hrl hrl2 hZ he hcl
      go_wp2_with fail
      refine HC.out.mono ?_
      rintro e1 w1 ⟨rfl, hb1⟩
      have H1 := Lib.hid (HB.out.trans (hb1.mono HB.out.size))
      clear hb1
      go_wp2_with fail
      go_roundw
      case rel => exact ⟨q, L + Z, p ++ [x], r, HSP.out, HRL.out, by simp, by go_num, HL2.out, H1.out⟩
      case measure => simp [intOf]
theorem l4Put (w : World) {B g cap n : Nat} {R : List (Int × ByteArray)} {i : Int} {X Y : ByteArray} (h : w.ownsRow B 67 2 (.slice (some ⟨g, 0, none⟩) (n + 1) cap) (n + 1) (cells2 (R ++ [(i, X)]))) (hR : R.length = n) (hn : n ≤ 1000000) (hX : X.size ≤ 50000000) (hY : Y.size ≤ 50000000) (ag : Option Addr) (ng cg : Nat) :
  Calls Tryz.prog 85 #[.agg #[.slice (some ⟨g, 0, none⟩) (n + 1) cap, .slice ag ng cg], .string Y] w fun e w' => e = .returned (.agg #[.slice (some ⟨g, 0, none⟩) (n + 1) cap, .slice ag ng cg]) ∧ w'.ownsRow B 67 2 (.slice (some ⟨g, 0, none⟩) (n + 1) cap) (n + 1) (cells2 (R ++ [(i, X ++ Y)])) ∧ w.grownBy w' (some g) := by
 obtain ⟨c0, c1, f1, hg, hBg, hcap, hset⟩ := own_last h hR
 have i0 : (0 : Int) ≤ (n : Int) := Int.natCast_nonneg _
 have i1 : (n : Int) < (n : Int) + 1 := by omega
 have HSET := Lib.hid (hset (X ++ Y))
 clear h hset
 have hsum : ¬ (9223372036854775807 < X.size + Y.size) := by omega
 go_enter Tryz.func85, Tryz.ntmps85
 go_wp2_with fail
 go_region
 go_wp2_with fail
 obtain ⟨V, hV⟩ : ∃ V, (((w.setCell ⟨g, n * 2 + 1, none⟩ (.string (X ++ Y))).alloc (.cells #[.slice (some ⟨g, 0, none⟩) (n + 1) cap, .slice ag ng cg] 64)).alloc (.cells #[.slice (some ⟨g, 0, none⟩) (n + 1) cap, .slice ag ng cg] 64)).drew = V := ⟨_, rfl⟩
 have y : V.cell? ⟨w.heap.size + 1, 0, none⟩ = some (.slice (some ⟨g, 0, none⟩) (n + 1) cap) ∧ V.cell? ⟨w.heap.size + 1, 1, none⟩ = some (.slice ag ng cg) := by
  rw [← hV]
  have e : ((w.setCell ⟨g, n * 2 + 1, none⟩ (.string (X ++ Y))).alloc (.cells #[.slice (some ⟨g, 0, none⟩) (n + 1) cap, .slice ag ng cg] 64)).heap.size = w.heap.size + 1 := by simp
  refine ⟨?_, ?_⟩
  ·show World.cell? (World.alloc _ _) _ = _
   rw [← e, World.cell?_alloc_new]; rfl
  ·show World.cell? (World.alloc _ _) _ = _
   rw [← e, World.cell?_alloc_new]; rfl
 have hown : V.ownsRow B 67 2 (.slice (some ⟨g, 0, none⟩) (n + 1) cap) (n + 1) (cells2 (R ++ [(i, X ++ Y)])) := by rw [← hV]; exact (HSET.out.alloc _).alloc _
 have hgr : w.grownBy V (some g) := by
  rw [← hV]
  refine ⟨rfl, rfl, rfl, by simp; omega, fun k hk hne => ?_⟩
  show (World.alloc _ _).heap[k]? = _
  rw [Below.heap_alloc _ _ _ (by simp; omega), Below.heap_alloc _ _ _ (by simp; omega)]
  exact Below.heap_setCell _ _ _ _ (fun e => hne (by simp [e]))
 rw [hV]
 clear hV
 refine bodyPost_ret (v := .agg #[.slice (some ⟨g, 0, none⟩) (n + 1) cap, .slice ag ng cg]) (by simp [results, Tryz.results85, go_sem, y.1, y.2]) rfl ?_
 exact ⟨rfl, hown, hgr⟩
end Go.Proofs.YtjcaiecapapceaaGreat.Rq
namespace Go.Proofs.YtjcaiecapapceaaGreat.Rq
open Go.RowKit Go.Shelf P1 Cnt CntC Flat Wid ChP Rn Bwd RnM
open LayN (cells2 cells2_len cells2_one)
open LayC (cells2_app)
structure RQ (w0 : World) (B sb : Nat) (its : List Itm) (s : St) (g cap : Nat) (ag : Option Addr) (cg : Nat) (v6 : Value) (w : World) : Prop where
 box : w.heap[sb]? = some (.cells #[.slice (some ⟨g, 0, none⟩) (s.rows.length + 1) cap, .slice ag s.flags.length cg] 64 (0, 0))
 rows : w.ownsRow B 67 2 (.slice (some ⟨g, 0, none⟩) (s.rows.length + 1) cap) (s.rows.length + 1) (cells2 (s.rows ++ [(s.ind, s.txt)]))
 flags : w.ownsRow B 4 1 (.slice ag s.flags.length cg) s.flags.length (s.flags.map Value.bool)
 rest : StackG (ItS w0 B) 5 w 112 B v6 its
 le : B ≤ sb
section
variable {w0 w w' : World} {B sb : Nat} {its : List Itm} {s : St} {g cap : Nat} {ag : Option Addr} {cg : Nat} {v6 : Value}
theorem RQ.grown (h : RQ w0 B sb its s g cap ag cg v6 w) (k : w.grownBy w' none) : RQ w0 B sb its s g cap ag cg v6 w' :=
 ⟨(k.block _ (Array.getElem?_eq_some_iff.1 h.box).1 (by simp)).trans h.box, h.rows.kept k (own_or (by simp)), h.flags.kept k (own_or (by simp)), h.rest.kept k (own_or (by simp)), h.le⟩
theorem RQ.below (h : RQ w0 B sb its s g cap ag cg v6 w) (k : Below w.heap.size w w') : RQ w0 B sb its s g cap ag cg v6 w' := h.grown (BufQ.grown_below k)
theorem RQ.lt (h : RQ w0 B sb its s g cap ag cg v6 w) : sb < w.heap.size := (Array.getElem?_eq_some_iff.1 h.box).1
theorem RQ.cells (h : RQ w0 B sb its s g cap ag cg v6 w) : w.cell? ⟨sb, 0, none⟩ = some (.slice (some ⟨g, 0, none⟩) (s.rows.length + 1) cap) ∧ w.cell? ⟨sb, 1, none⟩ = some (.slice ag s.flags.length cg) ∧ w.frozen? ⟨sb, 0, none⟩ = false ∧ w.frozen? ⟨sb, 1, none⟩ = false := by
 refine ⟨?_, ?_, BufQ.heap_frozen h.box 0, BufQ.heap_frozen h.box 1⟩ <;> (simp only [World.cell?, h.box]; rfl)
theorem keep_row {T T' : TypeId} {n m : Nat} {v : Value} {xs : List Value} {row : Option Nat} (h : w.ownsRow B T n v m xs) (hg : w.grownBy w' row) (hrow : ∀ q, row = some q → ∃ c, w.heap[q]? = some (.cells c T' (0, 0))) (hT : T ≠ T') : w'.ownsRow B T n v m xs :=
 h.kept hg (own_or fun q e => by obtain ⟨c, hc⟩ := hrow q e; exact RnM.own_ne h hc hT)
theorem keep_box {T : TypeId} {c : Array Value} {row : Option Nat} {b : Nat} (h : w.heap[b]? = some (.cells c T (0, 0))) {T' : TypeId} (hg : w.grownBy w' row) (hrow : ∀ q, row = some q → ∃ c, w.heap[q]? = some (.cells c T' (0, 0))) (hT : T ≠ T') : w'.heap[b]? = some (.cells c T (0, 0)) :=
 (hg.block _ (Array.getElem?_eq_some_iff.1 h).1 (fun e => by
  obtain ⟨c', hc⟩ := hrow b e.symm
  rw [h] at hc; injection hc with hc; injection hc with _ hc; exact hT hc)).trans h
theorem keep_stack {α : Type} {CV : α → List Value → Prop} {T T' : TypeId} {n : Nat} {v : Value} {st : List α} {row : Option Nat} (h : StackG CV n w T B v st) (hg : w.grownBy w' row) (hrow : ∀ q, row = some q → ∃ c, w.heap[q]? = some (.cells c T' (0, 0))) (hT : T ≠ T') : StackG CV n w' T B v st := by
 obtain ⟨xs, x1, x2⟩ := h
 exact ⟨xs, keep_row x1 hg hrow hT, x2⟩
theorem set_row {T : TypeId} {n m b : Nat} {v : Value} {xs : List Value} {c : Array Value} {T' : TypeId} (h : w.ownsRow B T n v m xs) (hb : w.heap[b]? = some (.cells c T' (0, 0))) (hT : T ≠ T') (o : Nat) (u : Value) : (w.setCell ⟨b, o, none⟩ u).ownsRow B T n v m xs :=
 h.kept (grown_set w b o u) (own_or (fun k e => by cases e; exact RnM.own_ne h hb hT))
theorem set_stack {α : Type} {CV : α → List Value → Prop} {T : TypeId} {n b : Nat} {v : Value} {st : List α} {c : Array Value} {T' : TypeId} (h : StackG CV n w T B v st) (hb : w.heap[b]? = some (.cells c T' (0, 0))) (hT : T ≠ T') (o : Nat) (u : Value) : StackG CV n (w.setCell ⟨b, o, none⟩ u) T B v st := by
 obtain ⟨xs, x1, x2⟩ := h
 exact ⟨xs, set_row x1 hb hT o u, x2⟩
theorem tn1 : 67 ≠ 4 := by decide
theorem tn2 : 67 ≠ 112 := by decide
theorem tn3 : 4 ≠ 112 := by decide
theorem tn4 : 67 ≠ 64 := by decide
theorem tn5 : 4 ≠ 64 := by decide
theorem tn6 : 112 ≠ 64 := by decide
theorem RQ.put (h : RQ w0 B sb its s g cap ag cg v6 w) {Y : ByteArray} (ho : w'.ownsRow B 67 2 (.slice (some ⟨g, 0, none⟩) (s.rows.length + 1) cap) (s.rows.length + 1) (cells2 (s.rows ++ [(s.ind, s.txt ++ Y)]))) (hg : w.grownBy w' (some g)) : RQ w0 B sb its (s.put Y) g cap ag cg v6 w' := by
 have hrow : ∀ q, some g = some q → ∃ c, w.heap[q]? = some (.cells c 67 (0, 0)) := fun q e => by cases e; exact own_block h.rows _ rfl
 exact ⟨keep_box h.box hg hrow (Ne.symm tn4), ho, keep_row h.flags hg hrow (Ne.symm tn1), keep_stack h.rest hg hrow (Ne.symm tn2), h.le⟩
theorem RQ.same (h : RQ w0 B sb its s g cap ag cg v6 w) : RQ w0 B sb its s g cap ag cg v6 ((w.setCell ⟨sb, 0, none⟩ (.slice (some ⟨g, 0, none⟩) (s.rows.length + 1) cap)).setCell ⟨sb, 1, none⟩ (.slice ag s.flags.length cg)) := by
 have hb1 := heap_set h.box 0 (.slice (some ⟨g, 0, none⟩) (s.rows.length + 1) cap)
 have hb2 := heap_set hb1 1 (.slice ag s.flags.length cg)
 refine ⟨hb2, set_row (set_row h.rows h.box tn4 0 _) hb1 tn4 1 _, set_row (set_row h.flags h.box tn5 0 _) hb1 tn5 1 _, set_stack (set_stack h.rest h.box tn6 0 _) hb1 tn6 1 _, h.le⟩
theorem RQ.line (h : RQ w0 B sb its s g cap ag cg v6 w) {o : Obj} {i : Int} {g' cap' : Nat} {w3 : World} (hg : (w.alloc o).grownBy w3 (Value.slice (some ⟨g, 0, none⟩) (s.rows.length + 1) cap).ownBlock) (ho : w3.ownsRow B 67 2 (.slice (some ⟨g', 0, none⟩) (s.rows.length + 1 + 1) cap') (s.rows.length + 1 + 1) (cells2 (s.rows ++ [(s.ind, s.txt)]) ++ [.int .i64 i, .string ⟨#[]⟩])) :
  RQ w0 B sb its (s.line i) g' cap' ag cg v6 (w3.setCell ⟨sb, 0, none⟩ (.slice (some ⟨g', 0, none⟩) (s.rows.length + 1 + 1) cap')) := by
 have h1 := h.below ((Below.refl w.heap.size w).alloc (Nat.le_refl _) o)
 have hrow := own_block h1.rows
 have hb := keep_box h1.box hg hrow (Ne.symm tn4)
 have hl : (s.line i).rows.length = s.rows.length + 1 := by simp [St.line]
 have hc : cells2 ((s.line i).rows ++ [((s.line i).ind, (s.line i).txt)]) = cells2 (s.rows ++ [(s.ind, s.txt)]) ++ [.int .i64 i, .string ⟨#[]⟩] := by
  show cells2 ((s.rows ++ [(s.ind, s.txt)]) ++ [(i, ⟨#[]⟩)]) = _
  rw [cells2_app]; rfl
 refine ⟨?_, ?_, set_row (keep_row h1.flags hg hrow (Ne.symm tn1)) hb tn5 0 _, set_stack (keep_stack h1.rest hg hrow (Ne.symm tn2)) hb tn6 0 _, h.le⟩
 ·rw [heap_set hb, hl]; rfl
 ·rw [hl, hc]; exact set_row ho hb tn4 0 _
theorem RQ.flag (h : RQ w0 B sb its s g cap ag cg v6 w) {o : Obj} {x : Bool} {g' cap' : Nat} {w3 : World} (hg : (w.alloc o).grownBy w3 (Value.slice ag s.flags.length cg).ownBlock) (ho : w3.ownsRow B 4 1 (.slice (some ⟨g', 0, none⟩) (s.flags.length + 1) cap') (s.flags.length + 1) (s.flags.map Value.bool ++ [.bool x])) :
  RQ w0 B sb its (s.flag x) g cap (some ⟨g', 0, none⟩) cap' v6 (w3.setCell ⟨sb, 1, none⟩ (.slice (some ⟨g', 0, none⟩) (s.flags.length + 1) cap')) := by
 have h1 := h.below ((Below.refl w.heap.size w).alloc (Nat.le_refl _) o)
 have hrow := own_block h1.flags
 have hb := keep_box h1.box hg hrow (Ne.symm tn5)
 have hl : (s.flag x).flags.length = s.flags.length + 1 := by simp [St.flag]
 have hc : (s.flag x).flags.map Value.bool = s.flags.map Value.bool ++ [.bool x] := by simp [St.flag]
 refine ⟨?_, set_row (keep_row h1.rows hg hrow tn1) hb tn4 1 _, ?_, set_stack (keep_stack h1.rest hg hrow (Ne.symm tn3)) hb tn6 1 _, h.le⟩
 ·rw [heap_set hb, hl]; rfl
 ·rw [hl, hc]; exact set_row ho hb tn5 1 _
theorem RQ.push (h : RQ w0 B sb its s g cap ag cg v6 w) {o : Obj} {w3 : World} (hg : (w.alloc o).grownBy w3 v6.ownBlock) {v' : Value} {its' : List Itm} (ho : StackG (ItS w0 B) 5 w3 112 B v' its') : RQ w0 B sb its' s g cap ag cg v' w3 := by
 have h1 := h.below ((Below.refl w.heap.size w).alloc (Nat.le_refl _) o)
 obtain ⟨xs, x1, x2⟩ := h1.rest
 have hrow := own_block x1
 exact ⟨keep_box h1.box hg hrow (Ne.symm tn6), keep_row h1.rows hg hrow tn2, keep_row h1.flags hg hrow tn3, ho, h.le⟩
theorem RQ.pop {x : Itm} {r : List Itm} (h : RQ w0 B sb (x :: r) s g cap ag cg v6 w) : ∃ (gi cp : Nat) (a : Option Addr) (c : Nat), v6 = .slice (some ⟨gi, 0, none⟩) (r.length + 1) cp ∧ gi < w.heap.size ∧ r.length + 1 ≤ cp ∧ KidsIn w0 B x.k a c ∧
  (w.cell? ⟨gi, r.length * 5, none⟩ = some (.int .i64 x.i) ∧ w.cell? ⟨gi, r.length * 5 + 1, none⟩ = some (.int .i64 x.o) ∧ w.cell? ⟨gi, r.length * 5 + 2, none⟩ = some (.int .i64 x.n) ∧ w.cell? ⟨gi, r.length * 5 + 3, none⟩ = some (.string x.t) ∧ w.cell? ⟨gi, r.length * 5 + 4, none⟩ = some (.slice a x.k.len c)) ∧
  RQ w0 B sb r s g cap ag cg (.slice (some ⟨gi, 0, none⟩) r.length cp) w := by
 obtain ⟨gi, cp, c, hr, h1, h2, h3, _, ⟨a, ca, rfl, hkid⟩, h5, h6⟩ := StackG.top ItS.len h.rest
 have d0 := h5 0 (by omega)
 have d1 := h5 1 (by omega)
 have d2 := h5 2 (by omega)
 have d3 := h5 3 (by omega)
 have d4 := h5 4 (by omega)
 simp only [List.getElem?_cons_zero, List.getElem?_cons_succ, Nat.add_zero] at d0 d1 d2 d3 d4
 exact ⟨gi, cp, a, ca, hr, h2, h3, hkid, ⟨d0, d1, d2, d3, d4⟩, h.box, h.rows, h.flags, h6, h.le⟩
end
def XB (xb : Nat) (x : Itm) (a : Option Addr) (c : Nat) (w : World) : Prop := w.heap[xb]? = some (.cells #[.int .i64 x.i, .int .i64 x.o, .int .i64 x.n, .string x.t, .slice a x.k.len c] 112 (0, 0))
theorem XB.cells {xb : Nat} {x : Itm} {a : Option Addr} {c : Nat} {w : World} (h : XB xb x a c w) : w.cell? ⟨xb, 0, none⟩ = some (.int .i64 x.i) ∧ w.cell? ⟨xb, 1, none⟩ = some (.int .i64 x.o) ∧ w.cell? ⟨xb, 2, none⟩ = some (.int .i64 x.n) ∧ w.cell? ⟨xb, 3, none⟩ = some (.string x.t) ∧ w.cell? ⟨xb, 4, none⟩ = some (.slice a x.k.len c) := by
 have h' : w.heap[xb]? = _ := h
 refine ⟨?_, ?_, ?_, ?_, ?_⟩ <;> (simp only [World.cell?, h']; rfl)
theorem XB.ext {xb : Nat} {x : Itm} {a : Option Addr} {c : Nat} {w w' : World} (h : XB xb x a c w) (k : Below w.heap.size w w') : XB xb x a c w' := (k.block _ (Array.getElem?_eq_some_iff.1 h).1).trans h
theorem XB.grown {xb : Nat} {x : Itm} {a : Option Addr} {c : Nat} {w w' : World} (h : XB xb x a c w) {row : Option Nat} (hg : w.grownBy w' row) (hne : row ≠ some xb) : XB xb x a c w' := (hg.block _ (Array.getElem?_eq_some_iff.1 h).1 (fun e => hne e.symm)).trans h
theorem XB.set {xb : Nat} {x : Itm} {a : Option Addr} {c : Nat} {w : World} (h : XB xb x a c w) {b : Nat} (hb : xb ≠ b) (o : Nat) (u : Value) : XB xb x a c (w.setCell ⟨b, o, none⟩ u) := (Below.heap_setCell _ _ _ _ hb).trans h
def RunOut (w : World) (s : St) (e : Ending) (w' : World) : Prop := ∃ (g cap : Nat) (ag : Option Addr) (cg : Nat), e = .returned (.agg #[.slice (some ⟨g, 0, none⟩) (s.rows.length + 1) cap, .slice ag s.flags.length cg]) ∧
 w'.ownsRow w.heap.size 67 2 (.slice (some ⟨g, 0, none⟩) (s.rows.length + 1) cap) (s.rows.length + 1) (cells2 s.fin) ∧ w'.ownsRow w.heap.size 4 1 (.slice ag s.flags.length cg) s.flags.length (s.flags.map Value.bool) ∧ Below w.heap.size w w'
end Go.Proofs.YtjcaiecapapceaaGreat.Rq
namespace Go.Proofs.YtjcaiecapapceaaGreat.Rq
open Go.RowKit Go.Shelf P1 Cnt CntC Flat Wid ChP Rn Bwd RnM
open LayN (cells2 cells2_len cells2_one)
open LayC (cells2_app)
theorem infoS : (Tryz.prog.info? 112).map (fun i => (i.zero.map (fun z => z.cells.size), i.size, i.bytes)) = some (some 5, 5, 64) := by kernel_rfl
theorem news_of (w : World) (cs : List Value) (T : TypeId) : ∀ j u, cs[j]? = some u → (w.alloc (.cells cs.toArray T)).cell? ((⟨w.heap.size, 0, none⟩ : Addr).add j) = some u := by
 intro j u hu
 rw [add_at, Nat.zero_add, World.cell?_alloc_new]
 simpa using hu
theorem below_row {w wr w1 : World} {B g : Nat} {ob : Obj} (hg : (wr.alloc ob).grownBy w1 (some g)) (hb : Below B w wr) (hB : B ≤ wr.heap.size) (hgB : B ≤ g) : Below B w w1 :=
 (hb.alloc hB ob).grown hg (by simp; omega) (fun k e => by cases e; exact hgB)
theorem cell_of_box {w : World} {b : Nat} {u v : Value} {T : TypeId} {z : Nat × Nat} (h : w.heap[b]? = some (.cells #[u, v] T z)) : w.cell? ⟨b, 0, none⟩ = some u ∧ w.cell? ⟨b, 1, none⟩ = some v := by
 refine ⟨?_, ?_⟩ <;> (simp only [World.cell?, h]; rfl)
theorem kid_at {w0 : World} {B : Nat} {k : F} {a : Option Addr} {c : Nat} {p : F} {o n : Int} {t : ByteArray} {k1 r : F} (h : KidsIn w0 B k a c) (hk : k = p.app (.cons o n t k1 r)) :
  ∃ bk ok a1 c1, a = some ⟨bk, ok, none⟩ ∧ bk < B ∧ (∀ W, Below B w0 W → W.cell? ⟨bk, ok + p.len * 4, none⟩ = some (.int .i64 o) ∧ W.cell? ⟨bk, ok + p.len * 4 + 1, none⟩ = some (.int .i64 n) ∧ W.cell? ⟨bk, ok + p.len * 4 + 2, none⟩ = some (.string t) ∧ W.cell? ⟨bk, ok + p.len * 4 + 3, none⟩ = some (.slice a1 k1.len c1)) ∧ KidsIn w0 B k1 a1 c1 := by
 obtain ⟨hc, fs, hs, hf⟩ := h
 rcases hs with ⟨e, _⟩ | ⟨b, off, f', rfl, hnil, rfl, hrow⟩
 ·rw [hk] at e; have := congrArg F.len e; rw [F.len_app] at this; simp [F.len] at this
 ·rw [hk] at hrow
  obtain ⟨a1, c1, f1, x0, x1, x2, x3, hc1, hs1, hin⟩ := row_at hrow
  have hb := hf b (by simp)
  exact ⟨b, off, a1, c1, rfl, hb, fun W hW => ⟨(hW.cell (p := ⟨_, _, _⟩) hb).trans x0, (hW.cell (p := ⟨_, _, _⟩) hb).trans x1, (hW.cell (p := ⟨_, _, _⟩) hb).trans x2, (hW.cell (p := ⟨_, _, _⟩) hb).trans x3⟩, hc1, f1, hs1, fun q hq => hf q (by simp [hin q hq])⟩
theorem below_row0 {w wr w1 : World} {g : Nat} (hg : wr.grownBy w1 (some g)) (hb : Below w.heap.size w wr) (hgB : w.heap.size ≤ g) : Below w.heap.size w w1 :=
 hb.grown hg hb.size (fun k e => by cases e; exact hgB)
theorem held_box {w : World} {sb xb L cx : Nat} {x : Itm} {a : Option Addr} {u v : Value} (h : w.cell? ⟨sb, 0, none⟩ = some u ∧ w.cell? ⟨sb, 1, none⟩ = some v ∧ w.frozen? ⟨sb, 0, none⟩ = false ∧ w.frozen? ⟨sb, 1, none⟩ = false) (hx : XB xb x a cx w) (hL : x.k.len = L) :
  (w.cell? ⟨sb, 0, none⟩ = some u ∧ w.cell? ⟨sb, 1, none⟩ = some v) ∧ (w.cell? ⟨xb, 0, none⟩ = some (.int .i64 x.i) ∧ w.cell? ⟨xb, 1, none⟩ = some (.int .i64 x.o) ∧ w.cell? ⟨xb, 2, none⟩ = some (.int .i64 x.n) ∧ w.cell? ⟨xb, 3, none⟩ = some (.string x.t) ∧ w.cell? ⟨xb, 4, none⟩ = some (.slice a L cx)) := by
 obtain ⟨x0, x1, x2, x3, x4⟩ := hx.cells
 rw [hL] at x4
 exact ⟨⟨h.1, h.2.1⟩, x0, x1, x2, x3, x4⟩
theorem fit_step {W : Int} {LD : Nat} {s : St} {k1 : F} {FS : ByteArray} {r : List Itm} {i : Int} {Z N : Nat} {S : St} (hf : fitB W LD s ⟨#[]⟩ k1 = true) (h0 : ldI r = LD ∧ flD 8 ⟨#[]⟩ k1 = FS) (h : Bnd Z (⟨i, 8, 0, ⟨#[]⟩, k1⟩ :: r) s ∧ rnI W (⟨i, 8, 0, ⟨#[]⟩, k1⟩ :: r) s = S ∧ wtI (⟨i, 8, 0, ⟨#[]⟩, k1⟩ :: r) ≤ N) :
  (Bnd Z r ((s.flag true).put FS) ∧ rnI W r ((s.flag true).put FS) = S) ∧ wtI r < wtI (⟨i, 8, 0, ⟨#[]⟩, k1⟩ :: r) ∧ wtI (⟨i, 8, 0, ⟨#[]⟩, k1⟩ :: r) ≤ N := by
 obtain ⟨hbd, hrn, hwt⟩ := h
 have hst : stepI W ⟨i, 8, 0, ⟨#[]⟩, k1⟩ r s = (r, (s.flag true).put FS) := by
  unfold stepI
  simp only [h0.1, hf, h0.2]
  simp [nl]
 have h1 := hbd.step W
 have h2 := (stepI_run W ⟨i, 8, 0, ⟨#[]⟩, k1⟩ r s).trans hrn
 rw [hst] at h1 h2
 exact ⟨⟨h1.1, h2⟩, h1.2, hwt⟩
theorem unfit_step {W : Int} {LD : Nat} {s : St} {k1 : F} {FS : ByteArray} {r : List Itm} {i : Int} {Z N : Nat} {S : St} {p1 q1 : Int} {s1 : ByteArray} {j1 : F} (hf : fitB W LD s ⟨#[]⟩ k1 = false) (h0 : ldI r = LD ∧ flD 8 ⟨#[]⟩ k1 = FS) (hk : k1 = .cons p1 q1 s1 j1 .nil) (h : Bnd Z (⟨i, 8, 0, ⟨#[]⟩, k1⟩ :: r) s ∧ rnI W (⟨i, 8, 0, ⟨#[]⟩, k1⟩ :: r) s = S ∧ wtI (⟨i, 8, 0, ⟨#[]⟩, k1⟩ :: r) ≤ N) :
  (Bnd Z (⟨i, p1, q1, s1, j1⟩ :: r) (s.flag false) ∧ rnI W (⟨i, p1, q1, s1, j1⟩ :: r) (s.flag false) = S) ∧ wtI (⟨i, p1, q1, s1, j1⟩ :: r) < wtI (⟨i, 8, 0, ⟨#[]⟩, k1⟩ :: r) ∧ wtI (⟨i, 8, 0, ⟨#[]⟩, k1⟩ :: r) ≤ N := by
 obtain ⟨hbd, hrn, hwt⟩ := h
 have hst : stepI W ⟨i, 8, 0, ⟨#[]⟩, k1⟩ r s = (⟨i, p1, q1, s1, j1⟩ :: r, s.flag false) := by
  unfold stepI
  simp only [h0.1, hf]
  simp [nl, hk, kidsI, St.put_none]
 have h1 := hbd.step W
 have h2 := (stepI_run W ⟨i, 8, 0, ⟨#[]⟩, k1⟩ r s).trans hrn
 rw [hst] at h1 h2
 exact ⟨⟨h1.1, h2⟩, h1.2, hwt⟩
theorem two_push {w' : World} {w0 : World} {B : Nat} {T : TypeId} {lo : Nat} {v' : Value} {x y : Itm} {st : List Itm} {xs c d : List Value} (h2 : ItemsV (ItS w0 B) st.reverse xs) (hy : ItS w0 B y c) (hx : ItS w0 B x d) (h : w'.ownsRow lo T 5 v' (st.length + 2) (xs ++ (c ++ d))) : StackG (ItS w0 B) 5 w' T lo v' (x :: y :: st) :=
 ⟨_, h, by rw [List.reverse_cons, List.reverse_cons, ← List.append_assoc]; exact (h2.snoc hy).snoc hx⟩
theorem run_start (w : World) (o n : Int) (t : ByteArray) (k : F) (a : Option Addr) (cap : Nat) (hk : KidsIn w w.heap.size k a cap) :
  RQ w w.heap.size (w.heap.size + 1 + 1) [⟨0, o, n, t, k⟩] St.zero w.heap.size 1 (some ⟨w.heap.size + 1, 0, none⟩) 0 (.slice (some ⟨w.heap.size + 1 + 1 + 1, 0, none⟩) 1 1)
   ((((w.alloc (.cells #[.int .i64 0, .string ⟨#[]⟩] 67)).alloc (.cells #[] 4)).alloc (.cells #[.slice (some ⟨w.heap.size, 0, none⟩) 1 1, .slice (some ⟨w.heap.size + 1, 0, none⟩) 0 0] 64)).alloc (.cells #[.int .i64 0, .int .i64 o, .int .i64 n, .string t, .slice a k.len cap] 112)) := by
 obtain ⟨w3, h3⟩ : ∃ x, w.alloc (.cells #[.int .i64 0, .string ⟨#[]⟩] 67) = x := ⟨_, rfl⟩
 have z3 : w.heap.size + 1 = w3.heap.size := by rw [← h3]; simp
 have r3 : w3.ownsRow w.heap.size 67 2 (.slice (some ⟨w.heap.size, 0, none⟩) 1 1) 1 [.int .i64 0, .string ⟨#[]⟩] := by
  rw [← h3]
  exact ⟨by simp, .inr ⟨w.heap.size, 1, _, rfl, by omega, World.alloc_heap_new _ _, by omega, by unfold maxLen; omega, by simp, by simp⟩⟩
 rw [h3]
 obtain ⟨w4, h4⟩ : ∃ x, w3.alloc (.cells #[] 4) = x := ⟨_, rfl⟩
 have z4 : w3.heap.size + 1 = w4.heap.size := by rw [← h4]; simp
 have r4 : w4.ownsRow w.heap.size 4 1 (.slice (some ⟨w3.heap.size, 0, none⟩) 0 0) 0 [] := by
  rw [← h4]; exact World.ownsRow_made w3 #[] 0 (by omega) (by simp [maxLen]) rfl
 have q3 : w4.ownsRow w.heap.size 67 2 (.slice (some ⟨w.heap.size, 0, none⟩) 1 1) 1 [.int .i64 0, .string ⟨#[]⟩] := by rw [← h4]; exact r3.alloc _
 rw [h4, z3, z4]
 obtain ⟨w5, h5⟩ : ∃ x, w4.alloc (.cells #[.slice (some ⟨w.heap.size, 0, none⟩) 1 1, .slice (some ⟨w3.heap.size, 0, none⟩) 0 0] 64) = x := ⟨_, rfl⟩
 have z5 : w4.heap.size + 1 = w5.heap.size := by rw [← h5]; simp
 have b5 : w5.heap[w4.heap.size]? = some (.cells #[.slice (some ⟨w.heap.size, 0, none⟩) 1 1, .slice (some ⟨w3.heap.size, 0, none⟩) 0 0] 64 (0, 0)) := by rw [← h5]; exact World.alloc_heap_new _ _
 have q4 : w5.ownsRow w.heap.size 67 2 (.slice (some ⟨w.heap.size, 0, none⟩) 1 1) 1 [.int .i64 0, .string ⟨#[]⟩] := by rw [← h5]; exact q3.alloc _
 have r5 : w5.ownsRow w.heap.size 4 1 (.slice (some ⟨w3.heap.size, 0, none⟩) 0 0) 0 [] := by rw [← h5]; exact r4.alloc _
 rw [h5, z5]
 refine ⟨(Below.heap_alloc _ _ _ (by omega)).trans b5, q4.alloc _, r5.alloc _, StackG.start (CV := ItS w w.heap.size) (n := 5) (x := ⟨0, o, n, t, k⟩) (c := [.int .i64 0, .int .i64 o, .int .i64 n, .string t, .slice a k.len cap]) ⟨a, cap, rfl, hk⟩ rfl rfl (by omega) rfl, by omega⟩
theorem own_base {w : World} {B C n m : Nat} {T : TypeId} {v : Value} {xs : List Value} (h : w.ownsRow B T n v m xs) (hC : C ≤ B) : w.ownsRow C T n v m xs := by
 obtain ⟨h1, h2⟩ := h
 refine ⟨h1, ?_⟩
 rcases h2 with h2 | ⟨g, cap, cur, e, hB, rest⟩
 ·exact .inl h2
 ·exact .inr ⟨g, cap, cur, e, by omega, rest⟩
theorem l4Run (w : World) (W o n : Int) (t : ByteArray) (k : F) (a : Option Addr) (cap0 : Nat) (fs : List Nat) (hs : SubAt w a k fs) (hfs : ∀ c ∈ fs, c < w.heap.size) (hc : k.len ≤ cap0) (hsz : t.size + k.size ≤ 2000000) (hva : validD o n t k = true) (hW0 : 0 ≤ W) (hW1 : W ≤ 200) :
  Calls Tryz.prog 43 #[.agg #[.int .i64 o, .int .i64 n, .string t, .slice a k.len cap0], .int .i64 W] w (RunOut w (stD W o n t k)) := by
 obtain ⟨W0, hW0⟩ : ∃ x, (w.alloc (.cells #[.int .i64 o, .int .i64 n, .string t, .slice a k.len cap0] 25)).alloc (.cells #[.slice none 0 0, .slice none 0 0] 64) = x := ⟨_, rfl⟩
 have hE0 : Ext w W0 := by rw [← hW0]; exact ((Ext.refl w).alloc _).alloc _
 have hzB : w.heap.size + 1 + 1 = W0.heap.size := by rw [← hW0]; simp
 have hbx : W0.heap[w.heap.size + 1]? = some (.cells #[.slice none 0 0, .slice none 0 0] 64 (0, 0)) := by
  rw [← hW0, show w.heap.size + 1 = (w.alloc (.cells #[.int .i64 o, .int .i64 n, .string t, .slice a k.len cap0] 25)).heap.size by simp]
  exact World.alloc_heap_new _ _
 have HBS := Lib.hid (bnd_start hva)
 have HRS := Lib.hid (run_start W0 o n t k a cap0 ⟨hc, fs, hs.below hfs hE0, fun c hc => by have := hfs c hc; omega⟩)
 have HE0 := Lib.hid (And.intro hE0 (And.intro hbx hzB))
 have HW0 := Lib.hid (And.intro hzB hW0)
 clear hs hfs hva hbx hE0 hzB hW0
 go_enter Tryz.func43, Tryz.ntmps43
 go_wp2_with fail
 obtain ⟨hzB, hW0⟩ := HW0.out
 rw [hzB, hW0]
 obtain ⟨V, hV⟩ : ∃ V, ((((W0.alloc (.cells #[.int .i64 0, .string ⟨#[]⟩] 67)).alloc (.cells #[] 4)).alloc (.cells #[.slice (some ⟨W0.heap.size, 0, none⟩) 1 1, .slice (some ⟨W0.heap.size + 1, 0, none⟩) 0 0] 64)).alloc (.cells #[.int .i64 0, .int .i64 o, .int .i64 n, .string t, .slice a k.len cap0] 112)) = V := ⟨_, rfl⟩
 have HBV := Lib.hid (show Below W0.heap.size W0 V by rw [← hV]; exact ((((Ext.refl W0).alloc _).alloc _).alloc _).alloc _)
 have hrs := HRS.out
 rw [hV] at hrs ⊢
 clear hV HRS hW0
 obtain ⟨sb, hsb⟩ : ∃ x, W0.heap.size + 1 + 1 = x := ⟨_, rfl⟩
 rw [hsb] at hrs
 try rw [hsb]
 have HQ0 := Lib.hid hrs
 have HSB := Lib.hid (show W0.heap.size ≤ sb by omega)
 have HZ := Lib.hid (show 1 + t.size + k.size ≤ 4000000 by omega)
 clear hsb hsz hrs hzB
 go_loopg [6, 7, 8, 33, 40, 52, 69, 90] (1 + k.cnt) (fun N v6 u7 u8 u33 u40 u52 u69 u90 wr => ∃ its s g cap ag cg z6, z6 = v6 ∧ RQ W0 W0.heap.size sb its s g cap ag cg z6 wr ∧ Bnd (1 + t.size + k.size) its s ∧ rnI W its s = stD W o n t k ∧ wtI its ≤ N ∧ Below W0.heap.size W0 wr)
 case atStart => exact ⟨_, _, _, _, _, _, _, rfl, HQ0.out, HBS.out, stD_items W o n t k, by simp [wtI], HBV.out⟩
 case round =>
  obtain ⟨its, s, g, cap, ag, cg, z6, rfl, hQ, hbd, hrn, hwt, hbw⟩ := hrel
  cases its with
  | nil =>
    obtain ⟨a6, c6, rfl, _⟩ : ∃ a cap, z6 = .slice a 0 cap ∧ 0 ≤ cap := by obtain ⟨xs, x1, _⟩ := hQ.rest; exact own_slice x1
    obtain ⟨c0, c1, _, _⟩ := hQ.cells
    obtain ⟨hE0, hbx, hzB⟩ := HE0.out
    have hbx2 := (hbw.block (w.heap.size + 1) (by omega)).trans hbx
    have e01 := cell_of_box hbx2
    have f0 := BufQ.heap_frozen hbx2 0
    have f1 := BufQ.heap_frozen hbx2 1
    obtain ⟨e0, e1⟩ := e01
    have HSD := Lib.hid (show s = stD W o n t k from hrn)
    have HQN := Lib.hid (And.intro hQ (And.intro (hE0.trans (hbw.mono (by omega))) hzB))
    have hlw1 : w.heap.size + 1 < wr.heap.size := (Array.getElem?_eq_some_iff.1 hbx2).1
    clear hQ hbd hrn hwt hbw hE0 hbx hbx2 hzB
    go_wp2_with fail
    obtain ⟨V9, hV9⟩ : ∃ x, (wr.setCell ⟨w.heap.size + 1, 0, none⟩ (.slice (some ⟨g, 0, none⟩) (s.rows.length + 1) cap)).setCell ⟨w.heap.size + 1, 1, none⟩ (.slice ag s.flags.length cg) = x := ⟨_, rfl⟩
    have y : V9.cell? ⟨w.heap.size + 1, 0, none⟩ = some (.slice (some ⟨g, 0, none⟩) (s.rows.length + 1) cap) ∧ V9.cell? ⟨w.heap.size + 1, 1, none⟩ = some (.slice ag s.flags.length cg) := by
     rw [← hV9]
     refine ⟨?_, World.cell?_setCell_same (u := .slice none 0 0) _ _ _ ?_⟩
     ·rw [World.cell?_setCell_other _ _ _ _ (by simp)]; exact World.cell?_setCell_same _ _ _ e0
     ·rw [World.cell?_setCell_other _ _ _ _ (by simp)]; exact e1
    have hRO : RunOut w s (.returned (.agg #[.slice (some ⟨g, 0, none⟩) (s.rows.length + 1) cap, .slice ag s.flags.length cg])) V9 := by
     obtain ⟨hQ, hb, hzB⟩ := HQN.out
     rw [← hV9]
     refine ⟨g, cap, ag, cg, rfl, own_base (ownsRow_setCell_below (ownsRow_setCell_below hQ.rows (a := ⟨w.heap.size + 1, 0, none⟩) (by show w.heap.size + 1 < _; omega) _) (a := ⟨w.heap.size + 1, 1, none⟩) (by show w.heap.size + 1 < _; omega) _) (by omega), own_base (ownsRow_setCell_below (ownsRow_setCell_below hQ.flags (a := ⟨w.heap.size + 1, 0, none⟩) (by show w.heap.size + 1 < _; omega) _) (a := ⟨w.heap.size + 1, 1, none⟩) (by show w.heap.size + 1 < _; omega) _) (by omega), (hb.setCell (p := ⟨w.heap.size + 1, 0, none⟩) (by simp) _).setCell (p := ⟨w.heap.size + 1, 1, none⟩) (by simp) _⟩
    rw [hV9]
    clear hV9
    refine bodyPost_ret (v := .agg #[.slice (some ⟨g, 0, none⟩) (s.rows.length + 1) cap, .slice ag s.flags.length cg]) (by simp [results, Tryz.results43, go_sem, y.1, y.2]) rfl ?_
    rw [← HSD.out]
    exact hRO
  | cons x r =>
    obtain ⟨gi, cp, ax, cx, rfl, hgi, hle, hkid, ⟨d0, d1, d2, d3, d4⟩, hpop⟩ := hQ.pop
    obtain ⟨i, o1, n1, t1, k1⟩ := x
    simp only at d0 d1 d2 d3 d4 hkid
    obtain ⟨c0, c1, f0, f1⟩ := hpop.cells
    obtain ⟨⟨d, hd, hok⟩, hi0, hi1⟩ := hbd.ok ⟨i, o1, n1, t1, k1⟩ (by simp)
    simp only at hok hi0 hi1
    have hw80 := hbd.wt
    have hz80 := hbd.sz
    have hi720 := hbd.ind
    have hz4 := HZ.out
    have hlw := len_wt r
    simp only [wtI, szI] at hw80 hz80
    obtain ⟨m, hm⟩ : ∃ m, r.length = m := ⟨_, rfl⟩
    rw [hm] at hle d0 d1 d2 d3 d4 hpop hlw ⊢
    have hm80 : m ≤ 80 := by omega
    have hm0 : (0 : Int) ≤ (m : Int) := Int.natCast_nonneg _
    have hm1 : (m : Int) < (m : Int) + 1 := by omega
    have hslb := hQ.lt
    have hBr : W0.heap.size ≤ wr.heap.size := hbw.size
    have HM0 := Lib.hid hm
    have HQA := Lib.hid (fun ob => hpop.below ((Below.refl _ _).alloc (Nat.le_refl _) ob))
    have HQ := Lib.hid (And.intro hpop (And.intro hbw hBr))
    have HGB := Lib.hid (show W0.heap.size ≤ g from (hQ.rows.lt g rfl).1)
    have HKID := Lib.hid hkid
    cases d with
    | zero => rw [okD_zero] at hok; cases hok
    | succ d =>
      obtain ⟨hnode, hkids⟩ := okD_parts hok
      have n0 := (node_n hnode).1
      have n9 := (node_n hnode).2.1
      have hklen := F.len_le_size k1
      obtain ⟨L, hL⟩ : ∃ L, k1.len = L := ⟨_, rfl⟩
      have HLL := Lib.hid hL
      rcases node_kinds hnode with ⟨rfl, ht, hl⟩ | ⟨ho, ht0, hl⟩ | ⟨rfl, rfl, h0, h9, hl⟩ | ⟨rfl, rfl, hl⟩ | ⟨rfl, rfl, hl⟩
      ·have HK0 := Lib.hid (F.len_eq_zero hl)
       rw [hL] at d4
       clear hL hnode hkids hl hok hkid hm
       have hst : stepI W ⟨i, 2, n1, t1, k1⟩ r s = (r, s.put t1) := by simp [stepI, nl, HK0.out, kidsI]
       have HST := Lib.hid (show Bnd (1 + t.size + k.size) r (s.put t1) ∧ rnI W r (s.put t1) = stD W o n t k from by
        have h1 := (hbd.step W).1
        have h2 := (stepI_run W ⟨i, 2, n1, t1, k1⟩ r s).trans hrn
        rw [hst] at h1 h2
        exact ⟨h1, h2⟩)
       have HM := Lib.hid (show wtI r < wtI (⟨i, 2, n1, t1, k1⟩ :: r) from by
        have h1 := (hbd.step W).2
        rw [hst] at h1
        exact h1)
       have HWT := Lib.hid hwt
       have hpop' := hpop
       clear hst hrn hwt hpop'
       have HPUT := Lib.hid (fun ob => l4Put (wr.alloc ob) (n := s.rows.length) (Y := t1) (hQ.rows.alloc ob) rfl (by omega) (by omega) (by omega) ag s.flags.length cg)
       clear hpop
       go_wp2_with fail
       refine (HPUT.out _).mono ?_
       rintro e1 w1 ⟨rfl, ho, hg⟩
       have hq := HQA.out _ |>.put ho hg
       obtain ⟨k0, k1, z0, z1⟩ := hq.cells
       have H1 := Lib.hid (And.intro hq (below_row (w := W0) hg HQ.out.2.1 HQ.out.2.2 HGB.out))
       clear ho hg hq c0 c1 f0 f1
       go_wp2_with fail
       go_roundg (wtI r)
       case measure => exact Nat.lt_of_lt_of_le HM.out HWT.out
       case rel => exact ⟨r, s.put t1, g, cap, ag, cg, _, rfl, H1.out.1.same, HST.out.1, HST.out.2, Nat.le_refl _, (H1.out.2.setCell (p := ⟨sb, 0, none⟩) HSB.out _).setCell (p := ⟨sb, 1, none⟩) HSB.out _⟩
      ·have HK0 := Lib.hid (F.len_eq_zero hl)
       have HT0 := Lib.hid ht0
       rw [hL] at d4
       clear hL hnode hkids hl hok hkid hm ht0
       rcases ho with rfl | rfl | rfl | rfl
       ·
        have hst : stepI W ⟨i, 1, n1, t1, k1⟩ r s = (r, s) := by simp [stepI, nl, HK0.out, kidsI, HT0.out, St.put_none]
        have HST := Lib.hid (show Bnd (1 + t.size + k.size) r s ∧ rnI W r s = stD W o n t k from by
         have h1 := (hbd.step W).1
         have h2 := (stepI_run W ⟨i, 1, n1, t1, k1⟩ r s).trans hrn
         rw [hst] at h1 h2
         exact ⟨h1, h2⟩)
        have HM := Lib.hid (show wtI r < wtI (⟨i, 1, n1, t1, k1⟩ :: r) from by
         have h1 := (hbd.step W).2
         rw [hst] at h1
         exact h1)
        have HWT := Lib.hid hwt
        have hpop' := hpop
        clear hst hrn hwt hpop'
        clear hpop
        go_wp2_with fail
        go_roundg (wtI r)
        case measure => exact Nat.lt_of_lt_of_le HM.out HWT.out
        case rel => exact ⟨r, s, g, cap, ag, cg, _, rfl, HQA.out _, HST.out.1, HST.out.2, Nat.le_refl _, HQ.out.2.1.alloc HQ.out.2.2 _⟩
       ·
        have hst : stepI W ⟨i, 3, n1, t1, k1⟩ r s = (r, s.line i) := by simp [stepI, nl]
        have HST := Lib.hid (show Bnd (1 + t.size + k.size) r (s.line i) ∧ rnI W r (s.line i) = stD W o n t k from by
         have h1 := (hbd.step W).1
         have h2 := (stepI_run W ⟨i, 3, n1, t1, k1⟩ r s).trans hrn
         rw [hst] at h1 h2
         exact ⟨h1, h2⟩)
        have HM := Lib.hid (show wtI r < wtI (⟨i, 3, n1, t1, k1⟩ :: r) from by
         have h1 := (hbd.step W).2
         rw [hst] at h1
         exact h1)
        have HWT := Lib.hid hwt
        have hpop' := hpop
        clear hst hrn hwt hpop'
        obtain ⟨i2, z2, hi, hz, hz1, hz2, hz3⟩ := info_some info2
        have HI := Lib.hid (And.intro hi (And.intro hz (And.intro hz1 (And.intro hz2 hz3))))
        clear hi hz hz1 hz2 hz3
        have hown := hQ.rows
        have HNEW := Lib.hid (fun T => two_news (wr.alloc (.cells #[.int .i64 i, .int .i64 3, .int .i64 n1, .string t1, .slice ax L cx] 112)) i ⟨#[]⟩ T)
        simp only [World.size_alloc] at HNEW
        clear hpop
        go_wp2_with (at_builtin; go_loud (refine wpList_append_lies _ rfl (.tmp 45) (.tmp 49) 28 rfl W0.heap.size 67 i2 z2 2 24 Tryz.underlying28 HI.out.1 HI.out.2.1 HI.out.2.2.1 HI.out.2.2.2.1 HI.out.2.2.2.2 (by omega) (.slice (some ⟨g, 0, none⟩) (s.rows.length + 1) cap) (s.rows.length + 1) (cells2 (s.rows ++ [(s.ind, s.txt)])) rfl ((hown.alloc _).alloc _) ⟨wr.heap.size + 1, 0, none⟩ 1 1 [.int .i64 i, .string ⟨#[]⟩] rfl rfl (HNEW.out _) (by simp [Value.oneCell']) (by omega) (by unfold maxLen; omega) (by omega) (by simp; omega) (wr.heap.size + 1 + 1) (by simp) ?_; intro g5 cap5 w5 hown5 hgrow5 hat5 hlt5; have hq5 := (HQA.out (.cells #[.int .i64 i, .int .i64 3, .int .i64 n1, .string t1, .slice ax L cx] 112)).line hgrow5 hown5; have hkb := keep_box ((HQA.out (.cells #[.int .i64 i, .int .i64 3, .int .i64 n1, .string t1, .slice ax L cx] 112)).below ((Below.refl _ _).alloc (Nat.le_refl _) _)).box hgrow5 (own_block ((HQA.out (.cells #[.int .i64 i, .int .i64 3, .int .i64 n1, .string t1, .slice ax L cx] 112)).rows.alloc _)) (Ne.symm tn4); have k0 := cell_of_box hkb; have zz := BufQ.heap_frozen hkb 0; have H5 := Lib.hid (And.intro hq5 ((HQ.out.2.1.alloc (show W0.heap.size ≤ wr.heap.size from HQ.out.2.2) (.cells #[.int .i64 i, .int .i64 3, .int .i64 n1, .string t1, .slice ax L cx] 112)).trans (below_append hgrow5 (HQA.out (.cells #[.int .i64 i, .int .i64 3, .int .i64 n1, .string t1, .slice ax L cx] 112)).rows (by simp; omega)))); clear hown5 hgrow5 hat5 hq5 hkb))
        go_roundg (wtI r)
        case measure => exact Nat.lt_of_lt_of_le HM.out HWT.out
        case rel => exact ⟨r, s.line i, g5, cap5, ag, cg, _, rfl, H5.out.1, HST.out.1, HST.out.2, Nat.le_refl _, H5.out.2.setCell (p := ⟨sb, 0, none⟩) HSB.out _⟩
       ·
        have hst : stepI W ⟨i, 4, n1, t1, k1⟩ r s = (r, s.line i) := by simp [stepI, nl]
        have HST := Lib.hid (show Bnd (1 + t.size + k.size) r (s.line i) ∧ rnI W r (s.line i) = stD W o n t k from by
         have h1 := (hbd.step W).1
         have h2 := (stepI_run W ⟨i, 4, n1, t1, k1⟩ r s).trans hrn
         rw [hst] at h1 h2
         exact ⟨h1, h2⟩)
        have HM := Lib.hid (show wtI r < wtI (⟨i, 4, n1, t1, k1⟩ :: r) from by
         have h1 := (hbd.step W).2
         rw [hst] at h1
         exact h1)
        have HWT := Lib.hid hwt
        have hpop' := hpop
        clear hst hrn hwt hpop'
        obtain ⟨i2, z2, hi, hz, hz1, hz2, hz3⟩ := info_some info2
        have HI := Lib.hid (And.intro hi (And.intro hz (And.intro hz1 (And.intro hz2 hz3))))
        clear hi hz hz1 hz2 hz3
        have hown := hQ.rows
        have HNEW := Lib.hid (fun T => two_news (wr.alloc (.cells #[.int .i64 i, .int .i64 4, .int .i64 n1, .string t1, .slice ax L cx] 112)) i ⟨#[]⟩ T)
        simp only [World.size_alloc] at HNEW
        clear hpop
        go_wp2_with (at_builtin; go_loud (refine wpList_append_lies _ rfl (.tmp 45) (.tmp 49) 28 rfl W0.heap.size 67 i2 z2 2 24 Tryz.underlying28 HI.out.1 HI.out.2.1 HI.out.2.2.1 HI.out.2.2.2.1 HI.out.2.2.2.2 (by omega) (.slice (some ⟨g, 0, none⟩) (s.rows.length + 1) cap) (s.rows.length + 1) (cells2 (s.rows ++ [(s.ind, s.txt)])) rfl ((hown.alloc _).alloc _) ⟨wr.heap.size + 1, 0, none⟩ 1 1 [.int .i64 i, .string ⟨#[]⟩] rfl rfl (HNEW.out _) (by simp [Value.oneCell']) (by omega) (by unfold maxLen; omega) (by omega) (by simp; omega) (wr.heap.size + 1 + 1) (by simp) ?_; intro g5 cap5 w5 hown5 hgrow5 hat5 hlt5; have hq5 := (HQA.out (.cells #[.int .i64 i, .int .i64 4, .int .i64 n1, .string t1, .slice ax L cx] 112)).line hgrow5 hown5; have hkb := keep_box ((HQA.out (.cells #[.int .i64 i, .int .i64 4, .int .i64 n1, .string t1, .slice ax L cx] 112)).below ((Below.refl _ _).alloc (Nat.le_refl _) _)).box hgrow5 (own_block ((HQA.out (.cells #[.int .i64 i, .int .i64 4, .int .i64 n1, .string t1, .slice ax L cx] 112)).rows.alloc _)) (Ne.symm tn4); have k0 := cell_of_box hkb; have zz := BufQ.heap_frozen hkb 0; have H5 := Lib.hid (And.intro hq5 ((HQ.out.2.1.alloc (show W0.heap.size ≤ wr.heap.size from HQ.out.2.2) (.cells #[.int .i64 i, .int .i64 4, .int .i64 n1, .string t1, .slice ax L cx] 112)).trans (below_append hgrow5 (HQA.out (.cells #[.int .i64 i, .int .i64 4, .int .i64 n1, .string t1, .slice ax L cx] 112)).rows (by simp; omega)))); clear hown5 hgrow5 hat5 hq5 hkb))
        go_roundg (wtI r)
        case measure => exact Nat.lt_of_lt_of_le HM.out HWT.out
        case rel => exact ⟨r, s.line i, g5, cap5, ag, cg, _, rfl, H5.out.1, HST.out.1, HST.out.2, Nat.le_refl _, H5.out.2.setCell (p := ⟨sb, 0, none⟩) HSB.out _⟩
       ·
        have hst : stepI W ⟨i, 5, n1, t1, k1⟩ r s = (r, s.line i) := by simp [stepI, nl]
        have HST := Lib.hid (show Bnd (1 + t.size + k.size) r (s.line i) ∧ rnI W r (s.line i) = stD W o n t k from by
         have h1 := (hbd.step W).1
         have h2 := (stepI_run W ⟨i, 5, n1, t1, k1⟩ r s).trans hrn
         rw [hst] at h1 h2
         exact ⟨h1, h2⟩)
        have HM := Lib.hid (show wtI r < wtI (⟨i, 5, n1, t1, k1⟩ :: r) from by
         have h1 := (hbd.step W).2
         rw [hst] at h1
         exact h1)
        have HWT := Lib.hid hwt
        have hpop' := hpop
        clear hst hrn hwt hpop'
        obtain ⟨i2, z2, hi, hz, hz1, hz2, hz3⟩ := info_some info2
        have HI := Lib.hid (And.intro hi (And.intro hz (And.intro hz1 (And.intro hz2 hz3))))
        clear hi hz hz1 hz2 hz3
        have hown := hQ.rows
        have HNEW := Lib.hid (fun T => two_news (wr.alloc (.cells #[.int .i64 i, .int .i64 5, .int .i64 n1, .string t1, .slice ax L cx] 112)) i ⟨#[]⟩ T)
        simp only [World.size_alloc] at HNEW
        clear hpop
        go_wp2_with (at_builtin; go_loud (refine wpList_append_lies _ rfl (.tmp 45) (.tmp 49) 28 rfl W0.heap.size 67 i2 z2 2 24 Tryz.underlying28 HI.out.1 HI.out.2.1 HI.out.2.2.1 HI.out.2.2.2.1 HI.out.2.2.2.2 (by omega) (.slice (some ⟨g, 0, none⟩) (s.rows.length + 1) cap) (s.rows.length + 1) (cells2 (s.rows ++ [(s.ind, s.txt)])) rfl ((hown.alloc _).alloc _) ⟨wr.heap.size + 1, 0, none⟩ 1 1 [.int .i64 i, .string ⟨#[]⟩] rfl rfl (HNEW.out _) (by simp [Value.oneCell']) (by omega) (by unfold maxLen; omega) (by omega) (by simp; omega) (wr.heap.size + 1 + 1) (by simp) ?_; intro g5 cap5 w5 hown5 hgrow5 hat5 hlt5; have hq5 := (HQA.out (.cells #[.int .i64 i, .int .i64 5, .int .i64 n1, .string t1, .slice ax L cx] 112)).line hgrow5 hown5; have hkb := keep_box ((HQA.out (.cells #[.int .i64 i, .int .i64 5, .int .i64 n1, .string t1, .slice ax L cx] 112)).below ((Below.refl _ _).alloc (Nat.le_refl _) _)).box hgrow5 (own_block ((HQA.out (.cells #[.int .i64 i, .int .i64 5, .int .i64 n1, .string t1, .slice ax L cx] 112)).rows.alloc _)) (Ne.symm tn4); have k0 := cell_of_box hkb; have zz := BufQ.heap_frozen hkb 0; have H5 := Lib.hid (And.intro hq5 ((HQ.out.2.1.alloc (show W0.heap.size ≤ wr.heap.size from HQ.out.2.2) (.cells #[.int .i64 i, .int .i64 5, .int .i64 n1, .string t1, .slice ax L cx] 112)).trans (below_append hgrow5 (HQA.out (.cells #[.int .i64 i, .int .i64 5, .int .i64 n1, .string t1, .slice ax L cx] 112)).rows (by simp; omega)))); clear hown5 hgrow5 hat5 hq5 hkb))
        go_roundg (wtI r)
        case measure => exact Nat.lt_of_lt_of_le HM.out HWT.out
        case rel => exact ⟨r, s.line i, g5, cap5, ag, cg, _, rfl, H5.out.1, HST.out.1, HST.out.2, Nat.le_refl _, H5.out.2.setCell (p := ⟨sb, 0, none⟩) HSB.out _⟩
      ·obtain ⟨p1, q1, s1, j1, hkk⟩ := one_kid hl
       obtain ⟨bk, ok, a2, c2, rfl, hbk, hkc, hki2⟩ := kid_at (p := .nil) hkid hkk
       simp only [F.len, Nat.zero_mul, Nat.add_zero] at hkc
       have hL1 : L = 1 := by rw [← hL, hkk]; rfl
       subst hL1
       obtain ⟨L2, hL2⟩ : ∃ x, j1.len = x := ⟨_, rfl⟩
       rw [hL] at d4
       rw [hL2] at hkc
       have HKC := Lib.hid hkc
       have HK2 := Lib.hid (And.intro hki2 hkk)
       have HLL2 := Lib.hid hL2
       have hbkl : bk < wr.heap.size := by have := HQ.out.2.2; omega
       have hgi2 : gi ≠ wr.heap.size := by omega
       have hst : stepI W ⟨i, 6, n1, ⟨#[]⟩, k1⟩ r s = (⟨i + n1, p1, q1, s1, j1⟩ :: r, s) := by rw [hkk]; simp [stepI, nl, kidsI, St.put_none]
       have HST := Lib.hid (show Bnd (1 + t.size + k.size) (⟨i + n1, p1, q1, s1, j1⟩ :: r) s ∧ rnI W (⟨i + n1, p1, q1, s1, j1⟩ :: r) s = stD W o n t k from by
        have h1 := (hbd.step W).1
        have h2 := (stepI_run W ⟨i, 6, n1, ⟨#[]⟩, k1⟩ r s).trans hrn
        rw [hst] at h1 h2
        exact ⟨h1, h2⟩)
       have HM := Lib.hid (show wtI (⟨i + n1, p1, q1, s1, j1⟩ :: r) < wtI (⟨i, 6, n1, ⟨#[]⟩, k1⟩ :: r) from by
        have h1 := (hbd.step W).2
        rw [hst] at h1
        exact h1)
       have HWT := Lib.hid hwt
       obtain ⟨i5, z5, hi, hz, hz1, hz2, hz3⟩ := info_some infoS
       have HI := Lib.hid (And.intro hi (And.intro hz (And.intro hz1 (And.intro hz2 hz3))))
       clear hi hz hz1 hz2 hz3
       have HHS := Lib.hid (show ∀ W', XB wr.heap.size ⟨i, 6, n1, ⟨#[]⟩, k1⟩ (some ⟨bk, ok, none⟩) cx W' → Below W0.heap.size W0 W' → (fun w' => (w'.cell? ⟨wr.heap.size, 0, none⟩ = some (.int .i64 i) ∧ w'.cell? ⟨wr.heap.size, 1, none⟩ = some (.int .i64 6) ∧ w'.cell? ⟨wr.heap.size, 2, none⟩ = some (.int .i64 n1) ∧ w'.cell? ⟨wr.heap.size, 3, none⟩ = some (.string ⟨#[]⟩) ∧ w'.cell? ⟨wr.heap.size, 4, none⟩ = some (.slice (some ⟨bk, ok, none⟩) 1 cx)) ∧ (w'.cell? ⟨bk, ok, none⟩ = some (.int .i64 p1) ∧ w'.cell? ⟨bk, ok + 1, none⟩ = some (.int .i64 q1) ∧ w'.cell? ⟨bk, ok + 2, none⟩ = some (.string s1) ∧ w'.cell? ⟨bk, ok + 3, none⟩ = some (.slice a2 L2 c2))) W' from fun W' hx hb => by
        obtain ⟨y0, y1, y2, y3, y4⟩ := hx.cells
        simp only [HLL.out] at y0 y1 y2 y3 y4
        exact ⟨⟨y0, y1, y2, y3, y4⟩, HKC.out W' hb⟩)
       have HIT1 := Lib.hid (show ItS W0 W0.heap.size ⟨i + n1, p1, q1, s1, j1⟩ [.int .i64 (i + n1), .int .i64 p1, .int .i64 q1, .string s1, .slice a2 L2 c2] from ⟨a2, c2, by rw [HLL2.out], HK2.out.1⟩)
       have hwrp : IntKind.i64.wrap (i + n1) = i + n1 := by rw [IntKind.wrap_i64]; omega
       have hXw : XB wr.heap.size ⟨i, 6, n1, ⟨#[]⟩, k1⟩ (some ⟨bk, ok, none⟩) cx (wr.alloc (.cells #[.int .i64 i, .int .i64 6, .int .i64 n1, .string ⟨#[]⟩, .slice (some ⟨bk, ok, none⟩) 1 cx] 112)) := by unfold XB; rw [show (⟨i, 6, n1, ⟨#[]⟩, k1⟩ : Itm).k.len = 1 from hL]; exact World.alloc_heap_new wr _
       have HXW := Lib.hid hXw
       clear hXw hkc hki2 hL hL2 hnode hkids hl hok hkid hm hpop hst hrn hwt
       go_wp2_with fail
       obtain ⟨D, hD⟩ : ∃ D, (wr.alloc (.cells #[.int .i64 i, .int .i64 6, .int .i64 n1, .string ⟨#[]⟩, .slice (some ⟨bk, ok, none⟩) 1 cx] 112)).drew = D := ⟨_, rfl⟩
       have HQD := Lib.hid (hD ▸ (HQA.out (.cells #[.int .i64 i, .int .i64 6, .int .i64 n1, .string ⟨#[]⟩, .slice (some ⟨bk, ok, none⟩) 1 cx] 112)).below (Below.refl _ _).drew)
       have HBD := Lib.hid (show Below W0.heap.size W0 D by rw [← hD]; exact (HQ.out.2.1.alloc HQ.out.2.2 _).drew)
       have HXD := Lib.hid (show XB wr.heap.size ⟨i, 6, n1, ⟨#[]⟩, k1⟩ (some ⟨bk, ok, none⟩) cx D by rw [← hD]; exact HXW.out)
       obtain ⟨xs, hownD, hitems⟩ := HQD.out.rest
       rw [HM0.out] at hownD
       have HXS := Lib.hid hitems
       have HPU := Lib.hid (show ∀ (w5 : World) (g5 cap5 : Nat), w5.ownsRow W0.heap.size 112 5 (.slice (some ⟨g5, 0, none⟩) (m + 1) cap5) (m + 1) (xs ++ [.int .i64 (i + n1), .int .i64 p1, .int .i64 q1, .string s1, .slice a2 L2 c2]) → StackG (ItS W0 W0.heap.size) 5 w5 112 W0.heap.size (.slice (some ⟨g5, 0, none⟩) (m + 1) cap5) (⟨i + n1, p1, q1, s1, j1⟩ :: r) from fun w5 g5 cap5 h => StackG.push HXS.out HIT1.out (by rw [HM0.out]; exact h))
       refine wp_region_held_drew (S := (fun w' => (w'.cell? ⟨wr.heap.size, 0, none⟩ = some (.int .i64 i) ∧ w'.cell? ⟨wr.heap.size, 1, none⟩ = some (.int .i64 6) ∧ w'.cell? ⟨wr.heap.size, 2, none⟩ = some (.int .i64 n1) ∧ w'.cell? ⟨wr.heap.size, 3, none⟩ = some (.string ⟨#[]⟩) ∧ w'.cell? ⟨wr.heap.size, 4, none⟩ = some (.slice (some ⟨bk, ok, none⟩) 1 cx)) ∧ (w'.cell? ⟨bk, ok, none⟩ = some (.int .i64 p1) ∧ w'.cell? ⟨bk, ok + 1, none⟩ = some (.int .i64 q1) ∧ w'.cell? ⟨bk, ok + 2, none⟩ = some (.string s1) ∧ w'.cell? ⟨bk, ok + 3, none⟩ = some (.slice a2 L2 c2)))) (by kernel_rfl) ?_ (fun hHeld => ?_)
       ·rw [hD]; exact HHS.out _ HXD.out HBD.out
       rw [hD] at hHeld ⊢
       clear hD hitems
       refine wpAnyH_take (i := 0) (v := ?_) rfl (by kernel_rfl) (by kernel_rfl) (by kernel_rfl) (fun _ _ _ h => h) (Or.inl ⟨by rfl, ?_⟩) (by assumption) ?_
       rotate_left
       ·(intro w hSw; (try dsimp only at hSw); (go_simp <;> with_reducible rfl))
       try simp only [Act.put, zpu, zpgRcX]
       refine wpAnyH_take (i := 1) (v := ?_) rfl (by kernel_rfl) (by kernel_rfl) (by kernel_rfl) (fun _ _ _ h => h) (Or.inl ⟨by rfl, ?_⟩) (by assumption) ?_
       rotate_left
       ·(intro w hSw; (try dsimp only at hSw); (go_simp <;> with_reducible rfl))
       try simp only [Act.put, zpu, zpgRcX]
       refine wpAnyH_take (i := 2) (v := ?_) rfl (by kernel_rfl) (by kernel_rfl) (by kernel_rfl) (fun _ _ _ h => h) (Or.inl ⟨by rfl, ?_⟩) (by assumption) ?_
       rotate_left
       ·(intro w hSw; (try dsimp only at hSw); (go_simp <;> with_reducible rfl))
       try simp only [Act.put, zpu, zpgRcX]
       refine wpAnyH_take (i := 3) (v := ?_) rfl (by kernel_rfl) (by kernel_rfl) (by kernel_rfl) (fun _ _ _ h => h) (Or.inl ⟨by rfl, ?_⟩) (by assumption) ?_
       rotate_left
       ·(intro w hSw; (try dsimp only at hSw); (go_simp <;> with_reducible rfl))
       try simp only [Act.put, zpu, zpgRcX]
       refine wpAnyH_take (i := 4) (v := ?_) rfl (by kernel_rfl) (by kernel_rfl) (by kernel_rfl) (fun _ _ _ h => h) (Or.inl ⟨by rfl, ?_⟩) (by assumption) ?_
       rotate_left
       ·(intro w hSw; (try dsimp only at hSw); (go_simp <;> with_reducible rfl))
       try simp only [Act.put, zpu, zpgRcX]
       refine wpAnyH_take (i := 5) (v := ?_) rfl (by kernel_rfl) (by kernel_rfl) (by kernel_rfl) (fun _ _ _ h => h) (Or.inl ⟨by rfl, ?_⟩) (by assumption) ?_
       rotate_left
       ·(intro w hSw; (try dsimp only at hSw); (go_simp <;> with_reducible rfl))
       try simp only [Act.put, zpu, zpgRcX]
       refine wpAnyH_take (i := 6) (v := ?_) rfl (by kernel_rfl) (by kernel_rfl) (by kernel_rfl) (fun _ _ _ h => h) (Or.inl ⟨by rfl, ?_⟩) (by assumption) ?_
       rotate_left
       ·(intro w hSw; (try dsimp only at hSw); (go_simp <;> with_reducible rfl))
       try simp only [Act.put, zpu, zpgRcX]
       refine wpAnyH_take (i := 7) (v := ?_) rfl (by kernel_rfl) (by kernel_rfl) (by kernel_rfl) (fun _ _ _ h => h) (Or.inl ⟨by rfl, ?_⟩) (by assumption) ?_
       rotate_left
       ·(intro w hSw; (try dsimp only at hSw); (go_simp <;> with_reducible rfl))
       try simp only [Act.put, zpu, zpgRcX]
       refine wpAnyH_take (i := 8) (v := ?_) rfl (by kernel_rfl) (by kernel_rfl) (by kernel_rfl) (fun _ _ _ h => h) (Or.inl ⟨by rfl, ?_⟩) (by assumption) ?_
       rotate_left
       ·(intro w hSw; (try dsimp only at hSw); (go_simp <;> with_reducible rfl))
       try simp only [Act.put, zpu, zpgRcX]
       refine wpAnyH_take (i := 9) (v := ?_) rfl (by kernel_rfl) (by kernel_rfl) (by kernel_rfl) (fun _ _ _ h => h) (Or.inl ⟨by rfl, ?_⟩) (by assumption) ?_
       rotate_left
       ·(intro w hSw; (try dsimp only at hSw); (go_simp <;> with_reducible rfl))
       try simp only [Act.put, zpu, zpgRcX]
       refine wpAnyH_take (i := 10) (v := ?_) rfl (by kernel_rfl) (by kernel_rfl) (by kernel_rfl) (fun _ _ _ h => h) (Or.inl ⟨by rfl, ?_⟩) (by assumption) ?_
       rotate_left
       ·(intro w hSw; (try dsimp only at hSw); (go_simp <;> with_reducible rfl))
       try simp only [Act.put, zpu, zpgRcX]
       refine wpAnyH_take (i := 11) (v := ?_) rfl (by kernel_rfl) (by kernel_rfl) (by kernel_rfl) (fun _ _ _ h => h) (Or.inl ⟨by rfl, ?_⟩) (by assumption) ?_
       rotate_left
       ·(intro w hSw; (try dsimp only at hSw); (go_simp <;> with_reducible rfl))
       try simp only [Act.put, zpu, zpgRcX]
       refine wpAnyH_take (i := 12) (v := ?_) rfl (by kernel_rfl) (by kernel_rfl) (by kernel_rfl) (fun _ _ _ h => h) (Or.inl ⟨by rfl, ?_⟩) (by assumption) ?_
       rotate_left
       ·(intro w hSw; (try dsimp only at hSw); (go_simp <;> with_reducible rfl))
       try simp only [Act.put, zpu, zpgRcX]
       refine wpAnyH_ready (rs := [13]) (by kernel_rfl) (by simp) ?_
       refine AllReadyH.cons rfl (fun K hK => ?_) AllReadyH.nil
       have hSb := fun (ob : Obj) => HHS.out _ ((HXD.out).ext ((Below.refl _ _).alloc (Nat.le_refl _) ob)) (HBD.out.alloc HBD.out.size ob)
       go_simp
       refine hK.out _ _ ?_ (fun hHeld13 => ?_)
       ·exact hSb _
       clear hK K hHeld
       try simp only [Act.put, zpu, zpgRcX]
       refine wpAnyH_ready (rs := [14]) (by kernel_rfl) (by simp) ?_
       refine AllReadyH.cons rfl (fun K hK => ?_) AllReadyH.nil
       refine wp_append_lies _ (.tmp 54) (.tmp 67) 113 (by rfl) W0.heap.size 112 i5 z5 5 64 Tryz.underlying113 HI.out.1 HI.out.2.1 HI.out.2.2.1 HI.out.2.2.2.1 HI.out.2.2.2.2 (by omega) (.slice (some ⟨gi, 0, none⟩) m cp) m xs (by rfl) (hownD.alloc _) ⟨D.heap.size, 0, none⟩ 1 1 [.int .i64 (i + n1), .int .i64 p1, .int .i64 q1, .string s1, .slice a2 L2 c2] (by rfl) rfl (news_of D [.int .i64 (i + n1), .int .i64 p1, .int .i64 q1, .string s1, .slice a2 L2 c2] _) (by simp [Value.oneCell']) (by omega) (by unfold maxLen; omega) (by omega) (Nat.le_trans HBD.out.size (by simp)) (D.heap.size + 1) (by simp) ?_
       intro g5 cap5 w5 hown5 hgrow5 hat5 hlt5
       have hq5 := HQD.out.push hgrow5 (HPU.out _ _ _ hown5)
       have hb5 := HBD.out.trans (below_append hgrow5 hownD HBD.out.size)
       have hx5 := (HXD.out.ext ((Below.refl _ _).alloc (Nat.le_refl _) _)).grown hgrow5 (by simp [Value.ownBlock]; exact hgi2)
       have hS5 := HHS.out _ hx5 hb5
       have H5 := Lib.hid (And.intro hq5 hb5)
       clear hown5 hgrow5 hat5 hq5 hb5 hx5
       refine hK.out _ _ ?_ (fun hHeld14 => ?_)
       ·exact hS5
       clear hK K hHeld13
       try simp only [Act.put, zpu, zpgRcX]
       refine wpAnyH_take (i := 15) (v := ?_) rfl (by kernel_rfl) (by kernel_rfl) (by kernel_rfl) (fun _ _ _ h => h) (Or.inl ⟨by rfl, ?_⟩) (by assumption) ?_
       rotate_left
       ·(intro w hSw; (try dsimp only at hSw); (go_simp <;> with_reducible rfl))
       try simp only [Act.put, zpu, zpgRcX]
       refine wpAnyH_done (by kernel_rfl) ?_ _
       go_wp2_with fail
       go_roundg (wtI (⟨i + n1, p1, q1, s1, j1⟩ :: r))
       case measure => exact Nat.lt_of_lt_of_le HM.out HWT.out
       case rel => exact ⟨⟨i + n1, p1, q1, s1, j1⟩ :: r, s, g, cap, ag, cg, _, rfl, H5.out.1, HST.out.1, HST.out.2, Nat.le_refl _, H5.out.2⟩
      ·obtain ⟨p1, q1, s1, j1, p2, q2, s2, j2, hkk⟩ := two_kids hl
       obtain ⟨bk, ok, a2, c2, rfl, hbk, hkc, hki2⟩ := kid_at (p := .nil) hkid hkk
       obtain ⟨bk', ok', a3, c3, hke, _, hkc2, hki3⟩ := kid_at (p := .cons p1 q1 s1 j1 .nil) hkid hkk
       injection hke with hke
       injection hke with hke1 hke2 _
       subst hke1 hke2
       simp only [F.len, Nat.zero_mul, Nat.add_zero, Nat.zero_add, Nat.one_mul] at hkc hkc2
       have hL1 : L = 2 := by rw [← hL, hkk]; rfl
       subst hL1
       obtain ⟨L2, hL2⟩ : ∃ x, j1.len = x := ⟨_, rfl⟩
       obtain ⟨L3, hL3⟩ : ∃ x, j2.len = x := ⟨_, rfl⟩
       rw [hL] at d4
       rw [hL2] at hkc
       rw [hL3] at hkc2
       have HKC := Lib.hid hkc
       have HKC2 := Lib.hid hkc2
       have HK2 := Lib.hid (And.intro hki2 hkk)
       have HK3 := Lib.hid hki3
       have HLL2 := Lib.hid hL2
       have HLL3 := Lib.hid hL3
       have hbkl : bk < wr.heap.size := by have := HQ.out.2.2; omega
       have hgi2 : gi ≠ wr.heap.size := by omega
       obtain rfl : n1 = 0 := (node_n hnode).2.2.1 (by omega)
       have hst : stepI W ⟨i, 7, 0, ⟨#[]⟩, k1⟩ r s = (⟨i, p1, q1, s1, j1⟩ :: ⟨i, p2, q2, s2, j2⟩ :: r, s) := by rw [hkk]; simp [stepI, nl, kidsI, St.put_none]
       have HST := Lib.hid (show Bnd (1 + t.size + k.size) (⟨i, p1, q1, s1, j1⟩ :: ⟨i, p2, q2, s2, j2⟩ :: r) s ∧ rnI W (⟨i, p1, q1, s1, j1⟩ :: ⟨i, p2, q2, s2, j2⟩ :: r) s = stD W o n t k from by
        have h1 := (hbd.step W).1
        have h2 := (stepI_run W ⟨i, 7, 0, ⟨#[]⟩, k1⟩ r s).trans hrn
        rw [hst] at h1 h2
        exact ⟨h1, h2⟩)
       have HM := Lib.hid (show wtI (⟨i, p1, q1, s1, j1⟩ :: ⟨i, p2, q2, s2, j2⟩ :: r) < wtI (⟨i, 7, 0, ⟨#[]⟩, k1⟩ :: r) from by
        have h1 := (hbd.step W).2
        rw [hst] at h1
        exact h1)
       have HWT := Lib.hid hwt
       obtain ⟨i5, z5, hi, hz, hz1, hz2, hz3⟩ := info_some infoS
       have HI := Lib.hid (And.intro hi (And.intro hz (And.intro hz1 (And.intro hz2 hz3))))
       clear hi hz hz1 hz2 hz3
       have HHS := Lib.hid (show ∀ W', XB wr.heap.size ⟨i, 7, 0, ⟨#[]⟩, k1⟩ (some ⟨bk, ok, none⟩) cx W' → Below W0.heap.size W0 W' → (fun w' => (w'.cell? ⟨wr.heap.size, 0, none⟩ = some (.int .i64 i) ∧ w'.cell? ⟨wr.heap.size, 1, none⟩ = some (.int .i64 7) ∧ w'.cell? ⟨wr.heap.size, 2, none⟩ = some (.int .i64 0) ∧ w'.cell? ⟨wr.heap.size, 3, none⟩ = some (.string ⟨#[]⟩) ∧ w'.cell? ⟨wr.heap.size, 4, none⟩ = some (.slice (some ⟨bk, ok, none⟩) 2 cx)) ∧ (w'.cell? ⟨bk, ok, none⟩ = some (.int .i64 p1) ∧ w'.cell? ⟨bk, ok + 1, none⟩ = some (.int .i64 q1) ∧ w'.cell? ⟨bk, ok + 2, none⟩ = some (.string s1) ∧ w'.cell? ⟨bk, ok + 3, none⟩ = some (.slice a2 L2 c2)) ∧ (w'.cell? ⟨bk, ok + 4, none⟩ = some (.int .i64 p2) ∧ w'.cell? ⟨bk, ok + 4 + 1, none⟩ = some (.int .i64 q2) ∧ w'.cell? ⟨bk, ok + 4 + 2, none⟩ = some (.string s2) ∧ w'.cell? ⟨bk, ok + 4 + 3, none⟩ = some (.slice a3 L3 c3))) W' from fun W' hx hb => by
        obtain ⟨y0, y1, y2, y3, y4⟩ := hx.cells
        simp only [HLL.out] at y0 y1 y2 y3 y4
        exact ⟨⟨y0, y1, y2, y3, y4⟩, ⟨HKC.out W' hb, HKC2.out W' hb⟩⟩)
       have HIT1 := Lib.hid (show ItS W0 W0.heap.size ⟨i, p1, q1, s1, j1⟩ [.int .i64 (i), .int .i64 p1, .int .i64 q1, .string s1, .slice a2 L2 c2] from ⟨a2, c2, by rw [HLL2.out], HK2.out.1⟩)
       have HIT2 := Lib.hid (show ItS W0 W0.heap.size ⟨i, p2, q2, s2, j2⟩ [.int .i64 i, .int .i64 p2, .int .i64 q2, .string s2, .slice a3 L3 c3] from ⟨a3, c3, by rw [HLL3.out], HK3.out⟩)
       have hXw : XB wr.heap.size ⟨i, 7, 0, ⟨#[]⟩, k1⟩ (some ⟨bk, ok, none⟩) cx (wr.alloc (.cells #[.int .i64 i, .int .i64 7, .int .i64 0, .string ⟨#[]⟩, .slice (some ⟨bk, ok, none⟩) 2 cx] 112)) := by unfold XB; rw [show (⟨i, 7, 0, ⟨#[]⟩, k1⟩ : Itm).k.len = 2 from hL]; exact World.alloc_heap_new wr _
       have HXW := Lib.hid hXw
       clear hXw hkc hkc2 hki2 hki3 hL hL2 hL3 hnode hkids hl hok hkid hm hpop hst hrn hwt
       go_wp2_with fail
       obtain ⟨D, hD⟩ : ∃ D, (wr.alloc (.cells #[.int .i64 i, .int .i64 7, .int .i64 0, .string ⟨#[]⟩, .slice (some ⟨bk, ok, none⟩) 2 cx] 112)).drew = D := ⟨_, rfl⟩
       have HQD := Lib.hid (hD ▸ (HQA.out (.cells #[.int .i64 i, .int .i64 7, .int .i64 0, .string ⟨#[]⟩, .slice (some ⟨bk, ok, none⟩) 2 cx] 112)).below (Below.refl _ _).drew)
       have HBD := Lib.hid (show Below W0.heap.size W0 D by rw [← hD]; exact (HQ.out.2.1.alloc HQ.out.2.2 _).drew)
       have HXD := Lib.hid (show XB wr.heap.size ⟨i, 7, 0, ⟨#[]⟩, k1⟩ (some ⟨bk, ok, none⟩) cx D by rw [← hD]; exact HXW.out)
       obtain ⟨xs, hownD, hitems⟩ := HQD.out.rest
       rw [HM0.out] at hownD
       have HXS := Lib.hid hitems
       have HPU := Lib.hid (show ∀ (w5 : World) (g5 cap5 : Nat), w5.ownsRow W0.heap.size 112 5 (.slice (some ⟨g5, 0, none⟩) (m + 2) cap5) (m + 2) (xs ++ [.int .i64 i, .int .i64 p2, .int .i64 q2, .string s2, .slice a3 L3 c3, .int .i64 i, .int .i64 p1, .int .i64 q1, .string s1, .slice a2 L2 c2]) → StackG (ItS W0 W0.heap.size) 5 w5 112 W0.heap.size (.slice (some ⟨g5, 0, none⟩) (m + 2) cap5) (⟨i, p1, q1, s1, j1⟩ :: ⟨i, p2, q2, s2, j2⟩ :: r) from fun w5 g5 cap5 h => two_push HXS.out HIT2.out HIT1.out (by rw [HM0.out]; exact h))
       refine wp_region_held_drew (S := (fun w' => (w'.cell? ⟨wr.heap.size, 0, none⟩ = some (.int .i64 i) ∧ w'.cell? ⟨wr.heap.size, 1, none⟩ = some (.int .i64 7) ∧ w'.cell? ⟨wr.heap.size, 2, none⟩ = some (.int .i64 0) ∧ w'.cell? ⟨wr.heap.size, 3, none⟩ = some (.string ⟨#[]⟩) ∧ w'.cell? ⟨wr.heap.size, 4, none⟩ = some (.slice (some ⟨bk, ok, none⟩) 2 cx)) ∧ (w'.cell? ⟨bk, ok, none⟩ = some (.int .i64 p1) ∧ w'.cell? ⟨bk, ok + 1, none⟩ = some (.int .i64 q1) ∧ w'.cell? ⟨bk, ok + 2, none⟩ = some (.string s1) ∧ w'.cell? ⟨bk, ok + 3, none⟩ = some (.slice a2 L2 c2)) ∧ (w'.cell? ⟨bk, ok + 4, none⟩ = some (.int .i64 p2) ∧ w'.cell? ⟨bk, ok + 4 + 1, none⟩ = some (.int .i64 q2) ∧ w'.cell? ⟨bk, ok + 4 + 2, none⟩ = some (.string s2) ∧ w'.cell? ⟨bk, ok + 4 + 3, none⟩ = some (.slice a3 L3 c3)))) (by kernel_rfl) ?_ (fun hHeld => ?_)
       ·rw [hD]; exact HHS.out _ HXD.out HBD.out
       rw [hD] at hHeld ⊢
       clear hD hitems
       refine wpAnyH_take (i := 0) (v := ?_) rfl (by kernel_rfl) (by kernel_rfl) (by kernel_rfl) (fun _ _ _ h => h) (Or.inl ⟨by rfl, ?_⟩) (by assumption) ?_
       rotate_left
       ·(intro w hSw; (try dsimp only at hSw); (go_simp <;> with_reducible rfl))
       try simp only [Act.put, zpu, zpgRcX]
       refine wpAnyH_take (i := 1) (v := ?_) rfl (by kernel_rfl) (by kernel_rfl) (by kernel_rfl) (fun _ _ _ h => h) (Or.inl ⟨by rfl, ?_⟩) (by assumption) ?_
       rotate_left
       ·(intro w hSw; (try dsimp only at hSw); (go_simp <;> with_reducible rfl))
       try simp only [Act.put, zpu, zpgRcX]
       refine wpAnyH_take (i := 2) (v := ?_) rfl (by kernel_rfl) (by kernel_rfl) (by kernel_rfl) (fun _ _ _ h => h) (Or.inl ⟨by rfl, ?_⟩) (by assumption) ?_
       rotate_left
       ·(intro w hSw; (try dsimp only at hSw); (go_simp <;> with_reducible rfl))
       try simp only [Act.put, zpu, zpgRcX]
       refine wpAnyH_take (i := 3) (v := ?_) rfl (by kernel_rfl) (by kernel_rfl) (by kernel_rfl) (fun _ _ _ h => h) (Or.inl ⟨by rfl, ?_⟩) (by assumption) ?_
       rotate_left
       ·(intro w hSw; (try dsimp only at hSw); (go_simp <;> with_reducible rfl))
       try simp only [Act.put, zpu, zpgRcX]
       refine wpAnyH_take (i := 4) (v := ?_) rfl (by kernel_rfl) (by kernel_rfl) (by kernel_rfl) (fun _ _ _ h => h) (Or.inl ⟨by rfl, ?_⟩) (by assumption) ?_
       rotate_left
       ·(intro w hSw; (try dsimp only at hSw); (go_simp <;> with_reducible rfl))
       try simp only [Act.put, zpu, zpgRcX]
       refine wpAnyH_take (i := 5) (v := ?_) rfl (by kernel_rfl) (by kernel_rfl) (by kernel_rfl) (fun _ _ _ h => h) (Or.inl ⟨by rfl, ?_⟩) (by assumption) ?_
       rotate_left
       ·(intro w hSw; (try dsimp only at hSw); (go_simp <;> with_reducible rfl))
       try simp only [Act.put, zpu, zpgRcX]
       refine wpAnyH_take (i := 6) (v := ?_) rfl (by kernel_rfl) (by kernel_rfl) (by kernel_rfl) (fun _ _ _ h => h) (Or.inl ⟨by rfl, ?_⟩) (by assumption) ?_
       rotate_left
       ·(intro w hSw; (try dsimp only at hSw); (go_simp <;> with_reducible rfl))
       try simp only [Act.put, zpu, zpgRcX]
       refine wpAnyH_take (i := 7) (v := ?_) rfl (by kernel_rfl) (by kernel_rfl) (by kernel_rfl) (fun _ _ _ h => h) (Or.inl ⟨by rfl, ?_⟩) (by assumption) ?_
       rotate_left
       ·(intro w hSw; (try dsimp only at hSw); (go_simp <;> with_reducible rfl))
       try simp only [Act.put, zpu, zpgRcX]
       refine wpAnyH_take (i := 8) (v := ?_) rfl (by kernel_rfl) (by kernel_rfl) (by kernel_rfl) (fun _ _ _ h => h) (Or.inl ⟨by rfl, ?_⟩) (by assumption) ?_
       rotate_left
       ·(intro w hSw; (try dsimp only at hSw); (go_simp <;> with_reducible rfl))
       try simp only [Act.put, zpu, zpgRcX]
       refine wpAnyH_take (i := 9) (v := ?_) rfl (by kernel_rfl) (by kernel_rfl) (by kernel_rfl) (fun _ _ _ h => h) (Or.inl ⟨by rfl, ?_⟩) (by assumption) ?_
       rotate_left
       ·(intro w hSw; (try dsimp only at hSw); (go_simp <;> with_reducible rfl))
       try simp only [Act.put, zpu, zpgRcX]
       refine wpAnyH_take (i := 10) (v := ?_) rfl (by kernel_rfl) (by kernel_rfl) (by kernel_rfl) (fun _ _ _ h => h) (Or.inl ⟨by rfl, ?_⟩) (by assumption) ?_
       rotate_left
       ·(intro w hSw; (try dsimp only at hSw); (go_simp <;> with_reducible rfl))
       try simp only [Act.put, zpu, zpgRcX]
       refine wpAnyH_take (i := 11) (v := ?_) rfl (by kernel_rfl) (by kernel_rfl) (by kernel_rfl) (fun _ _ _ h => h) (Or.inl ⟨by rfl, ?_⟩) (by assumption) ?_
       rotate_left
       ·(intro w hSw; (try dsimp only at hSw); (go_simp <;> with_reducible rfl))
       try simp only [Act.put, zpu, zpgRcX]
       refine wpAnyH_take (i := 12) (v := ?_) rfl (by kernel_rfl) (by kernel_rfl) (by kernel_rfl) (fun _ _ _ h => h) (Or.inl ⟨by rfl, ?_⟩) (by assumption) ?_
       rotate_left
       ·(intro w hSw; (try dsimp only at hSw); (go_simp <;> with_reducible rfl))
       try simp only [Act.put, zpu, zpgRcX]
       refine wpAnyH_take (i := 13) (v := ?_) rfl (by kernel_rfl) (by kernel_rfl) (by kernel_rfl) (fun _ _ _ h => h) (Or.inl ⟨by rfl, ?_⟩) (by assumption) ?_
       rotate_left
       ·(intro w hSw; (try dsimp only at hSw); (go_simp <;> with_reducible rfl))
       try simp only [Act.put, zpu, zpgRcX]
       refine wpAnyH_take (i := 14) (v := ?_) rfl (by kernel_rfl) (by kernel_rfl) (by kernel_rfl) (fun _ _ _ h => h) (Or.inl ⟨by rfl, ?_⟩) (by assumption) ?_
       rotate_left
       ·(intro w hSw; (try dsimp only at hSw); (go_simp <;> with_reducible rfl))
       try simp only [Act.put, zpu, zpgRcX]
       refine wpAnyH_take (i := 15) (v := ?_) rfl (by kernel_rfl) (by kernel_rfl) (by kernel_rfl) (fun _ _ _ h => h) (Or.inl ⟨by rfl, ?_⟩) (by assumption) ?_
       rotate_left
       ·(intro w hSw; (try dsimp only at hSw); (go_simp <;> with_reducible rfl))
       try simp only [Act.put, zpu, zpgRcX]
       refine wpAnyH_take (i := 16) (v := ?_) rfl (by kernel_rfl) (by kernel_rfl) (by kernel_rfl) (fun _ _ _ h => h) (Or.inl ⟨by rfl, ?_⟩) (by assumption) ?_
       rotate_left
       ·(intro w hSw; (try dsimp only at hSw); (go_simp <;> with_reducible rfl))
       try simp only [Act.put, zpu, zpgRcX]
       refine wpAnyH_ready (rs := [17]) (by kernel_rfl) (by simp) ?_
       refine AllReadyH.cons rfl (fun K hK => ?_) AllReadyH.nil
       have hSb := fun (ob : Obj) => HHS.out _ ((HXD.out).ext ((Below.refl _ _).alloc (Nat.le_refl _) ob)) (HBD.out.alloc HBD.out.size ob)
       go_simp
       refine hK.out _ _ ?_ (fun hHeld17 => ?_)
       ·exact hSb _
       clear hK K hHeld
       try simp only [Act.put, zpu, zpgRcX]
       refine wpAnyH_ready (rs := [18]) (by kernel_rfl) (by simp) ?_
       refine AllReadyH.cons rfl (fun K hK => ?_) AllReadyH.nil
       refine wp_append_lies _ (.tmp 71) (.tmp 88) 113 (by rfl) W0.heap.size 112 i5 z5 5 64 Tryz.underlying113 HI.out.1 HI.out.2.1 HI.out.2.2.1 HI.out.2.2.2.1 HI.out.2.2.2.2 (by omega) (.slice (some ⟨gi, 0, none⟩) m cp) m xs (by rfl) (hownD.alloc _) ⟨D.heap.size, 0, none⟩ 2 2 [.int .i64 i, .int .i64 p2, .int .i64 q2, .string s2, .slice a3 L3 c3, .int .i64 i, .int .i64 p1, .int .i64 q1, .string s1, .slice a2 L2 c2] (by rfl) rfl (news_of D [.int .i64 i, .int .i64 p2, .int .i64 q2, .string s2, .slice a3 L3 c3, .int .i64 i, .int .i64 p1, .int .i64 q1, .string s1, .slice a2 L2 c2] _) (by simp [Value.oneCell']) (by omega) (by unfold maxLen; omega) (by omega) (Nat.le_trans HBD.out.size (by simp)) (D.heap.size + 1) (by simp) ?_
       intro g5 cap5 w5 hown5 hgrow5 hat5 hlt5
       have hq5 := HQD.out.push hgrow5 (HPU.out _ _ _ hown5)
       have hb5 := HBD.out.trans (below_append hgrow5 hownD HBD.out.size)
       have hx5 := (HXD.out.ext ((Below.refl _ _).alloc (Nat.le_refl _) _)).grown hgrow5 (by simp [Value.ownBlock]; exact hgi2)
       have hS5 := HHS.out _ hx5 hb5
       have H5 := Lib.hid (And.intro hq5 hb5)
       clear hown5 hgrow5 hat5 hq5 hb5 hx5
       refine hK.out _ _ ?_ (fun hHeld18 => ?_)
       ·exact hS5
       clear hK K hHeld17
       try simp only [Act.put, zpu, zpgRcX]
       refine wpAnyH_take (i := 19) (v := ?_) rfl (by kernel_rfl) (by kernel_rfl) (by kernel_rfl) (fun _ _ _ h => h) (Or.inl ⟨by rfl, ?_⟩) (by assumption) ?_
       rotate_left
       ·(intro w hSw; (try dsimp only at hSw); (go_simp <;> with_reducible rfl))
       try simp only [Act.put, zpu, zpgRcX]
       refine wpAnyH_done (by kernel_rfl) ?_ _
       go_wp2_with fail
       go_roundg (wtI (⟨i, p1, q1, s1, j1⟩ :: ⟨i, p2, q2, s2, j2⟩ :: r))
       case measure => exact Nat.lt_of_lt_of_le HM.out HWT.out
       case rel => exact ⟨⟨i, p1, q1, s1, j1⟩ :: ⟨i, p2, q2, s2, j2⟩ :: r, s, g, cap, ag, cg, _, rfl, H5.out.1, HST.out.1, HST.out.2, Nat.le_refl _, H5.out.2⟩
      ·obtain ⟨p1, q1, s1, j1, hkk⟩ := one_kid hl
       obtain ⟨bk, ok, a2, c2, rfl, hbk, hkc, hki2⟩ := kid_at (p := .nil) hkid hkk
       simp only [F.len, Nat.zero_mul, Nat.add_zero] at hkc
       have hL1 : L = 1 := by rw [← hL, hkk]; rfl
       subst hL1
       obtain ⟨L2, hL2⟩ : ∃ x, j1.len = x := ⟨_, rfl⟩
       rw [hL] at d4
       rw [hL2] at hkc
       have HKC := Lib.hid hkc
       have HK2 := Lib.hid (And.intro hki2 hkk)
       have HLL2 := Lib.hid hL2
       have hbkl : bk < wr.heap.size := by have := HQ.out.2.2; omega
       have hgi2 : gi ≠ wr.heap.size := by omega
       obtain rfl : n1 = 0 := (node_n hnode).2.2.1 (by omega)
       have HOK := Lib.hid hok
       have HKX := Lib.hid hkid
       have hXw : XB wr.heap.size ⟨i, 8, 0, ⟨#[]⟩, k1⟩ (some ⟨bk, ok, none⟩) cx (wr.alloc (.cells #[.int .i64 i, .int .i64 8, .int .i64 0, .string ⟨#[]⟩, .slice (some ⟨bk, ok, none⟩) 1 cx] 112)) := by unfold XB; rw [show (⟨i, 8, 0, ⟨#[]⟩, k1⟩ : Itm).k.len = 1 from hL]; exact World.alloc_heap_new wr _
       have HXW := Lib.hid hXw
       obtain ⟨D0, hD0⟩ : ∃ D, (wr.alloc (.cells #[.int .i64 i, .int .i64 8, .int .i64 0, .string ⟨#[]⟩, .slice (some ⟨bk, ok, none⟩) 1 cx] 112)).drew = D := ⟨_, rfl⟩
       have HQD := Lib.hid (show RQ W0 W0.heap.size sb r s g cap ag cg (.slice (some ⟨gi, 0, none⟩) m cp) D0 from hD0 ▸ (HQA.out (.cells #[.int .i64 i, .int .i64 8, .int .i64 0, .string ⟨#[]⟩, .slice (some ⟨bk, ok, none⟩) 1 cx] 112)).below (Below.refl _ _).drew)
       have HBD := Lib.hid (show Below W0.heap.size W0 D0 by rw [← hD0]; exact (HQ.out.2.1.alloc HQ.out.2.2 _).drew)
       have HXD := Lib.hid (show XB wr.heap.size ⟨i, 8, 0, ⟨#[]⟩, k1⟩ (some ⟨bk, ok, none⟩) cx D0 by rw [← hD0]; exact HXW.out)
       have HHD := Lib.hid (show ∀ W', Below D0.heap.size D0 W' → (fun w' => (w'.cell? ⟨sb, 0, none⟩ = some (.slice (some ⟨g, 0, none⟩) (s.rows.length + 1) cap) ∧ w'.cell? ⟨sb, 1, none⟩ = some (.slice ag s.flags.length cg)) ∧ (w'.cell? ⟨wr.heap.size, 0, none⟩ = some (.int .i64 i) ∧ w'.cell? ⟨wr.heap.size, 1, none⟩ = some (.int .i64 8) ∧ w'.cell? ⟨wr.heap.size, 2, none⟩ = some (.int .i64 0) ∧ w'.cell? ⟨wr.heap.size, 3, none⟩ = some (.string ⟨#[]⟩) ∧ w'.cell? ⟨wr.heap.size, 4, none⟩ = some (.slice (some ⟨bk, ok, none⟩) 1 cx))) W' from fun W' hb => by
        obtain ⟨y0, y1, _, _⟩ := (HQD.out.below hb).cells
        obtain ⟨x0, x1, x2, x3, x4⟩ := (HXD.out.ext hb).cells
        simp only [HLL.out] at x0 x1 x2 x3 x4
        exact ⟨⟨y0, y1⟩, x0, x1, x2, x3, x4⟩)
       have HSUB := Lib.hid (show ∃ fx, k1.len ≤ cx ∧ ∀ W', Below D0.heap.size D0 W' → SubAt W' (some ⟨bk, ok, none⟩) k1 fx ∧ ∀ q ∈ fx, q < W'.heap.size from by
        obtain ⟨hcx, fx, hsx, hfx⟩ := hkid
        exact ⟨fx, hcx, fun W' hb => ⟨(hsx.below hfx HBD.out).below (fun q hq => by have := hfx q hq; have := HBD.out.size; omega) hb, fun q hq => by have := hfx q hq; have := HBD.out.size; have := hb.size; omega⟩⟩)
       have HCO := Lib.hid (show ∀ W', Below D0.heap.size D0 W' → Calls Tryz.prog 86 #[.agg #[.int .i64 8, .int .i64 0, .string ⟨#[]⟩, .slice (some ⟨bk, ok, none⟩) 1 cx], .int .i64 5] W' fun e w' => e = .returned (.int .i64 ((opsD 5 8 k1 : Nat) : Int)) ∧ Below W'.heap.size W' w' from fun W' hb => by
        obtain ⟨fx, hcx, h⟩ := HSUB.out
        have := CntC.specCountOps 5 W' 8 0 ⟨#[]⟩ k1 (some ⟨bk, ok, none⟩) cx fx (h W' hb).1 (h W' hb).2 hcx (by omega)
        rw [HLL.out] at this
        exact this)
       have HFL := Lib.hid (show ∀ W', Below D0.heap.size D0 W' → Calls Tryz.prog 88 #[.agg #[.int .i64 8, .int .i64 0, .string ⟨#[]⟩, .slice (some ⟨bk, ok, none⟩) 1 cx]] W' fun e w' => e = .returned (.string (flD 8 ⟨#[]⟩ k1)) ∧ Below W'.heap.size W' w' from fun W' hb => by
        obtain ⟨fx, hcx, h⟩ := HSUB.out
        have := flat_step W' 8 0 ⟨#[]⟩ k1 (flatS _ k1 (Nat.le_refl _)) (some ⟨bk, ok, none⟩) cx fx (h W' hb).1 (h W' hb).2 hcx (by have e0 : (⟨#[]⟩ : ByteArray).size = 0 := rfl; omega)
        rw [HLL.out] at this
        exact this)
       have HUS := Lib.hid (show ∀ W', Below D0.heap.size D0 W' → Calls Tryz.prog 87 #[.agg #[.slice (some ⟨g, 0, none⟩) (s.rows.length + 1) cap, .slice ag s.flags.length cg]] W' fun e w' => e = .returned (.int .i64 (s.ind + (s.txt.size : Int))) ∧ Below W'.heap.size W' w' from fun W' hb =>
        l4Used W' (vg := .nilIface) (HQD.out.below hb).rows rfl (by omega) (by omega) (by omega) (by omega) ag s.flags.length cg)
       have hldr := ldI_sz r
       have hmem := fun (y : Itm) (hy : y ∈ r) => mem_sz y hy
       have HRE := Lib.hid (show ∀ W', Below D0.heap.size D0 W' → Calls Tryz.prog 89 #[.slice (some ⟨gi, 0, none⟩) m cp] W' fun e w' => e = .returned (.int .i64 (ldI r : Nat)) ∧ Below W'.heap.size W' w' from fun W' hb => by
        have hst' := (HQD.out.below hb).rest
        rw [← HM0.out] at hst' ⊢
        exact l4Rest (HBD.out.trans (hb.mono HBD.out.size)) (Nat.le_refl _) hst' (by omega) (fun y hy => by have := hmem y hy; omega) (by omega))
       have hflz := flD_le hok
       have h8 : noD 8 k1 = noF k1 := by simp [noD]
       have hops := noD_ops 8 k1
       have hfitE : fitB W (ldI r) s ⟨#[]⟩ k1 = (noF k1 && decide (s.ind + (s.txt.size : Int) + ((flD 8 ⟨#[]⟩ k1).size : Int) + (ldI r : Int) ≤ W)) := rfl
       have E0 := Lib.hid (show Below D0.heap.size D0 D0 from Below.refl _ _)
       obtain ⟨LD, hLD⟩ : ∃ x, ldI r = x := ⟨_, rfl⟩
       obtain ⟨FS, hFS⟩ : ∃ x, flD 8 ⟨#[]⟩ k1 = x := ⟨_, rfl⟩
       obtain ⟨CO, hCO⟩ : ∃ x, opsD 5 8 k1 = x := ⟨_, rfl⟩
       have HST0 := Lib.hid (And.intro hLD hFS)
       rw [hLD] at HRE hfitE hldr
       rw [hFS] at HFL hfitE hflz
       rw [hCO] at HCO hops
       obtain ⟨ind, hind⟩ : ∃ x, s.ind = x := ⟨_, rfl⟩
       obtain ⟨ZX, hZX⟩ : ∃ x, s.txt.size = x := ⟨_, rfl⟩
       rw [hind, hZX] at HUS hfitE
       rw [hind] at hi720
       rw [hZX] at hz80
       have HFE := Lib.hid hfitE
       have e00 : (⟨#[]⟩ : ByteArray).size = 0 := rfl
       rw [e00] at hz80 hflz
       have HZX := Lib.hid hZX
       have HSTP := Lib.hid (And.intro hbd (And.intro hrn hwt))
       have HSBX := Lib.hid (show wr.heap.size ≠ sb by omega)
       by_cases hCO0 : CO = 0
       ·subst hCO0
        have hno : noF k1 = true := by rw [← h8, hops]; rfl
        rw [hno, Bool.true_and] at HFE
        have hcz : (((0 : Nat) : Int) == 0) = true := by rfl
        by_cases hfit : ind + (ZX : Int) + (FS.size : Int) + (LD : Int) ≤ W
        ·have HFIT := Lib.hid (show fitB W LD s ⟨#[]⟩ k1 = true by rw [HFE.out]; simpa using hfit)
         have HDT := Lib.hid (decide_eq_true hfit)
         have HGX := Lib.hid (show g ≠ wr.heap.size by have := (HQ.out.1.rows.lt g rfl).2; omega)
         clear hXw hkc hki2 hL hL2 hnode hkids hl hok hkid hm hpop hrn hwt hmem hLD hFS hCO hind hZX hfitE hops h8 hbd hno
         go_wp2_with fail
         refine wp_region_held_drew (S := (fun w' => (w'.cell? ⟨sb, 0, none⟩ = some (.slice (some ⟨g, 0, none⟩) (s.rows.length + 1) cap) ∧ w'.cell? ⟨sb, 1, none⟩ = some (.slice ag s.flags.length cg)) ∧ (w'.cell? ⟨wr.heap.size, 0, none⟩ = some (.int .i64 i) ∧ w'.cell? ⟨wr.heap.size, 1, none⟩ = some (.int .i64 8) ∧ w'.cell? ⟨wr.heap.size, 2, none⟩ = some (.int .i64 0) ∧ w'.cell? ⟨wr.heap.size, 3, none⟩ = some (.string ⟨#[]⟩) ∧ w'.cell? ⟨wr.heap.size, 4, none⟩ = some (.slice (some ⟨bk, ok, none⟩) 1 cx)))) (by kernel_rfl) ?_ (fun hHeld => ?_)
         ·rw [hD0]; exact HHD.out _ E0.out
         rw [hD0] at hHeld ⊢
         clear hD0
         refine wpAnyH_take (i := 0) (v := ?_) rfl (by kernel_rfl) (by kernel_rfl) (by kernel_rfl) (fun _ _ _ h => h) (Or.inl ⟨by rfl, ?_⟩) (by assumption) ?_
         rotate_left
         ·(intro w hSw; (try dsimp only at hSw); (go_simp <;> with_reducible rfl))
         try simp only [Act.put, zpu, zpgRcX]
         refine wpAnyH_take (i := 1) (v := ?_) rfl (by kernel_rfl) (by kernel_rfl) (by kernel_rfl) (fun _ _ _ h => h) (Or.inl ⟨by rfl, ?_⟩) (by assumption) ?_
         rotate_left
         ·(intro w hSw; (try dsimp only at hSw); (go_simp <;> with_reducible rfl))
         try simp only [Act.put, zpu, zpgRcX]
         refine wpAnyH_ready (rs := [2]) (by kernel_rfl) (by simp) ?_
         refine AllReadyH.cons rfl (fun K hK => ?_) AllReadyH.nil
         go_simp
         go_at_call 86
         refine (HCO.out D0 E0.out).mono ?_
         rintro e1 D1 ⟨rfl, hb⟩
         have E1 := Lib.hid (E0.out.trans (hb.mono E0.out.size))
         have hS1 := HHD.out D1 E1.out
         clear hb
         try go_wp2_with fail
         refine hK.out _ _ ?_ (fun hHeld2 => ?_)
         ·exact hS1
         clear hK K hHeld
         try simp only [Act.put, zpu, zpgRcX]
         refine wpAnyH_take (i := 3) (v := ?_) rfl (by kernel_rfl) (by kernel_rfl) (by kernel_rfl) (fun _ _ _ h => h) (Or.inl ⟨by rfl, ?_⟩) (by assumption) ?_
         rotate_left
         ·(intro w hSw; (try dsimp only at hSw); (go_simp <;> with_reducible rfl))
         try simp only [Act.put, zpu, zpgRcX]
         refine wpAnyH_take (i := 4) (v := ?_) rfl (by kernel_rfl) (by kernel_rfl) (by kernel_rfl) (fun _ _ _ h => h) (Or.inl ⟨by rfl, ?_⟩) (by assumption) ?_
         rotate_left
         ·(intro w hSw; (try dsimp only at hSw); (go_simp <;> with_reducible rfl))
         try simp only [Act.put, zpu, zpgRcX]
         refine wpAnyH_take (i := 5) (oi := { dst := some 97, op := Op.load 64 (Operand.tmp 5), type := 64, pos := "l4_greedy.go:95", after := #[{ on := 4, ground := Ground.guard }], guard := some (4, true) }) (v := ?_) rfl (by kernel_rfl) (by kernel_rfl) (by kernel_rfl) (fun _ _ _ h => h) (Or.inl ⟨by rfl, ?_⟩) (by assumption) ?_
         rotate_left
         ·(intro w hSw; (try dsimp only at hSw); (go_simp <;> with_reducible rfl))
         try simp only [Act.put, zpu, zpgRcX]
         refine wpAnyH_take (i := 7) (oi := { dst := some 99, op := Op.fieldAddr 112 (Operand.tmp 7) 1, type := 0, pos := "l4_greedy.go:95", after := #[{ on := 4, ground := Ground.guard }], guard := some (4, true) }) (v := ?_) rfl (by kernel_rfl) (by kernel_rfl) (by kernel_rfl) (fun _ _ _ h => h) (Or.inl ⟨by rfl, ?_⟩) (by assumption) ?_
         rotate_left
         ·(intro w hSw; (try dsimp only at hSw); (go_simp <;> with_reducible rfl))
         try simp only [Act.put, zpu, zpgRcX]
         refine wpAnyH_take (i := 8) (oi := { dst := some 100, op := Op.load 25 (Operand.tmp 99), type := 25, pos := "l4_greedy.go:95", after := #[{ on := 7, ground := Ground.data }, { on := 4, ground := Ground.guard }], guard := some (4, true) }) (v := ?_) rfl (by kernel_rfl) (by kernel_rfl) (by kernel_rfl) (fun _ _ _ h => h) (Or.inl ⟨by rfl, ?_⟩) (by assumption) ?_
         rotate_left
         ·(intro w hSw; (try dsimp only at hSw); (go_simp <;> with_reducible rfl))
         try simp only [Act.put, zpu, zpgRcX]
         refine wpAnyH_take (i := 12) (oi := { dst := some 104, op := Op.move (Operand.tmp 6), type := 113, pos := "l4_greedy.go:95", after := #[{ on := 4, ground := Ground.guard }], guard := some (4, true) }) (v := ?_) rfl (by kernel_rfl) (by kernel_rfl) (by kernel_rfl) (fun _ _ _ h => h) (Or.inl ⟨by rfl, ?_⟩) (by assumption) ?_
         rotate_left
         ·(intro w hSw; (try dsimp only at hSw); (go_simp <;> with_reducible rfl))
         try simp only [Act.put, zpu, zpgRcX]
         refine wpAnyH_take (i := 15) (oi := { dst := some 107, op := Op.move (Operand.tmp 1), type := 3, pos := "l4_greedy.go:95", after := #[{ on := 4, ground := Ground.guard }], guard := some (4, true) }) (v := ?_) rfl (by kernel_rfl) (by kernel_rfl) (by kernel_rfl) (fun _ _ _ h => h) (Or.inl ⟨by rfl, ?_⟩) (by assumption) ?_
         rotate_left
         ·(intro w hSw; (try dsimp only at hSw); (go_simp <;> with_reducible rfl))
         try simp only [Act.put, zpu, zpgRcX]
         refine wpAnyH_ready (rs := [6]) (by kernel_rfl) (by simp) ?_
         refine AllReadyH.cons (o := { dst := some 98, op := Op.call { callee := Callee.value (Operand.func 87), args := #[Operand.tmp 97], argTypes := #[64] }, type := 3, pos := "l4_greedy.go:95", after := #[{ on := 5, ground := Ground.data }, { on := 4, ground := Ground.chain }, { on := 4, ground := Ground.guard }], guard := some (4, true) }) rfl (fun K hK => ?_) AllReadyH.nil
         go_simp
         go_at_call 87
         refine (HUS.out D1 E1.out).mono ?_
         rintro e1 D2 ⟨rfl, hb⟩
         have E2 := Lib.hid (E1.out.trans (hb.mono E1.out.size))
         have hS2 := HHD.out D2 E2.out
         clear hb
         try go_wp2_with fail
         refine hK.out _ _ ?_ (fun hHeld6 => ?_)
         ·exact hS2
         clear hK K hHeld2
         try simp only [Act.put, zpu, zpgRcX]
         refine wpAnyH_ready (rs := [9]) (by kernel_rfl) (by simp) ?_
         refine AllReadyH.cons (o := { dst := some 101, op := Op.call { callee := Callee.value (Operand.func 88), args := #[Operand.tmp 100], argTypes := #[25] }, type := 9, pos := "l4_greedy.go:95", after := #[{ on := 8, ground := Ground.data }, { on := 6, ground := Ground.chain }, { on := 4, ground := Ground.guard }], guard := some (4, true) }) rfl (fun K hK => ?_) AllReadyH.nil
         go_simp
         go_at_call 88
         refine (HFL.out D2 E2.out).mono ?_
         rintro e1 D3 ⟨rfl, hb⟩
         have E3 := Lib.hid (E2.out.trans (hb.mono E2.out.size))
         have hS3 := HHD.out D3 E3.out
         clear hb
         try go_wp2_with fail
         refine hK.out _ _ ?_ (fun hHeld9 => ?_)
         ·exact hS3
         clear hK K hHeld6
         try simp only [Act.put, zpu, zpgRcX]
         refine wpAnyH_take (i := 10) (oi := { dst := some 102, op := Op.call { callee := Callee.builtin Builtin.len, args := #[Operand.tmp 101], argTypes := #[9] }, type := 3, pos := "l4_greedy.go:95", after := #[{ on := 9, ground := Ground.data }, { on := 4, ground := Ground.guard }], guard := some (4, true) }) (v := ?_) rfl (by kernel_rfl) (by kernel_rfl) (by kernel_rfl) (fun _ _ _ h => h) (Or.inl ⟨by rfl, ?_⟩) (by assumption) ?_
         rotate_left
         ·(intro w hSw; (try dsimp only at hSw); (go_simp <;> with_reducible rfl))
         try simp only [Act.put, zpu, zpgRcX]
         refine wpAnyH_take (i := 11) (oi := { dst := some 103, op := Op.binOp BinOp.add 3 (Operand.tmp 98) (Operand.tmp 102) 3, type := 3, pos := "l4_greedy.go:95", after := #[{ on := 6, ground := Ground.data }, { on := 10, ground := Ground.data }, { on := 4, ground := Ground.guard }], guard := some (4, true) }) (v := ?_) rfl (by kernel_rfl) (by kernel_rfl) (by kernel_rfl) (fun _ _ _ h => h) (Or.inl ⟨by rfl, ?_⟩) (by assumption) ?_
         rotate_left
         ·(intro w hSw; (try dsimp only at hSw); (go_simp <;> with_reducible rfl))
         try simp only [Act.put, zpu, zpgRcX]
         refine wpAnyH_ready (rs := [13]) (by kernel_rfl) (by simp) ?_
         refine AllReadyH.cons (o := { dst := some 105, op := Op.call { callee := Callee.value (Operand.func 89), args := #[Operand.tmp 104], argTypes := #[113] }, type := 3, pos := "l4_greedy.go:95", after := #[{ on := 12, ground := Ground.data }, { on := 9, ground := Ground.chain }, { on := 4, ground := Ground.guard }], guard := some (4, true) }) rfl (fun K hK => ?_) AllReadyH.nil
         go_simp
         go_at_call 89
         refine (HRE.out D3 E3.out).mono ?_
         rintro e1 D4 ⟨rfl, hb⟩
         have E4 := Lib.hid (E3.out.trans (hb.mono E3.out.size))
         have hS4 := HHD.out D4 E4.out
         clear hb
         try go_wp2_with fail
         refine hK.out _ _ ?_ (fun hHeld13 => ?_)
         ·exact hS4
         clear hK K hHeld9
         try simp only [Act.put, zpu, zpgRcX]
         refine wpAnyH_take (i := 14) (oi := { dst := some 106, op := Op.binOp BinOp.add 3 (Operand.tmp 103) (Operand.tmp 105) 3, type := 3, pos := "l4_greedy.go:95", after := #[{ on := 11, ground := Ground.data }, { on := 13, ground := Ground.data }, { on := 4, ground := Ground.guard }], guard := some (4, true) }) (v := ?_) rfl (by kernel_rfl) (by kernel_rfl) (by kernel_rfl) (fun _ _ _ h => h) (Or.inl ⟨by rfl, ?_⟩) (by assumption) ?_
         rotate_left
         ·(intro w hSw; (try dsimp only at hSw); (go_simp <;> with_reducible rfl))
         try simp only [Act.put, zpu, zpgRcX]
         refine wpAnyH_take (i := 16) (oi := { dst := some 108, op := Op.binOp BinOp.leq 3 (Operand.tmp 106) (Operand.tmp 107) 3, type := 4, pos := "l4_greedy.go:95", after := #[{ on := 14, ground := Ground.data }, { on := 15, ground := Ground.data }, { on := 4, ground := Ground.guard }], guard := some (4, true) }) (v := ?_) rfl (by kernel_rfl) (by kernel_rfl) (by kernel_rfl) (fun _ _ _ h => h) (Or.inl ⟨by rfl, ?_⟩) (by assumption) ?_
         rotate_left
         ·(intro w hSw; (try dsimp only at hSw); (go_simp <;> with_reducible rfl))
         try simp only [Act.put, zpu, zpgRcX]
         refine wpAnyH_take (i := 17) (v := ?_) rfl (by kernel_rfl) (by kernel_rfl) (by kernel_rfl) (fun _ _ _ h => h) (Or.inl ⟨by rfl, ?_⟩) (by assumption) ?_
         rotate_left
         ·(intro w hSw; (try dsimp only at hSw); (go_simp <;> with_reducible rfl))
         try simp only [Act.put, zpu, zpgRcX]
         refine wpAnyH_take (i := 18) (v := ?_) rfl (by kernel_rfl) (by kernel_rfl) (by kernel_rfl) (fun _ _ _ h => h) (Or.inl ⟨by rfl, ?_⟩) (by assumption) ?_
         rotate_left
         ·(intro w hSw; (try dsimp only at hSw); (go_simp <;> with_reducible rfl))
         try simp only [Act.put, zpu, zpgRcX]
         refine wpAnyH_done (by kernel_rfl) ?_ _
         have hqD := HQD.out.below E4.out
         have hownf := hqD.flags
         obtain ⟨k0', k1', z0', z1'⟩ := hqD.cells
         have HNEW := Lib.hid (fun (ob : Obj) (T : TypeId) => news_of D4 [.bool (decide (ind + (ZX : Int) + (FS.size : Int) + (LD : Int) ≤ W))] T)
         have hzD : W0.heap.size ≤ D4.heap.size := Nat.le_trans HBD.out.size E4.out.size
         obtain ⟨i1', z1'', hi, hz, hz1, hz2, hz3⟩ := info_some info1
         have HI := Lib.hid (And.intro hi (And.intro hz (And.intro hz1 (And.intro hz2 hz3))))
         clear hi hz hz1 hz2 hz3 hqD
         go_wp2_with (at_builtin; refine wpList_append_lies _ rfl (.tmp 111) (.tmp 113) 59 rfl W0.heap.size 4 i1' z1'' 1 1 Tryz.underlying59 HI.out.1 HI.out.2.1 HI.out.2.2.1 HI.out.2.2.2.1 HI.out.2.2.2.2 (by omega) (.slice ag s.flags.length cg) s.flags.length (s.flags.map Value.bool) rfl (hownf.alloc _) ⟨D4.heap.size, 0, none⟩ 1 1 [.bool (decide (ind + (ZX : Int) + (FS.size : Int) + (LD : Int) ≤ W))] rfl rfl (HNEW.out (.cells #[] 0) _) (by simp [Value.oneCell']) (by omega) (by unfold maxLen; omega) (by omega) (Nat.le_trans hzD (by simp)) (D4.heap.size + 1) (by simp) ?_; intro g6 cap6 w6 hown6 hgrow6 hat6 hlt6; have hq6 := (HQD.out.below E4.out).flag hgrow6 hown6; have hkb := keep_box (((HQD.out.below E4.out).below ((Below.refl _ _).alloc (Nat.le_refl _) _)).box) hgrow6 (own_block (hownf.alloc _)) (Ne.symm tn5); have k6 := cell_of_box hkb; have zz := BufQ.heap_frozen hkb 1; have hx6 := keep_box ((HXD.out.ext E4.out).ext ((Below.refl _ _).alloc (Nat.le_refl _) _)) hgrow6 (own_block (hownf.alloc _)) (Ne.symm tn3); have H6 := Lib.hid (And.intro hq6 (And.intro ((HBD.out.trans (E4.out.mono HBD.out.size)).trans (below_append hgrow6 hownf hzD)) (show XB wr.heap.size ⟨i, 8, 0, ⟨#[]⟩, k1⟩ (some ⟨bk, ok, none⟩) cx (w6.setCell ⟨sb, 1, none⟩ (.slice (some ⟨g6, 0, none⟩) (s.flags.length + 1) cap6)) from (show XB wr.heap.size ⟨i, 8, 0, ⟨#[]⟩, k1⟩ (some ⟨bk, ok, none⟩) cx w6 from hx6).set HSBX.out 1 _))); clear hown6 hgrow6 hat6 hq6 hkb hx6)
         have HFLN := Lib.hid (show (s.flag (decide (ind + (ZX : Int) + (FS.size : Int) + (LD : Int) ≤ W))).flags.length = s.flags.length + 1 by simp [St.flag])
         obtain ⟨D5, hD5⟩ : ∃ D, (w6.setCell ⟨sb, 1, none⟩ (.slice (some ⟨g6, 0, none⟩) (s.flags.length + 1) cap6)).drew = D := ⟨_, rfl⟩
         have HQ6 := Lib.hid (show RQ W0 W0.heap.size sb r (s.flag (decide (ind + (ZX : Int) + (FS.size : Int) + (LD : Int) ≤ W))) g cap (some ⟨g6, 0, none⟩) cap6 (.slice (some ⟨gi, 0, none⟩) m cp) D5 from hD5 ▸ H6.out.1.below (Below.refl _ _).drew)
         have HB6 := Lib.hid (show Below W0.heap.size W0 D5 by rw [← hD5]; exact (H6.out.2.1.setCell (p := ⟨sb, 1, none⟩) HSB.out _).drew)
         have HX6 := Lib.hid (show XB wr.heap.size ⟨i, 8, 0, ⟨#[]⟩, k1⟩ (some ⟨bk, ok, none⟩) cx D5 by rw [← hD5]; exact H6.out.2.2)
         have HH6 := Lib.hid (show ∀ W', Below D5.heap.size D5 W' → (fun w' => (w'.cell? ⟨sb, 0, none⟩ = some (.slice (some ⟨g, 0, none⟩) (s.rows.length + 1) cap) ∧ w'.cell? ⟨sb, 1, none⟩ = some (.slice (some ⟨g6, 0, none⟩) (s.flags.length + 1) cap6)) ∧ (w'.cell? ⟨wr.heap.size, 0, none⟩ = some (.int .i64 i) ∧ w'.cell? ⟨wr.heap.size, 1, none⟩ = some (.int .i64 8) ∧ w'.cell? ⟨wr.heap.size, 2, none⟩ = some (.int .i64 0) ∧ w'.cell? ⟨wr.heap.size, 3, none⟩ = some (.string ⟨#[]⟩) ∧ w'.cell? ⟨wr.heap.size, 4, none⟩ = some (.slice (some ⟨bk, ok, none⟩) 1 cx))) W' from fun W' hb => by have h := held_box (HQ6.out.below hb).cells (HX6.out.ext hb) HLL.out; rw [HFLN.out] at h; exact h)
         have HFL6 := Lib.hid (show ∀ W', Below D5.heap.size D5 W' → Calls Tryz.prog 88 #[.agg #[.int .i64 8, .int .i64 0, .string ⟨#[]⟩, .slice (some ⟨bk, ok, none⟩) 1 cx]] W' fun e w' => e = .returned (.string FS) ∧ Below W'.heap.size W' w' from fun W' hb => by
          obtain ⟨hcx, fx, hsx, hfx⟩ := HKX.out
          have := flat_step W' 8 0 ⟨#[]⟩ k1 (flatS _ k1 (Nat.le_refl _)) (some ⟨bk, ok, none⟩) cx fx ((hsx.below hfx HB6.out).below (fun q hq => by have := hfx q hq; have := HB6.out.size; omega) hb) (fun q hq => by have := hfx q hq; have := HB6.out.size; have := hb.size; omega) hcx (by omega)
          rw [HLL.out, HST0.out.2] at this
          exact this)
         refine wp_region_held_drew (S := (fun w' => (w'.cell? ⟨sb, 0, none⟩ = some (.slice (some ⟨g, 0, none⟩) (s.rows.length + 1) cap) ∧ w'.cell? ⟨sb, 1, none⟩ = some (.slice (some ⟨g6, 0, none⟩) (s.flags.length + 1) cap6)) ∧ (w'.cell? ⟨wr.heap.size, 0, none⟩ = some (.int .i64 i) ∧ w'.cell? ⟨wr.heap.size, 1, none⟩ = some (.int .i64 8) ∧ w'.cell? ⟨wr.heap.size, 2, none⟩ = some (.int .i64 0) ∧ w'.cell? ⟨wr.heap.size, 3, none⟩ = some (.string ⟨#[]⟩) ∧ w'.cell? ⟨wr.heap.size, 4, none⟩ = some (.slice (some ⟨bk, ok, none⟩) 1 cx)))) (by kernel_rfl) ?_ (fun hHeld => ?_)
         ·rw [hD5]; exact HH6.out _ (Below.refl _ _)
         rw [hD5] at hHeld ⊢
         clear hD5
         refine wpAnyH_take (i := 0) (v := ?_) rfl (by kernel_rfl) (by kernel_rfl) (by kernel_rfl) (fun _ _ _ h => h) (Or.inl ⟨by rfl, ?_⟩) (by assumption) ?_
         rotate_left
         ·(intro w hSw; (try dsimp only at hSw); (go_simp <;> with_reducible rfl))
         try simp only [Act.put, zpu, zpgRcX]
         refine wpAnyH_take (i := 1) (v := ?_) rfl (by kernel_rfl) (by kernel_rfl) (by kernel_rfl) (fun _ _ _ h => h) (Or.inl ⟨by rfl, ?_⟩) (by assumption) ?_
         rotate_left
         ·(intro w hSw; (try dsimp only at hSw); (go_simp <;> with_reducible rfl))
         try simp only [Act.put, zpu, zpgRcX]
         refine wpAnyH_take (i := 2) (v := ?_) rfl (by kernel_rfl) (by kernel_rfl) (by kernel_rfl) (fun _ _ _ h => h) (Or.inl ⟨by rfl, ?_⟩) (by assumption) ?_
         rotate_left
         ·(intro w hSw; (try dsimp only at hSw); (go_simp <;> with_reducible rfl))
         try simp only [Act.put, zpu, zpgRcX]
         refine wpAnyH_ready (rs := [3]) (by kernel_rfl) (by simp) ?_
         refine AllReadyH.cons rfl (fun K hK => ?_) AllReadyH.nil
         go_simp
         go_at_call 88
         refine (HFL6.out _ (Below.refl _ _)).mono ?_
         rintro e1 D6 ⟨rfl, hb⟩
         have hS6 := HH6.out D6 hb
         have hq7 := HQ6.out.below hb
         have HQ7 := Lib.hid (And.intro hq7 (HB6.out.trans (hb.mono HB6.out.size)))
         have HX7 := Lib.hid (HX6.out.ext hb)
         have HPU7 := Lib.hid (l4Put D6 (n := s.rows.length) (Y := FS) hq7.rows rfl (by omega) (by show s.txt.size ≤ 50000000; rw [HZX.out]; omega) (by omega) (some ⟨g6, 0, none⟩) (s.flags.length + 1) cap6)
         clear hb hq7
         try go_wp2_with fail
         refine hK.out _ _ ?_ (fun hHeld3 => ?_)
         ·exact hS6
         clear hK K hHeld
         try simp only [Act.put, zpu, zpgRcX]
         refine wpAnyH_ready (rs := [4]) (by kernel_rfl) (by simp) ?_
         refine AllReadyH.cons rfl (fun K hK => ?_) AllReadyH.nil
         go_simp
         go_at_call 85
         refine HPU7.out.mono ?_
         rintro e1 D7 ⟨rfl, ho, hg⟩
         have hq8 := HQ7.out.1.put ho hg
         have hb8 := below_row0 hg HQ7.out.2 HGB.out
         have hx8 := HX7.out.grown hg (by simpa using HGX.out)
         have hS7 := held_box hq8.cells hx8 HLL.out
         rw [show ((s.flag (decide (ind + (ZX : Int) + (FS.size : Int) + (LD : Int) ≤ W))).put FS).flags.length = s.flags.length + 1 from HFLN.out] at hS7
         obtain ⟨_, _, q3, q4⟩ := hq8.cells
         have HQ8 := Lib.hid (And.intro hq8 (And.intro hb8 hx8))
         have hsm := hq8.same
         have hS8 := held_box hsm.cells ((hx8.set HSBX.out 0 _).set HSBX.out 1 _) HLL.out
         rw [show ((s.flag (decide (ind + (ZX : Int) + (FS.size : Int) + (LD : Int) ≤ W))).put FS).flags.length = s.flags.length + 1 from HFLN.out] at hS8 hsm
         have HS8 := Lib.hid hS8
         have HSM := Lib.hid hsm
         clear hsm hS8
         clear ho hg hq8 hb8 hx8
         try go_wp2_with fail
         refine hK.out _ _ ?_ (fun hHeld4 => ?_)
         ·exact hS7
         clear hK K hHeld3
         try simp only [Act.put, zpu, zpgRcX]
         refine wpAnyH_ready (rs := [5]) (by kernel_rfl) (by simp) ?_
         refine AllReadyH.cons rfl (fun K hK => ?_) AllReadyH.nil
         go_simp
         refine hK.out _ _ ?_ (fun hHeld5 => ?_)
         ·exact HS8.out
         clear hK K hHeld4
         try simp only [Act.put, zpu, zpgRcX]
         refine wpAnyH_done (by kernel_rfl) ?_ _
         go_wp2_with fail
         have HFIN := Lib.hid (fit_step HFIT.out HST0.out HSTP.out)
         go_roundg (wtI r)
         case measure => have h1 := HFIN.out.2.1; have h2 := HFIN.out.2.2; omega
         case rel => exact ⟨r, (s.flag true).put FS, g, cap, some ⟨g6, 0, none⟩, cap6, _, rfl, by have h := HSM.out; rw [HDT.out] at h; exact h, HFIN.out.1.1, HFIN.out.1.2, Nat.le_refl _, (HQ8.out.2.1.setCell (p := ⟨sb, 0, none⟩) HSB.out _).setCell (p := ⟨sb, 1, none⟩) HSB.out _⟩
        ·have HFIT := Lib.hid (show fitB W LD s ⟨#[]⟩ k1 = false by rw [HFE.out]; simpa using hfit)
         have HDT := Lib.hid (decide_eq_false hfit)
         have HGX := Lib.hid (show g ≠ wr.heap.size by have := (HQ.out.1.rows.lt g rfl).2; omega)
         clear hXw hkc hki2 hL hL2 hnode hkids hl hok hkid hm hpop hrn hwt hmem hLD hFS hCO hind hZX hfitE hops h8 hbd hno
         go_wp2_with fail
         refine wp_region_held_drew (S := (fun w' => (w'.cell? ⟨sb, 0, none⟩ = some (.slice (some ⟨g, 0, none⟩) (s.rows.length + 1) cap) ∧ w'.cell? ⟨sb, 1, none⟩ = some (.slice ag s.flags.length cg)) ∧ (w'.cell? ⟨wr.heap.size, 0, none⟩ = some (.int .i64 i) ∧ w'.cell? ⟨wr.heap.size, 1, none⟩ = some (.int .i64 8) ∧ w'.cell? ⟨wr.heap.size, 2, none⟩ = some (.int .i64 0) ∧ w'.cell? ⟨wr.heap.size, 3, none⟩ = some (.string ⟨#[]⟩) ∧ w'.cell? ⟨wr.heap.size, 4, none⟩ = some (.slice (some ⟨bk, ok, none⟩) 1 cx)))) (by kernel_rfl) ?_ (fun hHeld => ?_)
         ·rw [hD0]; exact HHD.out _ E0.out
         rw [hD0] at hHeld ⊢
         clear hD0
         refine wpAnyH_take (i := 0) (v := ?_) rfl (by kernel_rfl) (by kernel_rfl) (by kernel_rfl) (fun _ _ _ h => h) (Or.inl ⟨by rfl, ?_⟩) (by assumption) ?_
         rotate_left
         ·(intro w hSw; (try dsimp only at hSw); (go_simp <;> with_reducible rfl))
         try simp only [Act.put, zpu, zpgRcX]
         refine wpAnyH_take (i := 1) (v := ?_) rfl (by kernel_rfl) (by kernel_rfl) (by kernel_rfl) (fun _ _ _ h => h) (Or.inl ⟨by rfl, ?_⟩) (by assumption) ?_
         rotate_left
         ·(intro w hSw; (try dsimp only at hSw); (go_simp <;> with_reducible rfl))
         try simp only [Act.put, zpu, zpgRcX]
         refine wpAnyH_ready (rs := [2]) (by kernel_rfl) (by simp) ?_
         refine AllReadyH.cons rfl (fun K hK => ?_) AllReadyH.nil
         go_simp
         go_at_call 86
         refine (HCO.out D0 E0.out).mono ?_
         rintro e1 D1 ⟨rfl, hb⟩
         have E1 := Lib.hid (E0.out.trans (hb.mono E0.out.size))
         have hS1 := HHD.out D1 E1.out
         clear hb
         try go_wp2_with fail
         refine hK.out _ _ ?_ (fun hHeld2 => ?_)
         ·exact hS1
         clear hK K hHeld
         try simp only [Act.put, zpu, zpgRcX]
         refine wpAnyH_take (i := 3) (v := ?_) rfl (by kernel_rfl) (by kernel_rfl) (by kernel_rfl) (fun _ _ _ h => h) (Or.inl ⟨by rfl, ?_⟩) (by assumption) ?_
         rotate_left
         ·(intro w hSw; (try dsimp only at hSw); (go_simp <;> with_reducible rfl))
         try simp only [Act.put, zpu, zpgRcX]
         refine wpAnyH_take (i := 4) (v := ?_) rfl (by kernel_rfl) (by kernel_rfl) (by kernel_rfl) (fun _ _ _ h => h) (Or.inl ⟨by rfl, ?_⟩) (by assumption) ?_
         rotate_left
         ·(intro w hSw; (try dsimp only at hSw); (go_simp <;> with_reducible rfl))
         try simp only [Act.put, zpu, zpgRcX]
         refine wpAnyH_take (i := 5) (oi := { dst := some 97, op := Op.load 64 (Operand.tmp 5), type := 64, pos := "l4_greedy.go:95", after := #[{ on := 4, ground := Ground.guard }], guard := some (4, true) }) (v := ?_) rfl (by kernel_rfl) (by kernel_rfl) (by kernel_rfl) (fun _ _ _ h => h) (Or.inl ⟨by rfl, ?_⟩) (by assumption) ?_
         rotate_left
         ·(intro w hSw; (try dsimp only at hSw); (go_simp <;> with_reducible rfl))
         try simp only [Act.put, zpu, zpgRcX]
         refine wpAnyH_take (i := 7) (oi := { dst := some 99, op := Op.fieldAddr 112 (Operand.tmp 7) 1, type := 0, pos := "l4_greedy.go:95", after := #[{ on := 4, ground := Ground.guard }], guard := some (4, true) }) (v := ?_) rfl (by kernel_rfl) (by kernel_rfl) (by kernel_rfl) (fun _ _ _ h => h) (Or.inl ⟨by rfl, ?_⟩) (by assumption) ?_
         rotate_left
         ·(intro w hSw; (try dsimp only at hSw); (go_simp <;> with_reducible rfl))
         try simp only [Act.put, zpu, zpgRcX]
         refine wpAnyH_take (i := 8) (oi := { dst := some 100, op := Op.load 25 (Operand.tmp 99), type := 25, pos := "l4_greedy.go:95", after := #[{ on := 7, ground := Ground.data }, { on := 4, ground := Ground.guard }], guard := some (4, true) }) (v := ?_) rfl (by kernel_rfl) (by kernel_rfl) (by kernel_rfl) (fun _ _ _ h => h) (Or.inl ⟨by rfl, ?_⟩) (by assumption) ?_
         rotate_left
         ·(intro w hSw; (try dsimp only at hSw); (go_simp <;> with_reducible rfl))
         try simp only [Act.put, zpu, zpgRcX]
         refine wpAnyH_take (i := 12) (oi := { dst := some 104, op := Op.move (Operand.tmp 6), type := 113, pos := "l4_greedy.go:95", after := #[{ on := 4, ground := Ground.guard }], guard := some (4, true) }) (v := ?_) rfl (by kernel_rfl) (by kernel_rfl) (by kernel_rfl) (fun _ _ _ h => h) (Or.inl ⟨by rfl, ?_⟩) (by assumption) ?_
         rotate_left
         ·(intro w hSw; (try dsimp only at hSw); (go_simp <;> with_reducible rfl))
         try simp only [Act.put, zpu, zpgRcX]
         refine wpAnyH_take (i := 15) (oi := { dst := some 107, op := Op.move (Operand.tmp 1), type := 3, pos := "l4_greedy.go:95", after := #[{ on := 4, ground := Ground.guard }], guard := some (4, true) }) (v := ?_) rfl (by kernel_rfl) (by kernel_rfl) (by kernel_rfl) (fun _ _ _ h => h) (Or.inl ⟨by rfl, ?_⟩) (by assumption) ?_
         rotate_left
         ·(intro w hSw; (try dsimp only at hSw); (go_simp <;> with_reducible rfl))
         try simp only [Act.put, zpu, zpgRcX]
         refine wpAnyH_ready (rs := [6]) (by kernel_rfl) (by simp) ?_
         refine AllReadyH.cons (o := { dst := some 98, op := Op.call { callee := Callee.value (Operand.func 87), args := #[Operand.tmp 97], argTypes := #[64] }, type := 3, pos := "l4_greedy.go:95", after := #[{ on := 5, ground := Ground.data }, { on := 4, ground := Ground.chain }, { on := 4, ground := Ground.guard }], guard := some (4, true) }) rfl (fun K hK => ?_) AllReadyH.nil
         go_simp
         go_at_call 87
         refine (HUS.out D1 E1.out).mono ?_
         rintro e1 D2 ⟨rfl, hb⟩
         have E2 := Lib.hid (E1.out.trans (hb.mono E1.out.size))
         have hS2 := HHD.out D2 E2.out
         clear hb
         try go_wp2_with fail
         refine hK.out _ _ ?_ (fun hHeld6 => ?_)
         ·exact hS2
         clear hK K hHeld2
         try simp only [Act.put, zpu, zpgRcX]
         refine wpAnyH_ready (rs := [9]) (by kernel_rfl) (by simp) ?_
         refine AllReadyH.cons (o := { dst := some 101, op := Op.call { callee := Callee.value (Operand.func 88), args := #[Operand.tmp 100], argTypes := #[25] }, type := 9, pos := "l4_greedy.go:95", after := #[{ on := 8, ground := Ground.data }, { on := 6, ground := Ground.chain }, { on := 4, ground := Ground.guard }], guard := some (4, true) }) rfl (fun K hK => ?_) AllReadyH.nil
         go_simp
         go_at_call 88
         refine (HFL.out D2 E2.out).mono ?_
         rintro e1 D3 ⟨rfl, hb⟩
         have E3 := Lib.hid (E2.out.trans (hb.mono E2.out.size))
         have hS3 := HHD.out D3 E3.out
         clear hb
         try go_wp2_with fail
         refine hK.out _ _ ?_ (fun hHeld9 => ?_)
         ·exact hS3
         clear hK K hHeld6
         try simp only [Act.put, zpu, zpgRcX]
         refine wpAnyH_take (i := 10) (oi := { dst := some 102, op := Op.call { callee := Callee.builtin Builtin.len, args := #[Operand.tmp 101], argTypes := #[9] }, type := 3, pos := "l4_greedy.go:95", after := #[{ on := 9, ground := Ground.data }, { on := 4, ground := Ground.guard }], guard := some (4, true) }) (v := ?_) rfl (by kernel_rfl) (by kernel_rfl) (by kernel_rfl) (fun _ _ _ h => h) (Or.inl ⟨by rfl, ?_⟩) (by assumption) ?_
         rotate_left
         ·(intro w hSw; (try dsimp only at hSw); (go_simp <;> with_reducible rfl))
         try simp only [Act.put, zpu, zpgRcX]
         refine wpAnyH_take (i := 11) (oi := { dst := some 103, op := Op.binOp BinOp.add 3 (Operand.tmp 98) (Operand.tmp 102) 3, type := 3, pos := "l4_greedy.go:95", after := #[{ on := 6, ground := Ground.data }, { on := 10, ground := Ground.data }, { on := 4, ground := Ground.guard }], guard := some (4, true) }) (v := ?_) rfl (by kernel_rfl) (by kernel_rfl) (by kernel_rfl) (fun _ _ _ h => h) (Or.inl ⟨by rfl, ?_⟩) (by assumption) ?_
         rotate_left
         ·(intro w hSw; (try dsimp only at hSw); (go_simp <;> with_reducible rfl))
         try simp only [Act.put, zpu, zpgRcX]
         refine wpAnyH_ready (rs := [13]) (by kernel_rfl) (by simp) ?_
         refine AllReadyH.cons (o := { dst := some 105, op := Op.call { callee := Callee.value (Operand.func 89), args := #[Operand.tmp 104], argTypes := #[113] }, type := 3, pos := "l4_greedy.go:95", after := #[{ on := 12, ground := Ground.data }, { on := 9, ground := Ground.chain }, { on := 4, ground := Ground.guard }], guard := some (4, true) }) rfl (fun K hK => ?_) AllReadyH.nil
         go_simp
         go_at_call 89
         refine (HRE.out D3 E3.out).mono ?_
         rintro e1 D4 ⟨rfl, hb⟩
         have E4 := Lib.hid (E3.out.trans (hb.mono E3.out.size))
         have hS4 := HHD.out D4 E4.out
         clear hb
         try go_wp2_with fail
         refine hK.out _ _ ?_ (fun hHeld13 => ?_)
         ·exact hS4
         clear hK K hHeld9
         try simp only [Act.put, zpu, zpgRcX]
         refine wpAnyH_take (i := 14) (oi := { dst := some 106, op := Op.binOp BinOp.add 3 (Operand.tmp 103) (Operand.tmp 105) 3, type := 3, pos := "l4_greedy.go:95", after := #[{ on := 11, ground := Ground.data }, { on := 13, ground := Ground.data }, { on := 4, ground := Ground.guard }], guard := some (4, true) }) (v := ?_) rfl (by kernel_rfl) (by kernel_rfl) (by kernel_rfl) (fun _ _ _ h => h) (Or.inl ⟨by rfl, ?_⟩) (by assumption) ?_
         rotate_left
         ·(intro w hSw; (try dsimp only at hSw); (go_simp <;> with_reducible rfl))
         try simp only [Act.put, zpu, zpgRcX]
         refine wpAnyH_take (i := 16) (oi := { dst := some 108, op := Op.binOp BinOp.leq 3 (Operand.tmp 106) (Operand.tmp 107) 3, type := 4, pos := "l4_greedy.go:95", after := #[{ on := 14, ground := Ground.data }, { on := 15, ground := Ground.data }, { on := 4, ground := Ground.guard }], guard := some (4, true) }) (v := ?_) rfl (by kernel_rfl) (by kernel_rfl) (by kernel_rfl) (fun _ _ _ h => h) (Or.inl ⟨by rfl, ?_⟩) (by assumption) ?_
         rotate_left
         ·(intro w hSw; (try dsimp only at hSw); (go_simp <;> with_reducible rfl))
         try simp only [Act.put, zpu, zpgRcX]
         refine wpAnyH_take (i := 17) (v := ?_) rfl (by kernel_rfl) (by kernel_rfl) (by kernel_rfl) (fun _ _ _ h => h) (Or.inl ⟨by rfl, ?_⟩) (by assumption) ?_
         rotate_left
         ·(intro w hSw; (try dsimp only at hSw); (go_simp <;> with_reducible rfl))
         try simp only [Act.put, zpu, zpgRcX]
         refine wpAnyH_take (i := 18) (v := ?_) rfl (by kernel_rfl) (by kernel_rfl) (by kernel_rfl) (fun _ _ _ h => h) (Or.inl ⟨by rfl, ?_⟩) (by assumption) ?_
         rotate_left
         ·(intro w hSw; (try dsimp only at hSw); (go_simp <;> with_reducible rfl))
         try simp only [Act.put, zpu, zpgRcX]
         refine wpAnyH_done (by kernel_rfl) ?_ _
         have hqD := HQD.out.below E4.out
         have hownf := hqD.flags
         obtain ⟨k0', k1', z0', z1'⟩ := hqD.cells
         have HNEW := Lib.hid (fun (ob : Obj) (T : TypeId) => news_of D4 [.bool (decide (ind + (ZX : Int) + (FS.size : Int) + (LD : Int) ≤ W))] T)
         have hzD : W0.heap.size ≤ D4.heap.size := Nat.le_trans HBD.out.size E4.out.size
         obtain ⟨i1', z1'', hi, hz, hz1, hz2, hz3⟩ := info_some info1
         have HI := Lib.hid (And.intro hi (And.intro hz (And.intro hz1 (And.intro hz2 hz3))))
         clear hi hz hz1 hz2 hz3 hqD
         go_wp2_with (at_builtin; refine wpList_append_lies _ rfl (.tmp 111) (.tmp 113) 59 rfl W0.heap.size 4 i1' z1'' 1 1 Tryz.underlying59 HI.out.1 HI.out.2.1 HI.out.2.2.1 HI.out.2.2.2.1 HI.out.2.2.2.2 (by omega) (.slice ag s.flags.length cg) s.flags.length (s.flags.map Value.bool) rfl (hownf.alloc _) ⟨D4.heap.size, 0, none⟩ 1 1 [.bool (decide (ind + (ZX : Int) + (FS.size : Int) + (LD : Int) ≤ W))] rfl rfl (HNEW.out (.cells #[] 0) _) (by simp [Value.oneCell']) (by omega) (by unfold maxLen; omega) (by omega) (Nat.le_trans hzD (by simp)) (D4.heap.size + 1) (by simp) ?_; intro g6 cap6 w6 hown6 hgrow6 hat6 hlt6; have hq6 := (HQD.out.below E4.out).flag hgrow6 hown6; have hkb := keep_box (((HQD.out.below E4.out).below ((Below.refl _ _).alloc (Nat.le_refl _) _)).box) hgrow6 (own_block (hownf.alloc _)) (Ne.symm tn5); have k6 := cell_of_box hkb; have zz := BufQ.heap_frozen hkb 1; have hx6 := keep_box ((HXD.out.ext E4.out).ext ((Below.refl _ _).alloc (Nat.le_refl _) _)) hgrow6 (own_block (hownf.alloc _)) (Ne.symm tn3); have H6 := Lib.hid (And.intro hq6 (And.intro ((HBD.out.trans (E4.out.mono HBD.out.size)).trans (below_append hgrow6 hownf hzD)) (show XB wr.heap.size ⟨i, 8, 0, ⟨#[]⟩, k1⟩ (some ⟨bk, ok, none⟩) cx (w6.setCell ⟨sb, 1, none⟩ (.slice (some ⟨g6, 0, none⟩) (s.flags.length + 1) cap6)) from (show XB wr.heap.size ⟨i, 8, 0, ⟨#[]⟩, k1⟩ (some ⟨bk, ok, none⟩) cx w6 from hx6).set HSBX.out 1 _))); clear hown6 hgrow6 hat6 hq6 hkb hx6)
         obtain ⟨i5, z5, hi, hz, hz1, hz2, hz3⟩ := info_some infoS
         have HI := Lib.hid (And.intro hi (And.intro hz (And.intro hz1 (And.intro hz2 hz3))))
         clear hi hz hz1 hz2 hz3
         have HHS := Lib.hid (show ∀ W', XB wr.heap.size ⟨i, 8, 0, ⟨#[]⟩, k1⟩ (some ⟨bk, ok, none⟩) cx W' → Below W0.heap.size W0 W' → (fun w' => (w'.cell? ⟨wr.heap.size, 0, none⟩ = some (.int .i64 i) ∧ w'.cell? ⟨wr.heap.size, 1, none⟩ = some (.int .i64 8) ∧ w'.cell? ⟨wr.heap.size, 2, none⟩ = some (.int .i64 0) ∧ w'.cell? ⟨wr.heap.size, 3, none⟩ = some (.string ⟨#[]⟩) ∧ w'.cell? ⟨wr.heap.size, 4, none⟩ = some (.slice (some ⟨bk, ok, none⟩) 1 cx)) ∧ (w'.cell? ⟨bk, ok, none⟩ = some (.int .i64 p1) ∧ w'.cell? ⟨bk, ok + 1, none⟩ = some (.int .i64 q1) ∧ w'.cell? ⟨bk, ok + 2, none⟩ = some (.string s1) ∧ w'.cell? ⟨bk, ok + 3, none⟩ = some (.slice a2 L2 c2))) W' from fun W' hx hb => by
          obtain ⟨y0, y1, y2, y3, y4⟩ := hx.cells
          simp only [HLL.out] at y0 y1 y2 y3 y4
          exact ⟨⟨y0, y1, y2, y3, y4⟩, HKC.out W' hb⟩)
         have HIT1 := Lib.hid (show ItS W0 W0.heap.size ⟨i, p1, q1, s1, j1⟩ [.int .i64 (i), .int .i64 p1, .int .i64 q1, .string s1, .slice a2 L2 c2] from ⟨a2, c2, by rw [HLL2.out], HK2.out.1⟩)
         obtain ⟨D, hD⟩ : ∃ D, (w6.setCell ⟨sb, 1, none⟩ (.slice (some ⟨g6, 0, none⟩) (s.flags.length + 1) cap6)).drew = D := ⟨_, rfl⟩
         have HQD9 := Lib.hid (show RQ W0 W0.heap.size sb r (s.flag (decide (ind + (ZX : Int) + (FS.size : Int) + (LD : Int) ≤ W))) g cap (some ⟨g6, 0, none⟩) cap6 (.slice (some ⟨gi, 0, none⟩) m cp) D from hD ▸ H6.out.1.below (Below.refl _ _).drew)
         have HBD9 := Lib.hid (show Below W0.heap.size W0 D by rw [← hD]; exact (H6.out.2.1.setCell (p := ⟨sb, 1, none⟩) HSB.out _).drew)
         have HXD9 := Lib.hid (show XB wr.heap.size ⟨i, 8, 0, ⟨#[]⟩, k1⟩ (some ⟨bk, ok, none⟩) cx D by rw [← hD]; exact H6.out.2.2)
         obtain ⟨xs, hownD, hitems⟩ := HQD9.out.rest
         rw [HM0.out] at hownD
         have HXS := Lib.hid hitems
         have HPU := Lib.hid (show ∀ (w5 : World) (g5 cap5 : Nat), w5.ownsRow W0.heap.size 112 5 (.slice (some ⟨g5, 0, none⟩) (m + 1) cap5) (m + 1) (xs ++ [.int .i64 i, .int .i64 p1, .int .i64 q1, .string s1, .slice a2 L2 c2]) → StackG (ItS W0 W0.heap.size) 5 w5 112 W0.heap.size (.slice (some ⟨g5, 0, none⟩) (m + 1) cap5) (⟨i, p1, q1, s1, j1⟩ :: r) from fun w5 g5 cap5 h => StackG.push HXS.out HIT1.out (by rw [HM0.out]; exact h))
         refine wp_region_held_drew (S := (fun w' => (w'.cell? ⟨wr.heap.size, 0, none⟩ = some (.int .i64 i) ∧ w'.cell? ⟨wr.heap.size, 1, none⟩ = some (.int .i64 8) ∧ w'.cell? ⟨wr.heap.size, 2, none⟩ = some (.int .i64 0) ∧ w'.cell? ⟨wr.heap.size, 3, none⟩ = some (.string ⟨#[]⟩) ∧ w'.cell? ⟨wr.heap.size, 4, none⟩ = some (.slice (some ⟨bk, ok, none⟩) 1 cx)) ∧ (w'.cell? ⟨bk, ok, none⟩ = some (.int .i64 p1) ∧ w'.cell? ⟨bk, ok + 1, none⟩ = some (.int .i64 q1) ∧ w'.cell? ⟨bk, ok + 2, none⟩ = some (.string s1) ∧ w'.cell? ⟨bk, ok + 3, none⟩ = some (.slice a2 L2 c2)))) (by kernel_rfl) ?_ (fun hHeld => ?_)
         ·rw [hD]; exact HHS.out _ HXD9.out HBD9.out
         rw [hD] at hHeld ⊢
         clear hD hitems
         refine wpAnyH_take (i := 0) (v := ?_) rfl (by kernel_rfl) (by kernel_rfl) (by kernel_rfl) (fun _ _ _ h => h) (Or.inl ⟨by rfl, ?_⟩) (by assumption) ?_
         rotate_left
         ·(intro w hSw; (try dsimp only at hSw); (go_simp <;> with_reducible rfl))
         try simp only [Act.put, zpu, zpgRcX]
         refine wpAnyH_take (i := 1) (v := ?_) rfl (by kernel_rfl) (by kernel_rfl) (by kernel_rfl) (fun _ _ _ h => h) (Or.inl ⟨by rfl, ?_⟩) (by assumption) ?_
         rotate_left
         ·(intro w hSw; (try dsimp only at hSw); (go_simp <;> with_reducible rfl))
         try simp only [Act.put, zpu, zpgRcX]
         refine wpAnyH_take (i := 2) (v := ?_) rfl (by kernel_rfl) (by kernel_rfl) (by kernel_rfl) (fun _ _ _ h => h) (Or.inl ⟨by rfl, ?_⟩) (by assumption) ?_
         rotate_left
         ·(intro w hSw; (try dsimp only at hSw); (go_simp <;> with_reducible rfl))
         try simp only [Act.put, zpu, zpgRcX]
         refine wpAnyH_take (i := 3) (v := ?_) rfl (by kernel_rfl) (by kernel_rfl) (by kernel_rfl) (fun _ _ _ h => h) (Or.inl ⟨by rfl, ?_⟩) (by assumption) ?_
         rotate_left
         ·(intro w hSw; (try dsimp only at hSw); (go_simp <;> with_reducible rfl))
         try simp only [Act.put, zpu, zpgRcX]
         refine wpAnyH_take (i := 4) (v := ?_) rfl (by kernel_rfl) (by kernel_rfl) (by kernel_rfl) (fun _ _ _ h => h) (Or.inl ⟨by rfl, ?_⟩) (by assumption) ?_
         rotate_left
         ·(intro w hSw; (try dsimp only at hSw); (go_simp <;> with_reducible rfl))
         try simp only [Act.put, zpu, zpgRcX]
         refine wpAnyH_take (i := 5) (v := ?_) rfl (by kernel_rfl) (by kernel_rfl) (by kernel_rfl) (fun _ _ _ h => h) (Or.inl ⟨by rfl, ?_⟩) (by assumption) ?_
         rotate_left
         ·(intro w hSw; (try dsimp only at hSw); (go_simp <;> with_reducible rfl))
         try simp only [Act.put, zpu, zpgRcX]
         refine wpAnyH_take (i := 6) (v := ?_) rfl (by kernel_rfl) (by kernel_rfl) (by kernel_rfl) (fun _ _ _ h => h) (Or.inl ⟨by rfl, ?_⟩) (by assumption) ?_
         rotate_left
         ·(intro w hSw; (try dsimp only at hSw); (go_simp <;> with_reducible rfl))
         try simp only [Act.put, zpu, zpgRcX]
         refine wpAnyH_take (i := 7) (v := ?_) rfl (by kernel_rfl) (by kernel_rfl) (by kernel_rfl) (fun _ _ _ h => h) (Or.inl ⟨by rfl, ?_⟩) (by assumption) ?_
         rotate_left
         ·(intro w hSw; (try dsimp only at hSw); (go_simp <;> with_reducible rfl))
         try simp only [Act.put, zpu, zpgRcX]
         refine wpAnyH_take (i := 8) (v := ?_) rfl (by kernel_rfl) (by kernel_rfl) (by kernel_rfl) (fun _ _ _ h => h) (Or.inl ⟨by rfl, ?_⟩) (by assumption) ?_
         rotate_left
         ·(intro w hSw; (try dsimp only at hSw); (go_simp <;> with_reducible rfl))
         try simp only [Act.put, zpu, zpgRcX]
         refine wpAnyH_ready (rs := [9]) (by kernel_rfl) (by simp) ?_
         refine AllReadyH.cons rfl (fun K hK => ?_) AllReadyH.nil
         have hSb := fun (ob : Obj) => HHS.out _ ((HXD9.out).ext ((Below.refl _ _).alloc (Nat.le_refl _) ob)) (HBD9.out.alloc HBD9.out.size ob)
         go_simp
         refine hK.out _ _ ?_ (fun hHeld9 => ?_)
         ·exact hSb _
         clear hK K hHeld
         try simp only [Act.put, zpu, zpgRcX]
         refine wpAnyH_ready (rs := [10]) (by kernel_rfl) (by simp) ?_
         refine AllReadyH.cons rfl (fun K hK => ?_) AllReadyH.nil
         refine wp_append_lies _ (.tmp 122) (.tmp 131) 113 (by rfl) W0.heap.size 112 i5 z5 5 64 Tryz.underlying113 HI.out.1 HI.out.2.1 HI.out.2.2.1 HI.out.2.2.2.1 HI.out.2.2.2.2 (by omega) (.slice (some ⟨gi, 0, none⟩) m cp) m xs (by rfl) (hownD.alloc _) ⟨D.heap.size, 0, none⟩ 1 1 [.int .i64 i, .int .i64 p1, .int .i64 q1, .string s1, .slice a2 L2 c2] (by rfl) rfl (news_of D [.int .i64 i, .int .i64 p1, .int .i64 q1, .string s1, .slice a2 L2 c2] _) (by simp [Value.oneCell']) (by omega) (by unfold maxLen; omega) (by omega) (Nat.le_trans HBD9.out.size (by simp)) (D.heap.size + 1) (by simp) ?_
         intro g5 cap5 w5 hown5 hgrow5 hat5 hlt5
         have hq5 := HQD9.out.push hgrow5 (HPU.out _ _ _ hown5)
         have hb5 := HBD9.out.trans (below_append hgrow5 hownD HBD9.out.size)
         have hx5 := (HXD9.out.ext ((Below.refl _ _).alloc (Nat.le_refl _) _)).grown hgrow5 (by simp [Value.ownBlock]; exact hgi2)
         have hS5 := HHS.out _ hx5 hb5
         have H5 := Lib.hid (And.intro hq5 hb5)
         clear hown5 hgrow5 hat5 hq5 hb5 hx5
         refine hK.out _ _ ?_ (fun hHeld10 => ?_)
         ·exact hS5
         clear hK K hHeld9
         try simp only [Act.put, zpu, zpgRcX]
         refine wpAnyH_take (i := 11) (v := ?_) rfl (by kernel_rfl) (by kernel_rfl) (by kernel_rfl) (fun _ _ _ h => h) (Or.inl ⟨by rfl, ?_⟩) (by assumption) ?_
         rotate_left
         ·(intro w hSw; (try dsimp only at hSw); (go_simp <;> with_reducible rfl))
         try simp only [Act.put, zpu, zpgRcX]
         refine wpAnyH_done (by kernel_rfl) ?_ _
         go_wp2_with fail
         have HFIN := Lib.hid (unfit_step (i := i) HFIT.out HST0.out HK2.out.2 HSTP.out)
         go_roundg (wtI (⟨i, p1, q1, s1, j1⟩ :: r))
         case measure => have h1 := HFIN.out.2.1; have h2 := HFIN.out.2.2; omega
         case rel => exact ⟨⟨i, p1, q1, s1, j1⟩ :: r, s.flag false, g, cap, some ⟨g6, 0, none⟩, cap6, _, rfl, (by first | exact H5.out.1 | (have h := H5.out.1; rw [HDT.out] at h; exact h)), HFIN.out.1.1, HFIN.out.1.2, Nat.le_refl _, H5.out.2⟩
       ·have hno : noF k1 = false := by rw [← h8, hops]; simpa using hCO0
        rw [hno, Bool.false_and] at HFE
        have hcz : ¬ ((CO : Int) = 0) := by omega
        have hczb : ((CO : Int) == 0) = false := by simpa using hCO0
        have hczd : decide ((CO : Int) = 0) = false := by simpa using hCO0
        have HFIT := HFE
        have HDT := Lib.hid (rfl : false = false)
        clear hXw hkc hki2 hL hL2 hnode hkids hl hok hkid hm hpop hrn hwt hmem hLD hFS hCO hind hZX hfitE hops h8 hbd hno
        go_wp2_with fail
        refine wp_region_held_drew (S := (fun w' => (w'.cell? ⟨sb, 0, none⟩ = some (.slice (some ⟨g, 0, none⟩) (s.rows.length + 1) cap) ∧ w'.cell? ⟨sb, 1, none⟩ = some (.slice ag s.flags.length cg)) ∧ (w'.cell? ⟨wr.heap.size, 0, none⟩ = some (.int .i64 i) ∧ w'.cell? ⟨wr.heap.size, 1, none⟩ = some (.int .i64 8) ∧ w'.cell? ⟨wr.heap.size, 2, none⟩ = some (.int .i64 0) ∧ w'.cell? ⟨wr.heap.size, 3, none⟩ = some (.string ⟨#[]⟩) ∧ w'.cell? ⟨wr.heap.size, 4, none⟩ = some (.slice (some ⟨bk, ok, none⟩) 1 cx)))) (by kernel_rfl) ?_ (fun hHeld => ?_)
        ·rw [hD0]; exact HHD.out _ E0.out
        rw [hD0] at hHeld ⊢
        clear hD0
        refine wpAnyH_take (i := 0) (v := ?_) rfl (by kernel_rfl) (by kernel_rfl) (by kernel_rfl) (fun _ _ _ h => h) (Or.inl ⟨by rfl, ?_⟩) (by assumption) ?_
        rotate_left
        ·(intro w hSw; (try dsimp only at hSw); (go_simp <;> with_reducible rfl))
        try simp only [Act.put, zpu, zpgRcX]
        refine wpAnyH_take (i := 1) (v := ?_) rfl (by kernel_rfl) (by kernel_rfl) (by kernel_rfl) (fun _ _ _ h => h) (Or.inl ⟨by rfl, ?_⟩) (by assumption) ?_
        rotate_left
        ·(intro w hSw; (try dsimp only at hSw); (go_simp <;> with_reducible rfl))
        try simp only [Act.put, zpu, zpgRcX]
        refine wpAnyH_ready (rs := [2]) (by kernel_rfl) (by simp) ?_
        refine AllReadyH.cons rfl (fun K hK => ?_) AllReadyH.nil
        go_simp
        go_at_call 86
        refine (HCO.out D0 E0.out).mono ?_
        rintro e1 D1 ⟨rfl, hb⟩
        have E1 := Lib.hid (E0.out.trans (hb.mono E0.out.size))
        have hS1 := HHD.out D1 E1.out
        clear hb
        try go_wp2_with fail
        refine hK.out _ _ ?_ (fun hHeld2 => ?_)
        ·exact hS1
        clear hK K hHeld
        try simp only [Act.put, zpu, zpgRcX]
        refine wpAnyH_take (i := 3) (v := ?_) rfl (by kernel_rfl) (by kernel_rfl) (by kernel_rfl) (fun _ _ _ h => h) (Or.inl ⟨by rfl, ?_⟩) (by assumption) ?_
        rotate_left
        ·(intro w hSw; (try dsimp only at hSw); (go_simp <;> with_reducible rfl))
        try simp only [Act.put, zpu, zpgRcX]
        refine wpAnyH_take (i := 4) (v := ?_) rfl (by kernel_rfl) (by kernel_rfl) (by kernel_rfl) (fun _ _ _ h => h) (Or.inl ⟨by rfl, ?_⟩) (by assumption) ?_
        rotate_left
        ·(intro w hSw; (try dsimp only at hSw); (go_simp <;> with_reducible rfl))
        try simp only [Act.put, zpu, zpgRcX]
        refine wpAnyH_take (i := 5) (oi := { dst := some 97, op := Op.load 64 (Operand.tmp 5), type := 64, pos := "l4_greedy.go:95", after := #[{ on := 4, ground := Ground.guard }], guard := some (4, true) }) (v := undef) rfl (by kernel_rfl) (by kernel_rfl) (by kernel_rfl) (fun _ _ _ h => h) (Or.inr ⟨by rfl, rfl⟩) (by assumption) ?_
        try simp only [Act.put, zpu, zpgRcX]
        refine wpAnyH_take (i := 6) (oi := { dst := some 98, op := Op.call { callee := Callee.value (Operand.func 87), args := #[Operand.tmp 97], argTypes := #[64] }, type := 3, pos := "l4_greedy.go:95", after := #[{ on := 5, ground := Ground.data }, { on := 4, ground := Ground.chain }, { on := 4, ground := Ground.guard }], guard := some (4, true) }) (v := undef) rfl (by kernel_rfl) (by kernel_rfl) (by kernel_rfl) (fun _ _ _ h => h) (Or.inr ⟨by rfl, rfl⟩) (by assumption) ?_
        try simp only [Act.put, zpu, zpgRcX]
        refine wpAnyH_take (i := 7) (oi := { dst := some 99, op := Op.fieldAddr 112 (Operand.tmp 7) 1, type := 0, pos := "l4_greedy.go:95", after := #[{ on := 4, ground := Ground.guard }], guard := some (4, true) }) (v := undef) rfl (by kernel_rfl) (by kernel_rfl) (by kernel_rfl) (fun _ _ _ h => h) (Or.inr ⟨by rfl, rfl⟩) (by assumption) ?_
        try simp only [Act.put, zpu, zpgRcX]
        refine wpAnyH_take (i := 8) (oi := { dst := some 100, op := Op.load 25 (Operand.tmp 99), type := 25, pos := "l4_greedy.go:95", after := #[{ on := 7, ground := Ground.data }, { on := 4, ground := Ground.guard }], guard := some (4, true) }) (v := undef) rfl (by kernel_rfl) (by kernel_rfl) (by kernel_rfl) (fun _ _ _ h => h) (Or.inr ⟨by rfl, rfl⟩) (by assumption) ?_
        try simp only [Act.put, zpu, zpgRcX]
        refine wpAnyH_take (i := 9) (oi := { dst := some 101, op := Op.call { callee := Callee.value (Operand.func 88), args := #[Operand.tmp 100], argTypes := #[25] }, type := 9, pos := "l4_greedy.go:95", after := #[{ on := 8, ground := Ground.data }, { on := 6, ground := Ground.chain }, { on := 4, ground := Ground.guard }], guard := some (4, true) }) (v := undef) rfl (by kernel_rfl) (by kernel_rfl) (by kernel_rfl) (fun _ _ _ h => h) (Or.inr ⟨by rfl, rfl⟩) (by assumption) ?_
        try simp only [Act.put, zpu, zpgRcX]
        refine wpAnyH_take (i := 10) (oi := { dst := some 102, op := Op.call { callee := Callee.builtin Builtin.len, args := #[Operand.tmp 101], argTypes := #[9] }, type := 3, pos := "l4_greedy.go:95", after := #[{ on := 9, ground := Ground.data }, { on := 4, ground := Ground.guard }], guard := some (4, true) }) (v := undef) rfl (by kernel_rfl) (by kernel_rfl) (by kernel_rfl) (fun _ _ _ h => h) (Or.inr ⟨by rfl, rfl⟩) (by assumption) ?_
        try simp only [Act.put, zpu, zpgRcX]
        refine wpAnyH_take (i := 11) (oi := { dst := some 103, op := Op.binOp BinOp.add 3 (Operand.tmp 98) (Operand.tmp 102) 3, type := 3, pos := "l4_greedy.go:95", after := #[{ on := 6, ground := Ground.data }, { on := 10, ground := Ground.data }, { on := 4, ground := Ground.guard }], guard := some (4, true) }) (v := undef) rfl (by kernel_rfl) (by kernel_rfl) (by kernel_rfl) (fun _ _ _ h => h) (Or.inr ⟨by rfl, rfl⟩) (by assumption) ?_
        try simp only [Act.put, zpu, zpgRcX]
        refine wpAnyH_take (i := 12) (oi := { dst := some 104, op := Op.move (Operand.tmp 6), type := 113, pos := "l4_greedy.go:95", after := #[{ on := 4, ground := Ground.guard }], guard := some (4, true) }) (v := undef) rfl (by kernel_rfl) (by kernel_rfl) (by kernel_rfl) (fun _ _ _ h => h) (Or.inr ⟨by rfl, rfl⟩) (by assumption) ?_
        try simp only [Act.put, zpu, zpgRcX]
        refine wpAnyH_take (i := 13) (oi := { dst := some 105, op := Op.call { callee := Callee.value (Operand.func 89), args := #[Operand.tmp 104], argTypes := #[113] }, type := 3, pos := "l4_greedy.go:95", after := #[{ on := 12, ground := Ground.data }, { on := 9, ground := Ground.chain }, { on := 4, ground := Ground.guard }], guard := some (4, true) }) (v := undef) rfl (by kernel_rfl) (by kernel_rfl) (by kernel_rfl) (fun _ _ _ h => h) (Or.inr ⟨by rfl, rfl⟩) (by assumption) ?_
        try simp only [Act.put, zpu, zpgRcX]
        refine wpAnyH_take (i := 14) (oi := { dst := some 106, op := Op.binOp BinOp.add 3 (Operand.tmp 103) (Operand.tmp 105) 3, type := 3, pos := "l4_greedy.go:95", after := #[{ on := 11, ground := Ground.data }, { on := 13, ground := Ground.data }, { on := 4, ground := Ground.guard }], guard := some (4, true) }) (v := undef) rfl (by kernel_rfl) (by kernel_rfl) (by kernel_rfl) (fun _ _ _ h => h) (Or.inr ⟨by rfl, rfl⟩) (by assumption) ?_
        try simp only [Act.put, zpu, zpgRcX]
        refine wpAnyH_take (i := 15) (oi := { dst := some 107, op := Op.move (Operand.tmp 1), type := 3, pos := "l4_greedy.go:95", after := #[{ on := 4, ground := Ground.guard }], guard := some (4, true) }) (v := undef) rfl (by kernel_rfl) (by kernel_rfl) (by kernel_rfl) (fun _ _ _ h => h) (Or.inr ⟨by rfl, rfl⟩) (by assumption) ?_
        try simp only [Act.put, zpu, zpgRcX]
        refine wpAnyH_take (i := 16) (oi := { dst := some 108, op := Op.binOp BinOp.leq 3 (Operand.tmp 106) (Operand.tmp 107) 3, type := 4, pos := "l4_greedy.go:95", after := #[{ on := 14, ground := Ground.data }, { on := 15, ground := Ground.data }, { on := 4, ground := Ground.guard }], guard := some (4, true) }) (v := undef) rfl (by kernel_rfl) (by kernel_rfl) (by kernel_rfl) (fun _ _ _ h => h) (Or.inr ⟨by rfl, rfl⟩) (by assumption) ?_
        try simp only [Act.put, zpu, zpgRcX]
        refine wpAnyH_take (i := 17) (v := ?_) rfl (by kernel_rfl) (by kernel_rfl) (by kernel_rfl) (fun _ _ _ h => h) (Or.inl ⟨by rfl, ?_⟩) (by assumption) ?_
        rotate_left
        ·(intro w hSw; (try dsimp only at hSw); (go_simp <;> with_reducible rfl))
        try simp only [Act.put, zpu, zpgRcX]
        refine wpAnyH_take (i := 18) (v := ?_) rfl (by kernel_rfl) (by kernel_rfl) (by kernel_rfl) (fun _ _ _ h => h) (Or.inl ⟨by rfl, ?_⟩) (by assumption) ?_
        rotate_left
        ·(intro w hSw; (try dsimp only at hSw); (go_simp <;> with_reducible rfl))
        try simp only [Act.put, zpu, zpgRcX]
        refine wpAnyH_done (by kernel_rfl) ?_ _
        have hqD := HQD.out.below E1.out
        have hownf := hqD.flags
        obtain ⟨k0', k1', z0', z1'⟩ := hqD.cells
        have HNEW := Lib.hid (fun (ob : Obj) (T : TypeId) => news_of D1 [.bool false] T)
        have hzD : W0.heap.size ≤ D1.heap.size := Nat.le_trans HBD.out.size E1.out.size
        obtain ⟨i1', z1'', hi, hz, hz1, hz2, hz3⟩ := info_some info1
        have HI := Lib.hid (And.intro hi (And.intro hz (And.intro hz1 (And.intro hz2 hz3))))
        clear hi hz hz1 hz2 hz3 hqD
        go_wp2_with (at_builtin; refine wpList_append_lies _ rfl (.tmp 111) (.tmp 113) 59 rfl W0.heap.size 4 i1' z1'' 1 1 Tryz.underlying59 HI.out.1 HI.out.2.1 HI.out.2.2.1 HI.out.2.2.2.1 HI.out.2.2.2.2 (by omega) (.slice ag s.flags.length cg) s.flags.length (s.flags.map Value.bool) rfl (hownf.alloc _) ⟨D1.heap.size, 0, none⟩ 1 1 [.bool false] rfl rfl (HNEW.out (.cells #[] 0) _) (by simp [Value.oneCell']) (by omega) (by unfold maxLen; omega) (by omega) (Nat.le_trans hzD (by simp)) (D1.heap.size + 1) (by simp) ?_; intro g6 cap6 w6 hown6 hgrow6 hat6 hlt6; have hq6 := (HQD.out.below E1.out).flag hgrow6 hown6; have hkb := keep_box (((HQD.out.below E1.out).below ((Below.refl _ _).alloc (Nat.le_refl _) _)).box) hgrow6 (own_block (hownf.alloc _)) (Ne.symm tn5); have k6 := cell_of_box hkb; have zz := BufQ.heap_frozen hkb 1; have hx6 := keep_box ((HXD.out.ext E1.out).ext ((Below.refl _ _).alloc (Nat.le_refl _) _)) hgrow6 (own_block (hownf.alloc _)) (Ne.symm tn3); have H6 := Lib.hid (And.intro hq6 (And.intro ((HBD.out.trans (E1.out.mono HBD.out.size)).trans (below_append hgrow6 hownf hzD)) (show XB wr.heap.size ⟨i, 8, 0, ⟨#[]⟩, k1⟩ (some ⟨bk, ok, none⟩) cx (w6.setCell ⟨sb, 1, none⟩ (.slice (some ⟨g6, 0, none⟩) (s.flags.length + 1) cap6)) from (show XB wr.heap.size ⟨i, 8, 0, ⟨#[]⟩, k1⟩ (some ⟨bk, ok, none⟩) cx w6 from hx6).set HSBX.out 1 _))); clear hown6 hgrow6 hat6 hq6 hkb hx6)
        obtain ⟨i5, z5, hi, hz, hz1, hz2, hz3⟩ := info_some infoS
        have HI := Lib.hid (And.intro hi (And.intro hz (And.intro hz1 (And.intro hz2 hz3))))
        clear hi hz hz1 hz2 hz3
        have HHS := Lib.hid (show ∀ W', XB wr.heap.size ⟨i, 8, 0, ⟨#[]⟩, k1⟩ (some ⟨bk, ok, none⟩) cx W' → Below W0.heap.size W0 W' → (fun w' => (w'.cell? ⟨wr.heap.size, 0, none⟩ = some (.int .i64 i) ∧ w'.cell? ⟨wr.heap.size, 1, none⟩ = some (.int .i64 8) ∧ w'.cell? ⟨wr.heap.size, 2, none⟩ = some (.int .i64 0) ∧ w'.cell? ⟨wr.heap.size, 3, none⟩ = some (.string ⟨#[]⟩) ∧ w'.cell? ⟨wr.heap.size, 4, none⟩ = some (.slice (some ⟨bk, ok, none⟩) 1 cx)) ∧ (w'.cell? ⟨bk, ok, none⟩ = some (.int .i64 p1) ∧ w'.cell? ⟨bk, ok + 1, none⟩ = some (.int .i64 q1) ∧ w'.cell? ⟨bk, ok + 2, none⟩ = some (.string s1) ∧ w'.cell? ⟨bk, ok + 3, none⟩ = some (.slice a2 L2 c2))) W' from fun W' hx hb => by
         obtain ⟨y0, y1, y2, y3, y4⟩ := hx.cells
         simp only [HLL.out] at y0 y1 y2 y3 y4
         exact ⟨⟨y0, y1, y2, y3, y4⟩, HKC.out W' hb⟩)
        have HIT1 := Lib.hid (show ItS W0 W0.heap.size ⟨i, p1, q1, s1, j1⟩ [.int .i64 (i), .int .i64 p1, .int .i64 q1, .string s1, .slice a2 L2 c2] from ⟨a2, c2, by rw [HLL2.out], HK2.out.1⟩)
        obtain ⟨D, hD⟩ : ∃ D, (w6.setCell ⟨sb, 1, none⟩ (.slice (some ⟨g6, 0, none⟩) (s.flags.length + 1) cap6)).drew = D := ⟨_, rfl⟩
        have HQD9 := Lib.hid (show RQ W0 W0.heap.size sb r (s.flag false) g cap (some ⟨g6, 0, none⟩) cap6 (.slice (some ⟨gi, 0, none⟩) m cp) D from hD ▸ H6.out.1.below (Below.refl _ _).drew)
        have HBD9 := Lib.hid (show Below W0.heap.size W0 D by rw [← hD]; exact (H6.out.2.1.setCell (p := ⟨sb, 1, none⟩) HSB.out _).drew)
        have HXD9 := Lib.hid (show XB wr.heap.size ⟨i, 8, 0, ⟨#[]⟩, k1⟩ (some ⟨bk, ok, none⟩) cx D by rw [← hD]; exact H6.out.2.2)
        obtain ⟨xs, hownD, hitems⟩ := HQD9.out.rest
        rw [HM0.out] at hownD
        have HXS := Lib.hid hitems
        have HPU := Lib.hid (show ∀ (w5 : World) (g5 cap5 : Nat), w5.ownsRow W0.heap.size 112 5 (.slice (some ⟨g5, 0, none⟩) (m + 1) cap5) (m + 1) (xs ++ [.int .i64 i, .int .i64 p1, .int .i64 q1, .string s1, .slice a2 L2 c2]) → StackG (ItS W0 W0.heap.size) 5 w5 112 W0.heap.size (.slice (some ⟨g5, 0, none⟩) (m + 1) cap5) (⟨i, p1, q1, s1, j1⟩ :: r) from fun w5 g5 cap5 h => StackG.push HXS.out HIT1.out (by rw [HM0.out]; exact h))
        refine wp_region_held_drew (S := (fun w' => (w'.cell? ⟨wr.heap.size, 0, none⟩ = some (.int .i64 i) ∧ w'.cell? ⟨wr.heap.size, 1, none⟩ = some (.int .i64 8) ∧ w'.cell? ⟨wr.heap.size, 2, none⟩ = some (.int .i64 0) ∧ w'.cell? ⟨wr.heap.size, 3, none⟩ = some (.string ⟨#[]⟩) ∧ w'.cell? ⟨wr.heap.size, 4, none⟩ = some (.slice (some ⟨bk, ok, none⟩) 1 cx)) ∧ (w'.cell? ⟨bk, ok, none⟩ = some (.int .i64 p1) ∧ w'.cell? ⟨bk, ok + 1, none⟩ = some (.int .i64 q1) ∧ w'.cell? ⟨bk, ok + 2, none⟩ = some (.string s1) ∧ w'.cell? ⟨bk, ok + 3, none⟩ = some (.slice a2 L2 c2)))) (by kernel_rfl) ?_ (fun hHeld => ?_)
        ·rw [hD]; exact HHS.out _ HXD9.out HBD9.out
        rw [hD] at hHeld ⊢
        clear hD hitems
        refine wpAnyH_take (i := 0) (v := ?_) rfl (by kernel_rfl) (by kernel_rfl) (by kernel_rfl) (fun _ _ _ h => h) (Or.inl ⟨by rfl, ?_⟩) (by assumption) ?_
        rotate_left
        ·(intro w hSw; (try dsimp only at hSw); (go_simp <;> with_reducible rfl))
        try simp only [Act.put, zpu, zpgRcX]
        refine wpAnyH_take (i := 1) (v := ?_) rfl (by kernel_rfl) (by kernel_rfl) (by kernel_rfl) (fun _ _ _ h => h) (Or.inl ⟨by rfl, ?_⟩) (by assumption) ?_
        rotate_left
        ·(intro w hSw; (try dsimp only at hSw); (go_simp <;> with_reducible rfl))
        try simp only [Act.put, zpu, zpgRcX]
        refine wpAnyH_take (i := 2) (v := ?_) rfl (by kernel_rfl) (by kernel_rfl) (by kernel_rfl) (fun _ _ _ h => h) (Or.inl ⟨by rfl, ?_⟩) (by assumption) ?_
        rotate_left
        ·(intro w hSw; (try dsimp only at hSw); (go_simp <;> with_reducible rfl))
        try simp only [Act.put, zpu, zpgRcX]
        refine wpAnyH_take (i := 3) (v := ?_) rfl (by kernel_rfl) (by kernel_rfl) (by kernel_rfl) (fun _ _ _ h => h) (Or.inl ⟨by rfl, ?_⟩) (by assumption) ?_
        rotate_left
        ·(intro w hSw; (try dsimp only at hSw); (go_simp <;> with_reducible rfl))
        try simp only [Act.put, zpu, zpgRcX]
        refine wpAnyH_take (i := 4) (v := ?_) rfl (by kernel_rfl) (by kernel_rfl) (by kernel_rfl) (fun _ _ _ h => h) (Or.inl ⟨by rfl, ?_⟩) (by assumption) ?_
        rotate_left
        ·(intro w hSw; (try dsimp only at hSw); (go_simp <;> with_reducible rfl))
        try simp only [Act.put, zpu, zpgRcX]
        refine wpAnyH_take (i := 5) (v := ?_) rfl (by kernel_rfl) (by kernel_rfl) (by kernel_rfl) (fun _ _ _ h => h) (Or.inl ⟨by rfl, ?_⟩) (by assumption) ?_
        rotate_left
        ·(intro w hSw; (try dsimp only at hSw); (go_simp <;> with_reducible rfl))
        try simp only [Act.put, zpu, zpgRcX]
        refine wpAnyH_take (i := 6) (v := ?_) rfl (by kernel_rfl) (by kernel_rfl) (by kernel_rfl) (fun _ _ _ h => h) (Or.inl ⟨by rfl, ?_⟩) (by assumption) ?_
        rotate_left
        ·(intro w hSw; (try dsimp only at hSw); (go_simp <;> with_reducible rfl))
        try simp only [Act.put, zpu, zpgRcX]
        refine wpAnyH_take (i := 7) (v := ?_) rfl (by kernel_rfl) (by kernel_rfl) (by kernel_rfl) (fun _ _ _ h => h) (Or.inl ⟨by rfl, ?_⟩) (by assumption) ?_
        rotate_left
        ·(intro w hSw; (try dsimp only at hSw); (go_simp <;> with_reducible rfl))
        try simp only [Act.put, zpu, zpgRcX]
        refine wpAnyH_take (i := 8) (v := ?_) rfl (by kernel_rfl) (by kernel_rfl) (by kernel_rfl) (fun _ _ _ h => h) (Or.inl ⟨by rfl, ?_⟩) (by assumption) ?_
        rotate_left
        ·(intro w hSw; (try dsimp only at hSw); (go_simp <;> with_reducible rfl))
        try simp only [Act.put, zpu, zpgRcX]
        refine wpAnyH_ready (rs := [9]) (by kernel_rfl) (by simp) ?_
        refine AllReadyH.cons rfl (fun K hK => ?_) AllReadyH.nil
        have hSb := fun (ob : Obj) => HHS.out _ ((HXD9.out).ext ((Below.refl _ _).alloc (Nat.le_refl _) ob)) (HBD9.out.alloc HBD9.out.size ob)
        go_simp
        refine hK.out _ _ ?_ (fun hHeld9 => ?_)
        ·exact hSb _
        clear hK K hHeld
        try simp only [Act.put, zpu, zpgRcX]
        refine wpAnyH_ready (rs := [10]) (by kernel_rfl) (by simp) ?_
        refine AllReadyH.cons rfl (fun K hK => ?_) AllReadyH.nil
        refine wp_append_lies _ (.tmp 122) (.tmp 131) 113 (by rfl) W0.heap.size 112 i5 z5 5 64 Tryz.underlying113 HI.out.1 HI.out.2.1 HI.out.2.2.1 HI.out.2.2.2.1 HI.out.2.2.2.2 (by omega) (.slice (some ⟨gi, 0, none⟩) m cp) m xs (by rfl) (hownD.alloc _) ⟨D.heap.size, 0, none⟩ 1 1 [.int .i64 i, .int .i64 p1, .int .i64 q1, .string s1, .slice a2 L2 c2] (by rfl) rfl (news_of D [.int .i64 i, .int .i64 p1, .int .i64 q1, .string s1, .slice a2 L2 c2] _) (by simp [Value.oneCell']) (by omega) (by unfold maxLen; omega) (by omega) (Nat.le_trans HBD9.out.size (by simp)) (D.heap.size + 1) (by simp) ?_
        intro g5 cap5 w5 hown5 hgrow5 hat5 hlt5
        have hq5 := HQD9.out.push hgrow5 (HPU.out _ _ _ hown5)
        have hb5 := HBD9.out.trans (below_append hgrow5 hownD HBD9.out.size)
        have hx5 := (HXD9.out.ext ((Below.refl _ _).alloc (Nat.le_refl _) _)).grown hgrow5 (by simp [Value.ownBlock]; exact hgi2)
        have hS5 := HHS.out _ hx5 hb5
        have H5 := Lib.hid (And.intro hq5 hb5)
        clear hown5 hgrow5 hat5 hq5 hb5 hx5
        refine hK.out _ _ ?_ (fun hHeld10 => ?_)
        ·exact hS5
        clear hK K hHeld9
        try simp only [Act.put, zpu, zpgRcX]
        refine wpAnyH_take (i := 11) (v := ?_) rfl (by kernel_rfl) (by kernel_rfl) (by kernel_rfl) (fun _ _ _ h => h) (Or.inl ⟨by rfl, ?_⟩) (by assumption) ?_
        rotate_left
        ·(intro w hSw; (try dsimp only at hSw); (go_simp <;> with_reducible rfl))
        try simp only [Act.put, zpu, zpgRcX]
        refine wpAnyH_done (by kernel_rfl) ?_ _
        go_wp2_with fail
        have HFIN := Lib.hid (unfit_step (i := i) HFIT.out HST0.out HK2.out.2 HSTP.out)
        go_roundg (wtI (⟨i, p1, q1, s1, j1⟩ :: r))
        case measure => have h1 := HFIN.out.2.1; have h2 := HFIN.out.2.2; omega
        case rel => exact ⟨⟨i, p1, q1, s1, j1⟩ :: r, s.flag false, g, cap, some ⟨g6, 0, none⟩, cap6, _, rfl, (by first | exact H5.out.1 | (have h := H5.out.1; rw [HDT.out] at h; exact h)), HFIN.out.1.1, HFIN.out.1.2, Nat.le_refl _, H5.out.2⟩
end Go.Proofs.YtjcaiecapapceaaGreat.Rq

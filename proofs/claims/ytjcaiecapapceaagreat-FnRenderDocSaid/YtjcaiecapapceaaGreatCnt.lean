import Derived.Test.YtjcaiecapapceaaGreatNodeS
import Derived.Test.YtjcaiecapapceaaGreatKeysAt
import Derived.Deep.RegionHeld3
import Derived.Deep.QuietTactic
import Derived.Deep.RegionWith
import Derived.Shelf.Abstract
import Derived.BigQuiet
import Derived.OwnWalk
/-
 What impl.addCapped and (*impl.nodeCounter).count come to.
-/
set_option linter.unusedVariables false
set_option linter.unusedSimpArgs false
set_option maxRecDepth 100000
set_option maxHeartbeats 3200000
namespace Go.Proofs.YtjcaiecapapceaaGreat.Cnt
open Go.RowKit
theorem kidListOf (w : World) (b off l cap : Nat) (h0 : 0 < l) (hl : l ≤ maxLen) :
  Calls Tryz.prog 62 #[.slice (some ⟨b, off, none⟩) l cap] w fun e w' => e = .returned (.agg #[.pointer (some ⟨b, off, none⟩), .int .i64 l]) ∧ Below w.heap.size w w' := NodeS.kidListOf w b off l cap h0 hl
theorem addCapped (w : World) (a b : Nat) (h : a + b ≤ 4194304) :
  Calls Tryz.prog 166 #[.int .i64 a, .int .i64 b] w fun e w' => e = .returned (.int .i64 ((a + b : Nat) : Int)) ∧ w' = w := by
 have h1 : ¬ ((9223372036854775807 : Int) - (a : Int) < (b : Int)) := by omega
 have h2 : (b : Int) ≤ (9223372036854775807 : Int) - (a : Int) := by omega
 go_enter Tryz.func166, Tryz.ntmps166
 go_wp2_with fail
 go_ret
 exact ⟨rfl, rfl⟩
structure In (w0 w : World) (bc bm be : Nat) (g : Nat) (lb : Array Value) (l : List (LK × Value × Nat)) : Prop where
 c0 : w.cell? ⟨bc, 0, none⟩ = some (.func (.func g) #[] lb)
 c1 : w.cell? ⟨bc, 1, none⟩ = some (.map (some bm))
 c2 : w.cell? ⟨bc, 2, none⟩ = some (.map (some be))
 bc_lt : bc < w.heap.size
 hm : PMap w lkV bm l
 he : PMap w lkV be []
 keys : ∀ e ∈ l, ∃ f, Lie w0 e.1 f
 ext : Ext w0 w
theorem In.to {w0 w w' : World} {bc bm be g : Nat} {lb : Array Value} {l : List (LK × Value × Nat)} (h : In w0 w bc bm be g lb l) (k : Ext w w') : In w0 w' bc bm be g lb l :=
 ⟨(k.cell h.bc_lt).trans h.c0, (k.cell h.bc_lt).trans h.c1, (k.cell h.bc_lt).trans h.c2, Nat.lt_of_lt_of_le h.bc_lt k.size, h.hm.of_block (k.block _ h.hm.lt), h.he.of_block (k.block _ h.he.lt), h.keys, h.ext.trans k⟩
theorem plain_ext {w0 w : World} {b : Nat} (h : Plain w0 b) (hb : b < w0.heap.size) (k : Ext w0 w) : Plain w b := by
 obtain ⟨⟨cs, T, fr, h1⟩, h2⟩ := h
 have e := k.block b hb
 exact ⟨⟨cs, T, fr, e.trans h1⟩, fun o => (World.frozen?_of_block (w := w0) e).trans (h2 o)⟩
theorem In.plain {w0 w : World} {bc bm be g : Nat} {lb : Array Value} {l : List (LK × Value × Nat)} (h : In w0 w bc bm be g lb l) : ∀ e ∈ l, Plain w e.1.1 := fun e he => by
 obtain ⟨f, hf⟩ := h.keys e he
 exact plain_ext hf.plain hf.lt h.ext
theorem zero_int (w : World) : (zeroValue 3).run Tryz.prog w = .ok (.int .i64 0) w := by
 obtain ⟨i, hi⟩ : ∃ i, Tryz.prog.info? 3 = some i := ⟨_, rfl⟩
 have hz : (Tryz.prog.info? 3).map (·.zero) = some (some (.int .i64 0)) := by kernel_rfl
 rw [hi] at hz
 simp only [Option.map_some, Option.some.injEq] at hz
 simp [zeroValue, typeInfo, hi, hz]
theorem zero_bool (w : World) : (zeroValue 4).run Tryz.prog w = .ok (.bool false) w := by
 obtain ⟨i, hi⟩ : ∃ i, Tryz.prog.info? 4 = some i := ⟨_, rfl⟩
 have hz : (Tryz.prog.info? 4).map (·.zero) = some (some (.bool false)) := by kernel_rfl
 rw [hi] at hz
 simp only [Option.map_some, Option.some.injEq] at hz
 simp [zeroValue, typeInfo, hi, hz]
theorem look_cnt {w0 w : World} {bc bm be g : Nat} {lb : Array Value} {l : List (LK × Value × Nat)} (h : In w0 w bc bm be g lb l) {k : LK} {f : F} (hk : Lie w0 k f) (c : Bool) :
  (Instr.lookup 138 (.map (some bm)) (.agg #[.pointer (some ⟨k.1, k.2.1, none⟩), .int .i64 k.2.2]) c).run Tryz.prog w = .ok (if c then .tuple #[(look k l).getD (.int .i64 0), .bool (look k l).isSome] else (look k l).getD (.int .i64 0)) w :=
 run_look (P := Tryz.prog) KeysAt.kidList_ok Tryz.underlying138 (zero_int w) h.hm (a := k) (plain_ext hk.plain hk.lt h.ext) h.plain c
theorem look_end {w0 w : World} {bc bm be g : Nat} {lb : Array Value} {l : List (LK × Value × Nat)} (h : In w0 w bc bm be g lb l) {k : LK} {f : F} (hk : Lie w0 k f) :
  (Instr.lookup 139 (.map (some be)) (.agg #[.pointer (some ⟨k.1, k.2.1, none⟩), .int .i64 k.2.2]) false).run Tryz.prog w = .ok (.bool false) w :=
 run_look (P := Tryz.prog) KeysAt.kidList_ok Tryz.underlying139 (zero_bool w) h.he (a := k) (plain_ext hk.plain hk.lt h.ext) (fun _ h => by cases h) false
theorem quiet_add {P : Program} {f : FuncId} {args : Array Value} {w : World} {a n : Nat} {v : Value}
  (h : Calls P f args (w.drewN (a + n)) fun e w' => e = .returned v ∧ w' = w.drewN (a + n)) : Calls P f args (w.drewN (a + n)) fun e w'' => e = .returned v ∧ ∃ m, w'' = w.drewN (a + m) :=
 h.mono fun _ _ ⟨he, hm⟩ => ⟨he, n, hm⟩
theorem ext_drewN (w : World) : ∀ n, Ext w (w.drewN n)
 | 0 => Ext.refl _
 | n + 1 => (ext_drewN w n).drew
theorem count (w0 w : World) (bc bm be : Nat) (g : Nat) (lb : Array Value) (m : Int → Bool) (l : List (LK × Value × Nat)) (H : In w0 w bc bm be g lb l) (hp : OpPred Tryz.prog g lb m w) (k : LK) (f : F) (hl : Lie w0 k f) (hk : ∀ c ∈ kidKeys w0 k.1 k.2.1 k.2.2, look c l = some (.int .i64 ((cntF m (listAt w0 c) : Nat) : Int))) (cap : Nat) (hcap : k.2.2 ≤ cap) (hsz : nodes f ≤ 2097153) :
  Calls Tryz.prog 116 #[.pointer (some ⟨bc, 0, none⟩), .slice (some ⟨k.1, k.2.1, none⟩) k.2.2 cap] w fun e w' => e = .returned (.int .i64 ((cntF m f : Nat) : Int)) ∧ Ext w w' := by
 obtain ⟨kb, ko, L⟩ := k
 simp only at hk hcap ⊢
 have hL : L = f.len := hl.1
 have h0 : 0 < L := by have := hl.2.1; omega
 have hL2 : L ≤ 2097153 := by have := len_nodes f; omega
 have eg := hp.1
 have HH := Lib.hid (And.intro H (And.intro hp (And.intro hl (And.intro hk (And.intro hL hsz)))))
 clear H hp hl hk hL hsz
 go_enter Tryz.func116, Tryz.ntmps116
 go_wp2_with fail
 go_loopw [5, 11] (fun s i wr => ∃ p q : F, f = p.app q ∧ s = .int .i64 ((cntF m p : Nat) : Int) ∧ i = .int .i64 (p.len : Int) ∧ Ext w wr) (fun _ i _ => L - (intOf i).toNat)
 case atStart => exact ⟨.nil, f, rfl, rfl, rfl, Ext.refl _⟩
 case round =>
  obtain ⟨p, q, hf, rfl, rfl, hext⟩ := hrel
  obtain ⟨N, hN⟩ : ∃ N, cntF m p = N := ⟨_, rfl⟩
  obtain ⟨J, hJ⟩ : ∃ J, p.len = J := ⟨_, rfl⟩
  have hlen : L = J + q.len := by rw [HH.out.2.2.2.2.1, hf, F.len_app, hJ]
  have hNs : N ≤ 2097153 := by have := cntF_nodes m p; have := HH.out.2.2.2.2.2; rw [hf, nodes_app] at this; omega
  rw [hN, hJ]
  have HX := Lib.hid hext
  have hin : In w0 wr bc bm be g lb l := HH.out.1.to hext
  have d0 := hin.c0
  have d1 := hin.c1
  have d2 := hin.c2
  have dl := hin.bc_lt
  have HIN := Lib.hid hin
  clear hext hin
  cases q with
  | nil =>
    have hJL : J = L := by simp only [F.len] at hlen; omega
    subst hJL
    have hfp : f = p := by rw [hf, F.app_nil]
    have HF := Lib.hid (And.intro hf (And.intro hN (And.intro hJ hfp)))
    clear hf hN hJ hlen hfp
    have hK := fun W : World => kidListOf W kb ko J cap h0 (by unfold maxLen; omega)
    have HK := Lib.hid hK
    have hle : ∀ W : World, Ext wr W → (Instr.lookup 139 (.map (some be)) (.agg #[.pointer (some ⟨kb, ko, none⟩), .int .i64 J]) false).run Tryz.prog W = .ok (.bool false) W := fun W k => look_end (HIN.out.to k) HH.out.2.2.1
    have HLE := Lib.hid hle
    clear hK hle
    go_wp2_with fail
    first | go_region_with (go_at_call 62; refine (HK.out _).mono ?_; rintro e1 w3 ⟨rfl, hb3⟩; have r3 : Ext wr w3 := (by first | exact hb3 | exact (Ext.refl wr).drew.trans hb3); have y3 := HLE.out w3 r3; have d3 := (r3.cell (o := 2) dl).trans d2) | fail
    all_goals
     go_wp2_with fail
     go_ret
     exact ⟨by rw [HF.out.2.2.2, HF.out.2.1]; rfl, HX.out.trans r3⟩
  | cons o n t ks r =>
    have hJL : J < L := by simp only [F.len] at hlen; omega
    have HLEN := Lib.hid hlen
    clear hlen
    have hlf := HH.out.2.2.1
    rw [hf] at hlf
    obtain ⟨a, kcap, c0, c1, c2, c3, hkc, hkid⟩ := hlf.at
    rw [hJ] at c0 c1 c2 c3 hkid
    have hkl : kb < w0.heap.size := hlf.lt
    rw [← HIN.out.ext.cell hkl] at c0 c1 c2 c3
    have hNN : cntF m (p.app (.cons o n t ks .nil)) = (if m o then 1 else 0) + N + cntF m ks := by rw [cntF_app, hN]; simp only [cntF]; omega
    have hNL : N + 1 + cntF m ks ≤ 2097153 := by
     have h1 := HH.out.2.2.2.2.2
     have h2 := cntF_nodes m p
     have h3 := cntF_nodes m ks
     rw [hf, nodes_app] at h1
     rw [nodes_cons] at h1
     omega
    have hpl : (p.app (.cons o n t ks .nil)).len = J + 1 := by rw [F.len_app, hJ]; rfl
    have hfa : f = (p.app (.cons o n t ks .nil)).app r := by rw [hf, F.app_assoc]; rfl
    have HF := Lib.hid (And.intro hf (And.intro hN (And.intro hJ (And.intro hlf (And.intro hNN (And.intro hpl hfa))))))
    have hpo : ∀ (W : World), Ext w W → Calls Tryz.prog g (#[.int .i64 o] ++ lb) W fun e w' => e = .returned (.bool (m o)) ∧ w' = W := fun W k => HH.out.2.1.2 W o k
    have HPO := Lib.hid hpo
    have hA1 := fun W => addCapped W N 1 (by omega)
    have HA1 := Lib.hid hA1
    clear hf hN hJ hlf hNN hpl hfa hpo hA1
    obtain ⟨C, hC⟩ : ∃ C, cntF m ks = C := ⟨_, rfl⟩
    rw [hC] at hNL
    have HC := Lib.hid hC
    clear hC
    cases hmo : m o with
    | false =>
      rw [hmo] at HPO
      have HMO := Lib.hid hmo
      clear hmo
      by_cases hz : ks.len = 0
      ·
       have hC0 : C = 0 := by rw [← HC.out, F.len_eq_zero hz]; rfl
       subst hC0
       rw [hz] at c3
       have HZ := Lib.hid hz
       clear hz hkid hkc
       go_wp2_with fail
       go_quiet ((go_at_fn g; exact Calls.quiet_of_same (HPO.out _ ((HX.out.alloc _).trans (ext_drewN _ _)))))
       go_wp2_with fail
       go_roundw
       case rel => exact ⟨p.app (.cons o n t ks .nil), r, HF.out.2.2.2.2.2.2, (by rw [HF.out.2.2.2.2.1, HMO.out, HC.out]; exact congrArg (Value.int .i64) (by simp; try omega)), (by rw [HF.out.2.2.2.2.2.1]; exact congrArg (Value.int .i64) (by simp)), (HX.out.alloc _).trans (ext_drewN _ _)⟩
       case measure => simp [intOf]; omega
      ·
       rcases hkid with ⟨h, _⟩ | ⟨b', o', rfl, hpos, hlk, hka⟩
       ·exact absurd h hz
       have hlook : look (b', o', ks.len) l = some (.int .i64 (C : Int)) := by
        have := HH.out.2.2.2.1 (b', o', ks.len) (kidKeys_of w0 kb L ko _ J hJL (by rw [hka]; simp))
        rw [listAt_eq hlk, HC.out] at this
        exact this
       have hM4 : ks.len ≤ 2097153 := by
        have h1 := HH.out.2.2.2.2.2
        have h2 := len_nodes ks
        rw [HF.out.1, nodes_app] at h1
        rw [nodes_cons] at h1
        omega
       obtain ⟨M, hM⟩ : ∃ M, ks.len = M := ⟨_, rfl⟩
       rw [hM] at hlook hz hlk hpos hkc c3 hM4
       have hle : ∀ W : World, Ext wr W → (Instr.lookup 138 (.map (some bm)) (.agg #[.pointer (some ⟨b', o', none⟩), .int .i64 M]) false).run Tryz.prog W = .ok (.int .i64 C) W := fun W k => by
        have := look_cnt (HIN.out.to k) hlk false
        simp only [hlook, Option.getD_some, Bool.false_eq_true, if_false] at this
        exact this
       have HLE := Lib.hid hle
       have HK := Lib.hid (fun W => kidListOf W b' o' M kcap hpos (by unfold maxLen; omega))
       have HA2 := Lib.hid (fun W => addCapped W N C (by omega))
       have HZ := Lib.hid (And.intro hM hka)
       have i0 : ((M : Int) == 0) = false := by rw [beq_eq_false_iff_ne]; omega
       have i1 : ((C : Int) == -1) = false := by rw [beq_eq_false_iff_ne]; omega
       clear hle hlook hlk hM hka
       go_wp2_with fail
       go_quiet ((go_at_fn g; exact Calls.quiet_of_same (HPO.out _ ((HX.out.alloc _).trans (ext_drewN _ _)))))
       go_wp2_with (first
        | (go_at_call 166; refine (HA1.out _).mono ?_; rintro e1 w3 ⟨rfl, rfl⟩)
        | (go_at_call 62; refine (HK.out _).mono ?_; rintro e1 w3 ⟨rfl, hb3⟩; have r3 : Ext wr w3 := (((Ext.refl wr).alloc _).trans (ext_drewN _ _)).trans hb3; have y3 := fun (ob : Obj) (n : Nat) => HLE.out ((w3.alloc ob).drewN n) ((r3.alloc ob).trans (ext_drewN _ n)); have d1' := (r3.cell (o := 1) dl).trans d1; have dl' := Nat.lt_of_lt_of_le dl r3.size))
       go_quiet (fail)
       go_wp2_with fail
       go_quiet ((go_at_call 166; first | exact Calls.quiet_of_same (HA2.out _) | exact quiet_add (HA2.out _)))
       go_wp2_with fail
       go_roundw
       case rel => exact ⟨p.app (.cons o n t ks .nil), r, HF.out.2.2.2.2.2.2, (by rw [HF.out.2.2.2.2.1, HMO.out, HC.out]; exact congrArg (Value.int .i64) (by simp; try omega)), (by rw [HF.out.2.2.2.2.2.1]; exact congrArg (Value.int .i64) (by simp)), HX.out.trans ((r3.alloc _).trans (ext_drewN _ _))⟩
       case measure => simp [intOf]; omega
    | true =>
      rw [hmo] at HPO
      have HMO := Lib.hid hmo
      clear hmo
      by_cases hz : ks.len = 0
      ·
       have hC0 : C = 0 := by rw [← HC.out, F.len_eq_zero hz]; rfl
       subst hC0
       rw [hz] at c3
       have HZ := Lib.hid hz
       clear hz hkid hkc
       go_wp2_with fail
       go_quiet ((go_at_fn g; exact Calls.quiet_of_same (HPO.out _ ((HX.out.alloc _).trans (ext_drewN _ _)))))
       go_wp2_with (go_at_call 166; refine (HA1.out _).mono ?_; rintro e1 w3 ⟨rfl, rfl⟩)
       go_roundw
       case rel => exact ⟨p.app (.cons o n t ks .nil), r, HF.out.2.2.2.2.2.2, (by rw [HF.out.2.2.2.2.1, HMO.out, HC.out]; exact congrArg (Value.int .i64) (by simp; try omega)), (by rw [HF.out.2.2.2.2.2.1]; exact congrArg (Value.int .i64) (by simp)), (HX.out.alloc _).trans (ext_drewN _ _)⟩
       case measure => simp [intOf]; omega
      ·
       rcases hkid with ⟨h, _⟩ | ⟨b', o', rfl, hpos, hlk, hka⟩
       ·exact absurd h hz
       have hlook : look (b', o', ks.len) l = some (.int .i64 (C : Int)) := by
        have := HH.out.2.2.2.1 (b', o', ks.len) (kidKeys_of w0 kb L ko _ J hJL (by rw [hka]; simp))
        rw [listAt_eq hlk, HC.out] at this
        exact this
       have hM4 : ks.len ≤ 2097153 := by
        have h1 := HH.out.2.2.2.2.2
        have h2 := len_nodes ks
        rw [HF.out.1, nodes_app] at h1
        rw [nodes_cons] at h1
        omega
       obtain ⟨M, hM⟩ : ∃ M, ks.len = M := ⟨_, rfl⟩
       rw [hM] at hlook hz hlk hpos hkc c3 hM4
       have hle : ∀ W : World, Ext wr W → (Instr.lookup 138 (.map (some bm)) (.agg #[.pointer (some ⟨b', o', none⟩), .int .i64 M]) false).run Tryz.prog W = .ok (.int .i64 C) W := fun W k => by
        have := look_cnt (HIN.out.to k) hlk false
        simp only [hlook, Option.getD_some, Bool.false_eq_true, if_false] at this
        exact this
       have HLE := Lib.hid hle
       have HK := Lib.hid (fun W => kidListOf W b' o' M kcap hpos (by unfold maxLen; omega))
       have HA2 := Lib.hid (fun W => addCapped W (N + 1) C (by omega))
       have HZ := Lib.hid (And.intro hM hka)
       have i0 : ((M : Int) == 0) = false := by rw [beq_eq_false_iff_ne]; omega
       have i1 : ((C : Int) == -1) = false := by rw [beq_eq_false_iff_ne]; omega
       clear hle hlook hlk hM hka
       go_wp2_with fail
       go_quiet ((go_at_fn g; exact Calls.quiet_of_same (HPO.out _ ((HX.out.alloc _).trans (ext_drewN _ _)))))
       go_wp2_with (first
        | (go_at_call 166; refine (HA1.out _).mono ?_; rintro e1 w3 ⟨rfl, rfl⟩)
        | (go_at_call 62; refine (HK.out _).mono ?_; rintro e1 w3 ⟨rfl, hb3⟩; have r3 : Ext wr w3 := (((Ext.refl wr).alloc _).trans (ext_drewN _ _)).trans hb3; have y3 := fun (ob : Obj) (n : Nat) => HLE.out ((w3.alloc ob).drewN n) ((r3.alloc ob).trans (ext_drewN _ n)); have d1' := (r3.cell (o := 1) dl).trans d1; have dl' := Nat.lt_of_lt_of_le dl r3.size))
       go_quiet (fail)
       go_wp2_with fail
       go_quiet ((go_at_call 166; first | exact Calls.quiet_of_same (HA2.out _) | exact quiet_add (HA2.out _)))
       go_wp2_with fail
       go_roundw
       case rel => exact ⟨p.app (.cons o n t ks .nil), r, HF.out.2.2.2.2.2.2, (by rw [HF.out.2.2.2.2.1, HMO.out, HC.out]; exact congrArg (Value.int .i64) (by simp; try omega)), (by rw [HF.out.2.2.2.2.2.1]; exact congrArg (Value.int .i64) (by simp)), HX.out.trans ((r3.alloc _).trans (ext_drewN _ _))⟩
       case measure => simp [intOf]; omega
end Go.Proofs.YtjcaiecapapceaaGreat.Cnt

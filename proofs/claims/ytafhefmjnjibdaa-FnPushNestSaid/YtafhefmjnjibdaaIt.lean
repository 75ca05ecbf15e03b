import Derived.Test.YtafhefmjnjibdaaRfL
import Derived.Test.YtafhefmjnjibdaaChX
import Derived.Test.YtafhefmjnjibdaaChecked
/-
  The program's iterator over the layouts of a document's choices.
-/
set_option linter.unusedVariables false
set_option linter.unusedSimpArgs false
namespace Go.Proofs.Ytafhefmjnjibdaa.It
open Go.RowKit P1 LayL LayV LayM LayN LayC Cnt CntC Wid ChP Tr ChT ChC Rf
attribute [local go_sem] Oper.semAt_some

/-- the tree of a document's choices, at block b, in blocks below B0 -/
def AtD (B0 : Nat) (w : World) (b : Nat) (o n : Int) (t : ByteArray) (k : F) : Prop := b < B0 ∧ b < w.heap.size ∧ ∃ (a : Option Addr) (cap : Nat) (a' : Option Addr) (cap' : Nat),
  (w.cell? ⟨b, 0, none⟩ = some (.int .i64 o) ∧ w.cell? ⟨b, 1, none⟩ = some (.int .i64 n) ∧ w.cell? ⟨b, 2, none⟩ = some (.string t) ∧ w.cell? ⟨b, 3, none⟩ = some (.slice a k.len cap) ∧ w.cell? ⟨b, 4, none⟩ = some (.int .i64 (ctD o k : Int)) ∧ w.cell? ⟨b, 5, none⟩ = some (.bool (!noD o k)) ∧ w.cell? ⟨b, 6, none⟩ = some (.slice a' k.len cap')) ∧ DocIn (fun c => c < B0) w k a cap ∧ TreeSub (fun c => c < B0) w a' k

theorem AtD.keep {B0 : Nat} {w w' : World} {b : Nat} {o n : Int} {t : ByteArray} {k : F} (h : AtD B0 w b o n t k) (e : Keep (fun c => c < B0) w w') : AtD B0 w' b o n t k := by
  obtain ⟨hB, hb, a, cap, a', cap', ⟨h0, h1, h2, h3, h4, h5, h6⟩, g1, g2⟩ := h
  have q : ∀ i, w'.cell? ⟨b, i, none⟩ = w.cell? ⟨b, i, none⟩ := fun i => World.cell?_of_block (w := w) (e.2 b hB hb)
  have s : Stay (fun c => c < B0) (fun c => c < B0) w w' := ⟨fun c h1 h2 => ⟨e.2 c h1 h2, h1⟩, e.1⟩
  exact ⟨hB, Nat.lt_of_lt_of_le hb e.1, a, cap, a', cap', ⟨(q _).trans h0, (q _).trans h1, (q _).trans h2, (q _).trans h3, (q _).trans h4, (q _).trans h5, (q _).trans h6⟩, g1.stay s, g2.stay s⟩
theorem AtD.at {B0 : Nat} {w : World} {b : Nat} {o n : Int} {t : ByteArray} {k : F} (h : AtD B0 w b o n t k) : ChL.At w b 0 o n t k := by
  obtain ⟨hB, hb, a, cap, a', cap', ⟨h0, h1, h2, h3, h4, h5, h6⟩, g1, g2⟩ := h
  have s : Stay (fun c => c < B0) (fun _ => True) w w := Stay.imp w (fun _ _ _ => trivial)
  exact ⟨hb, a, cap, a', cap', ⟨h0, h1, h2, h3, h4, h5, h6⟩, g1.stay s, g2.stay s⟩
theorem AtD.of {w : World} {b : Nat} {o n : Int} {t : ByteArray} {k : F} (h : ChL.At w b 0 o n t k) : AtD w.heap.size w b o n t k := by
  obtain ⟨hb, a, cap, a', cap', ⟨h0, h1, h2, h3, h4, h5, h6⟩, g1, g2⟩ := h
  have s : Stay (fun _ => True) (fun c => c < w.heap.size) w w := Stay.imp w (fun _ _ h => h)
  exact ⟨hb, hb, a, cap, a', cap', ⟨h0, h1, h2, h3, h4, h5, h6⟩, g1.stay s, g2.stay s⟩
theorem AtD.count {B0 : Nat} {w : World} {b : Nat} {o n : Int} {t : ByteArray} {k : F} (h : AtD B0 w b o n t k) : w.cell? ⟨b, 4, none⟩ = some (.int .i64 (ctD o k : Int)) ∧ b < w.heap.size := by
  obtain ⟨hB, hb, a, cap, a', cap', ⟨h0, h1, h2, h3, h4, h5, h6⟩, g1, g2⟩ := h
  exact ⟨h4, hb⟩

/-- what is handed over: a layout in new memory -/
def XL (L : Nat → Ls.Lay) (k : Nat) (args : Array Value) (A W : World) : Prop := ∃ (a : Option Addr) (cap : Nat) (f : List Nat), args = #[.slice a (L k).length cap] ∧ (L k).length ≤ cap ∧ LaySub W a (L k) f ∧ Fresh A.heap.size W f

set_option maxRecDepth 100000 in
set_option maxHeartbeats 3200000 in
theorem gives {o n : Int} {t : ByteArray} {k : F} (hv : okD 40 o n t k = true) (hcnt : 1 + k.cnt ≤ 80) (hsz : t.size + k.size ≤ 2000000) (hct : ctD o k ≤ 100000) {B0 b : Nat} {w0 : World} (hat : AtD B0 w0 b o n t k) :
    Gives Try.prog 105 #[.pointer (some ⟨b, 0, none⟩)] (XL (fun i => pkD o n t k i)) (fun c => c < B0) (ctD o k) w0 := by
  intro m l J Jx W hm hW hY h0
  have HL := Lib.hid (fun (i : Nat) (hi : i < ctD o k) (w : World) (h : AtD B0 w b o n t k) => ChL.layS_all 40 (by omega) o n t k hv hcnt hsz hct i hi w b 0 h.at)
  have HA := Lib.hid (show ∀ w, Keep (fun c => c < B0) W w → AtD B0 w b o n t k from fun w h => (hat.keep (Keep.of_ext hW)).keep h)
  obtain ⟨c4, hb⟩ := (HA.out W (Keep.refl _ _)).count
  obtain ⟨N, hN⟩ : ∃ N, ctD o k = N := ⟨_, rfl⟩
  rw [hN] at HL hY c4 hct ⊢
  clear hN hv hcnt hsz hat hW
  have HY := Lib.hid hY
  clear hY
  refine callsIn_of_wp Try.func105 rfl trivial ?_ rfl
  simp only [Try.ntmps105, List.size_toArray, List.length_cons, List.length_nil, Nat.reduceAdd, Nat.reduceSub, Array.replicate_succ, Array.replicate_zero, List.push_toArray, List.append_toArray, List.nil_append, List.cons_append]
  gi_wp2_with fail
  gi_loopw [6] (fun i wr => ∃ (j : Nat) (A : World), j ≤ N ∧ i = .int .i64 j ∧ J j A ∧ Ext A wr ∧ Keep (fun c => c < B0) W wr) (fun i _ => N - (intOf i).toNat)
  case atStart => exact ⟨0, W, Nat.zero_le _, rfl, h0, Ext.refl _, Keep.refl _ _⟩
  case round =>
    obtain ⟨j, A, hj, rfl, hJ, hA, hK⟩ := hrel
    by_cases hjN : j < N
    · have hLj := HL.out j hjN wr (HA.out wr hK)
      have HLj := Lib.hid hLj
      clear hLj c4 hb
      gi_wp2_with fail
      refine ⟨trivial, (callsIn_wide.2 HLj.out).mono ?_⟩
      rintro e1 w2 ⟨a, cap, f, rfl, hc, hs, hf, hb2⟩
      have hA2 : Ext A w2 := hA.trans hb2
      obtain ⟨fn, tmps, assign, body, hy, hR⟩ := HY.out j _ A w2 hjN hJ hA2 ⟨a, cap, f, rfl, hc, hs, hf.mono hA.size⟩
      have HR := Lib.hid hR
      have HK2 := Lib.hid (hK.trans (Keep.of_ext hb2))
      clear hc hs hf hb2 hR
      gi_wp2_with fail
      refine HR.out.mono ?_
      rintro e W3 (⟨rfl, hJ3, hk3⟩ | ⟨rfl, hJx3⟩)
      · have HK3 := Lib.hid (HK2.out.trans hk3)
        have HJ3 := Lib.hid hJ3
        clear hJ3 hk3 hy hJ hA hA2
        gi_wp2_with fail
        go_roundw
        case rel => exact ⟨j + 1, W3, by omega, by go_num, HJ3.out, Ext.refl _, HK3.out⟩
        case measure => simp [intOf]; omega
      · have HJ3 := Lib.hid hJx3
        clear hJx3 hy hJ hA hA2
        gi_wp2_with fail
        refine bodyPost_ret (results_none rfl _ _ _) rfl ?_
        exact ⟨⟨_, rfl⟩, .inr ⟨_, HJ3.out, Ext.refl _⟩⟩
    · obtain rfl : j = N := by omega
      gi_wp2_with fail
      go_end0
      exact ⟨⟨_, rfl⟩, .inl ⟨A, hJ, hA⟩⟩

end Go.Proofs.Ytafhefmjnjibdaa.It


import Derived.Test.YtjcaiecapapceaaDr7
import Derived.Test.YtjcaiecapapceaaNfNx
import Derived.Test.YtjcaiecapapceaaJS
import Derived.Test.YtjcaiecapapceaaWoX
import Derived.Test.YtjcaiecapapceaaEqY
import Derived.Test.YtjcaiecapapceaaDcK
/-
 What the model's draw of a document for IsNormal comes to: some document of a bounded size in memory of its own, sometimes a normal form.
-/
set_option linter.unusedVariables false
set_option linter.unusedSimpArgs false
set_option maxRecDepth 100000
set_option maxHeartbeats 12800000
namespace Go.Proofs.Ytjcaiecapapceaa.Dr7
open Go.RowKit P1 Draw Draw2 Draw6 Copy DrA DrB DrC CatD ParseD DrD Mut Mut2 DrI DrN Nf
theorem ch_1100 {d d' : D} {ok : Bool} {o n : Int} {t : ByteArray} {k : F} (h : chR d d' = (ok, o, n, t, k)) : t.size + k.size ≤ 1100 := by
 unfold chR at h
 split at h
 ·split at h
  ·rename_i hv
   injection h with h1 h2
   subst h2
   have h1 := valid_nice hv
   have h2 := nice_size k (nice_kids h1.1).2
   have h3 := nice_text (Bool.and_eq_true_iff.1 h1.1).1
   simp only at h1 h3
   omega
  ·injection h with h1 h2
   unfold zeroD at h2
   injection h2 with _ h2
   injection h2 with _ h2
   injection h2 with h3 h4
   subst h3 h4
   decide
 ·injection h with h1 h2
  unfold zeroD at h2
  injection h2 with _ h2
  injection h2 with _ h2
  injection h2 with h3 h4
  subst h3 h4
  decide
end Go.Proofs.Ytjcaiecapapceaa.Dr7
namespace Go.Proofs.Ytjcaiecapapceaa.Dr82
open Go.RowKit P1 Draw Draw2 Draw6 Copy CopyS CatD DrA DrD Mut Mut2 DrI DrJ DrS DrN Nf Dr7
def Two8 (w : World) (e : Ending) (w' : World) : Prop := ∃ (o n : Int) (t : ByteArray) (k : F) (a : Option Addr) (cap : Nat) (fs : List Nat) (o' n' : Int) (t' : ByteArray) (k' : F) (a' : Option Addr) (cap' : Nat) (fs' : List Nat),
 e = .returned (.tuple #[.agg #[.int .i64 o, .int .i64 n, .string t, .slice a k.len cap], .agg #[.int .i64 o', .int .i64 n', .string t', .slice a' k'.len cap']]) ∧ k.len ≤ cap ∧ k'.len ≤ cap' ∧ t.size + k.size ≤ 1100 ∧ t'.size + k'.size ≤ 1100 ∧
 SubAt w' a k fs ∧ SubAt w' a' k' fs' ∧ Fresh w.heap.size w' fs ∧ Fresh w.heap.size w' fs' ∧ validD o n t k = true ∧ Below w.heap.size w w'
def Bdoc (lo : Nat) (W : World) (t : ByteArray) (k : F) (a : Option Addr) (c : Nat) (fs : List Nat) : Prop := k.len ≤ c ∧ t.size + k.size ≤ 1100 ∧ SubAt W a k fs ∧ Fresh lo W fs
theorem wo_small (d : D) (h : validD d.1 d.2.1 d.2.2.1 d.2.2.2 = true) : (woD d).2.2.1.size + (woD d).2.2.2.size ≤ 1100 := by
 have h1 := (valid_nice (wo_valid h))
 have h2 := nice_size _ (nice_kids h1.1).2
 have h3 := nice_text (Bool.and_eq_true_iff.1 h1.1).1
 simp only at h1 h3
 show (chD woR d.1 d.2.1 d.2.2.1 d.2.2.2).2.2.1.size + (chD woR d.1 d.2.1 d.2.2.1 d.2.2.2).2.2.2.size ≤ 1100
 omega
theorem wrap_w (W : World) (ob : Obj) (p q : Nat) (hp : p < W.heap.size) (hq : q < W.heap.size) {a0 a1 a2 a3 b0 b1 b2 b3 : Value} :
  ((((((((((W).setCell ⟨p, 0, none⟩ a0).setCell ⟨p, 1, none⟩ a1).setCell ⟨p, 2, none⟩ a2).setCell ⟨p, 3, none⟩ a3).setCell ⟨q, 0, none⟩ b0).setCell ⟨q, 1, none⟩ b1).setCell ⟨q, 2, none⟩ b2).setCell ⟨q, 3, none⟩ b3).alloc ob).drew = ((((((((W.drew.alloc ob).setCell ⟨p, 0, none⟩ a0).setCell ⟨p, 1, none⟩ a1).setCell ⟨p, 2, none⟩ a2).setCell ⟨p, 3, none⟩ a3).setCell ⟨q, 0, none⟩ b0).setCell ⟨q, 1, none⟩ b1).setCell ⟨q, 2, none⟩ b2).setCell ⟨q, 3, none⟩ b3 := by
 rw [World.alloc_drew, World.setCell_drew, World.setCell_drew, World.setCell_drew, World.setCell_drew, World.setCell_drew, World.setCell_drew, World.setCell_drew, World.setCell_drew]
 rw [World.setCell_alloc_past _ _ _ _ hp, World.setCell_alloc_past _ _ _ _ (by simpa using hp), World.setCell_alloc_past _ _ _ _ (by simpa using hp), World.setCell_alloc_past _ _ _ _ (by simpa using hp), World.setCell_alloc_past _ _ _ _ (by simpa using hq), World.setCell_alloc_past _ _ _ _ (by simpa using hq), World.setCell_alloc_past _ _ _ _ (by simpa using hq), World.setCell_alloc_past _ _ _ _ (by simpa using hq)]
theorem wrap_d (W : World) {p q : Nat} {a0 a1 a2 a3 b0 b1 b2 b3 : Value} :
  (((((((((W).setCell ⟨p, 0, none⟩ a0).setCell ⟨p, 1, none⟩ a1).setCell ⟨p, 2, none⟩ a2).setCell ⟨p, 3, none⟩ a3).setCell ⟨q, 0, none⟩ b0).setCell ⟨q, 1, none⟩ b1).setCell ⟨q, 2, none⟩ b2).setCell ⟨q, 3, none⟩ b3).drew = ((((((((W.drew).setCell ⟨p, 0, none⟩ a0).setCell ⟨p, 1, none⟩ a1).setCell ⟨p, 2, none⟩ a2).setCell ⟨p, 3, none⟩ a3).setCell ⟨q, 0, none⟩ b0).setCell ⟨q, 1, none⟩ b1).setCell ⟨q, 2, none⟩ b2).setCell ⟨q, 3, none⟩ b3 := by
 rw [World.setCell_drew, World.setCell_drew, World.setCell_drew, World.setCell_drew, World.setCell_drew, World.setCell_drew, World.setCell_drew, World.setCell_drew]
theorem Bdoc.drew {lo : Nat} {W : World} {t : ByteArray} {k : F} {a : Option Addr} {c : Nat} {fs : List Nat} (h : Bdoc lo W t k a c fs) : Bdoc lo W.drew t k a c fs :=
 ⟨h.1, h.2.1, (Ext.refl W).drew.sub h.2.2.1 h.2.2.2.lt, (Ext.refl W).drew.fresh h.2.2.2⟩
section
variable {w w1 w2 w3 W W2 V : World} {oA nA : Int} {tA : ByteArray} {kA : F} {aA : Option Addr} {cA : Nat} {fA : List Nat}
theorem end_a (h2 : w.heap.size + 1 + 1 < w2.heap.size ∧ But w1.heap.size (w.heap.size + 1 + 1) w1 w2 ∧ kA.len ≤ cA ∧ tA.size + kA.size ≤ 1000 ∧ SubAt w2 aA kA fA ∧ Fresh w1.heap.size w2 fA ∧ Below w2.heap.size w2 V) (h3 : But w2.heap.size (w.heap.size + 1 + 1) w2 w3) (l3 : w2.heap.size < w3.heap.size) (b : But w3.heap.size (w.heap.size + 1 + 1) w3 W) (hx1 : w.heap.size + 1 + 1 < w1.heap.size) :
  SubAt W aA kA fA ∧ Fresh w1.heap.size W fA ∧ But w2.heap.size (w.heap.size + 1 + 1) w2 W := by
 obtain ⟨hx2, hbut2, hcA, hsA, hsubA, hfrA, _⟩ := h2
 have h2W : But w2.heap.size (w.heap.size + 1 + 1) w2 W := h3.trans (b.mono (by omega))
 have hAne : ∀ c ∈ fA, c < w2.heap.size ∧ c ≠ w.heap.size + 1 + 1 := fun c hc => ⟨hfrA.lt c hc, by have := (hfrA.2 c hc).1; omega⟩
 exact ⟨h2W.sub hsubA hAne, hfrA.alike h2W.size (fun c hc _ => h2W.frozen (hAne c hc).1 (hAne c hc).2), h2W⟩
theorem end_two (hx1 : w.heap.size + 1 + 1 < w1.heap.size) (hb1 : Below w.heap.size w w1 ∧ w1.there w.heap.size 0 4 ∧ w1.there (w.heap.size + 1) 0 4) (hv : validD oA nA tA kA = true) (h2 : w.heap.size + 1 + 1 < w2.heap.size ∧ But w1.heap.size (w.heap.size + 1 + 1) w1 w2 ∧ kA.len ≤ cA ∧ tA.size + kA.size ≤ 1000 ∧ SubAt w2 aA kA fA ∧ Fresh w1.heap.size w2 fA ∧ Below w2.heap.size w2 V) (h3 : But w2.heap.size (w.heap.size + 1 + 1) w2 w3) (l3 : w2.heap.size < w3.heap.size) (b : But w3.heap.size (w.heap.size + 1 + 1) w3 W)
  {oB nB : Int} {tB : ByteArray} {kB : F} {aB : Option Addr} {cB : Nat} {fB : List Nat} (hB : Bdoc w1.heap.size W tB kB aB cB fB) (ht : Touch w.heap.size (w.heap.size + 1 + 1) W W2) :
  Two8 w (.returned (.tuple #[.agg #[.int .i64 oA, .int .i64 nA, .string tA, .slice aA kA.len cA], .agg #[.int .i64 oB, .int .i64 nB, .string tB, .slice aB kB.len cB]])) W2 := by
 obtain ⟨hsubA5, hfrA5, h2W⟩ := end_a h2 h3 l3 b hx1
 obtain ⟨hx2, hbut2, hcA, hsA, hsubA, hfrA, _⟩ := h2
 obtain ⟨hcB, hsB, hsubB, hfrB⟩ := hB
 have hoA : ∀ c ∈ fA, c < w.heap.size ∨ w.heap.size + 1 + 1 ≤ c := fun c hc => by have := (hfrA.2 c hc).1; omega
 have hoB : ∀ c ∈ fB, c < w.heap.size ∨ w.heap.size + 1 + 1 ≤ c := fun c hc => by have := (hfrB.2 c hc).1; omega
 have hB5 : Below w.heap.size w W := (hb1.1.trans (hbut2.below (by have := hb1.1.size; omega) (by omega))).trans (h2W.below (by omega) (by omega))
 exact ⟨oA, nA, tA, kA, aA, cA, fA, oB, nB, tB, kB, aB, cB, fB, rfl, hcA, hcB, by omega, hsB, ht.sub hsubA5 hoA, ht.sub hsubB hoB, (ht.fresh hfrA5 hoA).mono (by omega), (ht.fresh hfrB hoB).mono (by omega), hv, ht.below hB5 (Nat.le_refl _)⟩
theorem wrap_b (h0 : w1.heap.size ≤ w2.heap.size) (l3 : w2.heap.size < w3.heap.size) (h2 : w.heap.size + 1 + 1 < w2.heap.size ∧ But w1.heap.size (w.heap.size + 1 + 1) w1 w2 ∧ kA.len ≤ cA ∧ tA.size + kA.size ≤ 1000 ∧ SubAt w2 aA kA fA ∧ Fresh w1.heap.size w2 fA ∧ Below w2.heap.size w2 V) (h3 : But w2.heap.size (w.heap.size + 1 + 1) w2 w3) (hx1 : w.heap.size + 1 + 1 < w1.heap.size) {T : TypeId} :
  Bdoc w1.heap.size (w3.drew.alloc (.cells #[.int .i64 oA, .int .i64 nA, .string tA, .slice aA kA.len cA] T)) ⟨#[]⟩ (.cons oA nA tA kA .nil) (some ⟨w3.heap.size, 0, none⟩) 1 (w3.heap.size :: fA) := by
 have hE : Ext w3.drew (w3.drew.alloc (.cells #[.int .i64 oA, .int .i64 nA, .string tA, .slice aA kA.len cA] T)) := (Ext.refl _).alloc _
 obtain ⟨hsub, hfr, _⟩ := end_a (W := w3.drew) h2 h3 l3 (But.of_below (Below.refl _ w3).drew) hx1
 have hsub2 : SubAt (w3.drew.alloc (.cells #[.int .i64 oA, .int .i64 nA, .string tA, .slice aA kA.len cA] T)) aA kA fA := hE.sub hsub hfr.lt
 have hrow : RowAt (w3.drew.alloc (.cells #[.int .i64 oA, .int .i64 nA, .string tA, .slice aA kA.len cA] T)) (.cons oA nA tA kA .nil) w3.drew.heap.size 0 fA :=
  RowAt.cons_iff.2 ⟨aA, cA, fA, [], cell_new _ _ _ 0 _ rfl, cell_new _ _ _ 1 _ rfl, cell_new _ _ _ 2 _ rfl, cell_new _ _ _ 3 _ rfl, h2.2.2.1, hsub2, rfl, by simp⟩
 refine ⟨Nat.le_refl 1, ?_, Or.inr ⟨_, 0, fA, rfl, (by intro e; cases e), rfl, hrow⟩, freshN (by omega) (by simp) (fun o => World.frozen?_alloc_new _ _ _ _) (hE.fresh hfr) (fun c hc => by have := h2.2.2.2.2.2.1.lt c hc; omega)⟩
 have := h2.2.2.2.1
 simp only [F.size]
 have e0 : (⟨#[]⟩ : ByteArray).size = 0 := rfl
 omega
end
theorem l8Two (w : World) (a : Option Addr) (len cap : Nat) (hb : Bytes w a len) (hlc : len ≤ cap) (hcm : cap ≤ maxLen) :
  Calls Try.prog 55 #[.slice a len cap] w (Two8 w) := by
 have HO := Lib.hid (fun o1 o2 => l15Open ((w.alloc o1).alloc o2) a len cap (LawC.bytes_below hb (((Below.refl _ _).alloc (Nat.le_refl _) o1).alloc (by simp) o2)) hlc hcm)
 clear hb hlc hcm
 go_enter Try.func55, Try.ntmps55
 go_wp2_with fail
 refine (HO.out _ _).mono ?_
 rintro e1 w1 ⟨rfl, hrd1, hlt1, hb1⟩
 have hth1 := four_new' hb1
 have hth1' := eight_new hb1
 have e2 : ∀ o1 o2, ((w.alloc o1).alloc o2).heap.size = w.heap.size + 1 + 1 := fun o1 o2 => by simp
 simp only [World.size_alloc] at hrd1 hlt1
 have HD := Lib.hid (l3Small w1 (w.heap.size + 1 + 1) _ 0 hrd1 (by omega) hlt1)
 have H1 := Lib.hid (And.intro hlt1 (And.intro (opened2 hb1) (And.intro hth1 hth1')))
 clear hrd1 hlt1 hb1 hth1 hth1' e2
 go_wp2_with fail
 refine HD.out.mono ?_
 rintro e2 w2 ⟨oA, nA, tA, kA, aA, cA, fA, q1, rfl, hcA, hsA, hvA, hsubA, hfrA, hrd2, hq1, hbut2⟩
 have hx2 : w.heap.size + 1 + 1 < w2.heap.size := Nat.lt_of_lt_of_le H1.out.1 hbut2.size
 obtain ⟨V, hV⟩ : ∃ V, w2.alloc (.cells #[.int .i64 oA, .int .i64 nA, .string tA, .slice aA kA.len cA] 25) = V := ⟨_, rfl⟩
 have hbV : Below w2.heap.size w2 V := by rw [← hV]; exact (Below.refl _ _).alloc (Nat.le_refl _) _
 have lV : w2.heap.size < V.heap.size := by rw [← hV]; simp
 have x0 : V.cell? ⟨w2.heap.size, 0, none⟩ = some (.int .i64 oA) := by rw [← hV, World.cell?_alloc_new]; rfl
 have x1 : V.cell? ⟨w2.heap.size, 1, none⟩ = some (.int .i64 nA) := by rw [← hV, World.cell?_alloc_new]; rfl
 have x2 : V.cell? ⟨w2.heap.size, 2, none⟩ = some (.string tA) := by rw [← hV, World.cell?_alloc_new]; rfl
 have x3 : V.cell? ⟨w2.heap.size, 3, none⟩ = some (.slice aA kA.len cA) := by rw [← hV, World.cell?_alloc_new]; rfl
 have HXV := Lib.hid (And.intro x0 (And.intro x1 (And.intro x2 x3)))
 have HP := Lib.hid (pick V (w.heap.size + 1 + 1) _ q1 8 (rdBelow hrd2 hx2 hbV) (by omega))
 have HV := Lib.hid hvA
 have H2 := Lib.hid (And.intro hx2 (And.intro hbut2 (And.intro hcA (And.intro hsA (And.intro hsubA (And.intro hfrA hbV))))))
 go_wp2_with fail
 try rw [hV]
 have LV := Lib.hid lV
 clear hcA hsA hvA hsubA hfrA hrd2 hbut2 hx2 hbV hV x0 x1 x2 x3 lV
 refine HP.out.mono ?_
 rintro e3 w3 ⟨r, rfl, hr0, hr8, hrd3, hbut3⟩
 have hl3 : w2.heap.size < w3.heap.size := Nat.lt_of_lt_of_le LV.out hbut3.size
 have hx2 := H2.out.1
 have box3 : w3.cell? ⟨w2.heap.size, 0, none⟩ = some (.int .i64 oA) ∧ w3.cell? ⟨w2.heap.size, 1, none⟩ = some (.int .i64 nA) ∧ w3.cell? ⟨w2.heap.size, 2, none⟩ = some (.string tA) ∧ w3.cell? ⟨w2.heap.size, 3, none⟩ = some (.slice aA kA.len cA) :=
  ⟨(hbut3.cell LV.out (by omega)).trans HXV.out.1, (hbut3.cell LV.out (by omega)).trans HXV.out.2.1, (hbut3.cell LV.out (by omega)).trans HXV.out.2.2.1, (hbut3.cell LV.out (by omega)).trans HXV.out.2.2.2⟩
 have hb23 : But w2.heap.size (w.heap.size + 1 + 1) w2 w3 := (But.of_below H2.out.2.2.2.2.2.2).trans (hbut3.mono (by have := LV.out; omega))
 have hsub3 : SubAt w3 aA kA fA := hb23.sub H2.out.2.2.2.2.1 (fun c hc => ⟨H2.out.2.2.2.2.2.1.lt c hc, by have := (H2.out.2.2.2.2.2.1.2 c hc).1; have := H1.out.1; omega⟩)
 have H3 := Lib.hid (And.intro box3 (And.intro hb23 (And.intro hsub3 hrd3)))
 have L3 := Lib.hid hl3
 clear box3 hb23 hsub3 hrd3 hbut3 hx2 HXV
 have hth3 : ∀ b, b ≤ w.heap.size + 1 → w1.there b 0 4 → w3.there b 0 4 := fun b hb h => there_but (there_but h H2.out.2.1 (by have := H1.out.1; omega) (by omega)) H3.out.2.1 (by have := H1.out.1; have := H2.out.2.1.size; omega) (by omega)
 have HT := Lib.hid (And.intro (hth3 _ (by omega) H1.out.2.2.1) (hth3 _ (by omega) H1.out.2.2.2))
 clear hth3
 have HN := Lib.hid (show w.heap.size + 1 + 1 < w2.heap.size from H2.out.1)
 have hr : r = 0 ∨ r = 1 ∨ r = 2 ∨ r = 3 ∨ r = 4 ∨ (r ≠ 0 ∧ r ≠ 1 ∧ r ≠ 2 ∧ r ≠ 3 ∧ r ≠ 4) := by omega
 rcases hr with rfl | rfl | rfl | rfl | rfl | ⟨g0, g1, g2, g3, g4⟩
 ·have hx3 : w.heap.size + 1 + 1 < w3.heap.size := by have := L3.out; have := HN.out; omega
  have HM3 := Lib.hid (l1Mutate w3.drew (w.heap.size + 1 + 1) _ (q1 + 1) 1000 oA nA tA kA aA cA fA (SubAt.below H3.out.2.2.1 (fun c hc => Nat.lt_of_lt_of_le (H2.out.2.2.2.2.2.1.lt c hc) (Nat.le_of_lt L3.out)) ((Below.refl _ _).drew)) (fun c hc => Nat.lt_of_lt_of_le (H2.out.2.2.2.2.2.1.lt c hc) (Nat.le_of_lt L3.out)) H2.out.2.2.1 H2.out.2.2.2.1 (by omega) (rdBelow H3.out.2.2.2 hx3 ((Below.refl _ _).drew)) (by omega) hx3)
  go_wp2_with fail
  refine wp_region_held_drew (S := (fun w' => w'.cell? ⟨w2.heap.size, 0, none⟩ = some (.int .i64 oA) ∧ w'.cell? ⟨w2.heap.size, 1, none⟩ = some (.int .i64 nA) ∧ w'.cell? ⟨w2.heap.size, 2, none⟩ = some (.string tA) ∧ w'.cell? ⟨w2.heap.size, 3, none⟩ = some (.slice aA kA.len cA))) (by kernel_rfl) ?_ (fun hHeld => ?_)
  ·exact keep4 (x := w.heap.size + 1 + 1) H3.out.1 (But.of_below ((Below.refl w3.heap.size w3).drew)) L3.out (by have := HN.out; omega)
  refine wpAnyH_take (i := 0) (v := ?_) rfl (by kernel_rfl) (by kernel_rfl) (by kernel_rfl) (fun _ _ _ h => h) (Or.inl ⟨by rfl, ?_⟩) (by assumption) ?_
  rotate_left
  ·(intro w hSw; (try dsimp only at hSw); (go_simp <;> with_reducible rfl))
  try simp only [Act.put, zpu]
  refine wpAnyH_take (i := 1) (v := ?_) rfl (by kernel_rfl) (by kernel_rfl) (by kernel_rfl) (fun _ _ _ h => h) (Or.inl ⟨by rfl, ?_⟩) (by assumption) ?_
  rotate_left
  ·(intro w hSw; (try dsimp only at hSw); (go_simp <;> with_reducible rfl))
  try simp only [Act.put, zpu]
  refine wpAnyH_take (i := 2) (v := ?_) rfl (by kernel_rfl) (by kernel_rfl) (by kernel_rfl) (fun _ _ _ h => h) (Or.inl ⟨by rfl, ?_⟩) (by assumption) ?_
  rotate_left
  ·(intro w hSw; (try dsimp only at hSw); (go_simp <;> with_reducible rfl))
  try simp only [Act.put, zpu]
  refine wpAnyH_take (i := 3) (v := ?_) rfl (by kernel_rfl) (by kernel_rfl) (by kernel_rfl) (fun _ _ _ h => h) (Or.inl ⟨by rfl, ?_⟩) (by assumption) ?_
  rotate_left
  ·(intro w hSw; (try dsimp only at hSw); (go_simp <;> with_reducible rfl))
  try simp only [Act.put, zpu]
  refine wpAnyH_ready (rs := [4]) (by kernel_rfl) (by simp) ?_
  refine AllReadyH.cons rfl (fun K hK => ?_) AllReadyH.nil
  go_simp
  go_at_call 63
  refine HM3.out.mono ?_
  rintro e4 w4 ⟨oM, nM, tM, kM, aM, cM, fM, q2, rfl, hcM, hsM, hsubM, hfrM, hrd4, hq4, hbut4⟩
  have B4 := Lib.hid (show But w3.heap.size (w.heap.size + 1 + 1) w3 w4 from (But.of_below ((Below.refl w3.heap.size w3).drew)).trans hbut4)
  have hx4 : w.heap.size + 1 + 1 < w4.heap.size := Nat.lt_of_lt_of_le hx3 B4.out.size
  have HM4 := Lib.hid (l1Mutate w4 (w.heap.size + 1 + 1) _ q2 1020 oM nM tM kM aM cM fM hsubM hfrM.lt hcM hsM (by omega) hrd4 (by omega) hx4)
  clear hcM hsM hsubM hfrM hrd4 hbut4 hx4
  try go_wp2_with fail
  refine hK.out _ _ ?_ (fun hHeld4 => ?_)
  ·exact keep4 H3.out.1 B4.out L3.out (by have := HN.out; omega)
  clear hK K hHeld
  try simp only [Act.put, zpu]
  refine wpAnyH_ready (rs := [5]) (by kernel_rfl) (by simp) ?_
  refine AllReadyH.cons rfl (fun K hK => ?_) AllReadyH.nil
  go_simp
  go_at_call 63
  refine HM4.out.mono ?_
  rintro e5 w5 ⟨oB, nB, tB, kB, aB, cB, fB, q3, rfl, hcB, hsB, hsubB, hfrB, hrd5, hq5, hbut5⟩
  have B5 := Lib.hid (show But w3.heap.size (w.heap.size + 1 + 1) w3 w5 from B4.out.trans (hbut5.mono B4.out.size))
  have HB := Lib.hid (show Bdoc w1.heap.size w5 tB kB aB cB fB from ⟨hcB, by omega, hsubB, (hfrB.mono B4.out.size).mono (by have := H2.out.2.1.size; have := L3.out; show w1.heap.size ≤ w3.heap.size; omega)⟩)
  clear hcB hsB hsubB hfrB hrd5 hbut5
  have hth : ∀ b, b ≤ w.heap.size + 1 → w3.there b 0 4 → w5.there b 0 4 := fun b hb h => there_but h B5.out (by have := L3.out; have := HN.out; omega) (by omega)
  obtain ⟨⟨u0, u1, u2, u3, y0, y1, y2, y3⟩, z0, z1, z2, z3⟩ := there_at (hth _ (by omega) HT.out.1)
  obtain ⟨⟨u4, u5, u6, u7, y4, y5, y6, y7⟩, z4, z5, z6, z7⟩ := there_at (hth _ (by omega) HT.out.2)
  have hl5 : w.heap.size < w5.heap.size := by have := L3.out; have := HN.out; have := B5.out.size; omega
  have hl6 : w.heap.size + 1 < w5.heap.size := by have := L3.out; have := HN.out; have := B5.out.size; omega
  clear hth
  try go_wp2_with fail
  refine hK.out _ _ ?_ (fun hHeld5 => ?_)
  ·exact keep4 H3.out.1 B5.out L3.out (by have := HN.out; omega)
  clear hK K hHeld4
  try simp only [Act.put, zpu]
  refine wpAnyH_ready (rs := [6]) (by kernel_rfl) (by simp) ?_
  refine AllReadyH.cons rfl (fun K hK => ?_) AllReadyH.nil
  go_simp
  refine hK.out _ _ ?_ (fun hHeld6 => ?_)
  ·exact keepSet (c := w.heap.size) (by have := HN.out; omega) hHeld5
  clear hK K hHeld5
  try simp only [Act.put, zpu]
  refine wpAnyH_ready (rs := [7]) (by kernel_rfl) (by simp) ?_
  refine AllReadyH.cons rfl (fun K hK => ?_) AllReadyH.nil
  go_simp
  refine hK.out _ _ ?_ (fun hHeld7 => ?_)
  ·exact keepSet (c := w.heap.size + 1) (by have := HN.out; omega) hHeld6
  clear hK K hHeld6
  try simp only [Act.put, zpu]
  refine wpAnyH_done (by kernel_rfl) ?_ _
  go_wp2_with fail
  refine bodyPost_ret (v := .tuple #[.agg #[.int .i64 oA, .int .i64 nA, .string tA, .slice aA kA.len cA], .agg #[.int .i64 oB, .int .i64 nB, .string tB, .slice aB kB.len cB]]) (by simp [results, Try.results55, go_sem, y0, y1, y2, y3, y4, y5, y6, y7, hl5, hl6]) rfl ?_
  have htt : Touch w.heap.size (w.heap.size + 1 + 1) w5 ((((((((w5.setCell ⟨w.heap.size, 0, none⟩ (.int .i64 oA)).setCell ⟨w.heap.size, 1, none⟩ (.int .i64 nA)).setCell ⟨w.heap.size, 2, none⟩ (.string tA)).setCell ⟨w.heap.size, 3, none⟩ (.slice aA kA.len cA)).setCell ⟨w.heap.size + 1, 0, none⟩ (.int .i64 oB)).setCell ⟨w.heap.size + 1, 1, none⟩ (.int .i64 nB)).setCell ⟨w.heap.size + 1, 2, none⟩ (.string tB)).setCell ⟨w.heap.size + 1, 3, none⟩ (.slice aB kB.len cB)) := by
   refine Touch.setCell (Touch.setCell (Touch.setCell (Touch.setCell (Touch.setCell (Touch.setCell (Touch.setCell (Touch.setCell (Touch.refl _ _ _) ?_ ?_ _) ?_ ?_ _) ?_ ?_ _) ?_ ?_ _) ?_ ?_ _) ?_ ?_ _) ?_ ?_ _) ?_ ?_ _ <;> (simp; try omega)
  exact end_two H1.out.1 H1.out.2 HV.out H2.out H3.out.2.1 L3.out B5.out HB.out htt
 ·have hx3 : w.heap.size + 1 + 1 < w3.heap.size := by have := L3.out; have := HN.out; omega
  have HD3 := Lib.hid (l3Small w3.drew (w.heap.size + 1 + 1) _ (q1 + 1) (rdBelow H3.out.2.2.2 hx3 ((Below.refl _ _).drew)) (by omega) hx3)
  go_wp2_with fail
  refine wp_region_held_drew (S := (fun w' => w'.cell? ⟨w2.heap.size, 0, none⟩ = some (.int .i64 oA) ∧ w'.cell? ⟨w2.heap.size, 1, none⟩ = some (.int .i64 nA) ∧ w'.cell? ⟨w2.heap.size, 2, none⟩ = some (.string tA) ∧ w'.cell? ⟨w2.heap.size, 3, none⟩ = some (.slice aA kA.len cA))) (by kernel_rfl) ?_ (fun hHeld => ?_)
  ·exact keep4 (x := w.heap.size + 1 + 1) H3.out.1 (But.of_below ((Below.refl w3.heap.size w3).drew)) L3.out (by have := HN.out; omega)
  refine wpAnyH_take (i := 0) (v := ?_) rfl (by kernel_rfl) (by kernel_rfl) (by kernel_rfl) (fun _ _ _ h => h) (Or.inl ⟨by rfl, ?_⟩) (by assumption) ?_
  rotate_left
  ·(intro w hSw; (try dsimp only at hSw); (go_simp <;> with_reducible rfl))
  try simp only [Act.put, zpu]
  refine wpAnyH_take (i := 1) (v := ?_) rfl (by kernel_rfl) (by kernel_rfl) (by kernel_rfl) (fun _ _ _ h => h) (Or.inl ⟨by rfl, ?_⟩) (by assumption) ?_
  rotate_left
  ·(intro w hSw; (try dsimp only at hSw); (go_simp <;> with_reducible rfl))
  try simp only [Act.put, zpu]
  refine wpAnyH_ready (rs := [2]) (by kernel_rfl) (by simp) ?_
  refine AllReadyH.cons rfl (fun K hK => ?_) AllReadyH.nil
  go_simp
  go_at_call 61
  refine HD3.out.mono ?_
  rintro e4 w4 ⟨oB, nB, tB, kB, aB, cB, fB, q2, rfl, hcB, hsB, hvB, hsubB, hfrB, hrd4, hq4, hbut4⟩
  have B4 := Lib.hid (show But w3.heap.size (w.heap.size + 1 + 1) w3 w4 from (But.of_below ((Below.refl w3.heap.size w3).drew)).trans hbut4)
  have HB := Lib.hid (show Bdoc w1.heap.size w4 tB kB aB cB fB from ⟨hcB, by omega, hsubB, (show Fresh w3.heap.size w4 fB from hfrB).mono (by have := H2.out.2.1.size; have := L3.out; omega)⟩)
  clear hcB hsB hvB hsubB hfrB hrd4 hbut4
  have hth : ∀ b, b ≤ w.heap.size + 1 → w3.there b 0 4 → w4.there b 0 4 := fun b hb h => there_but h B4.out (by have := L3.out; have := HN.out; omega) (by omega)
  obtain ⟨⟨u0, u1, u2, u3, y0, y1, y2, y3⟩, z0, z1, z2, z3⟩ := there_at (hth _ (by omega) HT.out.1)
  obtain ⟨⟨u4, u5, u6, u7, y4, y5, y6, y7⟩, z4, z5, z6, z7⟩ := there_at (hth _ (by omega) HT.out.2)
  have hl5 : w.heap.size < w4.heap.size := by have := L3.out; have := HN.out; have := B4.out.size; omega
  have hl6 : w.heap.size + 1 < w4.heap.size := by have := L3.out; have := HN.out; have := B4.out.size; omega
  clear hth
  try go_wp2_with fail
  refine hK.out _ _ ?_ (fun hHeld2 => ?_)
  ·exact keep4 H3.out.1 B4.out L3.out (by have := HN.out; omega)
  clear hK K hHeld
  try simp only [Act.put, zpu]
  refine wpAnyH_ready (rs := [3]) (by kernel_rfl) (by simp) ?_
  refine AllReadyH.cons rfl (fun K hK => ?_) AllReadyH.nil
  go_simp
  refine hK.out _ _ ?_ (fun hHeld3 => ?_)
  ·exact keepSet (c := w.heap.size) (by have := HN.out; omega) hHeld2
  clear hK K hHeld2
  try simp only [Act.put, zpu]
  refine wpAnyH_ready (rs := [4]) (by kernel_rfl) (by simp) ?_
  refine AllReadyH.cons rfl (fun K hK => ?_) AllReadyH.nil
  go_simp
  refine hK.out _ _ ?_ (fun hHeld4 => ?_)
  ·exact keepSet (c := w.heap.size + 1) (by have := HN.out; omega) hHeld3
  clear hK K hHeld3
  try simp only [Act.put, zpu]
  refine wpAnyH_done (by kernel_rfl) ?_ _
  go_wp2_with fail
  refine bodyPost_ret (v := .tuple #[.agg #[.int .i64 oA, .int .i64 nA, .string tA, .slice aA kA.len cA], .agg #[.int .i64 oB, .int .i64 nB, .string tB, .slice aB kB.len cB]]) (by simp [results, Try.results55, go_sem, y0, y1, y2, y3, y4, y5, y6, y7, hl5, hl6]) rfl ?_
  have htt : Touch w.heap.size (w.heap.size + 1 + 1) w4 ((((((((w4.setCell ⟨w.heap.size, 0, none⟩ (.int .i64 oA)).setCell ⟨w.heap.size, 1, none⟩ (.int .i64 nA)).setCell ⟨w.heap.size, 2, none⟩ (.string tA)).setCell ⟨w.heap.size, 3, none⟩ (.slice aA kA.len cA)).setCell ⟨w.heap.size + 1, 0, none⟩ (.int .i64 oB)).setCell ⟨w.heap.size + 1, 1, none⟩ (.int .i64 nB)).setCell ⟨w.heap.size + 1, 2, none⟩ (.string tB)).setCell ⟨w.heap.size + 1, 3, none⟩ (.slice aB kB.len cB)) := by
   refine Touch.setCell (Touch.setCell (Touch.setCell (Touch.setCell (Touch.setCell (Touch.setCell (Touch.setCell (Touch.setCell (Touch.refl _ _ _) ?_ ?_ _) ?_ ?_ _) ?_ ?_ _) ?_ ?_ _) ?_ ?_ _) ?_ ?_ _) ?_ ?_ _) ?_ ?_ _ <;> (simp; try omega)
  exact end_two H1.out.1 H1.out.2 HV.out H2.out H3.out.2.1 L3.out B4.out HB.out htt
 ·have hx3 : w.heap.size + 1 + 1 < w3.heap.size := by have := L3.out; have := HN.out; omega
  have hva := valid_nice HV.out
  have hsb : SubAt w3.drew aA kA fA := SubAt.below H3.out.2.2.1 (fun c hc => Nat.lt_of_lt_of_le (H2.out.2.2.2.2.2.1.lt c hc) (Nat.le_of_lt L3.out)) ((Below.refl _ _).drew)
  have hsz8 := wo_small (oA, nA, tA, kA) HV.out
  obtain ⟨⟨oB, nB, tB, kB⟩, hB8⟩ : ∃ d : D, chD woR oA nA tA kA = d := ⟨_, rfl⟩
  have HW := l8Without w3.drew oA nA tA kA hva.1 (by omega) aA cA fA hsb (fun c hc => Nat.lt_of_lt_of_le (H2.out.2.2.2.2.2.1.lt c hc) (Nat.le_of_lt L3.out)) H2.out.2.2.1
  rw [hB8] at HW
  have hsz9 : tB.size + kB.size ≤ 1100 := by have := hsz8; unfold woD at this; simp only at this; rw [hB8] at this; exact this
  have HW2 := Lib.hid HW
  clear HW hva hsb hsz8 hB8
  go_wp2_with fail
  refine wp_region_held_drew (S := (fun w' => w'.cell? ⟨w2.heap.size, 0, none⟩ = some (.int .i64 oA) ∧ w'.cell? ⟨w2.heap.size, 1, none⟩ = some (.int .i64 nA) ∧ w'.cell? ⟨w2.heap.size, 2, none⟩ = some (.string tA) ∧ w'.cell? ⟨w2.heap.size, 3, none⟩ = some (.slice aA kA.len cA))) (by kernel_rfl) ?_ (fun hHeld => ?_)
  ·exact keep4 (x := w.heap.size + 1 + 1) H3.out.1 (But.of_below ((Below.refl w3.heap.size w3).drew)) L3.out (by have := HN.out; omega)
  refine wpAnyH_take (i := 0) (v := ?_) rfl (by kernel_rfl) (by kernel_rfl) (by kernel_rfl) (fun _ _ _ h => h) (Or.inl ⟨by rfl, ?_⟩) (by assumption) ?_
  rotate_left
  ·(intro w hSw; (try dsimp only at hSw); (go_simp <;> with_reducible rfl))
  try simp only [Act.put, zpu]
  refine wpAnyH_take (i := 1) (v := ?_) rfl (by kernel_rfl) (by kernel_rfl) (by kernel_rfl) (fun _ _ _ h => h) (Or.inl ⟨by rfl, ?_⟩) (by assumption) ?_
  rotate_left
  ·(intro w hSw; (try dsimp only at hSw); (go_simp <;> with_reducible rfl))
  try simp only [Act.put, zpu]
  refine wpAnyH_ready (rs := [2]) (by kernel_rfl) (by simp) ?_
  refine AllReadyH.cons rfl (fun K hK => ?_) AllReadyH.nil
  go_simp
  go_at_call 58
  refine HW2.out.mono ?_
  rintro e4 w4 ⟨aB, cB, fB, rfl, hcB, hsubB, hfrB, hbut4⟩
  have B4 := Lib.hid (show But w3.heap.size (w.heap.size + 1 + 1) w3 w4 from (But.of_below ((Below.refl w3.heap.size w3).drew)).trans (But.of_below hbut4))
  have HB := Lib.hid (show Bdoc w1.heap.size w4 tB kB aB cB fB from ⟨hcB, hsz9, hsubB, (show Fresh w3.heap.size w4 fB from hfrB).mono (by have := H2.out.2.1.size; have := L3.out; omega)⟩)
  clear hcB hsubB hfrB hbut4
  have hth : ∀ b, b ≤ w.heap.size + 1 → w3.there b 0 4 → w4.there b 0 4 := fun b hb h => there_but h B4.out (by have := L3.out; have := HN.out; omega) (by omega)
  obtain ⟨⟨u0, u1, u2, u3, y0, y1, y2, y3⟩, z0, z1, z2, z3⟩ := there_at (hth _ (by omega) HT.out.1)
  obtain ⟨⟨u4, u5, u6, u7, y4, y5, y6, y7⟩, z4, z5, z6, z7⟩ := there_at (hth _ (by omega) HT.out.2)
  have hl5 : w.heap.size < w4.heap.size := by have := L3.out; have := HN.out; have := B4.out.size; omega
  have hl6 : w.heap.size + 1 < w4.heap.size := by have := L3.out; have := HN.out; have := B4.out.size; omega
  clear hth
  try go_wp2_with fail
  refine hK.out _ _ ?_ (fun hHeld2 => ?_)
  ·exact keep4 H3.out.1 B4.out L3.out (by have := HN.out; omega)
  clear hK K hHeld
  try simp only [Act.put, zpu]
  refine wpAnyH_ready (rs := [3]) (by kernel_rfl) (by simp) ?_
  refine AllReadyH.cons rfl (fun K hK => ?_) AllReadyH.nil
  go_simp
  refine hK.out _ _ ?_ (fun hHeld3 => ?_)
  ·exact keepSet (c := w.heap.size) (by have := HN.out; omega) hHeld2
  clear hK K hHeld2
  try simp only [Act.put, zpu]
  refine wpAnyH_ready (rs := [4]) (by kernel_rfl) (by simp) ?_
  refine AllReadyH.cons rfl (fun K hK => ?_) AllReadyH.nil
  go_simp
  refine hK.out _ _ ?_ (fun hHeld4 => ?_)
  ·exact keepSet (c := w.heap.size + 1) (by have := HN.out; omega) hHeld3
  clear hK K hHeld3
  try simp only [Act.put, zpu]
  refine wpAnyH_done (by kernel_rfl) ?_ _
  go_wp2_with fail
  refine bodyPost_ret (v := .tuple #[.agg #[.int .i64 oA, .int .i64 nA, .string tA, .slice aA kA.len cA], .agg #[.int .i64 oB, .int .i64 nB, .string tB, .slice aB kB.len cB]]) (by simp [results, Try.results55, go_sem, y0, y1, y2, y3, y4, y5, y6, y7, hl5, hl6]) rfl ?_
  have htt : Touch w.heap.size (w.heap.size + 1 + 1) w4 ((((((((w4.setCell ⟨w.heap.size, 0, none⟩ (.int .i64 oA)).setCell ⟨w.heap.size, 1, none⟩ (.int .i64 nA)).setCell ⟨w.heap.size, 2, none⟩ (.string tA)).setCell ⟨w.heap.size, 3, none⟩ (.slice aA kA.len cA)).setCell ⟨w.heap.size + 1, 0, none⟩ (.int .i64 oB)).setCell ⟨w.heap.size + 1, 1, none⟩ (.int .i64 nB)).setCell ⟨w.heap.size + 1, 2, none⟩ (.string tB)).setCell ⟨w.heap.size + 1, 3, none⟩ (.slice aB kB.len cB)) := by
   refine Touch.setCell (Touch.setCell (Touch.setCell (Touch.setCell (Touch.setCell (Touch.setCell (Touch.setCell (Touch.setCell (Touch.refl _ _ _) ?_ ?_ _) ?_ ?_ _) ?_ ?_ _) ?_ ?_ _) ?_ ?_ _) ?_ ?_ _) ?_ ?_ _) ?_ ?_ _ <;> (simp; try omega)
  exact end_two H1.out.1 H1.out.2 HV.out H2.out H3.out.2.1 L3.out B4.out HB.out htt
 ·have hx3 : w.heap.size + 1 + 1 < w3.heap.size := by have := L3.out; have := HN.out; omega
  have B3 := Lib.hid (show But w3.heap.size (w.heap.size + 1 + 1) w3 w3 from But.of_below (Below.refl w3.heap.size w3))
  have B4 := Lib.hid (show But w3.heap.size (w.heap.size + 1 + 1) w3 (w3.drew.alloc (.cells #[.int .i64 oA, .int .i64 nA, .string tA, .slice aA kA.len cA] 25)) from But.of_below (((Below.refl w3.heap.size w3).drew).alloc (by simp) _))
  have HB := Lib.hid (show Bdoc w1.heap.size (w3.drew.alloc (.cells #[.int .i64 oA, .int .i64 nA, .string tA, .slice aA kA.len cA] 25)) ⟨#[]⟩ (.cons oA nA tA kA .nil) (some ⟨w3.heap.size, 0, none⟩) 1 (w3.heap.size :: fA) from wrap_b H2.out.2.1.size L3.out H2.out H3.out.2.1 (by have := H1.out.1; omega))
  have hth : ∀ b, b ≤ w.heap.size + 1 → w3.there b 0 4 → w3.there b 0 4 := fun b hb h => there_but h B3.out (by have := L3.out; have := HN.out; omega) (by omega)
  obtain ⟨⟨u0, u1, u2, u3, y0, y1, y2, y3⟩, z0, z1, z2, z3⟩ := there_at (hth _ (by omega) HT.out.1)
  obtain ⟨⟨u4, u5, u6, u7, y4, y5, y6, y7⟩, z4, z5, z6, z7⟩ := there_at (hth _ (by omega) HT.out.2)
  have hl5 : w.heap.size < w3.heap.size := by have := L3.out; have := HN.out; have := B3.out.size; omega
  have hl6 : w.heap.size + 1 < w3.heap.size := by have := L3.out; have := HN.out; have := B3.out.size; omega
  clear hth
  go_wp2_with fail
  refine wp_region_held_drew (S := (fun w' => w'.cell? ⟨w2.heap.size, 0, none⟩ = some (.int .i64 oA) ∧ w'.cell? ⟨w2.heap.size, 1, none⟩ = some (.int .i64 nA) ∧ w'.cell? ⟨w2.heap.size, 2, none⟩ = some (.string tA) ∧ w'.cell? ⟨w2.heap.size, 3, none⟩ = some (.slice aA kA.len cA))) (by kernel_rfl) ?_ (fun hHeld => ?_)
  ·exact keep4 (x := w.heap.size + 1 + 1) H3.out.1 (But.of_below ((Below.refl w3.heap.size w3).drew)) L3.out (by have := HN.out; omega)
  refine wpAnyH_take (i := 0) (v := ?_) rfl (by kernel_rfl) (by kernel_rfl) (by kernel_rfl) (fun _ _ _ h => h) (Or.inl ⟨by rfl, ?_⟩) (by assumption) ?_
  rotate_left
  ·(intro w hSw; (try dsimp only at hSw); (go_simp <;> with_reducible rfl))
  try simp only [Act.put, zpu]
  refine wpAnyH_take (i := 1) (v := ?_) rfl (by kernel_rfl) (by kernel_rfl) (by kernel_rfl) (fun _ _ _ h => h) (Or.inl ⟨by rfl, ?_⟩) (by assumption) ?_
  rotate_left
  ·(intro w hSw; (try dsimp only at hSw); (go_simp <;> with_reducible rfl))
  try simp only [Act.put, zpu]
  refine wpAnyH_ready (rs := [2, 4]) (by kernel_rfl) (by simp) ?_
  refine AllReadyH.cons rfl (fun K hK => ?_) ?_
  ·go_simp
   refine hK.out _ _ ?_ (fun hHeld2 => ?_)
   ·exact keep4 H3.out.1 B4.out L3.out (by have := HN.out; omega)
   clear hK K hHeld
   try simp only [Act.put, zpu]
   refine wpAnyH_take (i := 3) (v := ?_) rfl (by kernel_rfl) (by kernel_rfl) (by kernel_rfl) (fun _ _ _ h => h) (Or.inl ⟨by rfl, ?_⟩) (by assumption) ?_
   rotate_left
   ·(intro w hSw; (try dsimp only at hSw); (go_simp <;> with_reducible rfl))
   try simp only [Act.put, zpu]
   refine wpAnyH_ready (rs := [4]) (by kernel_rfl) (by simp) ?_
   refine AllReadyH.cons rfl (fun K hK => ?_) AllReadyH.nil
   go_simp
   refine hK.out _ _ ?_ (fun hHeld4 => ?_)
   ·exact box4n (keepSet (c := w.heap.size) (by have := HN.out; omega) H3.out.1) (by simpa using L3.out) (((Ext.refl _).alloc _).drew)
   clear hK K hHeld2
   try simp only [Act.put, zpu]
   refine wpAnyH_ready (rs := [5]) (by kernel_rfl) (by simp) ?_
   refine AllReadyH.cons rfl (fun K hK => ?_) AllReadyH.nil
   go_simp
   refine hK.out _ _ ?_ (fun hHeld5 => ?_)
   ·exact box4n (keepSet (c := w.heap.size + 1) (by have := HN.out; omega) (keepSet (c := w.heap.size) (by have := HN.out; omega) H3.out.1)) (by simpa using L3.out) (((Ext.refl _).alloc _).drew)
   clear hK K hHeld4
   try simp only [Act.put, zpu]
   refine wpAnyH_done (by kernel_rfl) ?_ _
   go_wp2_with fail
   refine bodyPost_ret (v := .tuple #[.agg #[.int .i64 oA, .int .i64 nA, .string tA, .slice aA kA.len cA], .agg #[.int .i64 8, .int .i64 0, .string ⟨#[]⟩, .slice (some ⟨w3.heap.size, 0, none⟩) 1 1]]) (by simp [results, Try.results55, go_sem, y0, y1, y2, y3, y4, y5, y6, y7, hl5, hl6]) rfl ?_
   have htt : Touch w.heap.size (w.heap.size + 1 + 1) (w3.drew.alloc (.cells #[.int .i64 oA, .int .i64 nA, .string tA, .slice aA kA.len cA] 25)) (((((((((w3.drew.alloc (.cells #[.int .i64 oA, .int .i64 nA, .string tA, .slice aA kA.len cA] 25)).setCell ⟨w.heap.size, 0, none⟩ (.int .i64 oA)).setCell ⟨w.heap.size, 1, none⟩ (.int .i64 nA)).setCell ⟨w.heap.size, 2, none⟩ (.string tA)).setCell ⟨w.heap.size, 3, none⟩ (.slice aA kA.len cA)).setCell ⟨w.heap.size + 1, 0, none⟩ (.int .i64 8)).setCell ⟨w.heap.size + 1, 1, none⟩ (.int .i64 0)).setCell ⟨w.heap.size + 1, 2, none⟩ (.string ⟨#[]⟩)).setCell ⟨w.heap.size + 1, 3, none⟩ (.slice (some ⟨w3.heap.size, 0, none⟩) 1 1)) := by
    refine Touch.setCell (Touch.setCell (Touch.setCell (Touch.setCell (Touch.setCell (Touch.setCell (Touch.setCell (Touch.setCell (Touch.refl _ _ _) ?_ ?_ _) ?_ ?_ _) ?_ ?_ _) ?_ ?_ _) ?_ ?_ _) ?_ ?_ _) ?_ ?_ _) ?_ ?_ _ <;> (simp; try omega)
   have hfin := end_two (oB := 8) (nB := 0) H1.out.1 H1.out.2 HV.out H2.out H3.out.2.1 L3.out B4.out HB.out htt
   rw [wrap_w w3 _ _ _ hl5 hl6]
   exact hfin
  refine AllReadyH.cons rfl (fun K hK => ?_) AllReadyH.nil
  go_simp
  refine hK.out _ _ ?_ (fun hHeld4 => ?_)
  ·exact box4n (keepSet (c := w.heap.size) (by have := HN.out; omega) H3.out.1) (by simpa using L3.out) ((Ext.refl _).drew)
  clear hK K hHeld
  try simp only [Act.put, zpu]
  refine wpAnyH_ready (rs := [2]) (by kernel_rfl) (by simp) ?_
  refine AllReadyH.cons rfl (fun K hK => ?_) AllReadyH.nil
  go_simp
  refine hK.out _ _ ?_ (fun hHeld2 => ?_)
  ·exact box4n (keepSet (c := w.heap.size) (by have := HN.out; omega) H3.out.1) (by simpa using L3.out) (((Ext.refl _).alloc _).drew)
  clear hK K hHeld4
  try simp only [Act.put, zpu]
  refine wpAnyH_take (i := 3) (v := ?_) rfl (by kernel_rfl) (by kernel_rfl) (by kernel_rfl) (fun _ _ _ h => h) (Or.inl ⟨by rfl, ?_⟩) (by assumption) ?_
  rotate_left
  ·(intro w hSw; (try dsimp only at hSw); (go_simp <;> with_reducible rfl))
  try simp only [Act.put, zpu]
  refine wpAnyH_ready (rs := [5]) (by kernel_rfl) (by simp) ?_
  refine AllReadyH.cons rfl (fun K hK => ?_) AllReadyH.nil
  go_simp
  refine hK.out _ _ ?_ (fun hHeld5 => ?_)
  ·exact box4n (keepSet (c := w.heap.size + 1) (by have := HN.out; omega) (keepSet (c := w.heap.size) (by have := HN.out; omega) H3.out.1)) (by simpa using L3.out) (((Ext.refl _).alloc _).drew)
  clear hK K hHeld2
  try simp only [Act.put, zpu]
  refine wpAnyH_done (by kernel_rfl) ?_ _
  go_wp2_with fail
  refine bodyPost_ret (v := .tuple #[.agg #[.int .i64 oA, .int .i64 nA, .string tA, .slice aA kA.len cA], .agg #[.int .i64 8, .int .i64 0, .string ⟨#[]⟩, .slice (some ⟨w3.heap.size, 0, none⟩) 1 1]]) (by simp [results, Try.results55, go_sem, y0, y1, y2, y3, y4, y5, y6, y7, hl5, hl6]) rfl ?_
  have htt : Touch w.heap.size (w.heap.size + 1 + 1) (w3.drew.alloc (.cells #[.int .i64 oA, .int .i64 nA, .string tA, .slice aA kA.len cA] 25)) (((((((((w3.drew.alloc (.cells #[.int .i64 oA, .int .i64 nA, .string tA, .slice aA kA.len cA] 25)).setCell ⟨w.heap.size, 0, none⟩ (.int .i64 oA)).setCell ⟨w.heap.size, 1, none⟩ (.int .i64 nA)).setCell ⟨w.heap.size, 2, none⟩ (.string tA)).setCell ⟨w.heap.size, 3, none⟩ (.slice aA kA.len cA)).setCell ⟨w.heap.size + 1, 0, none⟩ (.int .i64 8)).setCell ⟨w.heap.size + 1, 1, none⟩ (.int .i64 0)).setCell ⟨w.heap.size + 1, 2, none⟩ (.string ⟨#[]⟩)).setCell ⟨w.heap.size + 1, 3, none⟩ (.slice (some ⟨w3.heap.size, 0, none⟩) 1 1)) := by
   refine Touch.setCell (Touch.setCell (Touch.setCell (Touch.setCell (Touch.setCell (Touch.setCell (Touch.setCell (Touch.setCell (Touch.refl _ _ _) ?_ ?_ _) ?_ ?_ _) ?_ ?_ _) ?_ ?_ _) ?_ ?_ _) ?_ ?_ _) ?_ ?_ _) ?_ ?_ _ <;> (simp; try omega)
  have hfin := end_two (oB := 8) (nB := 0) H1.out.1 H1.out.2 HV.out H2.out H3.out.2.1 L3.out B4.out HB.out htt
  rw [wrap_w w3 _ _ _ hl5 hl6]
  exact hfin
 ·have hx3 : w.heap.size + 1 + 1 < w3.heap.size := by have := L3.out; have := HN.out; omega
  have B3 := Lib.hid (show But w3.heap.size (w.heap.size + 1 + 1) w3 w3 from But.of_below (Below.refl w3.heap.size w3))
  have B4 := Lib.hid (show But w3.heap.size (w.heap.size + 1 + 1) w3 (w3.drew.alloc (.cells #[.int .i64 oA, .int .i64 nA, .string tA, .slice aA kA.len cA] 25)) from But.of_below (((Below.refl w3.heap.size w3).drew).alloc (by simp) _))
  have HB := Lib.hid (show Bdoc w1.heap.size (w3.drew.alloc (.cells #[.int .i64 oA, .int .i64 nA, .string tA, .slice aA kA.len cA] 25)) ⟨#[]⟩ (.cons oA nA tA kA .nil) (some ⟨w3.heap.size, 0, none⟩) 1 (w3.heap.size :: fA) from wrap_b H2.out.2.1.size L3.out H2.out H3.out.2.1 (by have := H1.out.1; omega))
  have hth : ∀ b, b ≤ w.heap.size + 1 → w3.there b 0 4 → w3.there b 0 4 := fun b hb h => there_but h B3.out (by have := L3.out; have := HN.out; omega) (by omega)
  obtain ⟨⟨u0, u1, u2, u3, y0, y1, y2, y3⟩, z0, z1, z2, z3⟩ := there_at (hth _ (by omega) HT.out.1)
  obtain ⟨⟨u4, u5, u6, u7, y4, y5, y6, y7⟩, z4, z5, z6, z7⟩ := there_at (hth _ (by omega) HT.out.2)
  have hl5 : w.heap.size < w3.heap.size := by have := L3.out; have := HN.out; have := B3.out.size; omega
  have hl6 : w.heap.size + 1 < w3.heap.size := by have := L3.out; have := HN.out; have := B3.out.size; omega
  clear hth
  go_wp2_with fail
  refine wp_region_held_drew (S := (fun w' => w'.cell? ⟨w2.heap.size, 0, none⟩ = some (.int .i64 oA) ∧ w'.cell? ⟨w2.heap.size, 1, none⟩ = some (.int .i64 nA) ∧ w'.cell? ⟨w2.heap.size, 2, none⟩ = some (.string tA) ∧ w'.cell? ⟨w2.heap.size, 3, none⟩ = some (.slice aA kA.len cA))) (by kernel_rfl) ?_ (fun hHeld => ?_)
  ·exact keep4 (x := w.heap.size + 1 + 1) H3.out.1 (But.of_below ((Below.refl w3.heap.size w3).drew)) L3.out (by have := HN.out; omega)
  refine wpAnyH_take (i := 0) (v := ?_) rfl (by kernel_rfl) (by kernel_rfl) (by kernel_rfl) (fun _ _ _ h => h) (Or.inl ⟨by rfl, ?_⟩) (by assumption) ?_
  rotate_left
  ·(intro w hSw; (try dsimp only at hSw); (go_simp <;> with_reducible rfl))
  try simp only [Act.put, zpu]
  refine wpAnyH_take (i := 1) (v := ?_) rfl (by kernel_rfl) (by kernel_rfl) (by kernel_rfl) (fun _ _ _ h => h) (Or.inl ⟨by rfl, ?_⟩) (by assumption) ?_
  rotate_left
  ·(intro w hSw; (try dsimp only at hSw); (go_simp <;> with_reducible rfl))
  try simp only [Act.put, zpu]
  refine wpAnyH_ready (rs := [2, 4]) (by kernel_rfl) (by simp) ?_
  refine AllReadyH.cons rfl (fun K hK => ?_) ?_
  ·go_simp
   refine hK.out _ _ ?_ (fun hHeld2 => ?_)
   ·exact keep4 H3.out.1 B4.out L3.out (by have := HN.out; omega)
   clear hK K hHeld
   try simp only [Act.put, zpu]
   refine wpAnyH_take (i := 3) (v := ?_) rfl (by kernel_rfl) (by kernel_rfl) (by kernel_rfl) (fun _ _ _ h => h) (Or.inl ⟨by rfl, ?_⟩) (by assumption) ?_
   rotate_left
   ·(intro w hSw; (try dsimp only at hSw); (go_simp <;> with_reducible rfl))
   try simp only [Act.put, zpu]
   refine wpAnyH_ready (rs := [4]) (by kernel_rfl) (by simp) ?_
   refine AllReadyH.cons rfl (fun K hK => ?_) AllReadyH.nil
   go_simp
   refine hK.out _ _ ?_ (fun hHeld4 => ?_)
   ·exact box4n (keepSet (c := w.heap.size) (by have := HN.out; omega) H3.out.1) (by simpa using L3.out) (((Ext.refl _).alloc _).drew)
   clear hK K hHeld2
   try simp only [Act.put, zpu]
   refine wpAnyH_ready (rs := [5]) (by kernel_rfl) (by simp) ?_
   refine AllReadyH.cons rfl (fun K hK => ?_) AllReadyH.nil
   go_simp
   refine hK.out _ _ ?_ (fun hHeld5 => ?_)
   ·exact box4n (keepSet (c := w.heap.size + 1) (by have := HN.out; omega) (keepSet (c := w.heap.size) (by have := HN.out; omega) H3.out.1)) (by simpa using L3.out) (((Ext.refl _).alloc _).drew)
   clear hK K hHeld4
   try simp only [Act.put, zpu]
   refine wpAnyH_done (by kernel_rfl) ?_ _
   go_wp2_with fail
   refine bodyPost_ret (v := .tuple #[.agg #[.int .i64 oA, .int .i64 nA, .string tA, .slice aA kA.len cA], .agg #[.int .i64 6, .int .i64 2, .string ⟨#[]⟩, .slice (some ⟨w3.heap.size, 0, none⟩) 1 1]]) (by simp [results, Try.results55, go_sem, y0, y1, y2, y3, y4, y5, y6, y7, hl5, hl6]) rfl ?_
   have htt : Touch w.heap.size (w.heap.size + 1 + 1) (w3.drew.alloc (.cells #[.int .i64 oA, .int .i64 nA, .string tA, .slice aA kA.len cA] 25)) (((((((((w3.drew.alloc (.cells #[.int .i64 oA, .int .i64 nA, .string tA, .slice aA kA.len cA] 25)).setCell ⟨w.heap.size, 0, none⟩ (.int .i64 oA)).setCell ⟨w.heap.size, 1, none⟩ (.int .i64 nA)).setCell ⟨w.heap.size, 2, none⟩ (.string tA)).setCell ⟨w.heap.size, 3, none⟩ (.slice aA kA.len cA)).setCell ⟨w.heap.size + 1, 0, none⟩ (.int .i64 6)).setCell ⟨w.heap.size + 1, 1, none⟩ (.int .i64 2)).setCell ⟨w.heap.size + 1, 2, none⟩ (.string ⟨#[]⟩)).setCell ⟨w.heap.size + 1, 3, none⟩ (.slice (some ⟨w3.heap.size, 0, none⟩) 1 1)) := by
    refine Touch.setCell (Touch.setCell (Touch.setCell (Touch.setCell (Touch.setCell (Touch.setCell (Touch.setCell (Touch.setCell (Touch.refl _ _ _) ?_ ?_ _) ?_ ?_ _) ?_ ?_ _) ?_ ?_ _) ?_ ?_ _) ?_ ?_ _) ?_ ?_ _) ?_ ?_ _ <;> (simp; try omega)
   have hfin := end_two (oB := 6) (nB := 2) H1.out.1 H1.out.2 HV.out H2.out H3.out.2.1 L3.out B4.out HB.out htt
   rw [wrap_w w3 _ _ _ hl5 hl6]
   exact hfin
  refine AllReadyH.cons rfl (fun K hK => ?_) AllReadyH.nil
  go_simp
  refine hK.out _ _ ?_ (fun hHeld4 => ?_)
  ·exact box4n (keepSet (c := w.heap.size) (by have := HN.out; omega) H3.out.1) (by simpa using L3.out) ((Ext.refl _).drew)
  clear hK K hHeld
  try simp only [Act.put, zpu]
  refine wpAnyH_ready (rs := [2]) (by kernel_rfl) (by simp) ?_
  refine AllReadyH.cons rfl (fun K hK => ?_) AllReadyH.nil
  go_simp
  refine hK.out _ _ ?_ (fun hHeld2 => ?_)
  ·exact box4n (keepSet (c := w.heap.size) (by have := HN.out; omega) H3.out.1) (by simpa using L3.out) (((Ext.refl _).alloc _).drew)
  clear hK K hHeld4
  try simp only [Act.put, zpu]
  refine wpAnyH_take (i := 3) (v := ?_) rfl (by kernel_rfl) (by kernel_rfl) (by kernel_rfl) (fun _ _ _ h => h) (Or.inl ⟨by rfl, ?_⟩) (by assumption) ?_
  rotate_left
  ·(intro w hSw; (try dsimp only at hSw); (go_simp <;> with_reducible rfl))
  try simp only [Act.put, zpu]
  refine wpAnyH_ready (rs := [5]) (by kernel_rfl) (by simp) ?_
  refine AllReadyH.cons rfl (fun K hK => ?_) AllReadyH.nil
  go_simp
  refine hK.out _ _ ?_ (fun hHeld5 => ?_)
  ·exact box4n (keepSet (c := w.heap.size + 1) (by have := HN.out; omega) (keepSet (c := w.heap.size) (by have := HN.out; omega) H3.out.1)) (by simpa using L3.out) (((Ext.refl _).alloc _).drew)
  clear hK K hHeld2
  try simp only [Act.put, zpu]
  refine wpAnyH_done (by kernel_rfl) ?_ _
  go_wp2_with fail
  refine bodyPost_ret (v := .tuple #[.agg #[.int .i64 oA, .int .i64 nA, .string tA, .slice aA kA.len cA], .agg #[.int .i64 6, .int .i64 2, .string ⟨#[]⟩, .slice (some ⟨w3.heap.size, 0, none⟩) 1 1]]) (by simp [results, Try.results55, go_sem, y0, y1, y2, y3, y4, y5, y6, y7, hl5, hl6]) rfl ?_
  have htt : Touch w.heap.size (w.heap.size + 1 + 1) (w3.drew.alloc (.cells #[.int .i64 oA, .int .i64 nA, .string tA, .slice aA kA.len cA] 25)) (((((((((w3.drew.alloc (.cells #[.int .i64 oA, .int .i64 nA, .string tA, .slice aA kA.len cA] 25)).setCell ⟨w.heap.size, 0, none⟩ (.int .i64 oA)).setCell ⟨w.heap.size, 1, none⟩ (.int .i64 nA)).setCell ⟨w.heap.size, 2, none⟩ (.string tA)).setCell ⟨w.heap.size, 3, none⟩ (.slice aA kA.len cA)).setCell ⟨w.heap.size + 1, 0, none⟩ (.int .i64 6)).setCell ⟨w.heap.size + 1, 1, none⟩ (.int .i64 2)).setCell ⟨w.heap.size + 1, 2, none⟩ (.string ⟨#[]⟩)).setCell ⟨w.heap.size + 1, 3, none⟩ (.slice (some ⟨w3.heap.size, 0, none⟩) 1 1)) := by
   refine Touch.setCell (Touch.setCell (Touch.setCell (Touch.setCell (Touch.setCell (Touch.setCell (Touch.setCell (Touch.setCell (Touch.refl _ _ _) ?_ ?_ _) ?_ ?_ _) ?_ ?_ _) ?_ ?_ _) ?_ ?_ _) ?_ ?_ _) ?_ ?_ _) ?_ ?_ _ <;> (simp; try omega)
  have hfin := end_two (oB := 6) (nB := 2) H1.out.1 H1.out.2 HV.out H2.out H3.out.2.1 L3.out B4.out HB.out htt
  rw [wrap_w w3 _ _ _ hl5 hl6]
  exact hfin
 ·have hx3 : w.heap.size + 1 + 1 < w3.heap.size := by have := L3.out; have := HN.out; omega
  obtain ⟨hsb, hfb, _⟩ := end_a (W := w3) H2.out H3.out.2.1 L3.out (But.of_below (Below.refl w3.heap.size w3)) H1.out.1
  obtain ⟨⟨ok, oN, nN, tN, kN⟩, hR⟩ : ∃ R, Nf.noRes oA nA tA kA = R := ⟨_, rfl⟩
  have hszN : tN.size + kN.size ≤ 1100 := ch_1100 hR
  have hno := specNormalDoc w3 oA nA tA kA aA cA fA hsb (fun c hc => (hfb.2 c hc).2) H2.out.2.2.1 (by have := H2.out.2.2.2.1; omega)
  rw [hR] at hno
  have HNO := Lib.hid hno
  clear hno hR hsb hfb
  obtain ⟨x0, x1, x2, x3⟩ := H3.out.1
  have lx := L3.out
  go_wp2_with fail
  refine HNO.out.mono ?_
  rintro e4 wN ⟨aN, cN, fN, rfl, hcN, hsubN, hfrN, hbN⟩
  have hbN' : Ext w3 wN := hbN
  obtain ⟨w4, hV⟩ : ∃ V, wN.alloc (.cells #[.int .i64 oN, .int .i64 nN, .string tN, .slice aN kN.len cN] 25) = V := ⟨_, rfl⟩
  have e34 : Ext w3 w4 := by rw [← hV]; exact hbN'.trans ((Ext.refl _).alloc _)
  have B4 := Lib.hid (show But w3.heap.size (w.heap.size + 1 + 1) w3 w4 from But.of_below e34)
  have X4 := Lib.hid (box4n H3.out.1 L3.out e34)
  have Y4 := Lib.hid (show w4.cell? ⟨wN.heap.size, 0, none⟩ = some (.int .i64 oN) ∧ w4.cell? ⟨wN.heap.size, 1, none⟩ = some (.int .i64 nN) ∧ w4.cell? ⟨wN.heap.size, 2, none⟩ = some (.string tN) ∧ w4.cell? ⟨wN.heap.size, 3, none⟩ = some (.slice aN kN.len cN) from by rw [← hV]; exact Eqd.Fr.new wN (.int .i64 oN) (.int .i64 nN) (.string tN) (.slice aN kN.len cN) 25)
  have HB := Lib.hid (show Bdoc w1.heap.size w4 tN kN aN cN fN from ⟨hcN, hszN, by rw [← hV]; exact ((Ext.refl _).alloc _).sub hsubN hfrN.lt, by rw [← hV]; exact ((Ext.refl wN).alloc _).fresh (hfrN.mono (by have := H2.out.2.1.size; have := L3.out; omega))⟩)
  have LN := Lib.hid (show w2.heap.size < w4.heap.size ∧ wN.heap.size < w4.heap.size ∧ w3.heap.size ≤ wN.heap.size from ⟨Nat.lt_of_lt_of_le L3.out e34.size, by rw [← hV]; simp, hbN'.size⟩)
  clear hbN hbN' e34 hcN hsubN hfrN hszN x0 x1 x2 x3 lx HNO
  have hth : ∀ b, b ≤ w.heap.size + 1 → w3.there b 0 4 → w4.there b 0 4 := fun b hb h => there_but h B4.out (by have := L3.out; have := HN.out; omega) (by omega)
  obtain ⟨⟨u0, u1, u2, u3, y0, y1, y2, y3⟩, z0, z1, z2, z3⟩ := there_at (hth _ (by omega) HT.out.1)
  obtain ⟨⟨u4, u5, u6, u7, y4, y5, y6, y7⟩, z4, z5, z6, z7⟩ := there_at (hth _ (by omega) HT.out.2)
  have hl5 : w.heap.size < w4.heap.size := by have := L3.out; have := HN.out; have := B4.out.size; omega
  have hl6 : w.heap.size + 1 < w4.heap.size := by have := L3.out; have := HN.out; have := B4.out.size; omega
  clear hth
  obtain ⟨x0, x1, x2, x3⟩ := X4.out
  obtain ⟨v0, v1, v2, v3⟩ := Y4.out
  have HA4 := Lib.hid (end_a (W := w4) H2.out H3.out.2.1 L3.out B4.out H1.out.1)
  have lx := LN.out.1
  have ly := LN.out.2.1
  cases ok with
  | false =>
    have HCP := Lib.hid (l1Copy w4.drew oA nA tA kA aA cA fA (SubAt.below HA4.out.1 HA4.out.2.1.lt ((Below.refl _ _).drew)) (fun c hc => HA4.out.2.1.lt c hc) H2.out.2.2.1 (by have := H2.out.2.2.2.1; omega) (by have := H2.out.2.2.2.1; omega))
    clear u0 u1 u2 u3 y0 y1 y2 y3 z0 z1 z2 z3 u4 u5 u6 u7 y4 y5 y6 y7 z4 z5 z6 z7 hl5 hl6 HB
    go_wp2_with fail
    try rw [hV]
    clear hV
    refine wp_region_held_drew (S := (fun w' => w'.cell? ⟨w2.heap.size, 0, none⟩ = some (.int .i64 oA) ∧ w'.cell? ⟨w2.heap.size, 1, none⟩ = some (.int .i64 nA) ∧ w'.cell? ⟨w2.heap.size, 2, none⟩ = some (.string tA) ∧ w'.cell? ⟨w2.heap.size, 3, none⟩ = some (.slice aA kA.len cA))) (by kernel_rfl) ?_ (fun hHeld => ?_)
    ·exact box4n X4.out LN.out.1 ((Ext.refl _).drew)
    refine wpAnyH_take (i := 0) (v := ?_) rfl (by kernel_rfl) (by kernel_rfl) (by kernel_rfl) (fun _ _ _ h => h) (Or.inl ⟨by rfl, ?_⟩) (by assumption) ?_
    rotate_left
    ·(intro w hSw; (try dsimp only at hSw); (go_simp <;> with_reducible rfl))
    try simp only [Act.put, zpu]
    refine wpAnyH_take (i := 1) (v := ?_) rfl (by kernel_rfl) (by kernel_rfl) (by kernel_rfl) (fun _ _ _ h => h) (Or.inl ⟨by rfl, ?_⟩) (by assumption) ?_
    rotate_left
    ·(intro w hSw; (try dsimp only at hSw); (go_simp <;> with_reducible rfl))
    try simp only [Act.put, zpu]
    refine wpAnyH_ready (rs := [2]) (by kernel_rfl) (by simp) ?_
    refine AllReadyH.cons rfl (fun K hK => ?_) AllReadyH.nil
    go_simp
    go_at_call 78
    refine HCP.out.mono ?_
    rintro e5 w5 ⟨aB, cB, fB, rfl, hcB, hsubB, hfrB, hbut5⟩
    have B5 := Lib.hid (show But w3.heap.size (w.heap.size + 1 + 1) w3 w5 from (B4.out.trans ((But.of_below ((Below.refl w4.heap.size w4).drew)).mono B4.out.size)).trans ((But.of_below hbut5).mono B4.out.size))
    have HB := Lib.hid (show Bdoc w1.heap.size w5 tA kA aB cB fB from ⟨hcB, by have := H2.out.2.2.2.1; omega, hsubB, (show Fresh w4.heap.size w5 fB from hfrB).mono (by have := H2.out.2.1.size; have := LN.out.1; omega)⟩)
    clear hcB hsubB hfrB hbut5
    have hth : ∀ b, b ≤ w.heap.size + 1 → w3.there b 0 4 → w5.there b 0 4 := fun b hb h => there_but h B5.out (by have := L3.out; have := HN.out; omega) (by omega)
    obtain ⟨⟨u0, u1, u2, u3, y0, y1, y2, y3⟩, z0, z1, z2, z3⟩ := there_at (hth _ (by omega) HT.out.1)
    obtain ⟨⟨u4, u5, u6, u7, y4, y5, y6, y7⟩, z4, z5, z6, z7⟩ := there_at (hth _ (by omega) HT.out.2)
    have hl5 : w.heap.size < w5.heap.size := by have := L3.out; have := HN.out; have := B5.out.size; omega
    have hl6 : w.heap.size + 1 < w5.heap.size := by have := L3.out; have := HN.out; have := B5.out.size; omega
    clear hth
    try go_wp2_with fail
    refine hK.out _ _ ?_ (fun hHeld2 => ?_)
    ·exact keep4 H3.out.1 B5.out L3.out (by have := HN.out; omega)
    clear hK K hHeld
    try simp only [Act.put, zpu]
    refine wpAnyH_ready (rs := [3]) (by kernel_rfl) (by simp) ?_
    refine AllReadyH.cons rfl (fun K hK => ?_) AllReadyH.nil
    go_simp
    refine hK.out _ _ ?_ (fun hHeld3 => ?_)
    ·exact keepSet (c := w.heap.size) (by have := HN.out; omega) hHeld2
    clear hK K hHeld2
    try simp only [Act.put, zpu]
    refine wpAnyH_ready (rs := [4]) (by kernel_rfl) (by simp) ?_
    refine AllReadyH.cons rfl (fun K hK => ?_) AllReadyH.nil
    go_simp
    refine hK.out _ _ ?_ (fun hHeld4 => ?_)
    ·exact keepSet (c := w.heap.size + 1) (by have := HN.out; omega) hHeld3
    clear hK K hHeld3
    try simp only [Act.put, zpu]
    refine wpAnyH_done (by kernel_rfl) ?_ _
    go_wp2_with fail
    refine bodyPost_ret (v := .tuple #[.agg #[.int .i64 oA, .int .i64 nA, .string tA, .slice aA kA.len cA], .agg #[.int .i64 oA, .int .i64 nA, .string tA, .slice aB kA.len cB]]) (by simp [results, Try.results55, go_sem, y0, y1, y2, y3, y4, y5, y6, y7, hl5, hl6]) rfl ?_
    have htt : Touch w.heap.size (w.heap.size + 1 + 1) w5 ((((((((w5.setCell ⟨w.heap.size, 0, none⟩ (.int .i64 oA)).setCell ⟨w.heap.size, 1, none⟩ (.int .i64 nA)).setCell ⟨w.heap.size, 2, none⟩ (.string tA)).setCell ⟨w.heap.size, 3, none⟩ (.slice aA kA.len cA)).setCell ⟨w.heap.size + 1, 0, none⟩ (.int .i64 oA)).setCell ⟨w.heap.size + 1, 1, none⟩ (.int .i64 nA)).setCell ⟨w.heap.size + 1, 2, none⟩ (.string tA)).setCell ⟨w.heap.size + 1, 3, none⟩ (.slice aB kA.len cB)) := by
     refine Touch.setCell (Touch.setCell (Touch.setCell (Touch.setCell (Touch.setCell (Touch.setCell (Touch.setCell (Touch.setCell (Touch.refl _ _ _) ?_ ?_ _) ?_ ?_ _) ?_ ?_ _) ?_ ?_ _) ?_ ?_ _) ?_ ?_ _) ?_ ?_ _) ?_ ?_ _ <;> (simp; try omega)
    exact end_two H1.out.1 H1.out.2 HV.out H2.out H3.out.2.1 L3.out B5.out HB.out htt
  | true =>
    go_wp2_with fail
    try rw [hV]
    clear hV
    refine wp_region_held_drew (S := (fun w' => (w'.cell? ⟨w2.heap.size, 0, none⟩ = some (.int .i64 oA) ∧ w'.cell? ⟨w2.heap.size, 1, none⟩ = some (.int .i64 nA) ∧ w'.cell? ⟨w2.heap.size, 2, none⟩ = some (.string tA) ∧ w'.cell? ⟨w2.heap.size, 3, none⟩ = some (.slice aA kA.len cA)) ∧ w'.cell? ⟨wN.heap.size, 0, none⟩ = some (.int .i64 oN) ∧ w'.cell? ⟨wN.heap.size, 1, none⟩ = some (.int .i64 nN) ∧ w'.cell? ⟨wN.heap.size, 2, none⟩ = some (.string tN) ∧ w'.cell? ⟨wN.heap.size, 3, none⟩ = some (.slice aN kN.len cN))) (by kernel_rfl) ?_ (fun hHeld => ?_)
    ·exact ⟨box4n X4.out (by simpa using LN.out.1) ((Ext.refl _).drew), box4n Y4.out (by simpa using LN.out.2.1) ((Ext.refl _).drew)⟩
    refine wpAnyH_take (i := 0) (v := ?_) rfl (by kernel_rfl) (by kernel_rfl) (by kernel_rfl) (fun _ _ _ h => h) (Or.inl ⟨by rfl, ?_⟩) (by assumption) ?_
    rotate_left
    ·(intro w hSw; (try dsimp only at hSw); obtain ⟨⟨h0, h1, h2, h3⟩, h4, h5, h6, h7⟩ := hSw; (go_simp <;> with_reducible rfl))
    try simp only [Act.put, zpu]
    refine wpAnyH_take (i := 1) (v := ?_) rfl (by kernel_rfl) (by kernel_rfl) (by kernel_rfl) (fun _ _ _ h => h) (Or.inl ⟨by rfl, ?_⟩) (by assumption) ?_
    rotate_left
    ·(intro w hSw; (try dsimp only at hSw); obtain ⟨⟨h0, h1, h2, h3⟩, h4, h5, h6, h7⟩ := hSw; (go_simp <;> with_reducible rfl))
    try simp only [Act.put, zpu]
    refine wpAnyH_ready (rs := [2]) (by kernel_rfl) (by simp) ?_
    refine AllReadyH.cons rfl (fun K hK => ?_) AllReadyH.nil
    go_simp
    refine hK.out _ _ ?_ (fun hHeld2 => ?_)
    ·exact ⟨box4n (keepSet (c := w.heap.size) (by have := HN.out; omega) X4.out) (by simpa using LN.out.1) ((Ext.refl _).drew), box4n (keepSet (c := w.heap.size) (by have := HN.out; have := L3.out; have := LN.out.2.2; omega) Y4.out) (by simpa using LN.out.2.1) ((Ext.refl _).drew)⟩
    clear hK K hHeld
    try simp only [Act.put, zpu]
    refine wpAnyH_ready (rs := [3]) (by kernel_rfl) (by simp) ?_
    refine AllReadyH.cons rfl (fun K hK => ?_) AllReadyH.nil
    go_simp
    refine hK.out _ _ ?_ (fun hHeld3 => ?_)
    ·exact ⟨box4n (keepSet (c := w.heap.size + 1) (by have := HN.out; omega) (keepSet (c := w.heap.size) (by have := HN.out; omega) X4.out)) (by simpa using LN.out.1) ((Ext.refl _).drew), box4n (keepSet (c := w.heap.size + 1) (by have := HN.out; have := L3.out; have := LN.out.2.2; omega) (keepSet (c := w.heap.size) (by have := HN.out; have := L3.out; have := LN.out.2.2; omega) Y4.out)) (by simpa using LN.out.2.1) ((Ext.refl _).drew)⟩
    clear hK K hHeld2
    try simp only [Act.put, zpu]
    refine wpAnyH_done (by kernel_rfl) ?_ _
    go_wp2_with fail
    refine bodyPost_ret (v := .tuple #[.agg #[.int .i64 oA, .int .i64 nA, .string tA, .slice aA kA.len cA], .agg #[.int .i64 oN, .int .i64 nN, .string tN, .slice aN kN.len cN]]) (by simp [results, Try.results55, go_sem, y0, y1, y2, y3, y4, y5, y6, y7, hl5, hl6]) rfl ?_
    have htt : Touch w.heap.size (w.heap.size + 1 + 1) w4.drew ((((((((w4.drew.setCell ⟨w.heap.size, 0, none⟩ (.int .i64 oA)).setCell ⟨w.heap.size, 1, none⟩ (.int .i64 nA)).setCell ⟨w.heap.size, 2, none⟩ (.string tA)).setCell ⟨w.heap.size, 3, none⟩ (.slice aA kA.len cA)).setCell ⟨w.heap.size + 1, 0, none⟩ (.int .i64 oN)).setCell ⟨w.heap.size + 1, 1, none⟩ (.int .i64 nN)).setCell ⟨w.heap.size + 1, 2, none⟩ (.string tN)).setCell ⟨w.heap.size + 1, 3, none⟩ (.slice aN kN.len cN)) := by
     refine Touch.setCell (Touch.setCell (Touch.setCell (Touch.setCell (Touch.setCell (Touch.setCell (Touch.setCell (Touch.setCell (Touch.refl _ _ _) ?_ ?_ _) ?_ ?_ _) ?_ ?_ _) ?_ ?_ _) ?_ ?_ _) ?_ ?_ _) ?_ ?_ _) ?_ ?_ _ <;> (simp; try omega)
    have B6 := Lib.hid (show But w3.heap.size (w.heap.size + 1 + 1) w3 w4.drew from B4.out.trans ((But.of_below ((Below.refl w4.heap.size w4).drew)).mono B4.out.size))
    have HB6 := Lib.hid (HB.out.drew)
    have hfin := end_two (oB := oN) (nB := nN) H1.out.1 H1.out.2 HV.out H2.out H3.out.2.1 L3.out B6.out HB6.out htt
    rw [wrap_d w4]
    exact hfin
end Go.Proofs.Ytjcaiecapapceaa.Dr82
namespace Go.Proofs.Ytjcaiecapapceaa.Dr82
open Go.RowKit P1 Draw Draw2 Draw6 Copy CopyS CatD DrA DrD Mut Mut2 DrI DrJ DrS DrN Nf Dr7
theorem toIn {w : World} {n : Int} {t : ByteArray} {k : F} {a : Option Addr} {c : Nat} {fs : List Nat} (h : DocK.Doc0 w n t k a c fs) : Eqd.DocIn w t k a c fs := ⟨h.sub, h.ok, h.cap_le, by have := h.size; omega, h.fits, h.tfit⟩
end Go.Proofs.Ytjcaiecapapceaa.Dr82
namespace Go.Proofs.Ytjcaiecapapceaa.Dr82
open Go.RowKit P1 Draw Draw2 Draw6 Copy CopyS CatD DrA DrD Mut Mut2 DrI DrJ DrS DrN Nf Dr7
theorem end_fw {w w4 W W' : World} {oA nA oB nB : Int} {tA tB : ByteArray} {kA kB : F} {aA aB : Option Addr} {cA cB : Nat} {fA fB : List Nat} (he : Ext w4 W) (hA : (Bdoc (w.heap.size + 1 + 1) w4 tA kA aA cA fA ∧ validD oA nA tA kA = true) ∧ Below w.heap.size w w4) (hB : Bdoc (w.heap.size + 1 + 1) W tB kB aB cB fB) (hl : w.heap.size ≤ w4.heap.size) (ht : Touch w.heap.size (w.heap.size + 1 + 1) W W') :
  Two8 w (.returned (.tuple #[.agg #[.int .i64 oA, .int .i64 nA, .string tA, .slice aA kA.len cA], .agg #[.int .i64 oB, .int .i64 nB, .string tB, .slice aB kB.len cB]])) W' := by
 obtain ⟨⟨⟨hcA, hsA, hsubA, hfrA⟩, hv⟩, hb⟩ := hA
 obtain ⟨hcB, hsB, hsubB, hfrB⟩ := hB
 have hoA : ∀ c ∈ fA, c < w.heap.size ∨ w.heap.size + 1 + 1 ≤ c := fun c hc => by have := (hfrA.2 c hc).1; omega
 have hoB : ∀ c ∈ fB, c < w.heap.size ∨ w.heap.size + 1 + 1 ≤ c := fun c hc => by have := (hfrB.2 c hc).1; omega
 exact ⟨oA, nA, tA, kA, aA, cA, fA, oB, nB, tB, kB, aB, cB, fB, rfl, hcA, hcB, hsA, hsB, ht.sub (he.sub hsubA hfrA.lt) hoA, ht.sub hsubB hoB, (ht.fresh (he.fresh hfrA) hoA).mono (by omega), (ht.fresh hfrB hoB).mono (by omega), hv, ht.below (hb.trans (Below.mono he hl)) (Nat.le_refl _)⟩
theorem drawFirstWidth (w : World) (a : Option Addr) (len cap : Nat) (hb : Bytes w a len) (hlc : len ≤ cap) (hcm : cap ≤ maxLen) :
  Calls Try.prog 25 #[.slice a len cap] w (Two8 w) := by
 have HO := Lib.hid (fun o1 o2 => l8Two ((w.alloc o1).alloc o2) a len cap (LawC.bytes_below hb (((Below.refl _ _).alloc (Nat.le_refl _) o1).alloc (by simp) o2)) hlc hcm)
 have HOP := Lib.hid (fun (V : World) (h : Below w.heap.size w V) => l15Open V a len cap (LawC.bytes_below hb h) hlc hcm)
 clear hb hlc hcm
 go_enter Try.func25, Try.ntmps25
 go_wp2_with fail
 refine (HO.out _ _).mono ?_
 rintro e1 w4 ⟨oA, nA, tA, kA, aA, cA, fA, oB, nB, tB, kB, aB, cB, fB, rfl, hcA, hcB, hsA, hsB, hsubA, hsubB, hfrA, hfrB, hv, hb1⟩
 have hth1 := four_new' hb1
 have hth2 := eight_new hb1
 simp only [World.size_alloc] at hfrA hfrB
 have hl1 : w.heap.size + 1 + 1 ≤ w4.heap.size := by have := hb1.size; simp at this; omega
 obtain ⟨V, hV⟩ : ∃ V, (w4.alloc (.cells #[.int .i64 oA, .int .i64 nA, .string tA, .slice aA kA.len cA] 25)).alloc (.cells #[.int .i64 oB, .int .i64 nB, .string tB, .slice aB kB.len cB] 25) = V := ⟨_, rfl⟩
 obtain ⟨hX, hY, he⟩ := Eqd.two_new w4 (.int .i64 oA) (.int .i64 nA) (.string tA) (.slice aA kA.len cA) (.int .i64 oB) (.int .i64 nB) (.string tB) (.slice aB kB.len cB) 25 (Ext.refl _)
 rw [hV] at hX hY he
 have LV := Lib.hid (show w4.heap.size + 1 < V.heap.size by rw [← hV]; simp)
 have HE := Lib.hid (show Bdoc (w.heap.size + 1 + 1) w4 tB kB aB cB fB from ⟨hcB, hsB, hsubB, hfrB⟩)
 have HA := Lib.hid (show (Bdoc (w.heap.size + 1 + 1) w4 tA kA aA cA fA ∧ validD oA nA tA kA = true) ∧ Below w.heap.size w w4 from ⟨⟨⟨hcA, hsA, hsubA, hfrA⟩, hv⟩, opened2 hb1⟩)
 have T1 := Lib.hid (there_below (show w4.there w.heap.size 0 4 from hth1) (by omega) he)
 have T2 := Lib.hid (there_below (show w4.there (w.heap.size + 1) 0 4 from hth2) (by omega) he)
 have HL := Lib.hid (show w.heap.size + 1 + 1 ≤ w4.heap.size from hl1)
 have X0 := Lib.hid (show Eqd.Fr w4.heap.size (.int .i64 oA) (.int .i64 nA) (.string tA) (.slice aA kA.len cA) V from hX)
 have Y0 := Lib.hid (show Eqd.Fr (w4.heap.size + 1) (.int .i64 oB) (.int .i64 nB) (.string tB) (.slice aB kB.len cB) V from hY)
 have E0 := Lib.hid (show Ext w4 V from he)
 have HP := Lib.hid (HOP.out V ((opened2 hb1).trans (he.mono (by omega))))
 clear hcA hcB hsA hsB hsubA hsubB hfrA hfrB hb1 hth1 hth2 hX hY he hl1 hv HO HOP
 go_wp2_with fail
 try rw [hV]
 refine HP.out.mono ?_
 rintro e2 w5 ⟨rfl, hrd, hlt, hb2⟩
 have X1 := Lib.hid (Eqd.Fr.below X0.out hb2 (by have := LV.out; omega))
 have Y1 := Lib.hid (Eqd.Fr.below Y0.out hb2 LV.out)
 obtain ⟨x0, x1, x2, x3⟩ := X1.out
 obtain ⟨y0, y1, y2, y3⟩ := Y1.out
 go_wp2_with fail
 have D5 := Lib.hid ((DocK.Doc0.mk HE.out.2.2.1 (fun c hc => (HE.out.2.2.2.2 c hc).2) HE.out.1 (by have := HE.out.2.1; omega) : DocK.Doc0 w4 nB tB kB aB cB fB).ext (Ext.trans E0.out (show Ext V w5 from hb2)))
 obtain ⟨Q, hQ⟩ : ∃ Q, validD oB nB tB kB = Q := ⟨_, rfl⟩
 have HDV := D5.out.specDocValid oB
 rw [hQ] at HDV
 have HDW := Lib.hid HDV
 have HQ := Lib.hid hQ
 have S5 := Lib.hid (show Ext V w5 from hb2)
 have R5 := Lib.hid hrd
 have RL := Lib.hid hlt
 clear HDV hQ hb2 hrd hlt x0 x1 x2 x3 y0 y1 y2 y3 X1 Y1 hV HP
 refine HDW.out.mono ?_
 rintro e3 w6 ⟨rfl, hb3⟩
 have Sw6 := Lib.hid (Ext.trans S5.out (show Ext w5 w6 from hb3))
 have R6 := Lib.hid (rdBelow R5.out RL.out (show Below w5.heap.size w5 w6 from hb3))
 have L6 := Lib.hid (show w5.heap.size ≤ w6.heap.size from (show Ext w5 w6 from hb3).size)
 clear hb3
 cases Q with
 | false =>
   have Xw6 := Lib.hid (show w6.cell? ⟨w4.heap.size, 0, none⟩ = some (.int .i64 oA) ∧ w6.cell? ⟨w4.heap.size, 1, none⟩ = some (.int .i64 nA) ∧ w6.cell? ⟨w4.heap.size, 2, none⟩ = some (.string tA) ∧ w6.cell? ⟨w4.heap.size, 3, none⟩ = some (.slice aA kA.len cA) from Eqd.Fr.below X0.out Sw6.out (by have := LV.out; omega))
   have Yw6 := Lib.hid (show w6.cell? ⟨w4.heap.size + 1, 0, none⟩ = some (.int .i64 oB) ∧ w6.cell? ⟨w4.heap.size + 1, 1, none⟩ = some (.int .i64 nB) ∧ w6.cell? ⟨w4.heap.size + 1, 2, none⟩ = some (.string tB) ∧ w6.cell? ⟨w4.heap.size + 1, 3, none⟩ = some (.slice aB kB.len cB) from Eqd.Fr.below Y0.out Sw6.out LV.out)
   have Lw6 := Lib.hid (show w4.heap.size + 1 < w6.heap.size from Nat.lt_of_lt_of_le LV.out Sw6.out.size)
   have hl5 : w.heap.size < w6.heap.size := by have := Lw6.out; have := HL.out; omega
   have hl6 : w.heap.size + 1 < w6.heap.size := by have := Lw6.out; have := HL.out; omega
   obtain ⟨⟨u0, u1, u2, u3, y0, y1, y2, y3⟩, z0, z1, z2, z3⟩ := there_at (there_below T1.out (by have := LV.out; have := HL.out; omega) Sw6.out)
   obtain ⟨⟨u4, u5, u6, u7, y4, y5, y6, y7⟩, z4, z5, z6, z7⟩ := there_at (there_below T2.out (by have := LV.out; have := HL.out; omega) Sw6.out)
   obtain ⟨p0, p1, p2, p3⟩ := Xw6.out
   obtain ⟨q0, q1, q2, q3⟩ := Yw6.out
   go_wp2_with fail
   refine wp_region_held_drew (S := (fun w' => (w'.cell? ⟨w4.heap.size, 0, none⟩ = some (.int .i64 oA) ∧ w'.cell? ⟨w4.heap.size, 1, none⟩ = some (.int .i64 nA) ∧ w'.cell? ⟨w4.heap.size, 2, none⟩ = some (.string tA) ∧ w'.cell? ⟨w4.heap.size, 3, none⟩ = some (.slice aA kA.len cA)) ∧ w'.cell? ⟨w4.heap.size + 1, 0, none⟩ = some (.int .i64 oB) ∧ w'.cell? ⟨w4.heap.size + 1, 1, none⟩ = some (.int .i64 nB) ∧ w'.cell? ⟨w4.heap.size + 1, 2, none⟩ = some (.string tB) ∧ w'.cell? ⟨w4.heap.size + 1, 3, none⟩ = some (.slice aB kB.len cB))) (by kernel_rfl) ?_ (fun hHeld => ?_)
   ·exact ⟨box4n Xw6.out (by have := Lw6.out; simp; omega) ((Ext.refl _).drew), box4n Yw6.out (by have := Lw6.out; simp; omega) ((Ext.refl _).drew)⟩
   refine wpAnyH_take (i := 0) (v := ?_) rfl (by kernel_rfl) (by kernel_rfl) (by kernel_rfl) (fun _ _ _ h => h) (Or.inl ⟨by rfl, ?_⟩) (by assumption) ?_
   rotate_left
   ·(intro w hSw; (try dsimp only at hSw); obtain ⟨⟨h0, h1, h2, h3⟩, h4, h5, h6, h7⟩ := hSw; (go_simp <;> with_reducible rfl))
   try simp only [Act.put, zpu]
   refine wpAnyH_take (i := 1) (v := ?_) rfl (by kernel_rfl) (by kernel_rfl) (by kernel_rfl) (fun _ _ _ h => h) (Or.inl ⟨by rfl, ?_⟩) (by assumption) ?_
   rotate_left
   ·(intro w hSw; (try dsimp only at hSw); obtain ⟨⟨h0, h1, h2, h3⟩, h4, h5, h6, h7⟩ := hSw; (go_simp <;> with_reducible rfl))
   try simp only [Act.put, zpu]
   refine wpAnyH_ready (rs := [2]) (by kernel_rfl) (by simp) ?_
   refine AllReadyH.cons rfl (fun K hK => ?_) AllReadyH.nil
   go_simp
   refine hK.out _ _ ?_ (fun hHeld2 => ?_)
   ·exact ⟨box4n (keepSet (c := w.heap.size) (by have := HL.out; omega) Xw6.out) (by have := Lw6.out; simp; omega) ((Ext.refl _).drew), box4n (keepSet (c := w.heap.size) (by have := HL.out; omega) Yw6.out) (by have := Lw6.out; simp; omega) ((Ext.refl _).drew)⟩
   clear hK K hHeld
   try simp only [Act.put, zpu]
   refine wpAnyH_ready (rs := [3]) (by kernel_rfl) (by simp) ?_
   refine AllReadyH.cons rfl (fun K hK => ?_) AllReadyH.nil
   go_simp
   refine hK.out _ _ ?_ (fun hHeld3 => ?_)
   ·exact ⟨box4n (keepSet (c := w.heap.size + 1) (by have := HL.out; omega) (keepSet (c := w.heap.size) (by have := HL.out; omega) Xw6.out)) (by have := Lw6.out; simp; omega) ((Ext.refl _).drew), box4n (keepSet (c := w.heap.size + 1) (by have := HL.out; omega) (keepSet (c := w.heap.size) (by have := HL.out; omega) Yw6.out)) (by have := Lw6.out; simp; omega) ((Ext.refl _).drew)⟩
   clear hK K hHeld2
   try simp only [Act.put, zpu]
   refine wpAnyH_done (by kernel_rfl) ?_ _
   go_wp2_with fail
   refine bodyPost_ret (v := .tuple #[.agg #[.int .i64 oA, .int .i64 nA, .string tA, .slice aA kA.len cA], .agg #[.int .i64 oB, .int .i64 nB, .string tB, .slice aB kB.len cB]]) (by simp [results, Try.results25, go_sem, y0, y1, y2, y3, y4, y5, y6, y7, hl5, hl6]) rfl ?_
   have htt : Touch w.heap.size (w.heap.size + 1 + 1) (w6.drew) (((((((((w6.drew).setCell ⟨w.heap.size, 0, none⟩ (.int .i64 oA)).setCell ⟨w.heap.size, 1, none⟩ (.int .i64 nA)).setCell ⟨w.heap.size, 2, none⟩ (.string tA)).setCell ⟨w.heap.size, 3, none⟩ (.slice aA kA.len cA)).setCell ⟨w.heap.size + 1, 0, none⟩ (.int .i64 oB)).setCell ⟨w.heap.size + 1, 1, none⟩ (.int .i64 nB)).setCell ⟨w.heap.size + 1, 2, none⟩ (.string tB)).setCell ⟨w.heap.size + 1, 3, none⟩ (.slice aB kB.len cB)) := by
    refine Touch.setCell (Touch.setCell (Touch.setCell (Touch.setCell (Touch.setCell (Touch.setCell (Touch.setCell (Touch.setCell (Touch.refl _ _ _) ?_ ?_ _) ?_ ?_ _) ?_ ?_ _) ?_ ?_ _) ?_ ?_ _) ?_ ?_ _) ?_ ?_ _) ?_ ?_ _ <;> (simp; try omega)
   have HB6 := Lib.hid (show Bdoc (w.heap.size + 1 + 1) w6 tB kB aB cB fB from ⟨HE.out.1, HE.out.2.1, (Ext.trans E0.out Sw6.out).sub HE.out.2.2.1 HE.out.2.2.2.lt, (Ext.trans E0.out Sw6.out).fresh HE.out.2.2.2⟩)
   have hfin := end_fw (oA := oA) (nA := nA) (oB := oB) (nB := nB) ((Ext.trans E0.out Sw6.out).drew) HA.out HB6.out.drew (by have := HL.out; omega) htt
   rw [wrap_d w6]
   exact hfin
 | true =>
   have HK := Lib.hid (pick w6 V.heap.size V.heap.size 0 2 R6.out (by omega))
   go_wp2_with fail
   refine HK.out.mono ?_
   rintro e4 w7 ⟨r, rfl, hr0, hr1, hrd7, hbut⟩
   have Sw7 := Lib.hid (show Ext V w7 from Below.trans (show Below V.heap.size V w6 from Sw6.out) (show Below V.heap.size w6 w7 from hbut.below (Nat.le_of_lt (Nat.lt_of_lt_of_le RL.out L6.out)) (Nat.le_refl _)))
   clear hrd7 hbut
   by_cases hrz : r = 0
   ·subst hrz
    clear hr0 hr1
    have Xw7 := Lib.hid (show w7.cell? ⟨w4.heap.size, 0, none⟩ = some (.int .i64 oA) ∧ w7.cell? ⟨w4.heap.size, 1, none⟩ = some (.int .i64 nA) ∧ w7.cell? ⟨w4.heap.size, 2, none⟩ = some (.string tA) ∧ w7.cell? ⟨w4.heap.size, 3, none⟩ = some (.slice aA kA.len cA) from Eqd.Fr.below X0.out Sw7.out (by have := LV.out; omega))
    have Yw7 := Lib.hid (show w7.cell? ⟨w4.heap.size + 1, 0, none⟩ = some (.int .i64 oB) ∧ w7.cell? ⟨w4.heap.size + 1, 1, none⟩ = some (.int .i64 nB) ∧ w7.cell? ⟨w4.heap.size + 1, 2, none⟩ = some (.string tB) ∧ w7.cell? ⟨w4.heap.size + 1, 3, none⟩ = some (.slice aB kB.len cB) from Eqd.Fr.below Y0.out Sw7.out LV.out)
    have Lw7 := Lib.hid (show w4.heap.size + 1 < w7.heap.size from Nat.lt_of_lt_of_le LV.out Sw7.out.size)
    have HV := HQ.out
    have hva := valid_nice HV
    have hsb : SubAt w7.drew aB kB fB := ((Ext.trans E0.out Sw7.out).drew).sub HE.out.2.2.1 HE.out.2.2.2.lt
    have hlb : ∀ c ∈ fB, c < w7.drew.heap.size := fun c hc => Nat.lt_of_lt_of_le (HE.out.2.2.2.lt c hc) ((Ext.trans E0.out Sw7.out).drew).size
    have hsz8 := wo_small (oB, nB, tB, kB) HV
    obtain ⟨⟨oC, nC, tC, kC⟩, hB8⟩ : ∃ d : D, chD woR oB nB tB kB = d := ⟨_, rfl⟩
    have HW := l8Without w7.drew oB nB tB kB hva.1 (by omega) aB cB fB hsb hlb HE.out.1
    rw [hB8] at HW
    have hsz9 : tC.size + kC.size ≤ 1100 := by have := hsz8; unfold woD at this; simp only at this; rw [hB8] at this; exact this
    have HW2 := Lib.hid HW
    have HZ := Lib.hid hsz9
    clear HW hva hsb hlb hsz8 hB8 hsz9 HV
    obtain ⟨p0, p1, p2, p3⟩ := Xw7.out
    obtain ⟨q0, q1, q2, q3⟩ := Yw7.out
    go_wp2_with fail
    refine wp_region_held_drew (S := (fun w' => (w'.cell? ⟨w4.heap.size, 0, none⟩ = some (.int .i64 oA) ∧ w'.cell? ⟨w4.heap.size, 1, none⟩ = some (.int .i64 nA) ∧ w'.cell? ⟨w4.heap.size, 2, none⟩ = some (.string tA) ∧ w'.cell? ⟨w4.heap.size, 3, none⟩ = some (.slice aA kA.len cA)) ∧ w'.cell? ⟨w4.heap.size + 1, 0, none⟩ = some (.int .i64 oB) ∧ w'.cell? ⟨w4.heap.size + 1, 1, none⟩ = some (.int .i64 nB) ∧ w'.cell? ⟨w4.heap.size + 1, 2, none⟩ = some (.string tB) ∧ w'.cell? ⟨w4.heap.size + 1, 3, none⟩ = some (.slice aB kB.len cB))) (by kernel_rfl) ?_ (fun hHeld => ?_)
    ·exact ⟨box4n Xw7.out (by have := Lw7.out; omega) ((Ext.refl _).drew), box4n Yw7.out (by have := Lw7.out; omega) ((Ext.refl _).drew)⟩
    refine wpAnyH_take (i := 0) (v := ?_) rfl (by kernel_rfl) (by kernel_rfl) (by kernel_rfl) (fun _ _ _ h => h) (Or.inl ⟨by rfl, ?_⟩) (by assumption) ?_
    rotate_left
    ·(intro w hSw; (try dsimp only at hSw); obtain ⟨⟨h0, h1, h2, h3⟩, h4, h5, h6, h7⟩ := hSw; (go_simp <;> with_reducible rfl))
    try simp only [Act.put, zpu]
    refine wpAnyH_take (i := 1) (v := ?_) rfl (by kernel_rfl) (by kernel_rfl) (by kernel_rfl) (fun _ _ _ h => h) (Or.inl ⟨by rfl, ?_⟩) (by assumption) ?_
    rotate_left
    ·(intro w hSw; (try dsimp only at hSw); obtain ⟨⟨h0, h1, h2, h3⟩, h4, h5, h6, h7⟩ := hSw; (go_simp <;> with_reducible rfl))
    try simp only [Act.put, zpu]
    refine wpAnyH_ready (rs := [2]) (by kernel_rfl) (by simp) ?_
    refine AllReadyH.cons rfl (fun K hK => ?_) AllReadyH.nil
    go_simp
    go_at_call 58
    refine HW2.out.mono ?_
    rintro e8 w8 ⟨aC, cC, fC, rfl, hcC, hsubC, hfrC, hbC⟩
    have Sw8 := Lib.hid (show Ext V w8 from Ext.trans (Sw7.out.drew) (show Ext w7.drew w8 from hbC))
    have HB := Lib.hid (show Bdoc (w.heap.size + 1 + 1) w8 tC kC aC cC fC from ⟨hcC, HZ.out, hsubC, hfrC.mono (by have := Lw7.out; have := HL.out; simp; omega)⟩)
    clear hcC hsubC hfrC hbC p0 p1 p2 p3 q0 q1 q2 q3
    have Xw8 := Lib.hid (show w8.cell? ⟨w4.heap.size, 0, none⟩ = some (.int .i64 oA) ∧ w8.cell? ⟨w4.heap.size, 1, none⟩ = some (.int .i64 nA) ∧ w8.cell? ⟨w4.heap.size, 2, none⟩ = some (.string tA) ∧ w8.cell? ⟨w4.heap.size, 3, none⟩ = some (.slice aA kA.len cA) from Eqd.Fr.below X0.out Sw8.out (by have := LV.out; omega))
    have Yw8 := Lib.hid (show w8.cell? ⟨w4.heap.size + 1, 0, none⟩ = some (.int .i64 oB) ∧ w8.cell? ⟨w4.heap.size + 1, 1, none⟩ = some (.int .i64 nB) ∧ w8.cell? ⟨w4.heap.size + 1, 2, none⟩ = some (.string tB) ∧ w8.cell? ⟨w4.heap.size + 1, 3, none⟩ = some (.slice aB kB.len cB) from Eqd.Fr.below Y0.out Sw8.out LV.out)
    have Lw8 := Lib.hid (show w4.heap.size + 1 < w8.heap.size from Nat.lt_of_lt_of_le LV.out Sw8.out.size)
    have hl5 : w.heap.size < w8.heap.size := by have := Lw8.out; have := HL.out; omega
    have hl6 : w.heap.size + 1 < w8.heap.size := by have := Lw8.out; have := HL.out; omega
    obtain ⟨⟨u0, u1, u2, u3, y0, y1, y2, y3⟩, z0, z1, z2, z3⟩ := there_at (there_below T1.out (by have := LV.out; have := HL.out; omega) Sw8.out)
    obtain ⟨⟨u4, u5, u6, u7, y4, y5, y6, y7⟩, z4, z5, z6, z7⟩ := there_at (there_below T2.out (by have := LV.out; have := HL.out; omega) Sw8.out)
    try go_wp2_with fail
    refine hK.out _ _ ?_ (fun hHeld2 => ?_)
    ·exact ⟨Xw8.out, Yw8.out⟩
    clear hK K hHeld
    try simp only [Act.put, zpu]
    refine wpAnyH_ready (rs := [3]) (by kernel_rfl) (by simp) ?_
    refine AllReadyH.cons rfl (fun K hK => ?_) AllReadyH.nil
    go_simp
    refine hK.out _ _ ?_ (fun hHeld3 => ?_)
    ·exact ⟨keepSet (c := w.heap.size) (by have := HL.out; omega) hHeld2.1, keepSet (c := w.heap.size) (by have := HL.out; omega) hHeld2.2⟩
    clear hK K hHeld2
    try simp only [Act.put, zpu]
    refine wpAnyH_ready (rs := [4]) (by kernel_rfl) (by simp) ?_
    refine AllReadyH.cons rfl (fun K hK => ?_) AllReadyH.nil
    go_simp
    refine hK.out _ _ ?_ (fun hHeld4 => ?_)
    ·exact ⟨keepSet (c := w.heap.size + 1) (by have := HL.out; omega) hHeld3.1, keepSet (c := w.heap.size + 1) (by have := HL.out; omega) hHeld3.2⟩
    clear hK K hHeld3
    try simp only [Act.put, zpu]
    refine wpAnyH_done (by kernel_rfl) ?_ _
    go_wp2_with fail
    refine bodyPost_ret (v := .tuple #[.agg #[.int .i64 oA, .int .i64 nA, .string tA, .slice aA kA.len cA], .agg #[.int .i64 oC, .int .i64 nC, .string tC, .slice aC kC.len cC]]) (by simp [results, Try.results25, go_sem, y0, y1, y2, y3, y4, y5, y6, y7, hl5, hl6]) rfl ?_
    have htt : Touch w.heap.size (w.heap.size + 1 + 1) (w8) (((((((((w8).setCell ⟨w.heap.size, 0, none⟩ (.int .i64 oA)).setCell ⟨w.heap.size, 1, none⟩ (.int .i64 nA)).setCell ⟨w.heap.size, 2, none⟩ (.string tA)).setCell ⟨w.heap.size, 3, none⟩ (.slice aA kA.len cA)).setCell ⟨w.heap.size + 1, 0, none⟩ (.int .i64 oC)).setCell ⟨w.heap.size + 1, 1, none⟩ (.int .i64 nC)).setCell ⟨w.heap.size + 1, 2, none⟩ (.string tC)).setCell ⟨w.heap.size + 1, 3, none⟩ (.slice aC kC.len cC)) := by
     refine Touch.setCell (Touch.setCell (Touch.setCell (Touch.setCell (Touch.setCell (Touch.setCell (Touch.setCell (Touch.setCell (Touch.refl _ _ _) ?_ ?_ _) ?_ ?_ _) ?_ ?_ _) ?_ ?_ _) ?_ ?_ _) ?_ ?_ _) ?_ ?_ _) ?_ ?_ _ <;> (simp; try omega)
    exact end_fw (Ext.trans E0.out Sw8.out) HA.out HB.out (by have := HL.out; omega) htt
   ·have hrb : (r == 0) = false := by simp [hrz]
    have Xw7 := Lib.hid (show w7.cell? ⟨w4.heap.size, 0, none⟩ = some (.int .i64 oA) ∧ w7.cell? ⟨w4.heap.size, 1, none⟩ = some (.int .i64 nA) ∧ w7.cell? ⟨w4.heap.size, 2, none⟩ = some (.string tA) ∧ w7.cell? ⟨w4.heap.size, 3, none⟩ = some (.slice aA kA.len cA) from Eqd.Fr.below X0.out Sw7.out (by have := LV.out; omega))
    have Yw7 := Lib.hid (show w7.cell? ⟨w4.heap.size + 1, 0, none⟩ = some (.int .i64 oB) ∧ w7.cell? ⟨w4.heap.size + 1, 1, none⟩ = some (.int .i64 nB) ∧ w7.cell? ⟨w4.heap.size + 1, 2, none⟩ = some (.string tB) ∧ w7.cell? ⟨w4.heap.size + 1, 3, none⟩ = some (.slice aB kB.len cB) from Eqd.Fr.below Y0.out Sw7.out LV.out)
    have Lw7 := Lib.hid (show w4.heap.size + 1 < w7.heap.size from Nat.lt_of_lt_of_le LV.out Sw7.out.size)
    have hl5 : w.heap.size < w7.heap.size := by have := Lw7.out; have := HL.out; omega
    have hl6 : w.heap.size + 1 < w7.heap.size := by have := Lw7.out; have := HL.out; omega
    obtain ⟨⟨u0, u1, u2, u3, y0, y1, y2, y3⟩, z0, z1, z2, z3⟩ := there_at (there_below T1.out (by have := LV.out; have := HL.out; omega) Sw7.out)
    obtain ⟨⟨u4, u5, u6, u7, y4, y5, y6, y7⟩, z4, z5, z6, z7⟩ := there_at (there_below T2.out (by have := LV.out; have := HL.out; omega) Sw7.out)
    obtain ⟨p0, p1, p2, p3⟩ := Xw7.out
    obtain ⟨q0, q1, q2, q3⟩ := Yw7.out
    go_wp2_with fail
    refine wp_region_held_drew (S := (fun w' => (w'.cell? ⟨w4.heap.size, 0, none⟩ = some (.int .i64 oA) ∧ w'.cell? ⟨w4.heap.size, 1, none⟩ = some (.int .i64 nA) ∧ w'.cell? ⟨w4.heap.size, 2, none⟩ = some (.string tA) ∧ w'.cell? ⟨w4.heap.size, 3, none⟩ = some (.slice aA kA.len cA)) ∧ w'.cell? ⟨w4.heap.size + 1, 0, none⟩ = some (.int .i64 oB) ∧ w'.cell? ⟨w4.heap.size + 1, 1, none⟩ = some (.int .i64 nB) ∧ w'.cell? ⟨w4.heap.size + 1, 2, none⟩ = some (.string tB) ∧ w'.cell? ⟨w4.heap.size + 1, 3, none⟩ = some (.slice aB kB.len cB))) (by kernel_rfl) ?_ (fun hHeld => ?_)
    ·exact ⟨box4n Xw7.out (by have := Lw7.out; simp; omega) ((Ext.refl _).drew), box4n Yw7.out (by have := Lw7.out; simp; omega) ((Ext.refl _).drew)⟩
    refine wpAnyH_take (i := 0) (v := ?_) rfl (by kernel_rfl) (by kernel_rfl) (by kernel_rfl) (fun _ _ _ h => h) (Or.inl ⟨by rfl, ?_⟩) (by assumption) ?_
    rotate_left
    ·(intro w hSw; (try dsimp only at hSw); obtain ⟨⟨h0, h1, h2, h3⟩, h4, h5, h6, h7⟩ := hSw; (go_simp <;> with_reducible rfl))
    try simp only [Act.put, zpu]
    refine wpAnyH_take (i := 1) (v := ?_) rfl (by kernel_rfl) (by kernel_rfl) (by kernel_rfl) (fun _ _ _ h => h) (Or.inl ⟨by rfl, ?_⟩) (by assumption) ?_
    rotate_left
    ·(intro w hSw; (try dsimp only at hSw); obtain ⟨⟨h0, h1, h2, h3⟩, h4, h5, h6, h7⟩ := hSw; (go_simp <;> with_reducible rfl))
    try simp only [Act.put, zpu]
    refine wpAnyH_ready (rs := [2]) (by kernel_rfl) (by simp) ?_
    refine AllReadyH.cons rfl (fun K hK => ?_) AllReadyH.nil
    go_simp
    refine hK.out _ _ ?_ (fun hHeld2 => ?_)
    ·exact ⟨box4n (keepSet (c := w.heap.size) (by have := HL.out; omega) Xw7.out) (by have := Lw7.out; simp; omega) ((Ext.refl _).drew), box4n (keepSet (c := w.heap.size) (by have := HL.out; omega) Yw7.out) (by have := Lw7.out; simp; omega) ((Ext.refl _).drew)⟩
    clear hK K hHeld
    try simp only [Act.put, zpu]
    refine wpAnyH_ready (rs := [3]) (by kernel_rfl) (by simp) ?_
    refine AllReadyH.cons rfl (fun K hK => ?_) AllReadyH.nil
    go_simp
    refine hK.out _ _ ?_ (fun hHeld3 => ?_)
    ·exact ⟨box4n (keepSet (c := w.heap.size + 1) (by have := HL.out; omega) (keepSet (c := w.heap.size) (by have := HL.out; omega) Xw7.out)) (by have := Lw7.out; simp; omega) ((Ext.refl _).drew), box4n (keepSet (c := w.heap.size + 1) (by have := HL.out; omega) (keepSet (c := w.heap.size) (by have := HL.out; omega) Yw7.out)) (by have := Lw7.out; simp; omega) ((Ext.refl _).drew)⟩
    clear hK K hHeld2
    try simp only [Act.put, zpu]
    refine wpAnyH_done (by kernel_rfl) ?_ _
    go_wp2_with fail
    refine bodyPost_ret (v := .tuple #[.agg #[.int .i64 oA, .int .i64 nA, .string tA, .slice aA kA.len cA], .agg #[.int .i64 oB, .int .i64 nB, .string tB, .slice aB kB.len cB]]) (by simp [results, Try.results25, go_sem, y0, y1, y2, y3, y4, y5, y6, y7, hl5, hl6]) rfl ?_
    have htt : Touch w.heap.size (w.heap.size + 1 + 1) (w7.drew) (((((((((w7.drew).setCell ⟨w.heap.size, 0, none⟩ (.int .i64 oA)).setCell ⟨w.heap.size, 1, none⟩ (.int .i64 nA)).setCell ⟨w.heap.size, 2, none⟩ (.string tA)).setCell ⟨w.heap.size, 3, none⟩ (.slice aA kA.len cA)).setCell ⟨w.heap.size + 1, 0, none⟩ (.int .i64 oB)).setCell ⟨w.heap.size + 1, 1, none⟩ (.int .i64 nB)).setCell ⟨w.heap.size + 1, 2, none⟩ (.string tB)).setCell ⟨w.heap.size + 1, 3, none⟩ (.slice aB kB.len cB)) := by
     refine Touch.setCell (Touch.setCell (Touch.setCell (Touch.setCell (Touch.setCell (Touch.setCell (Touch.setCell (Touch.setCell (Touch.refl _ _ _) ?_ ?_ _) ?_ ?_ _) ?_ ?_ _) ?_ ?_ _) ?_ ?_ _) ?_ ?_ _) ?_ ?_ _) ?_ ?_ _ <;> (simp; try omega)
    have HB6 := Lib.hid (show Bdoc (w.heap.size + 1 + 1) w7 tB kB aB cB fB from ⟨HE.out.1, HE.out.2.1, (Ext.trans E0.out Sw7.out).sub HE.out.2.2.1 HE.out.2.2.2.lt, (Ext.trans E0.out Sw7.out).fresh HE.out.2.2.2⟩)
    have hfin := end_fw (oA := oA) (nA := nA) (oB := oB) (nB := nB) ((Ext.trans E0.out Sw7.out).drew) HA.out HB6.out.drew (by have := HL.out; omega) htt
    rw [wrap_d w7]
    exact hfin
end Go.Proofs.Ytjcaiecapapceaa.Dr82

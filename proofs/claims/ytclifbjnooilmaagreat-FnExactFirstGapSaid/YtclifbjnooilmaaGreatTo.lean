import Derived.Test.YtclifbjnooilmaaGreatPl
import Derived.Test.YtclifbjnooilmaaGreatChecked
import Derived.Outline
/-
 What the law's own helper that copies an argument into the program's type comes to.
-/
set_option linter.unusedVariables false
set_option linter.unusedSimpArgs false
set_option maxRecDepth 100000
set_option maxHeartbeats 800000
namespace Go.Proofs.YtclifbjnooilmaaGreat.To
open Go.RowKit
def zeros (n : Nat) : Array Value := madeCells #[.int .i64 0, .int .i64 0, .string ⟨#[]⟩, .slice none 0 0] n
theorem size_zeros (n : Nat) : (zeros n).size = n := size_madeCells _ _
theorem info : (Tryz.prog.info? 25).map (fun i => (i.zero, i.size, i.bytes)) = some (some (.agg #[.int .i64 0, .int .i64 0, .string ⟨#[]⟩, .slice none 0 0]), 4, 56) := by kernel_rfl
theorem run_mk (L : Nat) (hL : L ≤ 1048576) (w : World) : (Instr.makeSlice 23 (.int .i64 (L : Int)) (.int .i64 (L : Int))).run Tryz.prog w = .ok (.slice (some ⟨w.heap.size, 0, none⟩) L L) (w.alloc (.cells (zeros (L * 4)) 25)) := by
 obtain ⟨i0, hi, hz0, hz1, hz2⟩ := info_parts info
 have := run_make (P := Tryz.prog) w 23 25 i0 _ Tryz.underlying23 hi hz0 .i64 .i64 (L : Int) (L : Int) (by omega) (by omega) (by rw [hz2]; omega) (by omega)
 rw [hz1] at this
 simpa [zeros, Value.cells] using this
theorem bcell {W w1 : World} (hb : Below W.heap.size W w1) : (∀ b o, b < W.heap.size → w1.cell? ⟨b, o, none⟩ = W.cell? ⟨b, o, none⟩) ∧ (∀ b o, b < W.heap.size → w1.frozen? ⟨b, o, none⟩ = W.frozen? ⟨b, o, none⟩) :=
 ⟨fun b o h => hb.cell (p := ⟨b, o, none⟩) h, fun b o h => hb.frozen (p := ⟨b, o, none⟩) h⟩
def DocOut (w : World) (o n : Int) (t : ByteArray) (k : F) (e : Ending) (w' : World) : Prop := ∃ (a : Option Addr) (fs : List Nat), e = .returned (.agg #[.int .i64 o, .int .i64 n, .string t, .slice a k.len k.len]) ∧ SubAt w' a k fs ∧ Fresh w.heap.size w' fs ∧ Below w.heap.size w w'
def RowOut (w : World) (f : F) (e : Ending) (w' : World) : Prop := ∃ (a : Option Addr) (fs : List Nat), e = .returned (.slice a f.len f.len) ∧ SubAt w' a f fs ∧ Fresh w.heap.size w' fs ∧ Below w.heap.size w w'
def ToS (f : F) : Prop := ∀ (w : World) (a : Option Addr) (cap : Nat) (fs : List Nat), SubAt w a f fs → (∀ c ∈ fs, c < w.heap.size) → f.len ≤ cap → f.size ≤ 1048576 →
 Calls Tryz.prog 70 #[.slice a f.len cap] w (RowOut w f)
theorem toDoc {ks : F} (hk : ToS ks) (op n : Int) (tx : ByteArray) (w : World) (a : Option Addr) (cap : Nat) (fs : List Nat) (hs : SubAt w a ks fs) (hfs : ∀ c ∈ fs, c < w.heap.size) (hc : ks.len ≤ cap) (hl : ks.size ≤ 1048576) :
  Calls Tryz.prog 35 #[.agg #[.int .i64 op, .int .i64 n, .string tx, .slice a ks.len cap]] w (DocOut w op n tx ks) := by
 go_enter Tryz.func35, Tryz.ntmps35
 go_wp2_with fail
 refine (hk _ _ _ fs (hs.below hfs ((((Below.refl _ _).alloc (Nat.le_refl _) _).alloc (by simp) _).alloc (by simp; omega) _)) (fun c hc => by have := hfs c hc; simp; omega) hc hl).mono ?_
 rintro e w1 ⟨a', fs', rfl, hsub, hfr, hb⟩
 have HB := Lib.hid hb
 have HS := Lib.hid (And.intro hsub hfr)
 obtain ⟨hcell, hfz⟩ := bcell hb
 have hz : w.heap.size + 3 ≤ w1.heap.size := by have := hb.size; simp at this; omega
 clear hb hsub hfr hs hfs hk
 go_wp2
 refine bodyPost_ret (v := .agg #[.int .i64 op, .int .i64 n, .string tx, .slice a' ks.len ks.len]) (by simp [results, Tryz.results35, go_sem, hcell, hz]) rfl ?_
 clear hcell hfz
 obtain ⟨hsub, hfr⟩ := HS.out
 have hb := HB.out
 have hlo : ∀ c ∈ fs', w.heap.size + 3 ≤ c := fun c hc => by have := (hfr.2 c hc).1; simp at this; omega
 have T : ∀ w2, Touch (w.heap.size + 1) (w.heap.size + 3) w1 w2 → DocOut w op n tx ks (.returned (.agg #[.int .i64 op, .int .i64 n, .string tx, .slice a' ks.len ks.len])) w2 := fun w2 ht =>
  ⟨a', fs', rfl, ht.sub hsub (fun c hc => Or.inr (hlo c hc)), ht.fresh (hfr.mono (by simp; omega)) (fun c hc => Or.inr (hlo c hc)),
   ht.below (((((Below.refl _ _).alloc (Nat.le_refl _) _).alloc (by simp) _).alloc (by simp; omega) _).trans (hb.mono (by simp; omega))) (by omega)⟩
 refine T _ ?_
 repeat (first | exact Touch.refl _ _ _ | refine Touch.setCell ?_ (by simp) (by simp) _)
set_option maxHeartbeats 400000 in
theorem toS_nil (w : World) (a : Option Addr) (cap : Nat) : Calls Tryz.prog 70 #[.slice a 0 cap] w (RowOut w .nil) := by
 have hmk := run_mk 0 (by omega)
 simp only [Int.natCast_zero] at hmk
 go_enter Tryz.func70, Tryz.ntmps70
 go_wp2
 go_loop [4] (fun i => i = .int .i64 0) (fun _ => 0)
 case atStart => rfl
 case round =>
  obtain rfl := hrel
  go_wp2
  go_ret
  exact ⟨_, [], rfl, .inl ⟨rfl, rfl⟩, Fresh.nil _ _, (Below.refl _ _).alloc (Nat.le_refl _) _⟩
theorem size_le_app {p : F} {o n : Int} {t : ByteArray} {k r : F} : k.size ≤ (p.app (.cons o n t k r)).size := by
 rw [F.size_app]; simp only [F.size]; omega
theorem size4 : (Tryz.prog.info? 25).map (·.size) = some 4 := by kernel_rfl
theorem doc_one (o n : Int) (t : ByteArray) (a : Option Addr) (l c : Nat) : (#[Value.int .i64 o, .int .i64 n, .string t, .slice a l c]).all (·.oneCell') = true := by simp [Value.oneCell']
theorem store_doc {ops : Array Oper} {rest : List Oper} {op : Oper} {a : Act} {w : World} {Q : Exit → Act → World → Prop} (hgd : op.guard = none) (x y : Operand) (ho : op.op = .store 25 x y)
  (b of : Nat) (o n : Int) (t : ByteArray) (ad : Option Addr) (l c : Nat) (hx : a.eval x = .pointer (some ⟨b, of, none⟩)) (hy : a.eval y = .agg #[.int .i64 o, .int .i64 n, .string t, .slice ad l c]) (ht : w.there b of 4)
  (h : wpList Tryz.prog ops Q rest (a.put op.dst undef) (w.setCells b of [.int .i64 o, .int .i64 n, .string t, .slice ad l c])) : wpList Tryz.prog ops Q (op :: rest) a w :=
 wpList_store_mid hgd 25 x y ho b of #[.int .i64 o, .int .i64 n, .string t, .slice ad l c] hx hy ht size4 (doc_one _ _ _ _ _ _) h
def Mid (w : World) (f : F) (L : Nat) (k : Nat) (wr : World) : Prop := ∃ (p g : F) (fs : List Nat), f = p.app g ∧ p.len = k ∧ RowAt wr p w.heap.size 0 fs ∧ Fresh (w.heap.size + 1) wr fs ∧ wr.there w.heap.size 0 (L * 4) ∧ (w.heap.size < wr.heap.size ∧ ∀ o, wr.frozen? ⟨w.heap.size, o, none⟩ = false) ∧ Below w.heap.size w wr
theorem toS_row (f : F) (ih : ∀ o n t k r p, f = F.app p (.cons o n t k r) → ToS k) (w : World) (b off cap : Nat) (fs : List Nat) (hrow : RowAt w f b off fs) (hb : b < w.heap.size) (hfs : ∀ c ∈ fs, c < w.heap.size) (hcap : f.len ≤ cap) (hsz : f.size ≤ 1048576) (hne : f ≠ .nil) :
  Calls Tryz.prog 70 #[.slice (some ⟨b, off, none⟩) f.len cap] w (RowOut w f) := by
 have hl : f.len ≤ 1048576 := Nat.le_trans (F.len_le_size f) hsz
 obtain ⟨L, hL⟩ : ∃ L, f.len = L := ⟨_, rfl⟩
 rw [hL] at hcap hl ⊢
 have HL := Lib.hid hL
 clear hL
 have hmk := run_mk L hl
 go_enter Tryz.func70, Tryz.ntmps70
 go_wp2
 clear hmk
 go_loopw [4] (fun i wr => ∃ k : Nat, k ≤ L ∧ i = .int .i64 k ∧ Mid w f L k wr) (fun i _ => L - (intOf i).toNat)
 case atStart =>
  exact ⟨0, by omega, rfl, .nil, f, [], rfl, rfl, rfl, Fresh.nil _ _, there_new w _ _ _ (by rw [size_zeros]; exact Nat.le_refl _), ⟨by simp, fun _ => World.frozen?_alloc_new _ _ _ _⟩, (Below.refl _ _).alloc (Nat.le_refl _) _⟩
 case round =>
  obtain ⟨k, hk, rfl, p, g, fs1, h3, h5, hrow1, hfr1, hth, ⟨hlt, hfz⟩, hbw⟩ := hrel
  have h6 : g.len = L - k := by have := HL.out; rw [h3, F.len_app, h5] at this; omega
  cases g with
  | nil =>
    have hkL : L ≤ k := by simp only [F.len] at h6; omega
    have H := Lib.hid (And.intro (And.intro h3 h5) (And.intro hrow1 (And.intro hfr1 (And.intro hlt (And.intro hfz hbw)))))
    clear h3 h5 h6 hrow1 hfr1 hth hlt hfz hbw hrow ih
    go_wp2_with fail
    go_ret
    obtain ⟨⟨h3, h5⟩, hrow1, hfr1, hlt, hfz, hbw⟩ := H.out
    rw [F.app_nil] at h3
    subst h3
    have hLL := HL.out
    refine ⟨some ⟨w.heap.size, 0, none⟩, w.heap.size :: fs1, (show Ending.returned (Value.slice (some ⟨w.heap.size, 0, none⟩) L L) = _ from by rw [hLL]), .inr ⟨_, _, _, rfl, hne, rfl, hrow1⟩, ?_, hbw⟩
    exact Fresh.cons (hi := w.heap.size + 1) (Nat.le_refl _) hlt hfz hfr1 (by omega)
  | cons o n t ks r =>
    have hkL : k < L := by simp only [F.len] at h6; omega
    subst h3
    obtain ⟨a1, cap1, f1, c0, c1, c2, c3, hc1, hsub, hin⟩ := row_at hrow
    rw [h5] at c0 c1 c2 c3
    rw [← hbw.cell (p := ⟨_, _, _⟩) hb] at c0 c1 c2 c3
    have hd := toDoc (ih _ _ _ _ _ _ rfl) o n t wr a1 cap1 f1 (hsub.below (fun c hc => hfs c (hin c hc)) hbw) (fun c hc => Nat.lt_of_lt_of_le (hfs c (hin c hc)) hbw.size) hc1 (Nat.le_trans size_le_app hsz)
    have HD := Lib.hid hd
    have H := Lib.hid (And.intro h5 (And.intro hrow1 (And.intro hfr1 (And.intro hth (And.intro hlt (And.intro hfz hbw))))))
    clear hd h5 h6 hrow1 hfr1 hth hlt hfz hbw hrow ih
    go_wp2_with fail
    refine HD.out.mono ?_
    rintro e w1 ⟨a2, f2, rfl, hs2, hfr2, hb2⟩
    obtain ⟨h5, hrow1, hfr1, hth, hlt, hfz, hbw⟩ := H.out
    have hth1 := there_below hth hlt hb2
    have H2 := Lib.hid (And.intro hs2 (And.intro hfr2 hb2))
    have HT := Lib.hid (there_part (o := k * 4) (m := 4) hth1 (by omega))
    clear hs2 hfr2 hb2 h5 hrow1 hfr1 hth hlt hfz hbw hth1 c0 c1 c2 c3
    go_wp2_with (refine store_doc rfl (.tmp 21) (.tmp 20) rfl w.heap.size (k * 4) o n t a2 ks.len ks.len rfl rfl HT.out ?_)
    go_roundw
    case rel =>
     obtain ⟨h5, hrow1, hfr1, hth, hlt, hfz, hbw⟩ := H.out
     obtain ⟨hs2, hfr2, hb2⟩ := H2.out
     have hlt1 : w.heap.size < w1.heap.size := Nat.lt_of_lt_of_le hlt hb2.size
     have hin1 : ∀ c ∈ fs1, c < wr.heap.size := hfr1.lt
     have hrow2 := hrow1.below hlt hin1 hb2
     have hth2 := there_below hth hlt hb2
     have hne1 : ∀ c ∈ fs1, c ≠ w.heap.size := fun c hc => by have := (hfr1.2 c hc).1; omega
     have hne2 : ∀ c ∈ f2, c ≠ w.heap.size := fun c hc => by have := (hfr2.2 c hc).1; omega
     have hput := RowAt.put (o := o) (n := n) (t := t) hrow2 hne1 hne2 hth2 (by rw [h5]; omega) hs2 (Nat.le_refl _)
     rw [h5] at hput
     refine ⟨k + 1, by omega, by go_num, p.app (.cons o n t ks .nil), r, fs1 ++ f2, by rw [F.app_assoc]; rfl, by rw [F.len_app, h5]; rfl, hput, ?_, World.there_setCells hth2 _ _ _, ⟨by rw [size_setCells]; exact hlt1, fun o' => by rw [World.frozen?_setCells]; exact (hb2.frozen (p := ⟨w.heap.size, o', none⟩) hlt).trans (hfz o')⟩, ?_⟩
     ·refine Fresh.alike (w := w1) ((hfr1.below hin1 hb2).app hin1 hfr2 (by omega)) (by rw [size_setCells]; exact Nat.le_refl _) (fun c _ o' => World.frozen?_setCells _ _ _ _ _)
     ·exact Below.setCells (Nat.le_refl _) _ _ _ (hbw.trans (hb2.mono hbw.size))
    case measure => simp [intOf]; omega
theorem toS (m : Nat) : ∀ f : F, f.deep ≤ m → ToS f := by
 induction m with
 | zero =>
   intro f hf w a cap fs hs hfs hcap hsz
   cases f with
   | nil => exact toS_nil w a cap
   | cons o n t k r => simp [F.deep] at hf
 | succ m ih =>
   intro f hf w a cap fs hs hfs hcap hsz
   rcases hs with ⟨rfl, rfl⟩ | ⟨b, off, f', rfl, hnil, rfl, hrow⟩
   ·exact toS_nil w a cap
   ·exact toS_row f (fun o n t k r p e => ih k (by rw [e, F.deep_app] at hf; simp only [F.deep] at hf; omega)) w b off cap f' hrow (hfs b (by simp)) (fun c hc => hfs c (by simp [hc])) hcap hsz hnil
theorem toS_any (f : F) : ToS f := toS f.deep f (Nat.le_refl _)
end Go.Proofs.YtclifbjnooilmaaGreat.To

import Derived.OwnWalk
import Derived.Deep.RegionHeld3
import Derived.Test.YtjcaiecapapceaaGreatSpV
import Derived.Test.YtjcaiecapapceaaGreatDrX
/-
 What is known of documents that are copied, apart from the program's own copying.
-/
set_option linter.unusedVariables false
set_option linter.unusedSimpArgs false
set_option maxRecDepth 100000
set_option maxHeartbeats 6400000
namespace Go.Proofs.YtjcaiecapapceaaGreat.Copy
open Go.RowKit P1
def NewOut (w : World) (o n : Int) (t : ByteArray) (k : F) (e : Ending) (w' : World) : Prop := ∃ (a : Option Addr) (cap : Nat) (fs : List Nat), e = .returned (.agg #[.int .i64 o, .int .i64 n, .string t, .slice a k.len cap]) ∧ k.len ≤ cap ∧ SubAt w' a k fs ∧ Fresh w.heap.size w' fs ∧ Below w.heap.size w w'
theorem there_at {w : World} {b : Nat} (h : w.there b 0 4) : (∃ u0 u1 u2 u3, w.cell? ⟨b, 0, none⟩ = some u0 ∧ w.cell? ⟨b, 1, none⟩ = some u1 ∧ w.cell? ⟨b, 2, none⟩ = some u2 ∧ w.cell? ⟨b, 3, none⟩ = some u3) ∧
  w.frozen? ⟨b, 0, none⟩ = false ∧ w.frozen? ⟨b, 1, none⟩ = false ∧ w.frozen? ⟨b, 2, none⟩ = false ∧ w.frozen? ⟨b, 3, none⟩ = false := by
 have h0 := h 0 (by omega)
 have h1 := h 1 (by omega)
 have h2 := h 2 (by omega)
 have h3 := h 3 (by omega)
 simp only [Nat.zero_add] at h0 h1 h2 h3
 obtain ⟨u0, e0⟩ := Option.isSome_iff_exists.1 h0.1
 obtain ⟨u1, e1⟩ := Option.isSome_iff_exists.1 h1.1
 obtain ⟨u2, e2⟩ := Option.isSome_iff_exists.1 h2.1
 obtain ⟨u3, e3⟩ := Option.isSome_iff_exists.1 h3.1
 exact ⟨⟨u0, u1, u2, u3, e0, e1, e2, e3⟩, h0.2, h1.2, h2.2, h3.2⟩
theorem cell_new (w : World) (C : Array Value) (T : TypeId) (j : Nat) (u : Value) (h : C[j]? = some u) : (w.alloc (.cells C T)).cell? ⟨w.heap.size, j, none⟩ = some u := by rw [World.cell?_alloc_new]; exact h
end Go.Proofs.YtjcaiecapapceaaGreat.Copy
namespace Go.Proofs.YtjcaiecapapceaaGreat.CatD
open Go.RowKit P1 Copy
def zeroD : D := (0, 0, ⟨#[]⟩, .nil)
def DocRes (w : World) (r : Bool × D) (e : Ending) (w' : World) : Prop := ∃ (a : Option Addr) (cap : Nat) (fs : List Nat), e = .returned (.tuple #[.agg #[.int .i64 r.2.1, .int .i64 r.2.2.1, .string r.2.2.2.1, .slice a r.2.2.2.2.len cap], .bool r.1]) ∧ r.2.2.2.2.len ≤ cap ∧ SubAt w' a r.2.2.2.2 fs ∧ Fresh w.heap.size w' fs ∧ Below w.heap.size w w'
theorem fits_of_size {m : Nat} (hm : m ≤ maxLen) : ∀ f : F, f.size ≤ m → f.Fits := by
 intro f
 induction f with
 | nil => intro _; trivial
 | cons o n t k r ihk ihr =>
   intro h
   simp only [F.size] at h
   have := F.len_le_size k
   exact ⟨by omega, by omega, ihk (by omega), ihr (by omega)⟩
end Go.Proofs.YtjcaiecapapceaaGreat.CatD
namespace Go.Proofs.YtjcaiecapapceaaGreat.ReadDocs
open Go.RowKit P1
theorem strSize (l : List UInt8) : (⟨l.toArray⟩ : ByteArray).size = l.length := by show l.toArray.size = _; simp
end Go.Proofs.YtjcaiecapapceaaGreat.ReadDocs
namespace Go.Proofs.YtjcaiecapapceaaGreat.Read2
open Go.RowKit P1
def contK (p : F) : Option (F × List UInt8) → Option (F × List UInt8)
 | none => none
 | some (f, r) => some (p.app f, r)
theorem rdK_step_none {g : List UInt8 → Option (D × List UInt8)} {p : F} {n : Nat} {l : List UInt8} (h : g l = none) : contK p (rdK g (n + 1) l) = none := by rw [rdK, h]; rfl
theorem rdK_step_some {g : List UInt8 → Option (D × List UInt8)} {p : F} {n : Nat} {l r : List UInt8} {o m : Int} {t : ByteArray} {k : F} (h : g l = some ((o, m, t, k), r)) : contK p (rdK g (n + 1) l) = contK (p.app (.cons o m t k .nil)) (rdK g n r) := by
 rw [rdK, h]
 simp only
 cases rdK g n r with
 | none => rfl
 | some q => obtain ⟨f, r'⟩ := q; simp only [contK, F.app_assoc]; rfl
end Go.Proofs.YtjcaiecapapceaaGreat.Read2
namespace Go.Proofs.YtjcaiecapapceaaGreat.SpR
open Go.RowKit P1 Copy
theorem rdK_suffix {g : List UInt8 → Option (D × List UInt8)} (hg : ∀ s x r, g s = some (x, r) → r <:+ s) : ∀ n s f r, rdK g n s = some (f, r) → r <:+ s := by
 intro n
 induction n with
 | zero => intro s f r h; simp [rdK] at h; rw [h.2]; exact List.suffix_rfl
 | succ n ih =>
   intro s f r h
   rw [rdK] at h
   cases hq : g s with
   | none => rw [hq] at h; simp at h
   | some q =>
     obtain ⟨⟨o, m, t, k⟩, r1⟩ := q
     rw [hq] at h
     simp only at h
     cases hk : rdK g n r1 with
     | none => rw [hk] at h; simp at h
     | some q2 =>
       obtain ⟨f2, r2⟩ := q2
       rw [hk] at h; simp at h
       rw [← h.2]
       exact (ih _ _ _ hk).trans (hg _ _ _ hq)
theorem rdA_suffix {g : List UInt8 → Option (D × List UInt8)} (hg : ∀ s x r, g s = some (x, r) → r <:+ s) {op num : Int} {cnt : Nat} {sign : UInt8} {s : List UInt8} {x : D} {r : List UInt8} (h : rdA g op num cnt sign s = some (x, r)) : r <:+ s := by
 unfold rdA at h
 split at h
 ·simp at h
 ·simp at h
 ·rename_i f c r1 hk
  split at h
  ·simp at h
   rw [← h.2]
   exact (List.suffix_cons c r1).trans (rdK_suffix hg _ _ _ _ hk)
  ·simp at h
theorem cutQ_suffix {s x y : List UInt8} (h : cutQ s = some (x, y)) : s = x ++ 34 :: y := by
 induction s generalizing x y with
 | nil => simp [cutQ] at h
 | cons c r ih =>
   rw [cutQ] at h
   split at h
   ·rename_i hc; simp at h; obtain ⟨rfl, rfl⟩ := h; rw [hc]; rfl
   ·cases hq : cutQ r with
    | none => rw [hq] at h; simp at h
    | some q =>
      obtain ⟨a, b⟩ := q
      rw [hq] at h; simp at h; obtain ⟨rfl, rfl⟩ := h
      rw [ih hq]; rfl
theorem rdT_suffix {chk : Bool} {s : List UInt8} {x : D} {r : List UInt8} (h : rdT chk s = some (x, r)) : r <:+ s := by
 unfold rdT at h
 split at h
 ·simp at h
 ·rename_i a b hc
  split at h
  ·simp at h
  ·simp at h
   rw [← h.2, cutQ_suffix hc]
   exact (List.suffix_cons 34 b).trans (List.suffix_append a _)
theorem rdD_suffix (chk : Bool) : ∀ d s x r, rdD chk d s = some (x, r) → r <:+ s := by
 intro d
 induction d with
 | zero => intro s x r h; simp [rdD] at h
 | succ d ih =>
   intro s x r h
   cases s with
   | nil => simp [rdD] at h
   | cons c s =>
     rw [rdD] at h
     have hc := List.suffix_cons c s
     split at h
     ·simp at h; rw [← h.2]; exact hc
     split at h
     ·simp at h; rw [← h.2]; exact hc
     split at h
     ·simp at h; rw [← h.2]; exact hc
     split at h
     ·simp at h; rw [← h.2]; exact hc
     split at h
     ·exact (rdT_suffix h).trans hc
     split at h
     ·exact (rdA_suffix ih h).trans hc
     split at h
     ·exact (rdA_suffix ih h).trans hc
     split at h
     ·cases s with
      | nil => simp [rdN] at h
      | cons b r' =>
        simp only [rdN] at h
        split at h
        ·exact (rdA_suffix ih h).trans ((List.suffix_cons b r').trans hc)
        ·simp at h
     ·simp at h
def AnyD (v : Value) : Prop := ∃ (o n : Int) (t : ByteArray) (a : Option Addr) (l c : Nat), v = .agg #[.int .i64 o, .int .i64 n, .string t, .slice a l c]
def SpOut (w : World) (N : Nat) (r : Option (D × List UInt8)) (e : Ending) (w' : World) : Prop := Below w.heap.size w w' ∧ match r with
 | none => ∃ v, AnyD v ∧ e = .returned (.tuple #[v, .int .i64 (-1)])
 | some ((o, n, t, k), l') => ∃ (a : Option Addr) (cap : Nat) (fs : List Nat), e = .returned (.tuple #[.agg #[.int .i64 o, .int .i64 n, .string t, .slice a k.len cap], .int .i64 ((N - l'.length : Nat) : Int)]) ∧ k.len ≤ cap ∧ SubAt w' a k fs ∧ Fresh w.heap.size w' fs
theorem SpOut.of_none {w : World} {N : Nat} {e : Ending} {w' : World} (h : SpOut w N none e w') : ∃ (o n : Int) (t : ByteArray) (a : Option Addr) (l c : Nat), e = .returned (.tuple #[.agg #[.int .i64 o, .int .i64 n, .string t, .slice a l c], .int .i64 (-1)]) ∧ Below w.heap.size w w' := by
 obtain ⟨h1, v, ⟨o, n, t, a, l, c, rfl⟩, h2⟩ := h
 exact ⟨o, n, t, a, l, c, h2, h1⟩
theorem SpOut.of_some {w : World} {N : Nat} {o n : Int} {t : ByteArray} {k : F} {l' : List UInt8} {e : Ending} {w' : World} (h : SpOut w N (some ((o, n, t, k), l')) e w') : ∃ (a : Option Addr) (cap : Nat) (fs : List Nat), e = .returned (.tuple #[.agg #[.int .i64 o, .int .i64 n, .string t, .slice a k.len cap], .int .i64 ((N - l'.length : Nat) : Int)]) ∧ k.len ≤ cap ∧ SubAt w' a k fs ∧ Fresh w.heap.size w' fs ∧ Below w.heap.size w w' := by
 obtain ⟨h1, a, cap, fs, h2, h3, h4, h5⟩ := h
 exact ⟨a, cap, fs, h2, h3, h4, h5, h1⟩
theorem at_cons {s : ByteArray} {p : Nat} {c : UInt8} {r : List UInt8} (h : s.data.toList.drop p = c :: r) : ∃ hp : p < s.size, s[p] = c ∧ s.data.toList.drop (p + 1) = r ∧ s.size = p + 1 + r.length := by
 have hl : p < s.data.toList.length := by
  rcases Nat.lt_or_ge p s.data.toList.length with h1 | h1
  ·exact h1
  ·rw [List.drop_eq_nil_of_le h1] at h; cases h
 have e := List.drop_eq_getElem_cons hl
 rw [h] at e
 injection e with e1 e2
 have hls : s.data.toList.length = s.size := by simp
 refine ⟨by omega, by rw [e1]; rfl, e2.symm, ?_⟩
 have := congrArg List.length h
 simp only [List.length_drop, List.length_cons] at this
 omega
theorem at_nil {s : ByteArray} {p : Nat} (h : s.data.toList.drop p = []) : s.size ≤ p := by
 have := congrArg List.length h
 simp at this
 have hls : s.data.toList.length = s.size := by simp
 omega
theorem extract_mk (s : ByteArray) (a b : Nat) : s.extract a b = ⟨((s.data.toList.drop a).take (b - a)).toArray⟩ := by
 apply ByteArray.ext
 apply Array.ext'
 simp [List.take_drop]
def mapQ (p : List UInt8) : Option (List UInt8 × List UInt8) → Option (List UInt8 × List UInt8)
 | none => none
 | some (x, y) => some (p ++ x, y)
theorem cutQ_step {r r2 : List UInt8} {j : Nat} {c : UInt8} (h : r.drop j = c :: r2) (hc : c ≠ 34) : mapQ (r.take j) (cutQ (r.drop j)) = mapQ (r.take (j + 1)) (cutQ (r.drop (j + 1))) := by
 have hl : j < r.length := by
  rcases Nat.lt_or_ge j r.length with h1 | h1
  ·exact h1
  ·rw [List.drop_eq_nil_of_le h1] at h; cases h
 have e := List.drop_eq_getElem_cons hl
 rw [h] at e
 injection e with e1 e2
 rw [h, cutQ, if_neg hc, ← e2, List.take_succ_eq_append_getElem hl, ← e1]
 cases cutQ r2 with
 | none => rfl
 | some q => obtain ⟨a, b⟩ := q; simp [mapQ]
theorem l1Word (w : World) (s : ByteArray) (hs : s.size ≤ 1048576) (p : Nat) (r : List UInt8) (hr : s.data.toList.drop (p + 1) = r) (hp : p < s.size) :
  Calls Tryz.prog 184 #[.string s, .int .i64 (p : Int)] w (SpOut w s.size (rdT false r)) := by
 have hlen : s.size = p + 1 + r.length := by
  have := congrArg List.length hr
  simp only [List.length_drop] at this
  have hls : s.data.toList.length = s.size := by simp
  omega
 have HL := Lib.hid (And.intro hr hlen)
 clear hr hlen
 go_enter Tryz.func184, Tryz.ntmps184
 go_wp2_with fail
 go_loop [6] (fun e => ∃ en j : Nat, Hid (en = p + 1 + j ∧ cutQ r = mapQ (r.take j) (cutQ (r.drop j))) ∧ en ≤ s.size ∧ e = .int .i64 en) (fun e => s.size - (intOf e).toNat)
 case atStart => exact ⟨p + 1, 0, Lib.hid ⟨rfl, by simp only [List.take_zero, List.drop_zero]; cases cutQ r with
  | none => rfl
  | some q => rfl⟩, by omega, by go_num⟩
 case round =>
  obtain ⟨en, j, HE, hen, rfl⟩ := hrel
  have hdrop : s.data.toList.drop en = r.drop j := by rw [HE.out.1, ← HL.out.1, List.drop_drop]
  cases hd : r.drop j with
  | nil =>
    have hend : s.size ≤ en := at_nil (hdrop.trans hd)
    have hno : rdT false r = none := by unfold rdT; rw [HE.out.2, hd]; rfl
    have HN := Lib.hid hno
    clear hdrop hd hno
    go_wp2_with fail
    refine bodyPost_ret (v := .tuple #[.agg #[.int .i64 0, .int .i64 0, .string ⟨#[]⟩, .slice none 0 0], .int .i64 (-1)]) (by simp [results, Tryz.results184, go_sem]) rfl ?_
    rw [HN.out]
    exact ⟨(Below.refl _ _).alloc (Nat.le_refl _) _, _, ⟨0, 0, ⟨#[]⟩, none, 0, 0, rfl⟩, rfl⟩
  | cons c r2 =>
    obtain ⟨hlt, hc, hr2, hsz⟩ := at_cons (hdrop.trans hd)
    by_cases hq : c = 34
    ·have hb : ((s[en].toNat : Int) != 34) = false := by rw [hc, hq]; rfl
     have hyes : rdT false r = some ((2, 0, ⟨(r.take j).toArray⟩, .nil), r2) := by
      unfold rdT; rw [HE.out.2, hd, hq]; simp [cutQ, mapQ]
     have hex : s.extract (p + 1) en = ⟨(r.take j).toArray⟩ := by rw [extract_mk, HL.out.1, HE.out.1]; congr 3; omega
     have hN : s.size - r2.length = en + 1 := by omega
     have HY := Lib.hid (And.intro hyes (And.intro hex hN))
     have hpe : (p : Int) + 1 ≤ (en : Int) := by rw [HE.out.1]; omega
     have hp0 : (0 : Int) ≤ (p : Int) + 1 := by omega
     have hen' : (en : Int) ≤ (s.size : Int) := by omega
     clear hdrop hd hc hr2 hsz hyes hex hN
     go_wp2_with fail
     go_goals
     refine bodyPost_ret (v := .tuple #[.agg #[.int .i64 2, .int .i64 0, .string (s.extract (p + 1) en), .slice none 0 0], .int .i64 ((en : Int) + 1)]) (by simp [results, Tryz.results184, go_sem]) rfl ?_
     obtain ⟨hyes, hex, hN⟩ := HY.out
     rw [hyes, hex]
     exact ⟨(Below.refl _ _).alloc (Nat.le_refl _) _, none, 0, [], by rw [hN]; rfl, by simp [F.len], .inl ⟨rfl, rfl⟩, Fresh.nil _ _⟩
    ·have hb : ((s[en].toNat : Int) != 34) = true := by
      rw [bne_iff_ne, hc]; intro e; exact hq (UInt8.toNat_inj.1 (by simpa using (by omega : c.toNat = 34)))
     have HS := Lib.hid (And.intro hd hq)
     clear hdrop hd hc hr2 hsz hq
     go_wp2_with fail
     go_round
     case rel => exact ⟨en + 1, j + 1, Lib.hid ⟨by rw [HE.out.1]; omega, by rw [HE.out.2, cutQ_step HS.out.1 HS.out.2]⟩, by omega, by go_num⟩
     case measure => simp [intOf]; omega
end Go.Proofs.YtjcaiecapapceaaGreat.SpR
namespace Go.Proofs.YtjcaiecapapceaaGreat.SpR2
open Go.RowKit P1 Copy SpR Read2
def ReS (d : Nat) : Prop := ∀ (w : World) (s : ByteArray) (p : Nat) (r : List UInt8) (dp x : Int), s.size ≤ 1048576 → s.data.toList.drop p = r → p ≤ s.size → x = (p : Int) → dp = (d : Int) → d ≤ 40 →
 Calls Tryz.prog 168 #[.string s, .int .i64 x, .int .i64 dp] w (SpOut w s.size (rdD false d r))
def inR (g : List UInt8 → Option (D × List UInt8)) (cnt : Nat) (sign : UInt8) (s : List UInt8) : Option (F × List UInt8) :=
 match rdK g cnt s with
 | none => none
 | some (f, []) => none
 | some (f, c :: r) => if c = sign then some (f, r) else none
theorem rdA_inR {g : List UInt8 → Option (D × List UInt8)} {op num : Int} {cnt : Nat} {sign : UInt8} {s : List UInt8} : rdA g op num cnt sign s = match inR g cnt sign s with
  | none => none
  | some (f, r) => some ((op, num, ⟨#[]⟩, f), r) := by
 unfold rdA inR
 cases rdK g cnt s with
 | none => rfl
 | some q =>
   obtain ⟨f, l⟩ := q
   cases l with
   | nil => rfl
   | cons c r =>
     simp only
     by_cases h : c = sign
     ·simp [h]
     ·simp [h]
def InOut (w : World) (N : Nat) (r : Option (F × List UInt8)) (e : Ending) (w' : World) : Prop := Below w.heap.size w w' ∧ match r with
 | none => ∃ (a : Option Addr) (l c : Nat), e = .returned (.tuple #[.slice a l c, .int .i64 (-1)])
 | some (f, l') => ∃ (a : Option Addr) (cap : Nat) (fs : List Nat), e = .returned (.tuple #[.slice a f.len cap, .int .i64 ((N - l'.length : Nat) : Int)]) ∧ f.len ≤ cap ∧ SubAt w' a f fs ∧ Fresh w.heap.size w' fs
theorem InOut.of_none {w : World} {N : Nat} {e : Ending} {w' : World} (h : InOut w N none e w') : ∃ (a : Option Addr) (l c : Nat), e = .returned (.tuple #[.slice a l c, .int .i64 (-1)]) ∧ Below w.heap.size w w' := by
 obtain ⟨h1, a, l, c, h2⟩ := h
 exact ⟨a, l, c, h2, h1⟩
theorem InOut.of_some {w : World} {N : Nat} {f : F} {l' : List UInt8} {e : Ending} {w' : World} (h : InOut w N (some (f, l')) e w') : ∃ (a : Option Addr) (cap : Nat) (fs : List Nat), e = .returned (.tuple #[.slice a f.len cap, .int .i64 ((N - l'.length : Nat) : Int)]) ∧ f.len ≤ cap ∧ SubAt w' a f fs ∧ Fresh w.heap.size w' fs ∧ Below w.heap.size w w' := by
 obtain ⟨h1, a, cap, fs, h2, h3, h4, h5⟩ := h
 exact ⟨a, cap, fs, h2, h3, h4, h5, h1⟩
def InMid (w : World) (s : ByteArray) (g : List UInt8 → Option (D × List UInt8)) (cnt : Nat) (r : List UInt8) (j pp : Nat) (v : Value) (wr : World) : Prop := ∃ (p : F) (l' : List UInt8) (fs : List Nat), p.len = j ∧ rdK g cnt r = contK p (rdK g (cnt - j) l') ∧ s.data.toList.drop pp = l' ∧ Grow wr 25 w.heap.size v p fs ∧ Below w.heap.size w wr
theorem suffix_at {s : ByteArray} {p : Nat} {l l2 : List UInt8} (h : s.data.toList.drop p = l) (h2 : l2 <:+ l) : s.data.toList.drop (s.size - l2.length) = l2 ∧ s.size - l2.length ≤ s.size := by
 have h3 : l2 <:+ s.data.toList := h2.trans (h ▸ List.drop_suffix p _)
 have := List.suffix_iff_eq_drop.1 h3
 have hls : s.data.toList.length = s.size := by simp
 rw [hls] at this
 exact ⟨this.symm, Nat.sub_le _ _⟩
theorem cell_new1 (w : World) (ob : Obj) (C : Array Value) (T : TypeId) (j : Nat) (u : Value) (h : C[j]? = some u) : ((w.alloc ob).alloc (.cells C T)).cell? ⟨w.heap.size + 1, j, none⟩ = some u := by
 have e : (w.alloc ob).heap.size = w.heap.size + 1 := by simp
 rw [← e, World.cell?_alloc_new]; exact h
theorem l1Inner (d : Nat) (ih : ReS d) (hd : d ≤ 40) (w : World) (s : ByteArray) (hs : s.size ≤ 1048576) (q : Nat) (r : List UInt8) (hr : s.data.toList.drop q = r) (hq : q ≤ s.size) (x : Int) (hx : x = (q : Int)) (cnt : Nat) (ci : Int) (hci : ci = (cnt : Int)) (hcnt : cnt ≤ 2) (sg : UInt8) (si : Int) (hsi : si = (sg.toNat : Int)) (dp : Int) (hdp : dp = (d : Int) + 1) :
  Calls Tryz.prog 185 #[.string s, .int .i64 x, .int .i64 ci, .int .u8 si, .int .i64 dp] w (InOut w s.size (inR (rdD false d) cnt sg r)) := by
 subst hx hci hsi hdp
 obtain ⟨i0, hi, hz0, hz1, hz2⟩ := info_parts To.info
 have HI := Lib.hid (And.intro hi (And.intro hz0 (And.intro hz1 hz2)))
 obtain ⟨g, hgg⟩ : ∃ g, rdD false d = g := ⟨_, rfl⟩
 have hsuf : ∀ l x l2, g l = some (x, l2) → l2 <:+ l := fun l x l2 h => rdD_suffix false d l x l2 (by rw [hgg]; exact h)
 have IH : Hid (∀ (w : World) (p : Nat) (l : List UInt8), s.data.toList.drop p = l → p ≤ s.size → Calls Tryz.prog 168 #[.string s, .int .i64 (p : Int), .int .i64 (d : Int)] w (SpOut w s.size (g l))) := by
  rw [← hgg]
  exact fun w p l h1 h2 => ih w s p l d p hs h1 h2 rfl rfl hd
 rw [hgg]
 have HSU := Lib.hid hsuf
 have hstart : InMid w s g cnt r 0 q (.slice (some ⟨w.heap.size, 0, none⟩) 0 0) (w.alloc (.cells #[] 25)) :=
  ⟨.nil, r, [], rfl, by simp only [Nat.sub_zero]; cases rdK g cnt r with
   | none => rfl
   | some q => rfl, hr, Grow.made w _ w.heap.size (Nat.le_refl _), (Below.refl _ _).alloc (Nat.le_refl _) _⟩
 have HST := Lib.hid hstart
 clear hstart ih hsuf hgg hr hi hz0 hz1 hz2
 go_enter Tryz.func185, Tryz.ntmps185
 go_wp2_with fail
 go_loopw [13, 1, 12] (fun i at_ v wr => ∃ (j pp : Nat), j ≤ cnt ∧ pp ≤ s.size ∧ i = .int .i64 j ∧ at_ = .int .i64 pp ∧ InMid w s g cnt r j pp v wr) (fun i _ _ _ => cnt - (intOf i).toNat)
 case atStart => exact ⟨0, q, by omega, hq, rfl, rfl, HST.out⟩
 case round =>
  obtain ⟨j, pp, hj, hpp, rfl, rfl, p, l', fs, h1, h2, h3, hG, hbw⟩ := hrel
  obtain ⟨av, cv, rfl, hcv, hsv, hcvm⟩ := hG.slice
  by_cases hjc : j < cnt
  ·obtain ⟨m, hm⟩ : ∃ m, cnt - j = m + 1 := ⟨cnt - j - 1, by omega⟩
   have hm' : cnt - (j + 1) = m := by omega
   rw [hm] at h2
   have HD := Lib.hid (IH.out wr pp l' h3 hpp)
   have H := Lib.hid (And.intro h1 (And.intro h2 (And.intro h3 (And.intro hG hbw))))
   clear h1 h2 h3 hG hbw hsv hcvm hm hcv
   go_wp2_with fail
   refine HD.out.mono fun e1 w1 hq1 => ?_
   cases hgl : g l' with
   | none =>
     obtain ⟨o, n, t, a, l, c, rfl, hb1⟩ := SpOut.of_none (by rw [hgl] at hq1; exact hq1)
     have H1 := Lib.hid (And.intro hgl hb1)
     clear hq1 hgl hb1
     go_wp2_with fail
     go_ret2
     obtain ⟨h1, h2, h3, hG, hbw⟩ := H.out
     have hn : inR g cnt sg r = none := by unfold inR; rw [h2, rdK_step_none H1.out.1]
     rw [hn]
     exact ⟨(hbw.trans (H1.out.2.mono hbw.size)).alloc (Nat.le_trans hbw.size H1.out.2.size) _, _, _, _, rfl⟩
   | some q1 =>
     obtain ⟨⟨o, n, t, k⟩, l2⟩ := q1
     obtain ⟨a2, cap2, f2, rfl, hc2, hs2, hf2, hb1⟩ := SpOut.of_some (by rw [hgl] at hq1; exact hq1)
     obtain ⟨z, hz⟩ : ∃ z : Nat, s.size - l2.length = z := ⟨_, rfl⟩
     have hsuf := suffix_at H.out.2.2.1 (HSU.out _ _ _ hgl)
     rw [hz] at hsuf ⊢
     have hzn : ¬ ((z : Int) < 0) := by omega
     have H1 := Lib.hid (And.intro hgl (And.intro hc2 (And.intro hs2 (And.intro hf2 (And.intro hb1 hsuf)))))
     have hstep := fun (ob ob2 : Obj) => And.intro (((H.out.2.2.2.1.below (Nat.le_refl _) hb1).alloc ob).alloc ob2) (And.intro (hs2.below hf2.lt (((Below.refl _ _).alloc (Nat.le_refl _) ob).alloc (by simp) ob2)) (hf2.below hf2.lt (((Below.refl _ _).alloc (Nat.le_refl _) ob).alloc (by simp) ob2)))
     have HSTEP := Lib.hid hstep
     have hlo : w.heap.size ≤ wr.heap.size := H.out.2.2.2.2.size
     have hz1n : z ≤ s.size := hsuf.2
     clear hq1 hgl hc2 hs2 hf2 hb1 hstep hz hsuf
     go_wp2_with (at_builtin; refine append_doc rfl (.tmp 33) (.tmp 35) 23 rfl Tryz.underlying23 HI.out.1 HI.out.2.1 HI.out.2.2.1 HI.out.2.2.2 rfl rfl (HSTEP.out _ _).1 (d := w1.heap.size + 1) (c := 1) rfl (cell_new1 w1 _ _ _ 0 _ rfl) (cell_new1 w1 _ _ _ 1 _ rfl) (cell_new1 w1 _ _ _ 2 _ rfl) (cell_new1 w1 _ _ _ 3 _ rfl) H1.out.2.1 (HSTEP.out _ _).2.1 (HSTEP.out _ _).2.2 hlo (fun q hq => H.out.2.2.2.1.fresh.lt q hq) (fun q hq => (H.out.2.2.2.1.own_lt q hq).2) (by have := H.out.1; omega) ?_; intro v' w2 fs' hG' hb' hg')
     go_roundw
     case rel =>
      obtain ⟨h1, h2, h3, hG, hbw⟩ := H.out
      obtain ⟨hgl, _, _, _, hb1, hsuf⟩ := H1.out
      refine ⟨j + 1, z, by omega, hz1n, by go_num, rfl, p.app (.cons o n t k .nil), l2, fs', by rw [F.len_app, h1]; rfl, by rw [h2, rdK_step_some hgl, hm'], hsuf.1, hG', ?_⟩
      exact (((hbw.trans (hb1.mono hbw.size)).alloc (Nat.le_trans hbw.size hb1.size) _).alloc (by have := hb1.size; have := hbw.size; simp; omega) _).trans hb'
     case measure => simp [intOf]; omega
  ·obtain rfl : j = cnt := by omega
   rw [Nat.sub_self] at h2
   have hK : rdK g j r = some (p, l') := by rw [h2]; simp [rdK, contK, F.app_nil]
   have H := Lib.hid (And.intro h1 (And.intro hK (And.intro hG (And.intro hbw (And.intro hsv hcv)))))
   cases hl : l' with
   | nil =>
     have hend := at_nil (h3.trans hl)
     have HN := Lib.hid (show inR g j sg r = none by unfold inR; rw [hK, hl])
     clear h1 h2 hK hG hbw hsv hcvm hcv h3 hl
     go_wp2_with fail
     go_ret2
     rw [HN.out]
     exact ⟨H.out.2.2.2.1, _, _, _, rfl⟩
   | cons c r2 =>
     obtain ⟨hlt, hc, hr2, hsz⟩ := at_cons (h3.trans hl)
     by_cases hcs : c = sg
     ·have hb : ((s[pp].toNat : Int) != (sg.toNat : Int)) = false := by rw [hc, hcs]; simp
      have hin : inR g j sg r = some (p, r2) := by unfold inR; rw [hK, hl]; simp [hcs]
      have HN := Lib.hid (And.intro hin (show s.size - r2.length = pp + 1 by omega))
      clear h1 h2 hK hG hbw hsv hcvm hcv h3 hl hc hr2 hsz hcs hin
      go_wp2_with fail
      go_ret2
      obtain ⟨h1, hK, hG, hbw, hsv, hcv⟩ := H.out
      rw [HN.out.1]
      exact ⟨hbw, av, cv, fs, by rw [HN.out.2]; rfl, hcv, hsv, hG.fresh⟩
     ·have hb : ((s[pp].toNat : Int) != (sg.toNat : Int)) = true := by rw [bne_iff_ne, hc]; intro e; exact hcs (UInt8.toNat_inj.1 (by omega))
      have HN := Lib.hid (show inR g j sg r = none by unfold inR; rw [hK, hl]; simp [hcs])
      clear h1 h2 hK hG hbw hsv hcvm hcv h3 hl hc hr2 hsz hcs
      go_wp2_with fail
      go_ret2
      rw [HN.out]
      exact ⟨H.out.2.2.2.1, _, _, _, rfl⟩
end Go.Proofs.YtjcaiecapapceaaGreat.SpR2
namespace Go.Proofs.YtjcaiecapapceaaGreat.SpR3
open Go.RowKit P1 Copy SpR SpR2
theorem sp_none {w w2 w4 : World} {N : Nat} {ob : Obj} {o n : Int} {t : ByteArray} {a : Option Addr} {l c : Nat} (hb : Below (w.alloc ob).heap.size (w.alloc ob) w2) (ht : Touch w.heap.size (w.heap.size + 1) w2 w4) :
  SpOut w N none (.returned (.tuple #[.agg #[.int .i64 o, .int .i64 n, .string t, .slice a l c], .int .i64 (-1)])) w4 :=
 ⟨ht.below (((Below.refl _ _).alloc (Nat.le_refl _) _).trans (hb.mono (by simp))) (Nat.le_refl _), _, ⟨o, n, t, a, l, c, rfl⟩, rfl⟩
theorem sp_some {w w2 w4 : World} {N : Nat} {ob : Obj} {o n : Int} {t : ByteArray} {k : F} {l' : List UInt8} {a : Option Addr} {cap : Nat} {fs : List Nat} (hb : Below (w.alloc ob).heap.size (w.alloc ob) w2) (hc : k.len ≤ cap) (hs : SubAt w2 a k fs) (hf : Fresh (w.alloc ob).heap.size w2 fs) (ht : Touch w.heap.size (w.heap.size + 1) w2 w4) :
  SpOut w N (some ((o, n, t, k), l')) (.returned (.tuple #[.agg #[.int .i64 o, .int .i64 n, .string t, .slice a k.len cap], .int .i64 ((N - l'.length : Nat) : Int)])) w4 := by
 have hf' : Fresh (w.heap.size + 1) w2 fs := hf.mono (by simp)
 exact ⟨ht.below (((Below.refl _ _).alloc (Nat.le_refl _) _).trans (hb.mono (by simp))) (Nat.le_refl _), a, cap, fs, rfl, hc, ht.sub hs (fun c hc => Or.inr (hf'.2 c hc).1), (ht.fresh hf' (fun c hc => Or.inr (hf'.2 c hc).1)).mono (by omega)⟩
section
variable (w : World) (s : ByteArray) (hs : s.size ≤ 1048576) (p : Nat)
set_option linter.unusedSectionVars false
include hs
theorem read_zero (hp : p ≤ s.size) : Calls Tryz.prog 168 #[.string s, .int .i64 (p : Int), .int .i64 0] w (SpOut w s.size none) := by
 by_cases h : p < s.size
 ·have hge : decide ((s.size : Int) ≤ (p : Int)) = false := by simp; omega
  go_enter Tryz.func168, Tryz.ntmps168
  go_wp2_with fail
  refine bodyPost_ret (v := .tuple #[.agg #[.int .i64 0, .int .i64 0, .string ⟨#[]⟩, .slice none 0 0], .int .i64 (-1)]) (by simp [results, Tryz.results168, go_sem]) rfl ?_
  exact ⟨(Below.refl _ _).alloc (Nat.le_refl _) _, _, ⟨0, 0, ⟨#[]⟩, none, 0, 0, rfl⟩, rfl⟩
 ·have hge : decide ((s.size : Int) ≤ (p : Int)) = true := by simp; omega
  go_enter Tryz.func168, Tryz.ntmps168
  go_wp2_with fail
  refine bodyPost_ret (v := .tuple #[.agg #[.int .i64 0, .int .i64 0, .string ⟨#[]⟩, .slice none 0 0], .int .i64 (-1)]) (by simp [results, Tryz.results168, go_sem]) rfl ?_
  exact ⟨(Below.refl _ _).alloc (Nat.le_refl _) _, _, ⟨0, 0, ⟨#[]⟩, none, 0, 0, rfl⟩, rfl⟩
theorem read_end (dp : Int) (h : s.size ≤ p) : Calls Tryz.prog 168 #[.string s, .int .i64 (p : Int), .int .i64 dp] w (SpOut w s.size none) := by
 have hge : decide ((s.size : Int) ≤ (p : Int)) = true := by simp; omega
 go_enter Tryz.func168, Tryz.ntmps168
 go_wp2_with fail
 refine bodyPost_ret (v := .tuple #[.agg #[.int .i64 0, .int .i64 0, .string ⟨#[]⟩, .slice none 0 0], .int .i64 (-1)]) (by simp [results, Tryz.results168, go_sem]) rfl ?_
 exact ⟨(Below.refl _ _).alloc (Nat.le_refl _) _, _, ⟨0, 0, ⟨#[]⟩, none, 0, 0, rfl⟩, rfl⟩
variable (d : Nat) (ih : ReS d) (hd : d + 1 ≤ 40) (dp : Int) (hdp : dp = ((d + 1 : Nat) : Int)) (c : UInt8) (r : List UInt8) (hr : s.data.toList.drop p = c :: r)
include ih hd hdp hr
theorem read_leaf (op : Int) (hc : (c = 126 ∧ op = 1) ∨ (c = 95 ∧ op = 3) ∨ (c = 46 ∧ op = 4) ∨ (c = 33 ∧ op = 5)) :
  Calls Tryz.prog 168 #[.string s, .int .i64 (p : Int), .int .i64 dp] w (SpOut w s.size (some ((op, 0, ⟨#[]⟩, .nil), r))) := by
 obtain ⟨hlt, hcc, _, hsz⟩ := at_cons hr
 have hge : decide ((s.size : Int) ≤ (p : Int)) = false := by simp; omega
 have hd0 : (dp == 0) = false := by rw [beq_eq_false_iff_ne]; omega
 have hN : ((s.size - r.length : Nat) : Int) = (p : Int) + 1 := by omega
 have HN := Lib.hid hN
 clear hN hr ih hdp hsz
 rcases hc with ⟨rfl, rfl⟩ | ⟨rfl, rfl⟩ | ⟨rfl, rfl⟩ | ⟨rfl, rfl⟩
 all_goals
  have hb : (s[p].toNat : Int) = _ := congrArg (fun b : UInt8 => (b.toNat : Int)) hcc
  simp at hb
  clear hcc
  go_enter Tryz.func168, Tryz.ntmps168
  go_wp2_with fail
  refine bodyPost_ret (v := .tuple #[.agg #[.int .i64 _, .int .i64 0, .string ⟨#[]⟩, .slice none 0 0], .int .i64 ((p : Int) + 1)]) (by simp [results, Tryz.results168, go_sem]; rfl) rfl ?_
  exact ⟨(Below.refl _ _).alloc (Nat.le_refl _) _, none, 0, [], by rw [HN.out]; rfl, by simp [F.len], .inl ⟨rfl, rfl⟩, Fresh.nil _ _⟩
theorem read_word (hc : c = 34) :
  Calls Tryz.prog 168 #[.string s, .int .i64 (p : Int), .int .i64 dp] w (SpOut w s.size (rdT false r)) := by
 obtain ⟨hlt, hcc, hr2, hsz⟩ := at_cons hr
 have hge : decide ((s.size : Int) ≤ (p : Int)) = false := by simp; omega
 have hd0 : (dp == 0) = false := by rw [beq_eq_false_iff_ne]; omega
 have hb : (s[p].toNat : Int) = 34 := by rw [hcc, hc]; rfl
 have hW := fun ob => l1Word (w.alloc ob) s hs p r hr2 hlt
 obtain ⟨res, hres⟩ : ∃ res, rdT false r = res := ⟨_, rfl⟩
 rw [hres] at hW ⊢
 have HW := Lib.hid hW
 clear hr ih hdp hsz hcc hr2 hW hres hc
 go_enter Tryz.func168, Tryz.ntmps168
 go_wp2_with fail
 refine (HW.out _).mono fun e2 w2 hq => ?_
 cases res with
 | none =>
   obtain ⟨o, n, t, a, l, cc, rfl, hb2⟩ := SpOut.of_none hq
   have hcell : ∀ o, w2.cell? ⟨w.heap.size, o, none⟩ = _ := fun o => hb2.cell (p := ⟨w.heap.size, o, none⟩) (by simp)
   have hfz : ∀ o, w2.frozen? ⟨w.heap.size, o, none⟩ = _ := fun o => hb2.frozen (p := ⟨w.heap.size, o, none⟩) (by simp)
   have hz : w.heap.size < w2.heap.size := by have := hb2.size; simp at this; omega
   have H2 := Lib.hid hb2
   clear hq hb2
   go_wp2_with fail
   refine bodyPost_ret (v := .tuple #[.agg #[.int .i64 o, .int .i64 n, .string t, .slice a l cc], .int .i64 (-1)]) (by simp [results, Tryz.results168, go_sem, hcell, hz]) rfl ?_
   refine sp_none H2.out ?_
   repeat (first | exact Touch.refl _ _ _ | refine Touch.setCell ?_ (by simp) (by simp) _)
 | some q =>
   obtain ⟨⟨o, n, t, k⟩, l'⟩ := q
   obtain ⟨a, cap, fs, rfl, hc2, hs2, hf2, hb2⟩ := SpOut.of_some hq
   have hcell : ∀ o, w2.cell? ⟨w.heap.size, o, none⟩ = _ := fun o => hb2.cell (p := ⟨w.heap.size, o, none⟩) (by simp)
   have hfz : ∀ o, w2.frozen? ⟨w.heap.size, o, none⟩ = _ := fun o => hb2.frozen (p := ⟨w.heap.size, o, none⟩) (by simp)
   have hz : w.heap.size < w2.heap.size := by have := hb2.size; simp at this; omega
   obtain ⟨z, hzz⟩ : ∃ z : Nat, s.size - l'.length = z := ⟨_, rfl⟩
   have H2 := Lib.hid (And.intro hb2 (And.intro hc2 (And.intro hs2 (And.intro hf2 hzz))))
   rw [hzz]
   clear hq hb2 hc2 hs2 hf2 hzz
   go_wp2_with fail
   refine bodyPost_ret (v := .tuple #[.agg #[.int .i64 o, .int .i64 n, .string t, .slice a k.len cap], .int .i64 (z : Int)]) (by simp [results, Tryz.results168, go_sem, hcell, hz]) rfl ?_
   obtain ⟨hb2, hc2, hs2, hf2, hzz⟩ := H2.out
   rw [← hzz]
   refine sp_some hb2 hc2 hs2 hf2 ?_
   repeat (first | exact Touch.refl _ _ _ | refine Touch.setCell ?_ (by simp) (by simp) _)
theorem read_pair (op : Int) (L : Nat) (sg : UInt8) (hc : (c = 40 ∧ op = 7 ∧ L = 2 ∧ sg = 41) ∨ (c = 91 ∧ op = 8 ∧ L = 1 ∧ sg = 93)) :
  Calls Tryz.prog 168 #[.string s, .int .i64 (p : Int), .int .i64 dp] w (SpOut w s.size (rdA (rdD false d) op 0 L sg r)) := by
 obtain ⟨hlt, hcc, hr2, hsz⟩ := at_cons hr
 have hge : decide ((s.size : Int) ≤ (p : Int)) = false := by simp; omega
 have hd0 : (dp == 0) = false := by rw [beq_eq_false_iff_ne]; omega
 have hI := fun ob hL x hx ci hci si hsi => l1Inner d ih (by omega) (w.alloc ob) s hs (p + 1) r hr2 (by omega) x hx L ci hci hL sg si hsi dp (by omega)
 rw [rdA_inR]
 obtain ⟨res, hres⟩ : ∃ res, inR (rdD false d) L sg r = res := ⟨_, rfl⟩
 rw [hres] at hI ⊢
 have HI := Lib.hid hI
 clear hr ih hdp hsz hr2 hI hres
 rcases hc with ⟨rfl, rfl, rfl, rfl⟩ | ⟨rfl, rfl, rfl, rfl⟩
 all_goals
  have hb : (s[p].toNat : Int) = _ := congrArg (fun b : UInt8 => (b.toNat : Int)) hcc
  simp at hb
  clear hcc
  go_enter Tryz.func168, Tryz.ntmps168
  go_wp2_with fail
  refine (HI.out _ (by omega) _ (by omega) _ (by rfl) _ (by rfl)).mono fun e2 w2 hq => ?_
  cases res with
  | none =>
    obtain ⟨a, l, cc, rfl, hb2⟩ := InOut.of_none hq
    have hcell : ∀ o, w2.cell? ⟨w.heap.size, o, none⟩ = _ := fun o => hb2.cell (p := ⟨w.heap.size, o, none⟩) (by simp)
    have hfz : ∀ o, w2.frozen? ⟨w.heap.size, o, none⟩ = _ := fun o => hb2.frozen (p := ⟨w.heap.size, o, none⟩) (by simp)
    have hz : w.heap.size < w2.heap.size := by have := hb2.size; simp at this; omega
    have H2 := Lib.hid hb2
    clear hq hb2
    go_wp2_with fail
    refine bodyPost_ret (v := .tuple #[.agg #[.int .i64 _, .int .i64 0, .string ⟨#[]⟩, .slice a l cc], .int .i64 (-1)]) (by simp [results, Tryz.results168, go_sem, hcell, hz]; rfl) rfl ?_
    refine sp_none H2.out ?_
    repeat (first | exact Touch.refl _ _ _ | refine Touch.setCell ?_ (by simp) (by simp) _)
  | some q =>
    obtain ⟨f, l'⟩ := q
    obtain ⟨a, cap, fs, rfl, hc2, hs2, hf2, hb2⟩ := InOut.of_some hq
    have hcell : ∀ o, w2.cell? ⟨w.heap.size, o, none⟩ = _ := fun o => hb2.cell (p := ⟨w.heap.size, o, none⟩) (by simp)
    have hfz : ∀ o, w2.frozen? ⟨w.heap.size, o, none⟩ = _ := fun o => hb2.frozen (p := ⟨w.heap.size, o, none⟩) (by simp)
    have hz : w.heap.size < w2.heap.size := by have := hb2.size; simp at this; omega
    obtain ⟨z, hzz⟩ : ∃ z : Nat, s.size - l'.length = z := ⟨_, rfl⟩
    have H2 := Lib.hid (And.intro hb2 (And.intro hc2 (And.intro hs2 (And.intro hf2 hzz))))
    rw [hzz]
    clear hq hb2 hc2 hs2 hf2 hzz
    go_wp2_with fail
    refine bodyPost_ret (v := .tuple #[.agg #[.int .i64 _, .int .i64 0, .string ⟨#[]⟩, .slice a f.len cap], .int .i64 (z : Int)]) (by simp [results, Tryz.results168, go_sem, hcell, hz]; rfl) rfl ?_
    obtain ⟨hb2, hc2, hs2, hf2, hzz⟩ := H2.out
    rw [← hzz]
    refine sp_some hb2 hc2 hs2 hf2 ?_
    repeat (first | exact Touch.refl _ _ _ | refine Touch.setCell ?_ (by simp) (by simp) _)
theorem read_digit (h1 : 48 ≤ c.toNat) (h2 : c.toNat ≤ 57) :
  Calls Tryz.prog 168 #[.string s, .int .i64 (p : Int), .int .i64 dp] w (SpOut w s.size (rdN (rdD false d) c r)) := by
 obtain ⟨hlt, hcc, hr2, hsz⟩ := at_cons hr
 have hge : decide ((s.size : Int) ≤ (p : Int)) = false := by simp; omega
 have hd0 : (dp == 0) = false := by rw [beq_eq_false_iff_ne]; omega
 obtain ⟨k, hk⟩ : ∃ k : Nat, c.toNat = k := ⟨_, rfl⟩
 have hkb : (s[p].toNat : Int) = (k : Int) := by rw [hcc, hk]
 rw [hk] at h1 h2
 have b1 : ((s[p].toNat : Int) == 126) = false := by rw [hkb, beq_eq_false_iff_ne]; omega
 have b2 : ((s[p].toNat : Int) == 95) = false := by rw [hkb, beq_eq_false_iff_ne]; omega
 have b3 : ((s[p].toNat : Int) == 46) = false := by rw [hkb, beq_eq_false_iff_ne]; omega
 have b4 : ((s[p].toNat : Int) == 33) = false := by rw [hkb, beq_eq_false_iff_ne]; omega
 have b5 : ((s[p].toNat : Int) == 34) = false := by rw [hkb, beq_eq_false_iff_ne]; omega
 have b6 : ((s[p].toNat : Int) == 40) = false := by rw [hkb, beq_eq_false_iff_ne]; omega
 have b7 : ((s[p].toNat : Int) == 91) = false := by rw [hkb, beq_eq_false_iff_ne]; omega
 have c1 : decide (48 ≤ (s[p].toNat : Int)) = true := by rw [hkb]; simp; omega
 have c2 : decide ((s[p].toNat : Int) ≤ 57) = true := by rw [hkb]; simp; omega
 have c3 : (48 : Int) ≤ (s[p].toNat : Int) := by rw [hkb]; omega
 have c4 : (s[p].toNat : Int) ≤ 57 := by rw [hkb]; omega
 cases r with
 | nil =>
   have hend : decide ((p : Int) + 1 < (s.size : Int)) = false := by simp at hsz ⊢; omega
   have hres : rdN (rdD false d) c [] = none := rfl
   rw [hres]
   clear hr ih hdp hcc hr2 hkb hk h1 h2 hres hsz
   go_enter Tryz.func168, Tryz.ntmps168
   go_wp2_with fail
   refine bodyPost_ret (v := .tuple #[.agg #[.int .i64 0, .int .i64 0, .string ⟨#[]⟩, .slice none 0 0], .int .i64 (-1)]) (by simp [results, Tryz.results168, go_sem]) rfl ?_
   exact ⟨(Below.refl _ _).alloc (Nat.le_refl _) _, _, ⟨0, 0, ⟨#[]⟩, none, 0, 0, rfl⟩, rfl⟩
 | cons b r2 =>
   obtain ⟨hlt2, hcc2, hr3, hsz2⟩ := at_cons hr2
   have hlt3 : decide ((p : Int) + 1 < (s.size : Int)) = true := by simp; omega
   by_cases hb : b = 60
   ·subst hb
    have hbb : ((s[p + 1].toNat : Int) == 60) = true := by rw [hcc2]; rfl
    have hI := fun ob x hx ci hci si hsi => l1Inner d ih (by omega) (w.alloc ob) s hs (p + 2) r2 hr3 (by omega) x hx 1 ci hci (by omega) 62 si hsi dp (by omega)
    have hres1 : rdN (rdD false d) c (60 :: r2) = rdA (rdD false d) 6 ((c.toNat : Int) - 48) 1 62 r2 := by simp [rdN]
    rw [hres1, rdA_inR]
    obtain ⟨num, hnum⟩ : ∃ num : Int, (s[p].toNat : Int) - 48 = num := ⟨_, rfl⟩
    have hnum2 : (c.toNat : Int) - 48 = num := by rw [← hnum, hcc]
    rw [hnum2]
    obtain ⟨res, hres⟩ : ∃ res, inR (rdD false d) 1 62 r2 = res := ⟨_, rfl⟩
    rw [hres] at hI ⊢
    have HI := Lib.hid hI
    have HNUM := Lib.hid hnum
    clear hr ih hdp hcc hr2 hkb hk h1 h2 hres hres1 hI hnum hnum2 hcc2 hr3 hsz hsz2
    go_enter Tryz.func168, Tryz.ntmps168
    go_wp2_with fail
    refine (HI.out _ _ (by omega) _ (by rfl) _ (by rfl)).mono fun e2 w2 hq => ?_
    cases res with
    | none =>
      obtain ⟨a, l, cc, rfl, hb2⟩ := InOut.of_none hq
      have hcell : ∀ o, w2.cell? ⟨w.heap.size, o, none⟩ = _ := fun o => hb2.cell (p := ⟨w.heap.size, o, none⟩) (by simp)
      have hfz : ∀ o, w2.frozen? ⟨w.heap.size, o, none⟩ = _ := fun o => hb2.frozen (p := ⟨w.heap.size, o, none⟩) (by simp)
      have hz : w.heap.size < w2.heap.size := by have := hb2.size; simp at this; omega
      have H2 := Lib.hid hb2
      clear hq hb2
      go_wp2_with fail
      refine bodyPost_ret (v := .tuple #[.agg #[.int .i64 6, .int .i64 ((s[p].toNat : Int) - 48), .string ⟨#[]⟩, .slice a l cc], .int .i64 (-1)]) (by simp [results, Tryz.results168, go_sem, hcell, hz]) rfl ?_
      refine sp_none H2.out ?_
      repeat (first | exact Touch.refl _ _ _ | refine Touch.setCell ?_ (by simp) (by simp) _)
    | some q =>
      obtain ⟨f, l'⟩ := q
      obtain ⟨a, cap, fs, rfl, hc2, hs2, hf2, hb2⟩ := InOut.of_some hq
      have hcell : ∀ o, w2.cell? ⟨w.heap.size, o, none⟩ = _ := fun o => hb2.cell (p := ⟨w.heap.size, o, none⟩) (by simp)
      have hfz : ∀ o, w2.frozen? ⟨w.heap.size, o, none⟩ = _ := fun o => hb2.frozen (p := ⟨w.heap.size, o, none⟩) (by simp)
      have hz : w.heap.size < w2.heap.size := by have := hb2.size; simp at this; omega
      obtain ⟨z, hzz⟩ : ∃ z : Nat, s.size - l'.length = z := ⟨_, rfl⟩
      have H2 := Lib.hid (And.intro hb2 (And.intro hc2 (And.intro hs2 (And.intro hf2 hzz))))
      rw [hzz]
      clear hq hb2 hc2 hs2 hf2 hzz
      go_wp2_with fail
      refine bodyPost_ret (v := .tuple #[.agg #[.int .i64 6, .int .i64 ((s[p].toNat : Int) - 48), .string ⟨#[]⟩, .slice a f.len cap], .int .i64 (z : Int)]) (by simp [results, Tryz.results168, go_sem, hcell, hz]) rfl ?_
      obtain ⟨hb2, hc2, hs2, hf2, hzz⟩ := H2.out
      rw [← hzz, HNUM.out]
      refine sp_some hb2 hc2 hs2 hf2 ?_
      rw [← HNUM.out]
      repeat (first | exact Touch.refl _ _ _ | refine Touch.setCell ?_ (by simp) (by simp) _)
   ·have hbb : ((s[p + 1].toNat : Int) == 60) = false := by
     rw [hcc2, beq_eq_false_iff_ne]; intro e; exact hb (UInt8.toNat_inj.1 (by simpa using (by omega : b.toNat = 60)))
    have hres : rdN (rdD false d) c (b :: r2) = none := by simp [rdN, hb]
    rw [hres]
    clear hr ih hdp hcc hr2 hkb hk h1 h2 hres hcc2 hr3 hsz hsz2 hb
    go_enter Tryz.func168, Tryz.ntmps168
    go_wp2_with fail
    refine bodyPost_ret (v := .tuple #[.agg #[.int .i64 0, .int .i64 0, .string ⟨#[]⟩, .slice none 0 0], .int .i64 (-1)]) (by simp [results, Tryz.results168, go_sem]) rfl ?_
    exact ⟨(Below.refl _ _).alloc (Nat.le_refl _) _, _, ⟨0, 0, ⟨#[]⟩, none, 0, 0, rfl⟩, rfl⟩
theorem read_other (h1 : c ≠ 126) (h2 : c ≠ 34) (h3 : c ≠ 95) (h4 : c ≠ 46) (h5 : c ≠ 33) (h6 : c ≠ 40) (h7 : c ≠ 91) (hdg : ¬ (48 ≤ c.toNat ∧ c.toNat ≤ 57)) :
  Calls Tryz.prog 168 #[.string s, .int .i64 (p : Int), .int .i64 dp] w (SpOut w s.size none) := by
 obtain ⟨hlt, hcc, hr2, hsz⟩ := at_cons hr
 have hge : decide ((s.size : Int) ≤ (p : Int)) = false := by simp; omega
 have hd0 : (dp == 0) = false := by rw [beq_eq_false_iff_ne]; omega
 have ne : ∀ k : Nat, k < 256 → c ≠ UInt8.ofNat k → ((s[p].toNat : Int) == (k : Int)) = false := fun k hk hc => by
  rw [hcc, beq_eq_false_iff_ne]
  intro e
  exact hc (UInt8.toNat_inj.1 (by rw [UInt8.toNat_ofNat', Nat.mod_eq_of_lt (by simpa using hk)]; omega))
 have b1 : ((s[p].toNat : Int) == 126) = false := ne 126 (by omega) h1
 have b2 : ((s[p].toNat : Int) == 95) = false := ne 95 (by omega) h3
 have b3 : ((s[p].toNat : Int) == 46) = false := ne 46 (by omega) h4
 have b4 : ((s[p].toNat : Int) == 33) = false := ne 33 (by omega) h5
 have b5 : ((s[p].toNat : Int) == 34) = false := ne 34 (by omega) h2
 have b6 : ((s[p].toNat : Int) == 40) = false := ne 40 (by omega) h6
 have b7 : ((s[p].toNat : Int) == 91) = false := ne 91 (by omega) h7
 obtain ⟨k, hk⟩ : ∃ k : Nat, c.toNat = k := ⟨_, rfl⟩
 have hkb : (s[p].toNat : Int) = (k : Int) := by rw [hcc, hk]
 rw [hk] at hdg
 by_cases hlow : k < 48
 ·have c1 : decide (48 ≤ (s[p].toNat : Int)) = false := by rw [hkb]; simp; omega
  clear hr ih hdp hcc hr2 hkb hk hdg ne h1 h2 h3 h4 h5 h6 h7 hsz
  go_enter Tryz.func168, Tryz.ntmps168
  go_wp2_with fail
  refine bodyPost_ret (v := .tuple #[.agg #[.int .i64 0, .int .i64 0, .string ⟨#[]⟩, .slice none 0 0], .int .i64 (-1)]) (by simp [results, Tryz.results168, go_sem]) rfl ?_
  exact ⟨(Below.refl _ _).alloc (Nat.le_refl _) _, _, ⟨0, 0, ⟨#[]⟩, none, 0, 0, rfl⟩, rfl⟩
 ·have c1 : decide (48 ≤ (s[p].toNat : Int)) = true := by rw [hkb]; simp; omega
  have c2 : decide ((s[p].toNat : Int) ≤ 57) = false := by rw [hkb]; simp; omega
  clear hr ih hdp hcc hr2 hkb hk hdg ne h1 h2 h3 h4 h5 h6 h7 hsz
  go_enter Tryz.func168, Tryz.ntmps168
  go_wp2_with fail
  refine bodyPost_ret (v := .tuple #[.agg #[.int .i64 0, .int .i64 0, .string ⟨#[]⟩, .slice none 0 0], .int .i64 (-1)]) (by simp [results, Tryz.results168, go_sem]) rfl ?_
  exact ⟨(Below.refl _ _).alloc (Nat.le_refl _) _, _, ⟨0, 0, ⟨#[]⟩, none, 0, 0, rfl⟩, rfl⟩
end
theorem reS : ∀ d : Nat, ReS d
 | 0 => by
   intro w s p r dp x hs hr hp hx hdp hd
   subst hx hdp
   exact read_zero w s hs p hp
 | d + 1 => by
   have ih := reS d
   intro w s p r dp x hs hr hp hx hdp hd
   subst hx
   cases r with
   | nil => exact read_end w s hs p dp (at_nil hr)
   | cons c r =>
     rw [rdD]
     split
     ·rename_i hc; subst hc; exact read_leaf w s hs p d ih hd dp hdp _ r hr _ (.inl ⟨rfl, rfl⟩)
     rename_i h1
     split
     ·rename_i hc; subst hc; exact read_leaf w s hs p d ih hd dp hdp _ r hr _ (.inr (.inl ⟨rfl, rfl⟩))
     rename_i h2
     split
     ·rename_i hc; subst hc; exact read_leaf w s hs p d ih hd dp hdp _ r hr _ (.inr (.inr (.inl ⟨rfl, rfl⟩)))
     rename_i h3
     split
     ·rename_i hc; subst hc; exact read_leaf w s hs p d ih hd dp hdp _ r hr _ (.inr (.inr (.inr ⟨rfl, rfl⟩)))
     rename_i h4
     split
     ·rename_i hc; exact read_word w s hs p d ih hd dp hdp c r hr hc
     rename_i h5
     split
     ·rename_i hc; exact read_pair w s hs p d ih hd dp hdp c r hr _ _ _ (.inl ⟨hc, rfl, rfl, rfl⟩)
     rename_i h6
     split
     ·rename_i hc; exact read_pair w s hs p d ih hd dp hdp c r hr _ _ _ (.inr ⟨hc, rfl, rfl, rfl⟩)
     rename_i h7
     split
     ·rename_i hc
      exact read_digit w s hs p d ih hd dp hdp c r hr (by have := hc.1; simpa [UInt8.le_iff_toNat_le] using this) (by have := hc.2; simpa [UInt8.le_iff_toNat_le] using this)
     ·rename_i hc
      exact read_other w s hs p d ih hd dp hdp c r hr h1 h5 h2 h3 h4 h6 h7 (fun hh => hc ⟨by simpa [UInt8.le_iff_toNat_le] using hh.1, by simpa [UInt8.le_iff_toNat_le] using hh.2⟩)
end Go.Proofs.YtjcaiecapapceaaGreat.SpR3
namespace Go.Proofs.YtjcaiecapapceaaGreat.ParseD
open Go.RowKit P1 Copy CatD ReadDocs Read2 SpR SpR2
def parR (chk : Bool) (l : List UInt8) : Bool × D := match parse chk l with
 | none => (false, zeroD)
 | some x => (true, x)
theorem parR_none {chk : Bool} {l : List UInt8} (h : rdD chk 40 l = none) : parR chk l = (false, zeroD) := by unfold parR parse; rw [h]
theorem parR_more {chk : Bool} {l r : List UInt8} {x : D} {c : UInt8} (h : rdD chk 40 l = some (x, c :: r)) : parR chk l = (false, zeroD) := by unfold parR parse; rw [h]
theorem parR_bad {chk : Bool} {l : List UInt8} {o n : Int} {t : ByteArray} {k : F} (h : rdD chk 40 l = some ((o, n, t, k), [])) (hv : validD o n t k = false) : parR chk l = (false, zeroD) := by unfold parR parse; rw [h]; simp [hv]
theorem parR_good {chk : Bool} {l : List UInt8} {o n : Int} {t : ByteArray} {k : F} (h : rdD chk 40 l = some ((o, n, t, k), [])) (hv : validD o n t k = true) : parR chk l = (true, (o, n, t, k)) := by unfold parR parse; rw [h]; simp [hv]
theorem par_no {w w3 w4 : World} {r : Bool × D} (hr : r = (false, zeroD)) (hb : Below w.heap.size w w3) (ht : Touch w.heap.size (w.heap.size + 1) w3 w4) :
  DocRes w r (.returned (.tuple #[.agg #[.int .i64 0, .int .i64 0, .string ⟨#[]⟩, .slice none 0 0], .bool false])) w4 := by
 subst hr
 exact ⟨none, 0, [], rfl, by simp [zeroD, F.len], Or.inl ⟨rfl, rfl⟩, Fresh.nil w.heap.size w4, ht.below hb (Nat.le_refl _)⟩
theorem par_noA {w w3 w5 : World} {r : Bool × D} {ob : Obj} (hr : r = (false, zeroD)) (hb : Below w.heap.size w w3) (ht : Touch w.heap.size (w.heap.size + 1) w3 w5) :
  DocRes w r (.returned (.tuple #[.agg #[.int .i64 0, .int .i64 0, .string ⟨#[]⟩, .slice none 0 0], .bool false])) (w5.alloc ob) := by
 subst hr
 have h5 := ht.below hb (Nat.le_refl _)
 exact ⟨none, 0, [], rfl, by simp [zeroD, F.len], Or.inl ⟨rfl, rfl⟩, Fresh.nil w.heap.size _, h5.alloc h5.size _⟩
theorem par_yes {w w3 w4 : World} {r : Bool × D} {o n : Int} {t : ByteArray} {k : F} {a : Option Addr} {cap : Nat} {fs : List Nat} (hr : r = (true, (o, n, t, k))) (hb : Below w.heap.size w w3) (hc : k.len ≤ cap) (hs : SubAt w3 a k fs) (hf : Fresh (w.heap.size + 1) w3 fs) (ht : Touch w.heap.size (w.heap.size + 1) w3 w4) :
  DocRes w r (.returned (.tuple #[.agg #[.int .i64 o, .int .i64 n, .string t, .slice a k.len cap], .bool true])) w4 := by
 subst hr
 exact ⟨a, cap, fs, rfl, hc, ht.sub hs (fun c hc => Or.inr (hf.2 c hc).1), (ht.fresh hf (fun c hc => Or.inr (hf.2 c hc).1)).mono (by omega), ht.below hb (Nat.le_refl _)⟩
theorem specParseDoc (w : World) (l : List UInt8) (hl : l.length ≤ 1048576) :
  Calls Tryz.prog 127 #[.string ⟨l.toArray⟩] w (DocRes w (parR false l)) := by
 have hN : (⟨l.toArray⟩ : ByteArray).size = l.length := strSize l
 have hD := fun ob => SpR3.reS 40 (w.alloc ob) ⟨l.toArray⟩ 0 l 40 0 (by rw [hN]; exact hl) (by simp) (Nat.zero_le _) rfl rfl (by omega)
 rw [hN] at hD
 have HD := Lib.hid hD
 clear hD hN
 go_enter Tryz.func127, Tryz.ntmps127
 go_wp2_with fail
 refine (HD.out _).mono fun e1 w1 hq => ?_
 cases hr : rdD false 40 l with
 | none =>
   obtain ⟨o, n, t, a, ll, c, rfl, hb1⟩ := SpOut.of_none (by rw [hr] at hq; exact hq)
   have hcell : ∀ o, w1.cell? ⟨w.heap.size, o, none⟩ = _ := fun o => hb1.cell (p := ⟨w.heap.size, o, none⟩) (by simp)
   have hfz : ∀ o, w1.frozen? ⟨w.heap.size, o, none⟩ = _ := fun o => hb1.frozen (p := ⟨w.heap.size, o, none⟩) (by simp)
   have hz : w.heap.size < w1.heap.size := by have := hb1.size; simp at this; omega
   have hne : ((-1 : Int) != (l.length : Int)) = true := by rw [bne_iff_ne]; omega
   have H1 := Lib.hid (And.intro hr (((Below.refl w.heap.size w).alloc (Nat.le_refl _) _).trans (hb1.mono (by simp))))
   clear hq hr hb1
   go_wp2_with fail
   refine bodyPost_ret (v := .tuple #[.agg #[.int .i64 0, .int .i64 0, .string ⟨#[]⟩, .slice none 0 0], .bool false]) (by simp [results, Tryz.results127, go_sem, hcell, hz]) rfl ?_
   refine par_noA (w3 := w1) (parR_none H1.out.1) H1.out.2 ?_
   repeat (first | exact Touch.refl _ _ _ | refine Touch.setCell ?_ (by simp) (by simp) _)
 | some q =>
   obtain ⟨⟨o, n, t, k⟩, l'⟩ := q
   obtain ⟨a, cap, fs, rfl, hc, hs, hf, hb1⟩ := SpOut.of_some (by rw [hr] at hq; exact hq)
   have hsz := rdD_size false 40 l o n t k l' hr
   have hkl := F.len_le_size k
   have hcell : ∀ o, w1.cell? ⟨w.heap.size, o, none⟩ = _ := fun o => hb1.cell (p := ⟨w.heap.size, o, none⟩) (by simp)
   have hfz : ∀ o, w1.frozen? ⟨w.heap.size, o, none⟩ = _ := fun o => hb1.frozen (p := ⟨w.heap.size, o, none⟩) (by simp)
   have hz : w.heap.size < w1.heap.size := by have := hb1.size; simp at this; omega
   have hf' : Fresh (w.heap.size + 1) w1 fs := hf.mono (by simp)
   have hE := ((Below.refl w.heap.size w).alloc (Nat.le_refl _) (.cells #[.int .i64 0, .int .i64 0, .string ⟨#[]⟩, .slice none 0 0] 25)).trans (hb1.mono (by simp))
   have hV := fun ob => SpecC.docValid (w1.alloc ob) o n t k a cap fs (hs.below hf.lt ((Below.refl _ _).alloc (Nat.le_refl _) _)) (fun c hc => by have := hf.lt c hc; simp; omega) hc (by omega) (fits_of_size (m := 1048576) (by unfold maxLen; omega) k (by omega)) (by unfold maxLen; omega)
   have H1 := Lib.hid (And.intro hr (And.intro hE (And.intro hc (And.intro hs hf'))))
   cases l' with
   | cons c r =>
     obtain ⟨z, hzz⟩ : ∃ z : Nat, l.length - (c :: r).length = z := ⟨_, rfl⟩
     rw [hzz]
     have hne : ((z : Int) != (l.length : Int)) = true := by rw [bne_iff_ne]; simp at hzz hsz; omega
     clear hq hr hb1 hE hc hs hf hf' hV hsz hkl hzz
     go_wp2_with fail
     refine bodyPost_ret (v := .tuple #[.agg #[.int .i64 0, .int .i64 0, .string ⟨#[]⟩, .slice none 0 0], .bool false]) (by simp [results, Tryz.results127, go_sem, hcell, hz]) rfl ?_
     refine par_noA (w3 := w1) (parR_more H1.out.1) H1.out.2.1 ?_
     repeat (first | exact Touch.refl _ _ _ | refine Touch.setCell ?_ (by simp) (by simp) _)
   | nil =>
     rw [show l.length - ([] : List UInt8).length = l.length from rfl]
     have hne : ((l.length : Int) != (l.length : Int)) = false := by simp
     cases hv : validD o n t k with
     | false =>
       rw [hv] at hV
       have HV := Lib.hid hV
       have HVV := Lib.hid hv
       clear hq hr hb1 hE hc hs hf hf' hV hv hsz hkl
       go_wp2_with fail
       refine (HV.out _).mono ?_
       rintro e2 w2 ⟨rfl, hb2⟩
       have hcell2 : ∀ o, w2.cell? ⟨w.heap.size, o, none⟩ = _ := fun o => (hb2.cell (p := ⟨w.heap.size, o, none⟩) (by simp; omega)).trans ((World.cell?_alloc_lt w1 _ ⟨w.heap.size, o, none⟩ hz).trans (hcell o))
       have hfz2 : ∀ o, w2.frozen? ⟨w.heap.size, o, none⟩ = _ := fun o => (hb2.frozen (p := ⟨w.heap.size, o, none⟩) (by simp; omega)).trans ((World.frozen?_alloc_old w1 _ ⟨w.heap.size, o, none⟩ (by show w.heap.size ≠ _; omega)).trans (hfz o))
       have hz2 : w.heap.size < w2.heap.size := by have := hb2.size; simp at this; omega
       have H2 := Lib.hid hb2
       clear hb2 hcell hfz
       go_wp2_with fail
       refine bodyPost_ret (v := .tuple #[.agg #[.int .i64 0, .int .i64 0, .string ⟨#[]⟩, .slice none 0 0], .bool false]) (by simp [results, Tryz.results127, go_sem, hcell2, hz2]) rfl ?_
       refine par_no (w3 := w2) (parR_bad H1.out.1 HVV.out) ((H1.out.2.1.alloc (by omega) _).trans (H2.out.mono (by simp; omega))) ?_
       repeat (first | exact Touch.refl _ _ _ | refine Touch.setCell ?_ (by simp) (by simp) _)
     | true =>
       rw [hv] at hV
       have HV := Lib.hid hV
       have HVV := Lib.hid hv
       clear hq hr hb1 hE hc hs hf hf' hV hv hsz hkl
       go_wp2_with fail
       refine (HV.out _).mono ?_
       rintro e2 w2 ⟨rfl, hb2⟩
       have hcell2 : ∀ o, w2.cell? ⟨w.heap.size, o, none⟩ = _ := fun o => (hb2.cell (p := ⟨w.heap.size, o, none⟩) (by simp; omega)).trans ((World.cell?_alloc_lt w1 _ ⟨w.heap.size, o, none⟩ hz).trans (hcell o))
       have hfz2 : ∀ o, w2.frozen? ⟨w.heap.size, o, none⟩ = _ := fun o => (hb2.frozen (p := ⟨w.heap.size, o, none⟩) (by simp; omega)).trans ((World.frozen?_alloc_old w1 _ ⟨w.heap.size, o, none⟩ (by show w.heap.size ≠ _; omega)).trans (hfz o))
       have hbox : ∀ o, w2.cell? ⟨w1.heap.size, o, none⟩ = _ := fun o => hb2.cell (p := ⟨w1.heap.size, o, none⟩) (by simp)
       have hz2 : w.heap.size < w2.heap.size := by have := hb2.size; simp at this; omega
       have H2 := Lib.hid hb2
       clear hb2 hcell hfz
       go_wp2_with fail
       refine bodyPost_ret (v := .tuple #[.agg #[.int .i64 o, .int .i64 n, .string t, .slice a k.len cap], .bool true]) (by simp [results, Tryz.results127, go_sem, hcell2, hz2]) rfl ?_
       obtain ⟨hr, hE, hc, hs, hf'⟩ := H1.out
       have BA : Below w1.heap.size w1 w2 := ((Below.refl _ _).alloc (Nat.le_refl _) _).trans (H2.out.mono (by simp))
       refine par_yes (w3 := w2) (parR_good hr HVV.out) (hE.trans (BA.mono (by omega))) hc (hs.below hf'.lt BA) (hf'.below hf'.lt BA) ?_
       repeat (first | exact Touch.refl _ _ _ | refine Touch.setCell ?_ (by simp) (by simp) _)
theorem parR_true {chk : Bool} {l : List UInt8} {o n : Int} {t : ByteArray} {k : F} (h : parR chk l = (true, (o, n, t, k))) : validD o n t k = true ∧ t.size + k.size ≤ l.length := by
 unfold parR parse at h
 cases hr : rdD chk 40 l with
 | none => rw [hr] at h; simp at h
 | some q =>
   obtain ⟨⟨o', n', t', k'⟩, r⟩ := q
   have hs := rdD_size chk 40 l o' n' t' k' r hr
   rw [hr] at h
   cases r with
   | cons c r => simp at h
   | nil =>
     cases hv : validD o' n' t' k' with
     | false => simp [hv] at h
     | true =>
       simp [hv] at h
       obtain ⟨rfl, rfl, rfl, rfl⟩ := h
       exact ⟨hv, by omega⟩
end Go.Proofs.YtjcaiecapapceaaGreat.ParseD
namespace Go.Proofs.YtjcaiecapapceaaGreat.DrD
open Go.RowKit P1 Draw Draw2 DrA DrB DrC CatD ParseD
def texts : List ByteArray := [⟨#[91, 40, 34, 102, 40, 34, 40, 50, 60, 40, 46, 40, 34, 97, 97, 97, 97, 44, 34, 40, 95, 34, 98, 98, 98, 98, 34, 41, 41, 41, 62, 40, 46, 34, 41, 34, 41, 41, 41, 93]⟩, ⟨#[40, 34, 97, 34, 40, 95, 40, 34, 98, 34, 40, 95, 34, 99, 34, 41, 41, 41, 41]⟩, ⟨#[91, 40, 34, 97, 97, 34, 40, 95, 91, 40, 34, 98, 98, 34, 40, 95, 34, 99, 99, 34, 41, 41, 93, 41, 41, 93]⟩, ⟨#[51, 60, 91, 40, 34, 120, 61, 49, 34, 40, 95, 34, 121, 34, 41, 41, 93, 62]⟩, ⟨#[40, 34, 123, 34, 40, 50, 60, 40, 33, 40, 34, 97, 58, 49, 44, 34, 40, 33, 34, 98, 58, 50, 34, 41, 41, 41, 62, 40, 33, 34, 125, 34, 41, 41, 41]⟩, ⟨#[40, 91, 40, 34, 97, 34, 40, 95, 34, 98, 34, 41, 41, 93, 91, 40, 34, 99, 34, 40, 46, 34, 100, 34, 41, 41, 93, 41]⟩, ⟨#[126]⟩, ⟨#[34, 97, 98, 99, 34]⟩]
theorem texts_ok : ∀ s ∈ texts, (parR false s.data.toList).1 = true := by decide
theorem texts_small : ∀ s ∈ texts, s.size ≤ 64 := by decide
def DrawRes (w : World) (x lo p c : Nat) (e : Ending) (w' : World) : Prop := ∃ (o n : Int) (t : ByteArray) (k : F) (a : Option Addr) (cap : Nat) (fs : List Nat) (q : Nat), e = .returned (.agg #[.int .i64 o, .int .i64 n, .string t, .slice a k.len cap]) ∧ k.len ≤ cap ∧ t.size + k.size ≤ 1000 ∧ validD o n t k = true ∧
 SubAt w' a k fs ∧ Fresh w.heap.size w' fs ∧ Rd w' x lo q ∧ q ≤ p + c ∧ But w.heap.size x w w'
theorem parseAt (s : ByteArray) (hs : s.size ≤ 64) (w : World) : Calls Tryz.prog 127 #[.string s] w (DocRes w (parR false s.data.toList)) := by
 have h := specParseDoc w s.data.toList (by simp; omega)
 have e : (⟨s.data.toList.toArray⟩ : ByteArray) = s := by cases s; simp
 rwa [e] at h
structure Inv (w wr : World) (x lo q : Nat) : Prop where
 rd : Rd wr x lo q
 but : But w.heap.size x w wr
 z : ZBox wr w.heap.size
 tx : Strs wr (w.heap.size + 1) 0 texts
 lt : w.heap.size + 1 < wr.heap.size
theorem Inv.step {w wr w' : World} {x lo q q' : Nat} (h : Inv w wr x lo q) (hx : x < w.heap.size) (k : But wr.heap.size x wr w') (hr : Rd w' x lo q') : Inv w w' x lo q' := by
 obtain ⟨⟨h0, h1, h2, h3⟩, ⟨z0, z1, z2, z3⟩, hb⟩ := h.z
 have hl := h.lt
 refine ⟨hr, h.but.trans (k.mono (by omega)), ⟨⟨(k.cell hb (by omega)).trans h0, (k.cell hb (by omega)).trans h1, (k.cell hb (by omega)).trans h2, (k.cell hb (by omega)).trans h3⟩, ⟨(k.frozen hb (by omega)).trans z0, (k.frozen hb (by omega)).trans z1, (k.frozen hb (by omega)).trans z2, (k.frozen hb (by omega)).trans z3⟩, Nat.lt_of_lt_of_le hb k.size⟩, fun i hi => (k.cell hl (by omega)).trans (h.tx i hi), Nat.lt_of_lt_of_le hl k.size⟩
theorem Inv.below {w wr w' : World} {x lo q : Nat} (h : Inv w wr x lo q) (hx : x < w.heap.size) (k : Below wr.heap.size wr w') : Inv w w' x lo q :=
 h.step hx (But.of_below k) (rdBelow h.rd (by have := h.lt; omega) k)
theorem end_draw {w w1 w2 : World} {x lo p c q : Nat} {o n : Int} {t : ByteArray} {k : F} {a : Option Addr} {cap : Nat} {fs : List Nat} (hI : Inv w w1 x lo q) (hx : x < w.heap.size) (hc : k.len ≤ cap) (hsz : t.size + k.size ≤ 1000) (hv : validD o n t k = true) (hs : SubAt w1 a k fs) (hf : Fresh (w.heap.size + 1) w1 fs) (hq : q ≤ p + c)
  (ht : Touch w.heap.size (w.heap.size + 1) w1 w2) : DrawRes w x lo p c (.returned (.agg #[.int .i64 o, .int .i64 n, .string t, .slice a k.len cap])) w2 :=
 ⟨o, n, t, k, a, cap, fs, q, rfl, hc, hsz, hv, ht.sub hs (fun c hc => Or.inr (hf.2 c hc).1), (ht.fresh hf (fun c hc => Or.inr (hf.2 c hc).1)).mono (by omega), rdTouch hI.rd hx ht, hq, butTouch hI.but ht (Nat.le_refl _)⟩
theorem DrawRes.alloc {w w' : World} {x lo p c : Nat} {e : Ending} (h : DrawRes w x lo p c e w') (ob : Obj) : DrawRes w x lo p c e (w'.alloc ob) := by
 obtain ⟨o, n, t, k, a, cap, fs, q, rfl, h1, h2, h3, h4, h5, h6, h7, h8⟩ := h
 have hA : Below w'.heap.size w' (w'.alloc ob) := (Below.refl _ _).alloc (Nat.le_refl _) _
 have hxl : x < w'.heap.size := by
  obtain ⟨_, _, _, q0, _⟩ := h6
  exact World.block_lt_of_cell? w' _ q0
 exact ⟨o, n, t, k, a, cap, fs, q, rfl, h1, h2, h3, h4.below h5.lt hA, h5.below h5.lt hA, rdBelow h6 hxl hA, h7, h8.trans (But.of_below (hA.mono h8.size))⟩
theorem someAny (r : Int) (hr : r ∈ [(4 : Int), 3, 5, 2]) (w : World) (x lo p : Nat) (h1 : Rd w x lo p) (h2 : p + 188 ≤ 1073741824) (h3 : x < w.heap.size) :
  Calls Tryz.prog 167 #[.pointer (some ⟨x, 0, none⟩), .int .i64 r] w (SomeOut w x lo p 628 10 188) := by
 simp only [List.mem_cons, List.not_mem_nil, or_false] at hr
 rcases hr with rfl | rfl | rfl | rfl
 ·exact (someS 4 (by omega) w x lo p h1 (by simp only [drawB]; omega) h3).mono fun e w' h => h.mono (by decide) (by decide) (by decide)
 ·exact (someS 3 (by omega) w x lo p h1 (by simp only [drawB]; omega) h3).mono fun e w' h => h.mono (by decide) (by decide) (by decide)
 ·exact (someS 5 (by omega) w x lo p h1 (by simp only [drawB]; omega) h3).mono fun e w' h => h.mono (by decide) (by decide) (by decide)
 ·exact (someS 2 (by omega) w x lo p h1 (by simp only [drawB]; omega) h3).mono fun e w' h => h.mono (by decide) (by decide) (by decide)
theorem someTwo (w : World) (x lo p : Nat) (h1 : Rd w x lo p) (h2 : p + 20 ≤ 1073741824) (h3 : x < w.heap.size) :
  Calls Tryz.prog 167 #[.pointer (some ⟨x, 0, none⟩), .int .i64 2] w (SomeOut w x lo p 68 4 20) :=
 someS 2 (by omega) w x lo p h1 (by simp only [drawB]; omega) h3
theorem valid_two {o n : Int} {t : ByteArray} {k : F} (h : Bd 68 4 o n t k) : validD o n t k = true := by
 obtain ⟨h1, h2, h3⟩ := h
 have := F.cnt_le_size k
 simp only [validD, Bool.and_eq_true, decide_eq_true_eq]
 exact ⟨okD_of_wf h2 (by omega), by omega⟩
theorem l1Draw (w : World) (x lo p : Nat) (hrd : Rd w x lo p) (hp : p + 1000 ≤ 1073741824) (hx : x < w.heap.size) :
  Calls Tryz.prog 125 #[.pointer (some ⟨x, 0, none⟩)] w (DrawRes w x lo p 1000) := by
 have hA : ∀ o1 o2, Below w.heap.size w ((w.alloc o1).alloc o2) := fun o1 o2 => ((Below.refl _ _).alloc (Nat.le_refl _) _).alloc (by simp) _
 have HI0 := Lib.hid (fun o1 o2 => rdBelow hrd hx (hA o1 o2))
 have HA := Lib.hid hA
 clear hA hrd
 go_enter Tryz.func125, Tryz.ntmps125
 go_wp2_with fail
 go_loopw [4] (fun i wr => ∃ (j q : Nat), j ≤ 3 ∧ i = .int .i64 j ∧ q ≤ p + 200 * j ∧ Inv w wr x lo q) (fun i _ => 3 - (intOf i).toNat)
 case atStart =>
  refine ⟨0, p, by omega, rfl, by omega, HI0.out _ _, But.of_below (HA.out _ _), ?_, fun i hi => ?_, by simp⟩
  ·exact (ZBox.alloc w _).ext ((Ext.refl _).alloc _)
  ·rw [show w.heap.size + 1 = (w.alloc (.cells #[.int .i64 0, .int .i64 0, .string ⟨#[]⟩, .slice none 0 0] 25)).heap.size by simp, World.cell?_alloc_new]
   have hi' : i < 8 := hi
   match i, hi' with
   | 0, _ => rfl
   | 1, _ => rfl
   | 2, _ => rfl
   | 3, _ => rfl
   | 4, _ => rfl
   | 5, _ => rfl
   | 6, _ => rfl
   | 7, _ => rfl
 case round =>
  obtain ⟨j, q, hj, rfl, hq, hI⟩ := hrel
  by_cases hj3 : j < 3
  ·have hxr : x < wr.heap.size := by have := hI.lt; omega
   have HP := Lib.hid (pick wr x lo q 3 hI.rd (by omega))
   have H0 := Lib.hid hI
   clear hI
   go_wp2_with fail
   refine HP.out.mono ?_
   rintro e1 w1 ⟨r, rfl, hr0, hr1, hrd1, hbut1⟩
   have H1 := Lib.hid (H0.out.step hx hbut1 hrd1)
   have hr : r = 0 ∨ r ≠ 0 := by omega
   clear hrd1 hbut1 hr0 hr1
   rcases hr with rfl | hr
   ·have HP2 := Lib.hid (pick w1 x lo (q + 1) 8 H1.out.rd (by omega))
    go_wp2_with fail
    refine HP2.out.mono ?_
    rintro e2 w2 ⟨r2, rfl, hr0, hr1, hrd2, hbut2⟩
    have H2 := Lib.hid (H1.out.step hx hbut2 hrd2)
    obtain ⟨i, rfl⟩ := Int.eq_ofNat_of_zero_le hr0
    have hi : i < 8 := by omega
    have hi' : i < texts.length := hi
    have c0 := H2.out.tx i hi'
    rw [Nat.zero_add] at c0
    have hmem := List.getElem_mem hi'
    obtain ⟨s, hs⟩ : ∃ s, texts[i] = s := ⟨_, rfl⟩
    rw [hs] at c0 hmem
    have hok := texts_ok s hmem
    obtain ⟨⟨ok, o, n, t, k⟩, hpar⟩ : ∃ r, parR false s.data.toList = r := ⟨_, rfl⟩
    rw [hpar] at hok
    simp only at hok
    subst hok
    have hval := parR_true hpar
    have hss := texts_small s hmem
    have hpc := parseAt s hss w2
    rw [hpar] at hpc
    have HPC := Lib.hid hpc
    have HV := Lib.hid (And.intro hval.1 (show t.size + k.size ≤ 1000 by have := hval.2; simp at this; omega))
    have i1 : (i : Int) < 8 := by omega
    clear hr1 hrd2 hbut2 hmem hs hpar hval hss hpc hr0
    go_wp2_with fail
    refine HPC.out.mono ?_
    rintro e3 w3 ⟨a, cap, fs, rfl, hc, hsub, hfr, hb3⟩
    simp only at hc hsub
    have hI3 := H2.out.below hx hb3
    obtain ⟨⟨z0, z1, z2, z3⟩, ⟨y0, y1, y2, y3⟩, hz⟩ := hI3.z
    have H3 := Lib.hid (And.intro hI3 (And.intro hc (And.intro hsub (hfr.mono (show w.heap.size + 1 ≤ w2.heap.size by have := H2.out.lt; omega)))))
    clear hI3 hc hsub hfr hb3 c0
    go_wp2_with fail
    refine bodyPost_ret (v := .agg #[.int .i64 o, .int .i64 n, .string t, .slice a k.len cap]) (by simp [results, Tryz.results125, go_sem, z0, z1, z2, z3, y0, y1, y2, y3, hz]) rfl ?_
    obtain ⟨hI3, hc, hsub, hfr⟩ := H3.out
    refine DrawRes.alloc (end_draw (w1 := w3) (q := q + 1 + 1) hI3 hx hc HV.out.2 HV.out.1 hsub hfr (by omega) ?_) _
    repeat (first | exact Touch.refl _ _ _ | refine Touch.setCell ?_ (by simp) (by simp) _)
   ·have hrb : (r == 0) = false := beq_eq_false_iff_ne.2 hr
    have hA1 : ∀ ob, Below w1.heap.size w1 (w1.alloc ob) := fun ob => (Below.refl _ _).alloc (Nat.le_refl _) _
    have HN := Lib.hid (Draw.num (w1.alloc (.cells #[.int .i64 4, .int .i64 3, .int .i64 5, .int .i64 2] 3)) x lo (q + 1) w1.heap.size 0 4 [4, 3, 5, 2] (rdBelow H1.out.rd (by have := H1.out.lt; omega) (hA1 _)) (by omega) (fun i hi => by
     rw [World.cell?_alloc_new]
     have hi' : i < 4 := hi
     match i, hi' with
     | 0, _ => rfl
     | 1, _ => rfl
     | 2, _ => rfl
     | 3, _ => rfl) (by decide) (by decide) (by decide) (by simp) (by have := H1.out.lt; omega))
    clear hr hA1
    go_wp2_with fail
    refine HN.out.mono ?_
    rintro e2 w2 ⟨r2, hmem, rfl, hrd2, hbutn⟩
    have hbut2 : But w1.heap.size x w1 w2 := ((But.refl _ _ _).alloc (Nat.le_refl _) _).trans (hbutn.mono (by simp))
    have H2 := Lib.hid (H1.out.step hx hbut2 hrd2)
    have HS := Lib.hid (someAny r2 hmem w2 x lo (q + 1 + 1) H2.out.rd (by omega) (by have := H2.out.lt; omega))
    clear hmem hrd2 hbutn hbut2
    go_wp2_with fail
    refine HS.out.mono ?_
    rintro e3 w3 ⟨v, q', rfl, ⟨o, n, t, k, a, cap, fs, rfl, hc, hbd, hsub, hfr⟩, hrd3, hq', hbut3⟩
    have H3 := Lib.hid (H2.out.step hx hbut3 hrd3)
    have hcs := F.len_le_size k
    have hls := hbd.1
    have hft : k.Fits := fits_of_size (m := 1000) (by unfold maxLen; omega) k (by omega)
    have HDV := Lib.hid (fun (W : World) (hW : Below w3.heap.size w3 W) => SpecC.docValid W o n t k a cap fs (hsub.below hfr.lt hW) (fun c hc => Nat.lt_of_lt_of_le (hfr.lt c hc) hW.size) hc (by omega) hft (by unfold maxLen; omega))
    have hct := fun (W : World) (hW : Below w3.heap.size w3 W) => SpecC.l1Count W o n t k a cap fs (hsub.below hfr.lt hW) (fun c hc => Nat.lt_of_lt_of_le (hfr.lt c hc) hW.size) hc (by omega)
    obtain ⟨z, hz⟩ : ∃ z : Int, ((1 + k.cnt : Nat) : Int) = z := ⟨_, rfl⟩
    rw [hz] at hct
    have HCT := Lib.hid hct
    clear hct hz
    have H4 := Lib.hid (And.intro hc (And.intro (show t.size + k.size ≤ 1000 by omega) (And.intro hsub (hfr.mono (show w.heap.size + 1 ≤ w2.heap.size by have := H2.out.lt; omega)))))
    have hA3 := Lib.hid (show ∀ ob, Below w3.heap.size w3 (w3.alloc ob) from fun ob => (Below.refl _ _).alloc (Nat.le_refl _) _)
    clear hc hbd hsub hfr hrd3 hbut3 hcs hls hft
    go_wp2_with fail
    refine (HDV.out _ (hA3.out _)).mono ?_
    rintro e4 w4 ⟨rfl, hb4⟩
    have hbx : ∀ i u, (#[Value.int .i64 o, .int .i64 n, .string t, .slice a k.len cap] : Array Value)[i]? = some u → w4.cell? ⟨w3.heap.size, i, none⟩ = some u := fun i u hu => (hb4.cell (p := ⟨w3.heap.size, i, none⟩) (by simp)).trans (by rw [World.cell?_alloc_new]; exact hu)
    have b0 := hbx 0 _ rfl
    have b1 := hbx 1 _ rfl
    have b2 := hbx 2 _ rfl
    have b3 := hbx 3 _ rfl
    have hb34 : Below w3.heap.size w3 w4 := (hA3.out _).trans (hb4.mono (hA3.out _).size)
    have hlt4 : w3.heap.size < w4.heap.size := by have := hb4.size; simp at this; omega
    have HB34 := Lib.hid (And.intro hb34 hlt4)
    clear hbx hb4 hb34 hlt4
    cases hvd : validD o n t k with
    | false =>
      clear hvd
      go_wp2_with fail
      go_roundw
      case rel => exact ⟨j + 1, q', by omega, by go_num, by omega, H3.out.below hx HB34.out.1⟩
      case measure => simp [intOf]; omega
    | true =>
      have HVD := Lib.hid hvd
      clear hvd
      go_wp2_with fail
      refine (HCT.out _ HB34.out.1).mono ?_
      rintro e5 w5 ⟨rfl, hb5⟩
      have hx0 := (hb5.cell (p := ⟨w3.heap.size, 0, none⟩) HB34.out.2).trans b0
      have hx1 := (hb5.cell (p := ⟨w3.heap.size, 1, none⟩) HB34.out.2).trans b1
      have hx2 := (hb5.cell (p := ⟨w3.heap.size, 2, none⟩) HB34.out.2).trans b2
      have hx3 := (hb5.cell (p := ⟨w3.heap.size, 3, none⟩) HB34.out.2).trans b3
      have hb35 : Below w3.heap.size w3 w5 := HB34.out.1.trans (hb5.mono HB34.out.1.size)
      have HB35 := Lib.hid hb35
      have hI5 := H3.out.below hx hb35
      obtain ⟨⟨z0, z1, z2, z3⟩, ⟨y0, y1, y2, y3⟩, hz⟩ := hI5.z
      have HI5 := Lib.hid hI5
      clear hI5 hb35 hb5 b0 b1 b2 b3
      by_cases hcnt : z ≤ 40
      ·go_wp2_with fail
       refine bodyPost_ret (v := .agg #[.int .i64 o, .int .i64 n, .string t, .slice a k.len cap]) (by simp [results, Tryz.results125, go_sem, z0, z1, z2, z3, y0, y1, y2, y3, hz]) rfl ?_
       obtain ⟨hc, hsz, hsub, hfr⟩ := H4.out
       have hfr3 : Fresh (w.heap.size + 1) w3 fs := hfr
       refine end_draw (w1 := w5) (q := q') HI5.out hx hc hsz HVD.out (hsub.below hfr3.lt HB35.out) (hfr3.below hfr3.lt HB35.out) (by omega) ?_
       repeat (first | exact Touch.refl _ _ _ | refine Touch.setCell ?_ (by simp) (by simp) _)
      ·clear z0 z1 z2 z3 y0 y1 y2 y3 hz hx0 hx1 hx2 hx3
       go_wp2_with fail
       go_roundw
       case rel => exact ⟨j + 1, q', by omega, by go_num, by omega, HI5.out⟩
       case measure => simp [intOf]; omega
  ·have HS := Lib.hid (someTwo wr x lo q hI.rd (by omega) (by have := hI.lt; omega))
   have H0 := Lib.hid hI
   clear hI
   go_wp2_with fail
   refine HS.out.mono ?_
   rintro e3 w3 ⟨v, q', rfl, ⟨o, n, t, k, a, cap, fs, rfl, hc, hbd, hsub, hfr⟩, hrd3, hq', hbut3⟩
   have hI3 := H0.out.step hx hbut3 hrd3
   obtain ⟨⟨z0, z1, z2, z3⟩, ⟨y0, y1, y2, y3⟩, hz⟩ := hI3.z
   have HV := Lib.hid (valid_two hbd)
   have H4 := Lib.hid (And.intro hI3 (And.intro hc (And.intro (show t.size + k.size ≤ 1000 by have := hbd.1; omega) (And.intro hsub (hfr.mono (show w.heap.size + 1 ≤ wr.heap.size by have := H0.out.lt; omega))))))
   clear hI3 hc hbd hsub hfr hrd3 hbut3
   go_wp2_with fail
   refine bodyPost_ret (v := .agg #[.int .i64 o, .int .i64 n, .string t, .slice a k.len cap]) (by simp [results, Tryz.results125, go_sem, z0, z1, z2, z3, y0, y1, y2, y3, hz]) rfl ?_
   obtain ⟨hI3, hc, hsz, hsub, hfr⟩ := H4.out
   refine end_draw (w1 := w3) (q := q') hI3 hx hc hsz HV.out hsub hfr (by omega) ?_
   repeat (first | exact Touch.refl _ _ _ | refine Touch.setCell ?_ (by simp) (by simp) _)
end Go.Proofs.YtjcaiecapapceaaGreat.DrD

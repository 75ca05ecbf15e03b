import Derived.Test.YtcpbhkgdeaanmaaPl
import Derived.Test.YtcpbhkgdeaanmaaChecked
import Derived.Outline
import Derived.StillTailTactics
import Derived.Test.YtcpbhkgdeaanmaaMarkT
import Derived.Deep.RegionHeld3
import Derived.Test.YtcpbhkgdeaanmaaText
import Derived.Deep.RegionLaw
import Derived.Deep.AppendLies
/-
  What the law's own helpers that count, copy and compare layouts come to.
-/
set_option linter.unusedVariables false
set_option linter.unusedSimpArgs false
namespace Go.Proofs.Ytcpbhkgdeaanmaa.LayL
open Go.RowKit

theorem ret_int {k : IntKind} {a b : Int} (h : a = b) : Ending.returned (.int k a) = .returned (.int k b) := by rw [h]
theorem ret_bool {a b : Bool} (h : a = b) : Ending.returned (.bool a) = .returned (.bool b) := by rw [h]

theorem info : (Try.prog.info? 84).map (fun i => (i.zero, i.size, i.bytes)) = some (some (.agg #[.int .i64 0, .string ⟨#[]⟩]), 2, 24) := by kernel_rfl

def Mid (w : World) (l : List (Int × ByteArray)) (m k : Nat) (wr : World) : Prop := LayAt wr (l.take k) w.heap.size 0 ∧ wr.there w.heap.size 0 (m * 2) ∧ (w.heap.size < wr.heap.size ∧ ∀ o, wr.frozen? ⟨w.heap.size, o, none⟩ = false) ∧ Below w.heap.size w wr

def sameR (n : Int) (t : ByteArray) (n' : Int) (t' : ByteArray) : Bool := decide ((n, t) = (n', t'))
theorem same_step {l l' : List (Int × ByteArray)} {k : Nat} (h : k < l.length) (h' : k < l'.length) (e : l.take k = l'.take k) (e' : l[k] = l'[k]) : l.take (k + 1) = l'.take (k + 1) := by
  rw [L.take_succ h, L.take_succ h', e, e']

end Go.Proofs.Ytcpbhkgdeaanmaa.LayL

/-
  What the law's own helpers that write marks into a layout, and look for them, come to.
-/
set_option linter.unusedVariables false
set_option linter.unusedSimpArgs false
namespace Go.Proofs.Ytcpbhkgdeaanmaa.LayM
open Go.RowKit P1 MarkT

theorem ret_int {k : IntKind} {a b : Int} (h : a = b) : Ending.returned (.int k a) = .returned (.int k b) := by rw [h]

theorem markTextI (x : Int) (k : Nat) (hx : x = (k : Int)) (w : World) (h0 : 1 ≤ k) (h : k ≤ 1099511627776) :
    Calls Try.prog 111 #[.int .i64 x] w fun e w' => e = .returned (.string (mt k)) ∧ Below w.heap.size w w' := by
  subst hx; exact markText k w h0 h

def MkOut (w : World) (a : Option Addr) (l : List (Int × ByteArray)) (fs : List Nat) (m : Nat) (e : Ending) (w' : World) : Prop := e = .returned (.int .i64 ((m + 2 * l.length : Nat) : Int)) ∧ LaySub w' a (L.mk l m) fs ∧ Only fs w w'

end Go.Proofs.Ytcpbhkgdeaanmaa.LayM

/-
  What LayoutValid of the program and of the model come to.
-/
set_option linter.unusedVariables false
set_option linter.unusedSimpArgs false
namespace Go.Proofs.Ytcpbhkgdeaanmaa.LayV
open Go.RowKit P1 TextV
end Go.Proofs.Ytcpbhkgdeaanmaa.LayV

/-
  What LayoutValid of the model comes to.
-/
set_option linter.unusedVariables false
set_option linter.unusedSimpArgs false
namespace Go.Proofs.Ytcpbhkgdeaanmaa.LayV
open Go.RowKit P1 TextV
end Go.Proofs.Ytcpbhkgdeaanmaa.LayV

/-
  What NestLayout of the program and of the model come to.
-/
set_option linter.unusedVariables false
set_option linter.unusedSimpArgs false
namespace Go.Proofs.Ytcpbhkgdeaanmaa.LayN
open Go.RowKit P1 TextV LayL LayV LayM
def LayRes (w : World) (r : List (Int × ByteArray) × Bool) (e : Ending) (w' : World) : Prop := ∃ (a : Option Addr) (cap : Nat) (fs : List Nat), e = .returned (.tuple #[.slice a r.1.length cap, .bool r.2]) ∧ r.1.length ≤ cap ∧ LaySub w' a r.1 fs ∧ Fresh w.heap.size w' fs ∧ Below w.heap.size w w'

theorem clone (s : ByteArray) (w : World) (h : s.size ≤ 281474976710656) : Calls Try.prog 117 #[.string s] w fun e w' => e = .returned (.string s) ∧ Below w.heap.size w w' := by
  go_enter Try.func117, Try.ntmps117
  go_wp2_with fail
  refine (Try.stringslite_Clone s _ h).mono ?_
  rintro e w' ⟨rfl, hb⟩
  go_wp2_with fail
  go_ret
  exact ⟨rfl, hb⟩

def Box2 (w : World) (b : Nat) (n : Int) (t : ByteArray) : Prop := w.cell? ⟨b, 0, none⟩ = some (.int .i64 n) ∧ w.cell? ⟨b, 1, none⟩ = some (.string t)
theorem Box2.ext {w w' : World} {b : Nat} {n : Int} {t : ByteArray} (h : Box2 w b n t) (hb : b < w.heap.size) (k : Below w.heap.size w w') : Box2 w' b n t :=
  ⟨(k.cell (p := ⟨b, 0, none⟩) hb).trans h.1, (k.cell (p := ⟨b, 1, none⟩) hb).trans h.2⟩
theorem Box2.new (w : World) (n : Int) (t : ByteArray) (T : TypeId) : Box2 (w.alloc (.cells #[.int .i64 n, .string t] T)) w.heap.size n t := by
  refine ⟨?_, ?_⟩ <;> (rw [World.cell?_alloc_new]; rfl)

theorem lv_small {l : List (Int × ByteArray)} (h : lv l = true) : ∀ k, (h : k < l.length) → l[k].2.size ≤ 4194304 := fun k hk => by
  have := (rv_len (lv_get h hk)).2.2; omega

end Go.Proofs.Ytcpbhkgdeaanmaa.LayN

/-
  What NestLayout of the program and of the model come to: the model's, and the results.
-/
set_option linter.unusedVariables false
set_option linter.unusedSimpArgs false
namespace Go.Proofs.Ytcpbhkgdeaanmaa.LayN
open Go.RowKit P1 TextV LayL LayV LayM
end Go.Proofs.Ytcpbhkgdeaanmaa.LayN

/-
  What a law's walk carries of layouts.
-/
set_option linter.unusedVariables false
set_option linter.unusedSimpArgs false
namespace Go.Proofs.Ytcpbhkgdeaanmaa.LayN
open Go.RowKit P1 TextV LayL LayV LayM

def LayOut (w : World) (X : List (Int × ByteArray)) (ok : Bool) (e : Ending) (w' : World) : Prop := ∃ (a : Option Addr) (cap : Nat) (fs : List Nat), e = .returned (.tuple #[.slice a X.length cap, .bool ok]) ∧ X.length ≤ cap ∧ LaySub w' a X fs ∧ Fresh w.heap.size w' fs ∧ Below w.heap.size w w'
theorem LayRes.out {w w' : World} {X : List (Int × ByteArray)} {ok : Bool} {e : Ending} (h : LayRes w (X, ok) e w') : LayOut w X ok e w' := h
structure Lies (w : World) (a : Option Addr) (l : List (Int × ByteArray)) (fs : List Nat) (lo hi : Nat) : Prop where
  sub : LaySub w a l fs
  fresh : Fresh lo w fs
  lt : ∀ c ∈ fs, c < hi
theorem Lies.new {w : World} {a : Option Addr} {l : List (Int × ByteArray)} {fs : List Nat} {lo : Nat} (h : LaySub w a l fs) (f : Fresh lo w fs) : Lies w a l fs lo w.heap.size := ⟨h, f, f.lt⟩
theorem Lies.below {w w' : World} {a : Option Addr} {l : List (Int × ByteArray)} {fs : List Nat} {lo hi : Nat} (h : Lies w a l fs lo hi) (k : Below w.heap.size w w') : Lies w' a l fs lo hi :=
  ⟨h.sub.below h.sub.lt k, h.fresh.below h.fresh.lt k, h.lt⟩
theorem Lies.only {gs : List Nat} {w w' : World} {a a' : Option Addr} {l l' : List (Int × ByteArray)} {fs : List Nat} {lo hi lo' hi' : Nat} (h : Lies w a l fs lo hi) (k : Only gs w w') (g : Lies w a' l' gs lo' hi') (hh : hi ≤ lo' ∨ hi' ≤ lo) : Lies w' a l fs lo hi :=
  ⟨h.sub.only k (fun c hc hg => by have h1 := h.lt c hc; have h2 := (h.fresh.2 c hc).1; have h3 := g.lt c hg; have h4 := (g.fresh.2 c hg).1; omega), k.fresh h.fresh, h.lt⟩
theorem Lies.mark {w w' : World} {a : Option Addr} {l l' : List (Int × ByteArray)} {fs : List Nat} {lo hi : Nat} (h : Lies w a l fs lo hi) (k : Only fs w w') (hs : LaySub w' a l' fs) : Lies w' a l' fs lo hi := ⟨hs, k.fresh h.fresh, h.lt⟩
theorem Lies.ext {w a b : World} {ad : Option Addr} {l : List (Int × ByteArray)} {fs : List Nat} {lo hi : Nat} (h : Lies a ad l fs lo hi) (e : Ext w a) (k : Only fs a b) (hl : w.heap.size ≤ lo) : Ext w b := e.only k (fun c hc => Nat.le_trans hl (h.fresh.2 c hc).1)

end Go.Proofs.Ytcpbhkgdeaanmaa.LayN


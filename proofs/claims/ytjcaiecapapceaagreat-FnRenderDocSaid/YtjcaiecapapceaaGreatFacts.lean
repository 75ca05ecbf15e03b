import Derived.Test.YtjcaiecapapceaaGreatRows
import Derived.JoinedOf
import Derived.ProofKit
/-
 Closed facts of the translated program that every claim of this seat owes, each in little memory: the head's long word is turned into signs by a lemma, and then not looked at again.
-/
set_option linter.unusedVariables false
set_option linter.unusedSimpArgs false
set_option maxRecDepth 100000
namespace Go.Proofs.YtjcaiecapapceaaGreat.Facts
open Go
theorem cons_of {α : Type} {l : List α} {a : α} (h : l.head? = some a) : ∃ r, l = a :: r := by
 cases l with
 | nil => cases h
 | cons x r => exact ⟨r, by cases h; rfl⟩
theorem strip_cut (r : List (List Char)) : stripLifts liftWords ("cut".toList :: r) = ([], "cut".toList :: r) := by simp [liftWords, stripLifts]
theorem mayEnter_of {P : Program} {r : List (List Char)} (h : behindMainWord (wordsSigns P.initOrder.toList) = "cut".toList :: r) (h1 : P.laysLater = false) (h2 : P.bearsReflect = false) (h3 : P.doorFits [] = true) : P.mayEnter = true := by
 unfold Program.mayEnter
 rw [h]
 simp only [strip_cut, h1, h2, h3]
 simp
theorem lifts_of {P : Program} {r : List (List Char)} (h : behindMainWord (wordsSigns P.initOrder.toList) = "cut".toList :: r) : P.liftsFinal = false := by
 unfold Program.liftsFinal Program.headLifts
 rw [h, strip_cut]
 simp
theorem make_of {P : Program} {r : List (List Char)} (h : behindMainWord (wordsSigns P.initOrder.toList) = "cut".toList :: r) : P.make = some .cut := by
 unfold Program.make
 rw [h]
 rfl
theorem cut_head : ∃ r, behindMainWord (wordsSigns Tryz.prog.initOrder.toList) = "cut".toList :: r := by
 apply cons_of
 rw [show Tryz.prog.initOrder = String.ofList _ from rfl, String.toList_ofList]
 kernel_rfl
theorem lays : Tryz.prog.laysLater = false := by kernel_rfl
theorem bears : Tryz.prog.bearsReflect = false := by kernel_rfl
theorem doors : Tryz.prog.doorFits [] = true := by kernel_rfl
theorem mayEnter : Tryz.prog.mayEnter = true := by
 obtain ⟨r, h⟩ := cut_head
 exact mayEnter_of h lays bears doors
theorem lifts : Tryz.prog.liftsFinal = false := by
 obtain ⟨r, h⟩ := cut_head
 exact lifts_of h
theorem made : Tryz.prog.make = some .cut := by
 obtain ⟨r, h⟩ := cut_head
 exact make_of h
theorem own : ownKnob Tryz.prog.godebug = none := by kernel_rfl
theorem laidOut : laidOutB Tryz.prog = true := by kernel_rfl
theorem rowed : mapsRowed Tryz.prog = true := by kernel_rfl
theorem heard : Tryz.prog.stopsHeard = true := by kernel_rfl
theorem plain : Tryz.prog.plainKeys = false := by kernel_rfl
theorem closed_of {f : FuncId} {fn : Func} {s : ChangeSpec} {c : OpenClaim} (hplain : c.plainKeys = false) (hlift : c.lifted = false) (hmake : c.make = .cut) (hshort : c.shortTexts = none)
  (h0 : c.wf (OpenSpec.ofChange s) = true)
  (h3 : fn.params.all (Tryz.prog.readableRec ·) = true)
  (h4 : namedTie Tryz.prog c.named s.vars = true)
  (h5 : (c.stops == []) = true)
  (h6 : (Tryz.prog.stops == []) = true)
  (h7 : (c.knobs == []) = true)
  (h8 : (Tryz.prog.stopKnobs == []) = true)
  (h9 : (c.inPlace == Tryz.prog.inPlace f) = true)
  (h10 : (c.unfollowed == Tryz.prog.unfollowed f) = true)
  (h11 : (c.recurses == Tryz.prog.recurses f) = true)
  (h12 : (c.named == Tryz.prog.varsNamed f) = true)
  (h13 : (c.maps == (fn.params.toList ++ s.plain.varTypes Tryz.prog).any (Tryz.prog.mapsRec ·)) = true)
  (h14 : (c.ifaces == (fn.params.toList ++ s.plain.varTypes Tryz.prog).any (Tryz.prog.ifacesRec ·)) = true)
  (h15 : (c.mapsOut == Tryz.prog.mapsAmong fn.resultTypes.toList) = true)
  (h16 : (c.loops == (fn.params.toList ++ s.plain.varTypes Tryz.prog).any (Tryz.prog.loopsFrom ·)) = true)
  (h17 : (c.wideKeys == (fn.params.toList ++ s.plain.varTypes Tryz.prog ++ fn.resultTypes.toList).any (Tryz.prog.wideKeysFrom ·)) = true)
  (h18 : s.vars.all (Tryz.prog.varReadable ·) = true)
  (h19 : fn.resultTypes.all (fun t => Tryz.prog.readableRec t && decide (t < Tryz.prog.types.size)) = true)
  (h20 : (c.ifacesOut == fn.resultTypes.toList.any (Tryz.prog.ifacesRec ·)) = true)
  (h21 : (c.loopsOut == fn.resultTypes.toList.any (Tryz.prog.loopsFrom ·)) = true)
  (h28 : c.domain.isEmpty = true) (h28b : c.kinds = [])
  (h29 : (c.pinned == c.pinnedBy) = true)
  (h30 : (c.veiled == (fn.params.toList ++ s.plain.varTypes Tryz.prog ++ fn.resultTypes.toList).any (Tryz.prog.veiledRec ·)) = true)
  (h31 : c.veiledFits Tryz.prog fn.params.toList (fn.params.toList ++ s.plain.varTypes Tryz.prog ++ fn.resultTypes.toList) = true) :
  joinedFacts Tryz.prog f fn s c = true := by
 unfold joinedFacts
 rw [h0, laidOut, rowed, h3, h4, h5, h6, h7, h8, h9, h10, h11, h12, h13, h14, h15, h16, h17, h18, h19, h20, h21, hplain, plain, hshort, heard, mayEnter, hlift, lifts, made, hmake, h28, h28b, h29, h30, h31]
 rfl
end Go.Proofs.YtjcaiecapapceaaGreat.Facts

import Derived.Test.YtmkibpimjaofgaaWo2
import Derived.Test.YtmkibpimjaofgaaLdX
import Derived.Test.YtmkibpimjaofgaaDocC
/-
  A document without groups has one choice: its open layout.
-/
set_option linter.unusedVariables false
set_option linter.unusedSimpArgs false
namespace Go.Proofs.Ytmkibpimjaofgaa.Nf
open P1 ChP CatD CntC OpenR It

theorem wo_has {o n o' n' : Int} {t t' : ByteArray} {k k' : F} (h : validD o n t k = true) (hv : validD o' n' t' k' = true) (hc : ctD o' k' = 1) (hop : openRes o' n' t' k' = openRes o n t k) :
    ChS.ccN o' n' t' k' = 1 ∧ manyD o' n' t' k' = true ∧ Ls.inL (laysD o' n' t' k') (openRes o n t k).1 = true := by
  have hm : manyD o' n' t' k' = true := by unfold manyD; rw [hv, hc]; rfl
  have hto : toldD o' n' t' k' = true := by unfold toldD; rw [hm, hc]; rfl
  refine ⟨by unfold ChS.ccN; rw [if_pos hm, hc]; rfl, hm, ?_⟩
  have hlast := pick_last 40 o' n' t' k' (valid_open hv).1
  rw [hc] at hlast
  rw [← hop, openRes_yes hv, lays_yes hto, hc]
  refine Ls.inL_iff.2 ?_
  show openD o' n' t' k' ∈ upto (fun i => pkD o' n' t' k' i) 1
  rw [← hlast]
  simp [upto]

theorem implHas {w : World} {n : Int} {t : ByteArray} {k : F} {a : Option Addr} {cap : Nat} {fs : List Nat} (h : DocK.Doc0 w n t k a cap fs) (o : Int) {X : Ls.Lay} {al : Option Addr} {cl : Nat} (hl : DocO.LayIs w X al cl) : Calls Try.prog 45 #[.agg #[.int .i64 o, .int .i64 n, .string t, .slice a k.len cap], .slice al X.length cl] w fun e w' => e = .returned (.bool (Ls.inL (laysD o n t k) X)) ∧ Ext w w' := by
  obtain ⟨fl, hs⟩ := hl.sub
  exact implHasLayout w o n t k a cap fs h.sub h.ok h.cap_le (by have := h.size; omega) h.fits h.tfit X al cl fl hs hl.cap_le hl.fits.2

end Go.Proofs.Ytmkibpimjaofgaa.Nf


import Derived.Test.YtmkibpimjaofgaaWo1
import Derived.Test.YtmkibpimjaofgaaWoS
import Derived.Test.YtmkibpimjaofgaaNfB
import Derived.Test.YtmkibpimjaofgaaCntC
import Derived.Test.YtmkibpimjaofgaaOpX
/-
  What the laws of WithoutGroups and DropGroups need of a document.
-/
set_option linter.unusedVariables false
set_option linter.unusedSimpArgs false
namespace Go.Proofs.Ytmkibpimjaofgaa.Nf
open P1 ChP CatD CntC OpenR

theorem ops8 (d : D) : cntF (fun x => x == 8) (consD d .nil) = opsD 8 d.1 d.2.2.2 := rfl
theorem wo_all {o n : Int} {t : ByteArray} {k : F} (h : (woRes o n t k).1 = true) :
    validD o n t k = true ∧ validD (woRes o n t k).2.1 (woRes o n t k).2.2.1 (woRes o n t k).2.2.2.1 (woRes o n t k).2.2.2.2 = true ∧
    woRes (woRes o n t k).2.1 (woRes o n t k).2.2.1 (woRes o n t k).2.2.2.1 (woRes o n t k).2.2.2.2 = woRes o n t k ∧
    opsD 8 (woRes o n t k).2.1 (woRes o n t k).2.2.2.2 = 0 ∧ ctD (woRes o n t k).2.1 (woRes o n t k).2.2.2.2 = 1 ∧
    openRes (woRes o n t k).2.1 (woRes o n t k).2.2.1 (woRes o n t k).2.2.2.1 (woRes o n t k).2.2.2.2 = openRes o n t k ∧
    (1 + (woRes o n t k).2.2.2.2.cnt) + opsD 8 o k = 1 + k.cnt := by
  obtain ⟨hv, hv', _⟩ := ch_ok h
  have e := wo_yes hv
  have hn := (valid_nice hv).1
  have hag := wo_again hn
  obtain ⟨_, h2, _, h4⟩ := wo_doc hn
  have hop := wo_openD hn
  have hct := wo_ct hn
  rw [e]
  rw [ops8] at h2 h4
  have hw : chD woR o n t k = woD (o, n, t, k) := rfl
  have hv2 := wo_valid hv
  rw [hw] at hv2 ⊢
  obtain ⟨x, hx⟩ : ∃ x, woD (o, n, t, k) = x := ⟨_, rfl⟩
  rw [hx] at hag h2 h4 hop hct hv2 ⊢
  refine ⟨hv, hv2, ?_, h4, hct, ?_, ?_⟩
  · rw [wo_yes hv2]
    show (true, woD x) = _
    rw [hag]
  · rw [openRes_yes hv2, openRes_yes hv]
    show (openD x.1 x.2.1 x.2.2.1 x.2.2.2, true) = _
    rw [hop]
  · have : ((o, n, t, k) : D).2.2.2.cnt = k.cnt := rfl
    show 1 + x.2.2.2.cnt + opsD 8 o k = 1 + k.cnt
    have h2' : x.2.2.2.cnt + opsD 8 o k = k.cnt := h2
    omega

end Go.Proofs.Ytmkibpimjaofgaa.Nf


/-
  A valid text is that of a document, in quotes: the law FnTextValid returns true for whatever draws, and its argument reads as it did. No condition of ours.
-/
import Derived.Test.YtpejdbgjcjehjaaLawKit
import Derived.Test.YtpejdbgjcjehjaaParseD
import Derived.Test.YtpejdbgjcjehjaaQuote
import Derived.Test.YtpejdbgjcjehjaaDrawT
import Derived.Test.YtpejdbgjcjehjaaText
import Derived.Test.YtpejdbgjcjehjaaFacts
import Derived.Test.YtpejdbgjcjehjaaRows
import Derived.HandedShaped
import Derived.ProofKit
set_option linter.unusedVariables false
set_option linter.unusedSimpArgs false
namespace Go.Proofs.Ytpejdbgjcjehjaa.lawQuote
open Go.ChangeShapes Go.WideShapes Go.ChangeAt Go.RowKit P1 CatD ParseD ReadDocs TextV Draw6

theorem parR_bad {l : List UInt8} (h : tv l = false) : parR true (34 :: (l ++ [34])) = (false, zeroD) := by
  unfold parR; rw [parse_quote, h]; simp
theorem parR_good {l : List UInt8} (h : tv l = true) : parR true (34 :: (l ++ [34])) = (true, (2, 0, ⟨l.toArray⟩, .nil)) := by
  unfold parR; rw [parse_quote, h]; simp

theorem quoted (l : List UInt8) : (⟨#[34]⟩ ++ ⟨l.toArray⟩ ++ ⟨#[34]⟩ : ByteArray) = ⟨(34 :: (l ++ [34])).toArray⟩ := by
  apply ByteArray.ext
  rw [ByteArray.data_append, ByteArray.data_append]
  apply Array.ext'
  simp

theorem G0_below {w w' : World} (h : G0 w) (e : Below w.heap.size w w') : G0 w' := by
  have h0 := h.lt
  obtain ⟨m, h⟩ := h
  exact ⟨m, (Below.cell (p := ⟨0, 0, none⟩) e h0).trans h⟩

theorem bytes_of {W : World} {a : Addr} {l : Nat} {zs : List Int} (hl : l ≤ zs.length) (hc : ∀ i, i < zs.length → W.cell? (a.add i) = some (.int .u8 (zs.getD i 0))) (hz : ∀ n ∈ zs, (Lit.int .u8 n).wf = true) : Bytes W (some a) l := by
  intro h0
  have hsp : a.spot = none := by
    have h := hc 0 (by omega)
    rw [show a.add 0 = a from rfl] at h
    unfold World.cell? at h
    split at h
    · split at h
      · cases h
      · rename_i hs; simpa using hs
    · cases h
  obtain ⟨b, off, sp⟩ := a
  obtain rfl : sp = none := hsp
  refine ⟨b, off, rfl, World.block_lt_of_cell? _ _ (hc 0 (by omega)), fun i hi => ?_⟩
  have hi' : i < zs.length := by omega
  have h2 := hz (zs.getD i 0) (by rw [List.getD_eq_getElem?_getD, List.getElem?_eq_getElem hi']; exact List.getElem_mem hi')
  have h1 : IntKind.u8.min = 0 := rfl
  have h3 : IntKind.u8.max = 255 := rfl
  simp only [Lit.wf, Bool.and_eq_true, decide_eq_true_eq] at h2
  refine ⟨(zs.getD i 0).toNat, by omega, ?_⟩
  have e : ((zs.getD i 0).toNat : Int) = zs.getD i 0 := by omega
  rw [e]
  have ea : ((⟨b, off, none⟩ : Addr).add i) = ⟨b, off + i, none⟩ := by
    unfold Addr.add
    split
    · rename_i h0; subst h0; rfl
    · rfl
  rw [← ea]
  exact hc i hi'

set_option maxRecDepth 100000 in
set_option maxHeartbeats 3200000 in
theorem walk_good (w : World) (a : Option Addr) (len cap : Nat) (hb : Bytes w a len) (hlc : len ≤ cap) (hcm : cap ≤ maxLen) (hl : len ≤ 1048576) (hg : G0 w) :
    Calls Try.prog 6 #[.slice a len cap] w fun e w' => e = .returned (.bool true) ∧ Below w.heap.size w w' := by
  have HD := Lib.hid (DrawT.drawTextValid w a len cap hb hlc hcm)
  have HG := Lib.hid hg
  clear hb hg
  go_enter Try.func6, Try.ntmps6
  go_wp2_with fail
  refine HD.out.mono ?_
  rintro e1 w1 ⟨s, rfl, hs, hb1⟩
  have H1 := Lib.hid hb1
  clear hb1
  obtain ⟨l, rfl⟩ : ∃ l : List UInt8, s = ⟨l.toArray⟩ := ⟨s.data.toList, by cases s; simp⟩
  have hq := quoted l
  have hln : l.length ≤ 100 := by rw [strSize] at hs; exact hs
  have hT := fun w => implTextValid ⟨l.toArray⟩ (by rw [strSize]; unfold maxLen; omega) w
  have hS := fun w => specTextValid ⟨l.toArray⟩ (by rw [strSize]; unfold maxLen; omega) w
  have hP := fun w h => implParseDoc w (34 :: (l ++ [34])) (by simp; omega) h
  rw [show (⟨l.toArray⟩ : ByteArray).data.toList = l by simp] at hT hS
  have z1 : (⟨l.toArray⟩ : ByteArray).size = l.length := strSize l
  have z2 : (⟨#[34]⟩ ++ ⟨l.toArray⟩ : ByteArray).size = 1 + l.length := by rw [ByteArray.size_append, z1]; rfl
  cases hv : tv l with
  | false =>
    rw [hv] at hT hS
    rw [parR_bad hv] at hP
    have HT := Lib.hid hT
    have HS := Lib.hid hS
    have HP := Lib.hid hP
    clear hT hS hP hv
    go_wp2_with fail
    refine (HT.out _).mono ?_
    rintro e2 w2 ⟨rfl, rfl⟩
    go_wp2_with fail
    refine (HP.out _ (G0_below HG.out H1.out)).mono ?_
    rintro e3 w3 ⟨a3, c3, f3, rfl, hc3, hs3, hf3, hb3⟩
    simp only [zeroD, F.len]
    have H3 := Lib.hid (H1.out.trans (hb3.mono H1.out.size))
    clear hc3 hs3 hf3 hb3
    go_wp2_with fail
    refine (HS.out _).mono ?_
    rintro e4 w4 ⟨rfl, rfl⟩
    go_wp2_with fail
    go_ret
    have := H3.out.size
    refine ⟨rfl, ?_⟩
    first
      | exact H3.out.alloc (by omega) _
      | exact H3.out
  | true =>
    rw [hv] at hT hS
    rw [parR_good hv] at hP
    have HT := Lib.hid hT
    have HS := Lib.hid hS
    have HP := Lib.hid hP
    clear hT hS hP hv
    go_wp2_with fail
    refine (HT.out _).mono ?_
    rintro e2 w2 ⟨rfl, rfl⟩
    go_wp2_with fail
    refine (HP.out _ (G0_below HG.out H1.out)).mono ?_
    rintro e3 w3 ⟨a3, c3, f3, rfl, hc3, hs3, hf3, hb3⟩
    simp only [F.len]
    have H3 := Lib.hid (H1.out.trans (hb3.mono H1.out.size))
    clear hc3 hs3 hf3 hb3
    go_wp2_with fail
    refine (HS.out _).mono ?_
    rintro e4 w4 ⟨rfl, rfl⟩
    go_wp2_with fail
    go_ret
    have := H3.out.size
    refine ⟨rfl, ?_⟩
    first
      | exact H3.out.alloc (by omega) _
      | exact H3.out

set_option maxHeartbeats 800000 in
theorem walk_big (w : World) (a : Option Addr) (len cap : Nat) (hlc : len ≤ cap) (hcm : cap ≤ maxLen) (hbig : 1048576 < len) :
    Calls Try.prog 6 #[.slice a len cap] w fun e w' => e = .returned (.bool true) ∧ Below w.heap.size w w' := by
  unfold maxLen at hcm
  go_enter Try.func6, Try.ntmps6
  go_wp2_with fail
  go_ret
  exact ⟨rfl, Below.refl _ _⟩

theorem walk (w : World) (a : Option Addr) (len cap : Nat) (hb : Bytes w a len) (hlc : len ≤ cap) (hcm : cap ≤ maxLen) (hg : G0 w) :
    Calls Try.prog 6 #[.slice a len cap] w fun e w' => e = .returned (.bool true) ∧ Below w.heap.size w w' := by
  by_cases hbig : 1048576 < len
  · exact walk_big w a len cap hlc hcm hbig
  · exact walk_good w a len cap hb hlc hcm (by omega) hg

theorem opened {H : Type} {enc : TypeId × Value → H} {W : World} {a : Option Addr} {len cap : Nat} {d : DataW H} {p : List MemPlace} (h0 : DataW.Trod enc Try.prog W 0 (fun _ => true) true 22 (.slice a len cap) d p) :
    Bytes W a len ∧ len ≤ cap ∧ cap ≤ maxLen := by
  have hc : Try.prog.cellsOf 5 = 1 := by kernel_rfl
  obtain ⟨fuel, hf⟩ := h0
  rcases open_ints Try.underlying22 Try.underlying5 hc hf with ⟨hcs, hx⟩ | ⟨a, len', cap', zs, hcs, _, hl, hm, hz, hx, hcell, hwz⟩
  · simp [Value.cells] at hcs
    obtain ⟨rfl, rfl, rfl⟩ := hcs
    exact ⟨fun h => by omega, by omega, by unfold maxLen; omega⟩
  · simp [Value.cells] at hcs
    obtain ⟨rfl, rfl, rfl⟩ := hcs
    simp only [if_true] at hz
    exact ⟨bytes_of (by omega) hcell hwz, hl, hm⟩

set_option maxRecDepth 100000 in
theorem lifted (os : Os) (started : os.Started) (H : Type) (enc : TypeId × Value → H) :
    ReturnsInHanded {} Try.checked os 6 .any (Rows.fnTextValidSpec.pre6 enc Try.prog Try.f6 Rows.fnTextValidRow.domain false) (Rows.fnTextValidSpec.post enc Try.prog Try.f6 false true false false) := by
  refine returnsInHanded_of_change_shaped (C := Try.checked) Facts.own started (by kernel_rfl) Try.func6
    (ChangeSpec.witness6 (enc := enc) (C := Try.checked) false ⟨#[], #[.slice none 0 0], []⟩ 8 (by kernel_rfl) (by kernel_rfl) (by kernel_rfl) (by kernel_rfl)) ?_
  intro W base args ds gs before hval0 hW hcnd0 _ hsh _
  clear hcnd0
  have hval : ∀ (j : Nat) t v, Try.f6.params[j]? = some t → args[j]? = some v → Value.okWide Try.prog W .any base t v := hval0
  have hW' := hW
  obtain ⟨p, q, hA0, hV, rfl, hfz, hnd⟩ := hW
  have hA : DataW.TrodAll enc Try.prog W 0 (fun _ => true) true Try.f6.params.toList args.toList ds p := hA0
  rw [Try.params6] at hA hval
  obtain ⟨v0, d0, rfl, rfl, h0⟩ := trodAll_one hA
  obtain ⟨rfl, rfl⟩ := trodVars_none hV
  obtain ⟨a0, len0, cap0, rfl⟩ := okWide_slice Try.underlying22 (hval 0 22 v0 rfl rfl)
  clear hA0 hval0
  simp only [List.append_nil] at hW'
  have hlt : ∀ x ∈ p, x.block < W.heap.size := fun x hx => by simpa using hW'.lt x hx
  obtain ⟨hb0, hlc, hcm⟩ := opened h0
  refine (walk W a0 len0 cap0 hb0 hlc hcm (Try.laysM145.s1_3 W hsh)).mono fun e W' ⟨he, hb⟩ => ?_
  subst he
  refine ⟨_, rfl, [_], [], p, [], p, [], hW', trodAll_mk1 (shut_bool Try.underlying4 _), ?_, rfl, hb.frame _, fun h => by cases h⟩
  exact trodAll_mk1 (Below.trod Facts.laidOut (by kernel_rfl) (of_decide_eq_true (by kernel_rfl)) h0 hb hlt)

theorem named : Try.prog.funcNamed Rows.fnTextValidRow.func = some 6 := by kernel_rfl
theorem closed : joinedFacts Try.prog 6 Try.f6 Rows.fnTextValidSpec Rows.fnTextValidRow = true :=
  Facts.closed_of rfl rfl rfl rfl (h28b := rfl) (by kernel_rfl) (by kernel_rfl) (by kernel_rfl) (by kernel_rfl) (by kernel_rfl) (by kernel_rfl) (by kernel_rfl) (by kernel_rfl) (by kernel_rfl) (by kernel_rfl) (by kernel_rfl) (by kernel_rfl) (by kernel_rfl) (by kernel_rfl) (by kernel_rfl) (by kernel_rfl) (by kernel_rfl) (by kernel_rfl) (by kernel_rfl) (by kernel_rfl) (by kernel_rfl) (by kernel_rfl) (by kernel_rfl) (by kernel_rfl)
theorem instanced : Try.f6.isInstance Try.prog Rows.fnTextValidRow.origin Rows.fnTextValidRow.targs := of_decide_eq_true (by kernel_rfl)
theorem wrapped : Try.f6.isWrapper Try.prog Rows.fnTextValidRow.wrapper Rows.fnTextValidRow.mainSum := by
  unfold Func.isWrapper
  rw [if_neg (of_decide_eq_false (by kernel_rfl))]
  exact ⟨rfl, rfl⟩

theorem holds : Rows.FnTextValidSaid :=
  OpenClaim.holds_of_wide 6 Try.f6 rfl rfl rfl rfl rfl rfl rfl ⟨rfl, rfl, rfl, rfl, rfl⟩ rfl rfl rfl rfl rfl named Try.func6 closed instanced wrapped
    (fun os started H enc _ => lifted os started H enc)

end Go.Proofs.Ytpejdbgjcjehjaa.lawQuote

import Derived.Test.YtabmiikacaaplaaGreatItX
import Derived.Test.YtabmiikacaaplaaGreatNfNo
/-
  The distinct layouts of a document, out of those of its parts; dropping empty parts keeps them. Nothing here speaks of the program's own dropping.
-/
set_option linter.unusedVariables false
set_option linter.unusedSimpArgs false
namespace Go.Proofs.YtabmiikacaaplaaGreat.Nf
open P1 Flat Wid ChP Ls


def stp (acc : List Ls.Lay) (l : Ls.Lay) : List Ls.Lay := if inL acc l then acc else acc ++ [l]
def dF (acc X : List Ls.Lay) : List Ls.Lay := X.foldl stp acc
theorem dist_dF (X : List Ls.Lay) : dist X = dF [] X := rfl
theorem dF_app (acc X Y : List Ls.Lay) : dF acc (X ++ Y) = dF (dF acc X) Y := List.foldl_append
theorem dF_cons (acc : List Ls.Lay) (x : Ls.Lay) (X : List Ls.Lay) : dF acc (x :: X) = dF (stp acc x) X := rfl
theorem stp_in {acc : List Ls.Lay} {x : Ls.Lay} (h : x ∈ acc) : stp acc x = acc := by unfold stp; rw [if_pos (inL_iff.2 h)]
theorem stp_mem {acc : List Ls.Lay} {x y : Ls.Lay} : y ∈ stp acc x ↔ y ∈ acc ∨ y = x := by
  unfold stp
  split
  · rename_i h
    constructor
    · exact .inl
    · rintro (h1 | rfl)
      · exact h1
      · exact inL_iff.1 h
  · simp
theorem dF_mem : ∀ (X acc : List Ls.Lay) (y : Ls.Lay), y ∈ dF acc X ↔ y ∈ acc ∨ y ∈ X := by
  intro X
  induction X with
  | nil => intro acc y; simp [dF]
  | cons x X ih => intro acc y; rw [dF_cons, ih, stp_mem]; simp only [List.mem_cons]; exact or_assoc
theorem dF_all : ∀ (X acc : List Ls.Lay), (∀ x ∈ X, x ∈ acc) → dF acc X = acc := by
  intro X
  induction X with
  | nil => intro acc _; rfl
  | cons x X ih => intro acc h; rw [dF_cons, stp_in (h x (by simp))]; exact ih acc (fun y hy => h y (by simp [hy]))
theorem dF_bind (g : Ls.Lay → List Ls.Lay) : ∀ (X Z acc : List Ls.Lay), dF acc ((dF Z X).flatMap g) = dF (dF acc (Z.flatMap g)) (X.flatMap g) := by
  intro X
  induction X with
  | nil => intro Z acc; rfl
  | cons x X ih =>
    intro Z acc
    rw [dF_cons, ih, List.flatMap_cons, dF_app]
    congr 1
    by_cases h : x ∈ Z
    · rw [stp_in h]
      refine (dF_all _ _ (fun y hy => ?_)).symm
      rw [dF_mem]
      exact .inr (List.mem_flatMap.2 ⟨x, h, hy⟩)
    · have : stp Z x = Z ++ [x] := by unfold stp; rw [if_neg (fun e => h (inL_iff.1 e))]
      rw [this, List.flatMap_append, dF_app]
      simp
theorem dF_inner {f : Ls.Lay → Ls.Lay → Ls.Lay} {Y Y' : List Ls.Lay} (h : dist Y = dist Y') : ∀ (X acc : List Ls.Lay), dF acc (X.flatMap (fun x => Y.map (f x))) = dF acc (X.flatMap (fun x => Y'.map (f x))) := by
  have hm : ∀ (acc : List Ls.Lay) (x : Ls.Lay), dF acc (Y.map (f x)) = dF acc (Y'.map (f x)) := by
    intro acc x
    have e : ∀ Z : List Ls.Lay, Z.map (f x) = Z.flatMap (fun y => [f x y]) := fun Z => by induction Z with
      | nil => rfl
      | cons z Z ih => rw [List.map_cons, List.flatMap_cons, ih]; rfl
    rw [e, e]
    have h1 := dF_bind (fun y => [f x y]) Y [] acc
    have h2 := dF_bind (fun y => [f x y]) Y' [] acc
    rw [← dist_dF] at h1 h2
    rw [h] at h1
    exact h1.symm.trans h2
  intro X
  induction X with
  | nil => intro acc; rfl
  | cons x X ih => intro acc; rw [List.flatMap_cons, List.flatMap_cons, dF_app, dF_app, hm, ih]
theorem dist_prod {f : Ls.Lay → Ls.Lay → Ls.Lay} {X X' Y Y' : List Ls.Lay} (hx : dist X = dist X') (hy : dist Y = dist Y') : dist (X.flatMap (fun x => Y.map (f x))) = dist (X'.flatMap (fun x => Y'.map (f x))) := by
  rw [dist_dF, dist_dF, dF_inner hy]
  have h1 := dF_bind (fun x => Y'.map (f x)) X [] []
  have h2 := dF_bind (fun x => Y'.map (f x)) X' [] []
  rw [← dist_dF X] at h1
  rw [← dist_dF X'] at h2
  rw [hx] at h1
  exact h1.symm.trans h2
theorem dist_map {f : Ls.Lay → Ls.Lay} {X X' : List Ls.Lay} (h : dist X = dist X') : dist (X.map f) = dist (X'.map f) := by
  have := dist_prod (f := fun _ y => f y) (X := [[]]) (X' := [[]]) rfl h
  simpa using this
theorem dist_cons (x : Ls.Lay) {X X' : List Ls.Lay} (h : dist X = dist X') : dist (x :: X) = dist (x :: X') := by
  have e : ∀ Z : List Ls.Lay, x :: Z = [x] ++ Z := fun _ => rfl
  have h1 := dF_bind (fun y => [y]) X [] [x]
  have h2 := dF_bind (fun y => [y]) X' [] [x]
  have hid : ∀ Z : List Ls.Lay, Z.flatMap (fun y => [y]) = Z := fun Z => by induction Z with
    | nil => rfl
    | cons z Z ih => rw [List.flatMap_cons, ih]; rfl
  rw [← dist_dF X] at h1
  rw [← dist_dF X'] at h2
  simp only [hid] at h1 h2
  rw [h] at h1
  rw [dist_dF, dist_dF, dF_cons, dF_cons]
  exact h1.symm.trans h2


def lys (d : D) : List Ls.Lay := (List.range (ctO d)).map (pkO d)
theorem range_prod {α : Type} (f : Nat → Nat → α) (B : Nat) : ∀ A, (List.range (A * B)).map (fun c => f (c / B) (c % B)) = (List.range A).flatMap (fun i => (List.range B).map (f i)) := by
  intro A
  induction A with
  | zero => rw [Nat.zero_mul]; rfl
  | succ A ih =>
    rw [Nat.succ_mul, List.range_add, List.map_append, ih, List.range_succ, List.flatMap_append, List.map_map]
    congr 1
    simp only [List.flatMap_cons, List.flatMap_nil, List.append_nil]
    refine List.map_congr_left (fun j hj => ?_)
    have hj' : j < B := List.mem_range.1 hj
    have h1 : (A * B + j) / B = A := by rw [Nat.mul_comm, Nat.mul_add_div (by omega), Nat.div_eq_of_lt hj', Nat.add_zero]
    have h2 : (A * B + j) % B = j := by rw [Nat.mul_comm, Nat.mul_add_mod, Nat.mod_eq_of_lt hj']
    simp only [Function.comp, h1, h2]
theorem lys_cat (a b : D) : lys (catD a b) = (lys a).flatMap (fun x => (lys b).map (catL x)) := by
  unfold lys
  rw [ct_cat]
  have h := range_prod (fun i j => catL (pkO a i) (pkO b j)) (ctO b) (ctO a)
  have e : (fun c => catL (pkO a (c / ctO b)) (pkO b (c % ctO b))) = pkO (catD a b) := rfl
  rw [e] at h
  rw [h, List.flatMap_map]
  simp only [List.map_map]
  rfl
def nestD (n : Int) (a : D) : D := (6, n, ⟨#[]⟩, consD a .nil)
def groupD (a : D) : D := (8, 0, ⟨#[]⟩, consD a .nil)
theorem lys_nest (n : Int) (a : D) : lys (nestD n a) = (lys a).map (nestL n) := by
  unfold lys
  have e : ctO (nestD n a) = ctO a := by show ctD 6 (consD a .nil) = _; rw [ctD_other (by omega), ct_one]
  rw [e, List.map_map]
  rfl
theorem lys_group (a : D) : lys (groupD a) = if noO a then [(0, flO a)] :: lys a else lys a := by
  have hno : noF (consD a .nil) = noO a := no_one a
  have hfl : flD 8 ⟨#[]⟩ (consD a .nil) = flO a := by unfold flD; rw [fl_oneD]; exact none_app _
  have hct : ctO (groupD a) = if noO a then ctO a + 1 else ctO a := by show ctD 8 (consD a .nil) = _; rw [ctD_group, ct_one, hno]
  have hpk : ∀ c, pkO (groupD a) c = if noO a then (if c = 0 then [(0, flO a)] else pkO a (c - 1)) else pkO a c := fun c => by
    have e1 : pkO (groupD a) c = if noF (consD a .nil) then (if c = 0 then [(0, flD 8 ⟨#[]⟩ (consD a .nil))] else pkO a (c - 1)) else pkO a c := rfl
    rw [e1, hno, hfl]
  unfold lys
  rw [hct]
  have hf : pkO (groupD a) = fun c => if noO a then (if c = 0 then [(0, flO a)] else pkO a (c - 1)) else pkO a c := funext hpk
  rw [hf]
  cases noO a with
  | false => simp
  | true =>
    simp only [if_true]
    rw [List.range_succ_eq_map, List.map_cons, List.map_map]
    simp only [if_true]
    congr 1

structure Ds (d d' : D) : Prop where
  ls : dist (lys d') = dist (lys d)
  no : noO d' = noO d
  fd : flO d' = flO d
  ct : ctO d' ≤ ctO d
theorem Ds.refl (d : D) : Ds d d := ⟨rfl, rfl, rfl, Nat.le_refl _⟩
theorem Ds.trans {a b c : D} (h : Ds a b) (k : Ds b c) : Ds a c := ⟨k.ls.trans h.ls, k.no.trans h.no, k.fd.trans h.fd, Nat.le_trans k.ct h.ct⟩
theorem Ds.cat {a a' b b' : D} (h : Ds a a') (k : Ds b b') : Ds (catD a b) (catD a' b') :=
  ⟨by rw [lys_cat, lys_cat]; exact dist_prod h.ls k.ls, by rw [no_cat, no_cat, h.no, k.no], by rw [fl_cat, fl_cat, h.fd, k.fd], by rw [ct_cat, ct_cat]; exact Nat.mul_le_mul h.ct k.ct⟩
theorem Ds.nest {a a' : D} (n : Int) (h : Ds a a') : Ds (nestD n a) (nestD n a') := by
  refine ⟨by rw [lys_nest, lys_nest]; exact dist_map h.ls, ?_, ?_, ?_⟩
  · show ((6 : Int) != 5 && noF (consD a' .nil)) = ((6 : Int) != 5 && noF (consD a .nil)); rw [no_one, no_one, h.no]
  · show flD 6 ⟨#[]⟩ (consD a' .nil) = flD 6 ⟨#[]⟩ (consD a .nil); unfold flD; rw [fl_oneD, fl_oneD, h.fd]
  · show ctD 6 (consD a' .nil) ≤ ctD 6 (consD a .nil); rw [ctD_other (by omega), ctD_other (by omega), ct_one, ct_one]; exact h.ct
theorem Ds.group {a a' : D} (h : Ds a a') : Ds (groupD a) (groupD a') := by
  refine ⟨?_, ?_, ?_, ?_⟩
  · rw [lys_group, lys_group, h.no, h.fd]
    split
    · exact dist_cons _ h.ls
    · exact h.ls
  · show ((8 : Int) != 5 && noF (consD a' .nil)) = ((8 : Int) != 5 && noF (consD a .nil)); rw [no_one, no_one, h.no]
  · show flD 8 ⟨#[]⟩ (consD a' .nil) = flD 8 ⟨#[]⟩ (consD a .nil); unfold flD; rw [fl_oneD, fl_oneD, h.fd]
  · show ctD 8 (consD a' .nil) ≤ ctD 8 (consD a .nil)
    rw [ctD_group, ctD_group, ct_one, ct_one, no_one, no_one, h.no]
    have := h.ct
    split <;> omega


def eD : D := (1, 0, ⟨#[]⟩, .nil)
theorem lys_e : lys eD = [[(0, ⟨#[]⟩)]] := by unfold lys; rfl
theorem nice_empty {d : D} (h : niceD d = true) (h1 : d.1 = 1) : d = eD := by
  obtain ⟨o, n, t, k⟩ := d
  simp only at h1
  subst h1
  have hk := kids_none h (by omega) (by omega) (by omega)
  subst hk
  unfold niceD nodeB textB numB at h
  simp at h
  obtain ⟨⟨h1, h2⟩, _⟩ := h
  simp_all [eD]
theorem pk_head {d : D} (h : niceD d = true) (c : Nat) : head0 (pkO d c) = true ∧ 0 < (pkO d c).length := by
  obtain ⟨o, n, t, k⟩ := d
  have h1 : okD (k.deep + 1) o n t k = true := by
    unfold okD
    rw [ok_nice]
    unfold niceD at h
    rw [Bool.and_eq_true] at h
    simp [h.1, h.2]
  have g := pick_good _ o n t k h1 c
  exact ⟨by show head0 (pkD o n t k c) = true; rw [head0_get g.ne, decide_eq_true_eq]; exact g.h0 g.ne, g.ne⟩
theorem cat_left {a : Ls.Lay} (h : head0 a = true) : catL [(0, ⟨#[]⟩)] a = a := by
  cases a with
  | nil => cases h
  | cons r k =>
    have h0 : r.1 = 0 := by simpa [head0] using h
    obtain ⟨i, s⟩ := r
    simp only at h0
    subst h0
    have e := catL_snoc [] (0, ⟨#[]⟩) ((0 : Int), s) k
    simp only [List.nil_append] at e
    rw [e, none_app]
theorem ds_left {b : D} (hb : niceD b = true) : Ds (catD eD b) b := by
  refine ⟨?_, ?_, ?_, ?_⟩
  · rw [lys_cat, lys_e]
    simp only [List.flatMap_cons, List.flatMap_nil, List.append_nil]
    congr 1
    unfold lys
    rw [List.map_map]
    refine List.map_congr_left (fun c _ => ?_)
    exact (cat_left (pk_head hb c).1).symm
  · rw [no_cat]; rfl
  · rw [fl_cat]; exact (none_app _).symm
  · rw [ct_cat]; show ctO b ≤ 1 * ctO b; omega
theorem ds_right {a : D} (ha : niceD a = true) : Ds (catD a eD) a := by
  refine ⟨?_, ?_, ?_, ?_⟩
  · rw [lys_cat, lys_e]
    congr 1
    unfold lys
    have e : ∀ X : List Nat, (X.map (pkO a)).flatMap (fun x => [[((0 : Int), (⟨#[]⟩ : ByteArray))]].map (catL x)) = X.map (pkO a) := fun X => by
      induction X with
      | nil => rfl
      | cons x X ih =>
        rw [List.map_cons, List.flatMap_cons, ih, List.map_cons, List.map_nil, catL_right (pk_head ha x).2]; rfl
    exact (e _).symm
  · rw [no_cat]; show noO a = (noO a && true); simp
  · rw [fl_cat]; exact (app_none _).symm
  · rw [ct_cat]; show ctO a ≤ ctO a * 1; omega
theorem ds_nest (n : Int) : Ds (nestD n eD) eD := by
  refine ⟨?_, rfl, rfl, Nat.le_refl _⟩
  rw [lys_nest, lys_e]
  simp only [List.map_cons, List.map_nil]
  rw [nestL_one (by simp)]
theorem ds_group : Ds (groupD eD) eD := by
  refine ⟨?_, rfl, rfl, by decide⟩
  rw [lys_group, lys_e]
  decide

def DsL : F → F → Prop
  | .nil, .nil => True
  | .cons o n t k r, .cons o' n' t' k' r' => Ds (o, n, t, k) (o', n', t', k') ∧ DsL r r'
  | .nil, .cons _ _ _ _ _ => False
  | .cons _ _ _ _ _, .nil => False
theorem chd_nice {o n : Int} {t : ByteArray} {k : F} (h : niceD (o, n, t, k) = true) (hk : nice (chL emR k) = true) : niceD (o, n, t, chL emR k) = true := by
  unfold niceD at h ⊢
  rw [Bool.and_eq_true] at h ⊢
  exact ⟨by rw [len_chL]; exact h.1, hk⟩

theorem DsL.one {a : D} {g : F} (h : DsL (consD a .nil) g) : ∃ a', g = consD a' .nil ∧ Ds a a' := by
  cases g with
  | nil => exact h.elim
  | cons o n t k r =>
    cases r with
    | nil => exact ⟨(o, n, t, k), rfl, h.1⟩
    | cons _ _ _ _ _ => exact h.2.elim
theorem DsL.two {a b : D} {g : F} (h : DsL (consD a (consD b .nil)) g) : ∃ a' b', g = consD a' (consD b' .nil) ∧ Ds a a' ∧ Ds b b' := by
  cases g with
  | nil => exact h.elim
  | cons o n t k r =>
    obtain ⟨b', rfl, hb⟩ := DsL.one (a := b) h.2
    exact ⟨(o, n, t, k), b', rfl, h.1, hb⟩
theorem plain_node {o n : Int} {t : ByteArray} {k : F} (h : niceD (o, n, t, k) = true) : (o ≠ 2 → t = ⟨#[]⟩) ∧ (o ≠ 6 → n = 0) := by
  unfold niceD nodeB textB numB at h
  simp only [Bool.and_eq_true] at h
  obtain ⟨⟨⟨_, h2⟩, h3⟩, _⟩ := h
  refine ⟨fun h0 => ?_, fun h0 => ?_⟩
  · rw [if_neg h0] at h2; exact of_decide_eq_true h2
  · rw [if_neg h0] at h3; exact of_decide_eq_true h3
theorem ds_kids {o n : Int} {t : ByteArray} {k k' : F} (h : DsL k k') (hD : niceD (o, n, t, k) = true) : Ds (o, n, t, k) (o, n, t, k') := by
  obtain ⟨ht, hn⟩ := plain_node hD
  by_cases h6 : o = 6
  · obtain ⟨a, rfl⟩ := kids_one hD (Or.inl h6)
    obtain ⟨a', rfl, ha⟩ := h.one
    subst h6
    rw [ht (by omega)]
    exact ha.nest n
  · by_cases h7 : o = 7
    · obtain ⟨a, b, rfl⟩ := kids_two hD h7
      obtain ⟨a', b', rfl, ha, hb⟩ := h.two
      subst h7
      rw [ht (by omega), hn (by omega)]
      exact ha.cat hb
    · by_cases h8 : o = 8
      · obtain ⟨a, rfl⟩ := kids_one hD (Or.inr h8)
        obtain ⟨a', rfl, ha⟩ := h.one
        subst h8
        rw [ht (by omega), hn (by omega)]
        exact ha.group
      · have hkn : k = .nil := kids_none hD h6 h7 h8
        subst hkn
        cases k' with
        | nil => exact Ds.refl _
        | cons _ _ _ _ _ => exact h.elim
theorem ds_rule {o n : Int} {t : ByteArray} {k : F} (hD : niceD (o, n, t, k) = true) : Ds (o, n, t, k) (emR o n t k) := by
  obtain ⟨ht, hn⟩ := plain_node hD
  have hk := (nice_kids hD).2
  unfold emR
  by_cases h7 : o = 7
  · obtain ⟨a, b, rfl⟩ := kids_two hD h7
    subst h7
    rw [nice_consD, nice_consD, Bool.and_eq_true, Bool.and_eq_true] at hk
    rw [ht (by omega), hn (by omega)]
    have e1 : hd (consD a (consD b .nil)) = a := rfl
    have e2 : hd (tl (consD a (consD b .nil))) = b := rfl
    rw [e1, e2]
    by_cases ha : a.1 = 1
    · rw [if_pos ⟨rfl, ha⟩]
      have := ds_left hk.2.1
      rw [nice_empty hk.1 ha]
      exact this
    · rw [if_neg (fun h => ha h.2)]
      by_cases hb : b.1 = 1
      · rw [if_pos ⟨rfl, hb⟩]
        have := ds_right hk.1
        rw [nice_empty hk.2.1 hb]
        exact this
      · rw [if_neg (fun h => hb h.2), if_neg (fun h => ha h.2)]
        exact Ds.refl _
  · rw [if_neg (fun h => h7 h.1), if_neg (fun h => h7 h.1)]
    by_cases h68 : o = 6 ∨ o = 8
    · obtain ⟨a, rfl⟩ := kids_one hD h68
      rw [nice_consD, Bool.and_eq_true] at hk
      have e1 : hd (consD a .nil) = a := rfl
      rw [e1]
      by_cases ha : a.1 = 1
      · rw [if_pos ⟨h68, ha⟩, nice_empty hk.1 ha]
        rcases h68 with h | h
        · subst h; rw [ht (by omega)]; exact ds_nest n
        · subst h; rw [ht (by omega), hn (by omega)]; exact ds_group
      · rw [if_neg (fun h => ha h.2)]; exact Ds.refl _
    · rw [if_neg (fun h => h68 h.1)]; exact Ds.refl _
theorem em_ds : ∀ f : F, nice f = true → nice (chL emR f) = true ∧ DsL f (chL emR f) := by
  intro f
  induction f with
  | nil => intro _; exact ⟨rfl, trivial⟩
  | cons o n t k r ihk ihr =>
    intro h
    have hD : niceD (o, n, t, k) = true := by simp only [nice, Bool.and_eq_true] at h; exact Bool.and_eq_true_iff.2 h.1
    have hr : nice r = true := by simp only [nice, Bool.and_eq_true] at h; exact h.2
    obtain ⟨a1, a2⟩ := ihk (nice_kids hD).2
    obtain ⟨b1, b2⟩ := ihr hr
    have hD' := chd_nice hD a1
    refine ⟨?_, (ds_kids a2 hD).trans (ds_rule hD'), b2⟩
    show (niceD (emR o n t (chL emR k)) && nice (chL emR r)) = true
    rw [(em_keep o n t (chL emR k) hD').1, b1]; rfl

end Go.Proofs.YtabmiikacaaplaaGreat.Nf

namespace Go.Proofs.YtabmiikacaaplaaGreat.Nf
open P1 CatD ChP It

theorem lays_yes {d : D} (h : toldD d.1 d.2.1 d.2.2.1 d.2.2.2 = true) : laysD d.1 d.2.1 d.2.2.1 d.2.2.2 = lys d := by
  unfold laysD
  rw [if_pos h]; rfl
end Go.Proofs.YtabmiikacaaplaaGreat.Nf

namespace Go.Proofs.YtabmiikacaaplaaGreat.Nf
open P1 Flat Wid ChP Ls

theorem EqO.ds {a b : D} (h : EqO a b) : Ds a b := by
  refine ⟨?_, h.no, h.fd, Nat.le_of_eq h.ct⟩
  unfold lys
  rw [h.ct, show pkO b = pkO a from funext h.pk]
theorem hr_cons (o n : Int) (t : ByteArray) (k r : F) : hrF (.cons o n t k r) = (if (o == 5) = true then 1 else 0) + hrF k + hrF r := rfl
theorem nl_cons (o n : Int) (t : ByteArray) (k r : F) : nlF (.cons o n t k r) = (if (o == 3 || o == 4 || o == 5) = true then 1 else 0) + nlF k + nlF r := rfl
theorem no_hr : ∀ f : F, noF f = decide (hrF f = 0) := by
  intro f
  induction f with
  | nil => rfl
  | cons o n t k r ihk ihr =>
    show ((o != 5) && noF k && noF r) = _
    rw [ihk, ihr, hr_cons, Bool.eq_iff_iff]
    simp only [Bool.and_eq_true, decide_eq_true_eq, bne_iff_ne, beq_iff_eq]
    constructor
    · rintro ⟨⟨h1, h2⟩, h3⟩; rw [if_neg h1]; omega
    · intro h
      by_cases h5 : o = 5
      · rw [if_pos h5] at h; omega
      · rw [if_neg h5] at h; exact ⟨⟨h5, by omega⟩, by omega⟩
def lineL : F → Prop
  | .nil => True
  | .cons o n t k r => (∀ c, pkD o n t k c = [(0, flD o t k)]) ∧ lineL r
theorem one_line : ∀ f : F, nice f = true → nlF f = 0 → lineL f := by
  intro f
  induction f with
  | nil => intro _ _; trivial
  | cons o n t k r ihk ihr =>
    intro hn h
    have hD : niceD (o, n, t, k) = true := by simp only [nice, Bool.and_eq_true] at hn; exact Bool.and_eq_true_iff.2 hn.1
    have hr : nice r = true := by simp only [nice, Bool.and_eq_true] at hn; exact hn.2
    rw [nl_cons] at h
    have ih := ihk (nice_kids hD).2 (by omega)
    refine ⟨fun c => ?_, ihr hr (by omega)⟩
    obtain ⟨ht, hn0⟩ := plain_node hD
    have hnl : o ≠ 3 ∧ o ≠ 4 ∧ o ≠ 5 := by
      refine ⟨fun e => ?_, fun e => ?_, fun e => ?_⟩ <;> (subst e; simp at h)
    by_cases h6 : o = 6
    · obtain ⟨a, rfl⟩ := kids_one hD (Or.inl h6)
      subst h6
      have ha : ∀ c, pkO a c = [(0, flO a)] := ih.1
      show nestL n (pkO a c) = _
      rw [ha, nestL_one (by simp), ht (by omega)]
      show _ = [(0, (⟨#[]⟩ : ByteArray) ++ fl (consD a .nil))]
      rw [fl_oneD, none_app]
    · by_cases h7 : o = 7
      · obtain ⟨a, b, rfl⟩ := kids_two hD h7
        subst h7
        have ha : ∀ c, pkO a c = [(0, flO a)] := ih.1
        have hb : ∀ c, pkO b c = [(0, flO b)] := ih.2.1
        show catL (pkO a (c / ctO b)) (pkO b (c % ctO b)) = _
        rw [ha, hb, ht (by omega)]
        have e := fl_cat a b
        show catL [(0, flO a)] [(0, flO b)] = [(0, flO (catD a b))]
        rw [e]; rfl
      · by_cases h8 : o = 8
        · obtain ⟨a, rfl⟩ := kids_one hD (Or.inr h8)
          subst h8
          have ha : ∀ c, pkO a c = [(0, flO a)] := ih.1
          rw [ht (by omega)]
          have e1 : pkD 8 n ⟨#[]⟩ (consD a .nil) c = if noF (consD a .nil) then (if c = 0 then [(0, flD 8 ⟨#[]⟩ (consD a .nil))] else pkO a (c - 1)) else pkO a c := rfl
          have e2 : flD 8 ⟨#[]⟩ (consD a .nil) = flO a := by unfold flD; rw [fl_oneD]; exact none_app _
          rw [e1, e2, ha, ha]
          split
          · split <;> rfl
          · rfl
        · have hkn : k = .nil := kids_none hD h6 h7 h8
          subst hkn
          rw [pkD_leaf h6 h7 h8]
          by_cases h2 : o = 2
          · subst h2
            show [(0, t)] = [(0, t ++ (⟨#[]⟩ : ByteArray))]
            rw [app_none]
          · rw [ht h2]
            have e : openD o n ⟨#[]⟩ .nil = [(0, ⟨#[]⟩)] := by
              unfold openD opn
              rw [if_neg h2, if_neg (by omega), if_neg h6, if_neg h7, if_neg h8]
            rw [e]
            unfold flD
            have h3 : (o == 3) = false := by rw [beq_eq_false_iff_ne]; exact hnl.1
            rw [h3]
            show [(0, (⟨#[]⟩ : ByteArray))] = [(0, (⟨#[]⟩ : ByteArray) ++ (⟨#[]⟩ : ByteArray))]
            rw [app_none]
theorem ct_pos (d : D) : 0 < ctO d := ctD_pos _ _
theorem dist_same {x : Ls.Lay} : ∀ X : List Ls.Lay, X ≠ [] → (∀ y ∈ X, y = x) → dist X = [x] := by
  intro X hX h
  cases X with
  | nil => exact absurd rfl hX
  | cons y Y =>
    have hy : y = x := h y (by simp)
    subst hy
    rw [dist_dF, dF_cons]
    have e : stp [] y = [y] := rfl
    rw [e]
    exact dF_all Y [y] (fun z hz => by rw [h z (by simp [hz])]; simp)
theorem group_fits (a : D) : noO (groupD a) = noO a ∧ flO (groupD a) = flO a ∧ ctO (groupD a) = if noO a then ctO a + 1 else ctO a := by
  refine ⟨?_, ?_, ?_⟩
  · show ((8 : Int) != 5 && noF (consD a .nil)) = noO a; rw [no_one]; rfl
  · show flD 8 ⟨#[]⟩ (consD a .nil) = flO a; unfold flD; rw [fl_oneD]; exact none_app _
  · show ctD 8 (consD a .nil) = _; rw [ctD_group, ct_one, no_one]
theorem ds_line {a : D} (ha : niceD a = true) (h : nlF (consD a .nil) = 0) : Ds (groupD a) a := by
  obtain ⟨g1, g2, g3⟩ := group_fits a
  have hl : ∀ c, pkO a c = [(0, flO a)] := (one_line (consD a .nil) (by rw [nice_consD, ha]; rfl) h).1
  refine ⟨?_, g1.symm, g2.symm, by rw [g3]; split <;> omega⟩
  have e : ∀ y ∈ lys a, y = [(0, flO a)] := fun y hy => by
    obtain ⟨c, _, rfl⟩ := List.mem_map.1 hy
    exact hl c
  have hne : lys a ≠ [] := by
    intro h0
    have := congrArg List.length h0
    unfold lys at this
    rw [List.length_map, List.length_range] at this
    have := ct_pos a
    simp at *
    omega
  rw [dist_same _ hne e, lys_group]
  split
  · exact (dist_same _ (by simp) (fun y hy => by
      rcases List.mem_cons.1 hy with h | h
      · exact h
      · exact e y h)).symm
  · exact (dist_same _ hne e).symm
theorem ds_hard {a : D} (h : 0 < hrF (consD a .nil)) : Ds (groupD a) a := by
  obtain ⟨g1, g2, g3⟩ := group_fits a
  have hno : noO a = false := by
    have e := no_hr (consD a .nil)
    rw [no_one] at e
    rw [e, decide_eq_false_iff_not]; omega
  refine ⟨?_, g1.symm, g2.symm, by rw [g3]; split <;> omega⟩
  rw [lys_group, hno]; rfl
theorem ds_twice (b : D) : Ds (groupD (groupD b)) (groupD b) := by
  obtain ⟨g1, g2, g3⟩ := group_fits (groupD b)
  obtain ⟨k1, k2, k3⟩ := group_fits b
  refine ⟨?_, g1.symm, g2.symm, by rw [g3]; split <;> omega⟩
  rw [lys_group (groupD b), k1, k2, lys_group b]
  cases noO b with
  | false => rfl
  | true =>
    show dist ([(0, flO b)] :: lys b) = dist ([(0, flO b)] :: [(0, flO b)] :: lys b)
    rw [dist_dF, dist_dF, dF_cons, dF_cons, dF_cons]
    congr 1
    exact (stp_in (stp_mem.2 (.inr rfl))).symm
theorem gr_rule {o n : Int} {t : ByteArray} {k : F} (hD : niceD (o, n, t, k) = true) : Ds (o, n, t, k) (grR o n t k) := by
  unfold grR
  split
  · rename_i h
    obtain ⟨h8, hc⟩ := h
    obtain ⟨ht, hn⟩ := plain_node hD
    obtain ⟨a, rfl⟩ := kids_one hD (Or.inr h8)
    subst h8
    have hk := (nice_kids hD).2
    rw [nice_consD, Bool.and_eq_true] at hk
    rw [ht (by omega), hn (by omega)]
    show Ds (groupD a) a
    rcases hc with h | h | h
    · have h' : a.1 = 8 := h
      obtain ⟨o1, n1, t1, k1⟩ := a
      simp only at h'
      subst h'
      obtain ⟨ht1, hn1⟩ := plain_node hk.1
      obtain ⟨b, rfl⟩ := kids_one hk.1 (Or.inr rfl)
      rw [ht1 (by omega), hn1 (by omega)]
      exact ds_twice b
    · exact ds_line hk.1 h
    · exact ds_hard h
  · exact Ds.refl _
theorem gr_ds : ∀ f : F, nice f = true → nice (chL grR f) = true ∧ DsL f (chL grR f) := by
  intro f
  induction f with
  | nil => intro _; exact ⟨rfl, trivial⟩
  | cons o n t k r ihk ihr =>
    intro h
    have hD : niceD (o, n, t, k) = true := by simp only [nice, Bool.and_eq_true] at h; exact Bool.and_eq_true_iff.2 h.1
    have hr : nice r = true := by simp only [nice, Bool.and_eq_true] at h; exact h.2
    obtain ⟨a1, a2⟩ := ihk (nice_kids hD).2
    obtain ⟨b1, b2⟩ := ihr hr
    have hD' : niceD (o, n, t, chL grR k) = true := by
      unfold niceD at hD ⊢
      rw [Bool.and_eq_true] at hD ⊢
      exact ⟨by rw [len_chL]; exact hD.1, a1⟩
    refine ⟨?_, (ds_kids a2 hD).trans (gr_rule hD'), b2⟩
    show (niceD (grR o n t (chL grR k)) && nice (chL grR r)) = true
    rw [(gr_keep o n t (chL grR k) hD').1, b1]; rfl

theorem no_ds {d : D} (hv : validD d.1 d.2.1 d.2.2.1 d.2.2.2 = true) : Ds d (noD d) := by
  have hd : ∀ {x : D}, niceD x = true → nice (consD x .nil) = true := fun {x} h => by rw [nice_consD, h]; rfl
  have hn := (valid_nice hv).1
  obtain ⟨m1, _, _⟩ := no_1 hv
  obtain ⟨m2, _⟩ := no_2 hv
  obtain ⟨m3, _⟩ := no_3 hv
  obtain ⟨m4, _⟩ := no_4 hv
  have s1 : Ds d (n1D d) := (em_ds (consD d .nil) (hd hn)).2.1
  have s2 : Ds (n1D d) (n2D d) := (Eqv.eqo (push_keeps m1)).ds
  have s3 : Ds (n2D d) (n3D d) := (gr_ds (consD (n2D d) .nil) (hd m2)).2.1
  have s4 : Ds (n3D d) (n4D d) := (em_ds (consD (n3D d) .nil) (hd m3)).2.1
  have s5 : Ds (n4D d) (noD d) := (Eqv.eqo (row_eqv fzR (fun o n t k h => (row_parts fzR_ok h).1) (fun P h1 h2 => fzR_eqo h1 h2) (consD (n4D d) .nil) (hd m4)).1).ds
  exact (((s1.trans s2).trans s3).trans s4).trans s5

end Go.Proofs.YtabmiikacaaplaaGreat.Nf


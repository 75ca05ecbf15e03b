import Derived.Test.YtjcaiecapapceaaGreatNfX
/-
 Rendering, as plain functions: what a document is laid out to in a width. Nothing here speaks of the program.
-/
set_option linter.unusedVariables false
set_option linter.unusedSimpArgs false
namespace Go.Proofs.YtjcaiecapapceaaGreat.Rn
open Go.RowKit P1 Cnt CntC Flat Wid ChP
structure St where
 rows : Lay
 ind : Int
 txt : ByteArray
 flags : List Bool
def St.line (s : St) (i : Int) : St := { rows := s.rows ++ [(s.ind, s.txt)], ind := i, txt := ⟨#[]⟩, flags := s.flags }
def St.put (s : St) (t : ByteArray) : St := { s with txt := s.txt ++ t }
def St.flag (s : St) (b : Bool) : St := { s with flags := s.flags ++ [b] }
def St.used (s : St) : Int := s.ind + (s.txt.size : Int)
def St.fin (s : St) : Lay := s.rows ++ [(s.ind, s.txt)]
def St.zero : St := ⟨[], 0, ⟨#[]⟩, []⟩
theorem St.put_none (s : St) : s.put ⟨#[]⟩ = s := by unfold St.put; rw [app_none]
def bh (f : F) (B : Nat) : Nat := ldN f + (if ldE f then 0 else B)
theorem bh_nil (B : Nat) : bh .nil B = B := by simp [bh, ldN, ldE]
theorem bh_cons (o n : Int) (t : ByteArray) (k r : F) (B : Nat) : bh (.cons o n t k r) B = nD o t k + (if eD o k then 0 else bh r B) := by
 simp only [bh, ldN, ldE, nD, eD]
 by_cases h : (nl o || ldE k) = true
 ·simp only [h, if_true, Bool.true_or]
  try omega
 ·simp only [h, Bool.false_eq_true, if_false, Bool.false_or]
  try omega
def fitB (W : Int) (B : Nat) (s : St) (t : ByteArray) (k : F) : Bool := noF k && decide (s.used + ((flD 8 t k).size : Int) + (B : Int) ≤ W)
def rnF (W : Int) : F → Int → Nat → St → St
 | .nil, _, _, s => s
 | .cons o n t k r, i, B, s =>
   rnF W r i B (if nl o then s.line i else if o == 8 && fitB W (bh r B) s t k then (s.flag true).put (flD 8 t k) else rnF W k (i + n) (bh r B) ((if o == 8 then s.flag false else s).put t))
def rnD (W : Int) (o n : Int) (t : ByteArray) (k : F) (i : Int) (B : Nat) (s : St) : St :=
 if nl o then s.line i else if o == 8 && fitB W B s t k then (s.flag true).put (flD 8 t k) else rnF W k (i + n) B ((if o == 8 then s.flag false else s).put t)
theorem rnF_cons (W : Int) (o n : Int) (t : ByteArray) (k r : F) (i : Int) (B : Nat) (s : St) : rnF W (.cons o n t k r) i B s = rnF W r i B (rnD W o n t k i (bh r B) s) := rfl
theorem rnF_one (W : Int) (o n : Int) (t : ByteArray) (k : F) (i : Int) (B : Nat) (s : St) : rnF W (.cons o n t k .nil) i B s = rnD W o n t k i B s := by
 rw [rnF_cons, bh_nil]; rfl
structure Itm where
 i : Int
 o : Int
 n : Int
 t : ByteArray
 k : F
def ldI : List Itm → Nat
 | [] => 0
 | x :: r => nD x.o x.t x.k + if eD x.o x.k then 0 else ldI r
def rnI (W : Int) : List Itm → St → St
 | [], s => s
 | x :: r, s => rnI W r (rnD W x.o x.n x.t x.k x.i (ldI r) s)
def kidsI : F → Int → List Itm
 | .nil, _ => []
 | .cons o n t k r, i => ⟨i, o, n, t, k⟩ :: kidsI r i
theorem kidsI_len (f : F) (i : Int) : (kidsI f i).length = f.len := by
 induction f with
 | nil => rfl
 | cons o n t k r _ ih => simp only [kidsI, List.length_cons, ih, F.len]
theorem ldI_kids (f : F) (i : Int) (r : List Itm) : ldI (kidsI f i ++ r) = bh f (ldI r) := by
 induction f with
 | nil => rw [bh_nil]; rfl
 | cons o n t k g _ ih => rw [bh_cons]; simp only [kidsI, List.cons_append, ldI, ih]
theorem rnI_kids (W : Int) (f : F) (i : Int) (r : List Itm) : ∀ s, rnI W (kidsI f i ++ r) s = rnI W r (rnF W f i (ldI r) s) := by
 induction f with
 | nil => intro s; rfl
 | cons o n t k g _ ih =>
   intro s
   simp only [kidsI, List.cons_append, rnI, ih, rnF_cons, ldI_kids]
theorem rnI_line {W : Int} {x : Itm} {r : List Itm} {s : St} (h : nl x.o = true) : rnI W (x :: r) s = rnI W r (s.line x.i) := by
 simp only [rnI, rnD, h, if_true]
theorem eight_nl : nl 8 = false := by decide
theorem rnI_fit {W : Int} {x : Itm} {r : List Itm} {s : St} (h8 : x.o = 8) (h : fitB W (ldI r) s x.t x.k = true) : rnI W (x :: r) s = rnI W r ((s.flag true).put (flD 8 x.t x.k)) := by
 simp only [rnI, rnD, h8, eight_nl, h, Bool.false_eq_true, if_false, beq_self_eq_true, Bool.and_self, if_true]
theorem rnI_open {W : Int} {x : Itm} {r : List Itm} {s : St} (h8 : x.o = 8) (h : fitB W (ldI r) s x.t x.k = false) : rnI W (x :: r) s = rnI W (kidsI x.k (x.i + x.n) ++ r) ((s.flag false).put x.t) := by
 rw [rnI_kids]
 simp only [rnI, rnD, h8, eight_nl, h, Bool.false_eq_true, if_false, beq_self_eq_true, Bool.and_false, if_true]
theorem rnI_else {W : Int} {x : Itm} {r : List Itm} {s : St} (hn : nl x.o = false) (h8 : x.o ≠ 8) : rnI W (x :: r) s = rnI W (kidsI x.k (x.i + x.n) ++ r) (s.put x.t) := by
 have h : (x.o == 8) = false := beq_eq_false_iff_ne.2 h8
 rw [rnI_kids]
 simp only [rnI, rnD, hn, h, Bool.false_eq_true, if_false, Bool.false_and]
def stD (W : Int) (o n : Int) (t : ByteArray) (k : F) : St := rnD W o n t k 0 0 St.zero
theorem stD_items (W : Int) (o n : Int) (t : ByteArray) (k : F) : rnI W [⟨0, o, n, t, k⟩] St.zero = stD W o n t k := rfl
def rightD (W : Int) (o n : Int) (t : ByteArray) (k : F) : Bool := validD o n t k && decide (0 ≤ W ∧ W ≤ 200)
def rnR (W : Int) (o n : Int) (t : ByteArray) (k : F) : Lay × Bool := if rightD W o n t k then ((stD W o n t k).fin, true) else ([], false)
def wtI : List Itm → Nat
 | [] => 0
 | x :: r => 1 + x.k.cnt + wtI r
theorem wtI_kids (f : F) (i : Int) (r : List Itm) : wtI (kidsI f i ++ r) = f.cnt + wtI r := by
 induction f with
 | nil => simp [kidsI, F.cnt]
 | cons o n t k g _ ih => simp only [kidsI, List.cons_append, wtI, ih, F.cnt]; omega
def szI : List Itm → Nat
 | [] => 0
 | x :: r => 1 + x.t.size + x.k.size + szI r
theorem szI_kids (f : F) (i : Int) (r : List Itm) : szI (kidsI f i ++ r) ≤ f.size + szI r := by
 induction f with
 | nil => simp [kidsI, F.size]
 | cons o n t k g _ ih => simp only [kidsI, List.cons_append, szI, F.size]; omega
def OkI (x : Itm) : Prop := (∃ d, d ≤ 40 ∧ okD d x.o x.n x.t x.k = true) ∧ 0 ≤ x.i ∧ x.i + 9 * (1 + x.k.cnt : Nat) ≤ 720
theorem okI_start {o n : Int} {t : ByteArray} {k : F} (h : validD o n t k = true) : OkI ⟨0, o, n, t, k⟩ := by
 simp only [validD, Bool.and_eq_true, decide_eq_true_eq] at h
 exact ⟨⟨40, Nat.le_refl _, h.1⟩, Int.le_refl _, by show (0 : Int) + 9 * ((1 + k.cnt : Nat) : Int) ≤ 720; omega⟩
theorem okI_list : ∀ (f : F) (d : Nat) (i : Int), d ≤ 40 → f.ok d = true → 0 ≤ i → i + 9 * (f.cnt : Nat) ≤ 720 → ∀ x ∈ kidsI f i, OkI x := by
 intro f
 induction f with
 | nil => intro d i _ _ _ _ x hx; simp [kidsI] at hx
 | cons o n t k r _ ih =>
   intro d i hd h h0 h1 x hx
   rw [ok_cons, Bool.and_eq_true] at h
   simp only [F.cnt] at h1
   simp only [kidsI, List.mem_cons] at hx
   rcases hx with rfl | hx
   ·exact ⟨⟨d, hd, h.1⟩, h0, by show i + 9 * ((1 + k.cnt : Nat) : Int) ≤ 720; omega⟩
   ·exact ih d i hd h.2 h0 (by omega) x hx
theorem node_n {o n : Int} {t : ByteArray} {l : Nat} (h : nodeB o n t l = true) : 0 ≤ n ∧ n ≤ 9 ∧ (o ≠ 6 → n = 0) ∧ (o ≠ 2 → t = ⟨#[]⟩) := by
 have h2 := h
 simp only [nodeB, numB, Bool.and_eq_true] at h2
 rcases node_kinds h with ⟨rfl, ht, hl⟩ | ⟨ho, rfl, hl⟩ | ⟨rfl, rfl, h0, h9, hl⟩ | ⟨rfl, rfl, hl⟩ | ⟨rfl, rfl, hl⟩
 ·have := h2.2; simp at this; omega
 ·have hn : n = 0 := by have := h2.2; rcases ho with rfl | rfl | rfl | rfl <;> simpa using this
  exact ⟨by omega, by omega, fun _ => hn, fun _ => rfl⟩
 ·exact ⟨h0, h9, fun h => absurd rfl h, fun _ => rfl⟩
 ·have := h2.2; simp at this; exact ⟨by omega, by omega, fun _ => this, fun _ => rfl⟩
 ·have := h2.2; simp at this; exact ⟨by omega, by omega, fun _ => this, fun _ => rfl⟩
theorem okI_kids {x : Itm} (h : OkI x) : ∀ y ∈ kidsI x.k (x.i + x.n), OkI y := by
 obtain ⟨⟨d, hd, h1⟩, h2, h3⟩ := h
 cases d with
 | zero => rw [okD_zero] at h1; cases h1
 | succ d =>
   obtain ⟨hn, hk⟩ := okD_parts h1
   obtain ⟨n0, n9, _⟩ := node_n hn
   exact okI_list x.k d (x.i + x.n) (by omega) hk (by omega) (by omega)
end Go.Proofs.YtjcaiecapapceaaGreat.Rn
namespace Go.Proofs.YtjcaiecapapceaaGreat.Rn
open Go.RowKit P1 Cnt CntC Flat Wid ChP
theorem fin_ne (s : St) : 0 < s.fin.length := by simp [St.fin]
theorem fin_put (s : St) (t : ByteArray) : (s.put t).fin = catL s.fin [(0, t)] := by
 simp only [St.fin, St.put]; rw [catL_snoc]
theorem fin_line (s : St) (i : Int) : (s.line i).fin = catL s.fin (nestL i [(0, ⟨#[]⟩), (0, ⟨#[]⟩)]) := by
 simp only [St.fin, St.line, nestL, List.map_cons, List.map_nil]
 rw [catL_snoc, app_none]; simp
theorem fin_flag (s : St) (b : Bool) : (s.flag b).fin = s.fin := rfl
theorem catL_as {a b c : Lay} (ha : 0 < a.length) (hb : 0 < b.length) (hc : 0 < c.length) : catL (catL a b) c = catL a (catL b c) := by
 obtain ⟨p, q, rfl⟩ := snoc_of ha
 cases b with
 | nil => simp at hb
 | cons r k =>
   rw [catL_snoc]
   cases c with
   | nil => simp at hc
   | cons x l =>
     cases hk : k.reverse with
     | nil =>
       obtain rfl : k = [] := by simpa using hk
       have e1 : p ++ (q.1, q.2 ++ r.2) :: ([] : Lay) = p ++ [(q.1, q.2 ++ r.2)] := rfl
       have e2 : catL [r] (x :: l) = (r.1, r.2 ++ x.2) :: l := catL_snoc [] r x l
       rw [e1, catL_snoc, e2, catL_snoc, ByteArray.append_assoc]
     | cons y z =>
       obtain ⟨k', y', rfl⟩ : ∃ k' y', k = k' ++ [y'] := ⟨z.reverse, y, by have := congrArg List.reverse hk; simpa using this⟩
       have e1 : p ++ (q.1, q.2 ++ r.2) :: (k' ++ [y']) = (p ++ (q.1, q.2 ++ r.2) :: k') ++ [y'] := by simp
       have e2 : r :: (k' ++ [y']) = (r :: k') ++ [y'] := rfl
       rw [e1, catL_snoc, e2, catL_snoc]
       have e3 : (r :: k') ++ (y'.1, y'.2 ++ x.2) :: l = r :: (k' ++ (y'.1, y'.2 ++ x.2) :: l) := rfl
       rw [e3, catL_snoc]
       simp
theorem pk_ne {d : Nat} {o n : Int} {t : ByteArray} {k : F} (h : okD d o n t k = true) (c : Nat) : 0 < (pkD o n t k c).length := (pick_good d o n t k h c).ne
theorem nest_ne {n : Int} {l : Lay} (h : 0 < l.length) : 0 < (nestL n l).length := by rw [nestL_length]; exact h
def Chose (s s' : St) (i : Int) (o n : Int) (t : ByteArray) (k : F) : Prop :=
 (∃ c, c < ctD o k ∧ s'.fin = catL s.fin (nestL i (pkD o n t k c))) ∧ ∃ fs : List Bool, s'.flags = s.flags ++ fs ∧ fs.length ≤ opsD 8 o k ∧ ((∀ b ∈ fs, b = false) → s'.fin = catL s.fin (nestL i (openD o n t k)))
theorem opsD_cons8 (op o o1 n1 : Int) (t1 : ByteArray) (k1 r : F) : opsD op o (.cons o1 n1 t1 k1 r) = (if o == op then 1 else 0) + opsD op o1 k1 + cntF (fun x => x == op) r := by
 rw [opsD_eq, opsD_eq]; simp only [cntF]; omega
theorem rn_pick (W : Int) : ∀ (d : Nat) (o n : Int) (t : ByteArray) (k : F), okD d o n t k = true → ∀ (i : Int) (B : Nat) (s : St), Chose s (rnD W o n t k i B s) i o n t k := by
 intro d
 induction d with
 | zero => intro o n t k h; rw [okD_zero] at h; cases h
 | succ d ih =>
   intro o n t k h i B s
   obtain ⟨hn, hk⟩ := okD_parts h
   rcases node_kinds hn with ⟨rfl, ht, hl⟩ | ⟨ho, rfl, hl⟩ | ⟨rfl, rfl, h0, h9, hl⟩ | ⟨rfl, rfl, hl⟩ | ⟨rfl, rfl, hl⟩
   ·have hk0 := F.len_eq_zero hl
    subst hk0
    have e : rnD W 2 n t .nil i B s = s.put t := by simp [rnD, nl, rnF]
    rw [e]
    have e2 : (s.put t).fin = catL s.fin (nestL i (openD 2 n t .nil)) := by rw [openD_text, fin_put]; rfl
    exact ⟨⟨0, by rw [ctD_leaf]; simp, by rw [pkD_leaf (by omega) (by omega) (by omega)]; exact e2⟩, [], by simp [St.put], by simp, fun _ => e2⟩
   ·have hk0 := F.len_eq_zero hl
    subst hk0
    obtain ⟨h6, h7, h8⟩ := leaf_ne ho
    have hct : 0 < ctD o .nil := ctD_pos o .nil
    rcases ho with rfl | ho
    ·have e : rnD W 1 n ⟨#[]⟩ .nil i B s = s := by simp [rnD, nl, rnF, St.put_none]
     rw [e]
     have e2 : s.fin = catL s.fin (nestL i (openD 1 n ⟨#[]⟩ .nil)) := by
      rw [openD_empty]
      have := fin_put s ⟨#[]⟩
      rw [St.put_none] at this; exact this
     exact ⟨⟨0, hct, by rw [pkD_leaf h6 h7 h8]; exact e2⟩, [], by simp, by simp, fun _ => e2⟩
    ·have hnl : nl o = true := by rcases ho with rfl | rfl | rfl <;> decide
     have e : rnD W o n ⟨#[]⟩ .nil i B s = s.line i := by simp [rnD, hnl]
     rw [e]
     have e2 : (s.line i).fin = catL s.fin (nestL i (openD o n ⟨#[]⟩ .nil)) := by rw [openD_line ho, fin_line]
     exact ⟨⟨0, hct, by rw [pkD_leaf h6 h7 h8]; exact e2⟩, [], by simp [St.line], by simp, fun _ => e2⟩
   ·obtain ⟨o1, n1, t1, k1, rfl⟩ := one_kid hl
    rw [ok_cons, Bool.and_eq_true] at hk
    have e : rnD W 6 n ⟨#[]⟩ (.cons o1 n1 t1 k1 .nil) i B s = rnD W o1 n1 t1 k1 (i + n) B s := by
     show (if nl 6 = true then _ else if ((6 : Int) == 8 && _) = true then _ else _) = _
     rw [if_neg (by decide), if_neg (by simp)]
     simp only [show ((6 : Int) == 8) = false by decide, Bool.false_eq_true, if_false, St.put_none, rnF_one]
    rw [e]
    obtain ⟨⟨c, hc, e1⟩, fs, f1, f2, f3⟩ := ih _ _ _ _ hk.1 (i + n) B s
    have hd : ∀ l, nestL (i + n) l = nestL i (nestL n l) := fun l => by rw [nestL_add]; congr 1; omega
    refine ⟨⟨c, by rw [ctD_other (by omega), ctF_one]; exact hc, by rw [pkD_nest, e1, hd]⟩, fs, f1, ?_, fun hf => by rw [openD_nest, f3 hf, hd]⟩
    rw [opsD_cons8]; omega
   ·obtain ⟨o1, n1, t1, k1, o2, n2, t2, k2, rfl⟩ := two_kids hl
    rw [ok_cons, ok_cons, Bool.and_eq_true, Bool.and_eq_true] at hk
    have e : rnD W 7 n ⟨#[]⟩ (.cons o1 n1 t1 k1 (.cons o2 n2 t2 k2 .nil)) i B s = rnD W o2 n2 t2 k2 (i + n) B (rnD W o1 n1 t1 k1 (i + n) (bh (.cons o2 n2 t2 k2 .nil) B) s) := by
     show (if nl 7 = true then _ else if ((7 : Int) == 8 && _) = true then _ else _) = _
     rw [if_neg (by decide), if_neg (by simp)]
     simp only [show ((7 : Int) == 8) = false by decide, Bool.false_eq_true, if_false, St.put_none, rnF_cons, rnF_one, bh_nil]
     rfl
    rw [e]
    obtain rfl : n = 0 := (node_n hn).2.2.1 (by omega)
    rw [Int.add_zero]
    obtain ⟨⟨c1, hc1, e1⟩, fs1, f1, f2, f3⟩ := ih _ _ _ _ hk.1 i (bh (.cons o2 n2 t2 k2 .nil) B) s
    obtain ⟨⟨c2, hc2, e2⟩, fs2, g1, g2, g3⟩ := ih _ _ _ _ hk.2.1 i B (rnD W o1 n1 t1 k1 i (bh (.cons o2 n2 t2 k2 .nil) B) s)
    have p2 := ctD_pos o2 k2
    refine ⟨⟨c1 * ctD o2 k2 + c2, ?_, ?_⟩, fs1 ++ fs2, by rw [g1, f1, List.append_assoc], ?_, fun hf => ?_⟩
    ·rw [ctD_other (o := 7) (by omega), ctF_cons, ctF_one]
     calc c1 * ctD o2 k2 + c2 < c1 * ctD o2 k2 + ctD o2 k2 := by omega
      _ = (c1 + 1) * ctD o2 k2 := by rw [Nat.add_mul, Nat.one_mul]
      _ ≤ ctD o1 k1 * ctD o2 k2 := Nat.mul_le_mul_right _ hc1
    ·have q1 : (c1 * ctD o2 k2 + c2) / ctD o2 k2 = c1 := by rw [Nat.add_comm, Nat.add_mul_div_right _ _ p2, Nat.div_eq_of_lt hc2, Nat.zero_add]
     have q2 : (c1 * ctD o2 k2 + c2) % ctD o2 k2 = c2 := by rw [Nat.add_comm, Nat.add_mul_mod_self_right, Nat.mod_eq_of_lt hc2]
     rw [pkD_cat, q1, q2, e2, e1, catL_as (fin_ne s) (nest_ne (pk_ne hk.1 c1)) (nest_ne (pk_ne hk.2.1 c2)), catL_nest i (pk_ne hk.1 c1) (pk_ne hk.2.1 c2)]
    ·have : opsD 8 7 (.cons o1 n1 t1 k1 (.cons o2 n2 t2 k2 .nil)) = opsD 8 o1 k1 + opsD 8 o2 k2 := by
      rw [opsD_cons8, ← show opsD 8 o2 k2 = cntF (fun x => x == 8) (.cons o2 n2 t2 k2 .nil) from by rw [opsD_eq]; simp only [cntF]; omega]
      simp
     rw [this, List.length_append]; omega
    ·have h1 := f3 (fun b hb => hf b (List.mem_append_left _ hb))
     have h2 := g3 (fun b hb => hf b (List.mem_append_right _ hb))
     have p1 := (open_good d o1 n1 t1 k1 hk.1).ne
     have p2' := (open_good d o2 n2 t2 k2 hk.2.1).ne
     rw [openD_cat, h2, h1, catL_as (fin_ne s) (nest_ne p1) (nest_ne p2'), catL_nest i p1 p2']
   ·obtain ⟨o1, n1, t1, k1, rfl⟩ := one_kid hl
    rw [ok_cons, Bool.and_eq_true] at hk
    obtain rfl : n = 0 := (node_n hn).2.2.1 (by omega)
    cases hfit : fitB W B s ⟨#[]⟩ (.cons o1 n1 t1 k1 .nil) with
    | true =>
      have hno : noF (.cons o1 n1 t1 k1 .nil) = true := by simp only [fitB, Bool.and_eq_true] at hfit; exact hfit.1
      have e : rnD W 8 0 ⟨#[]⟩ (.cons o1 n1 t1 k1 .nil) i B s = (s.flag true).put (flD 8 ⟨#[]⟩ (.cons o1 n1 t1 k1 .nil)) := by
       simp only [rnD, eight_nl, hfit, Bool.false_eq_true, if_false, beq_self_eq_true, Bool.and_self, if_true]
      rw [e]
      refine ⟨⟨0, ctD_pos _ _, ?_⟩, [true], rfl, ?_, fun hf => absurd (hf true (by simp)) (by simp)⟩
      ·rw [pkD_group, if_pos hno, if_pos rfl, fin_put, fin_flag]; rfl
      ·rw [opsD_cons8]; simp; omega
    | false =>
      have e : rnD W 8 0 ⟨#[]⟩ (.cons o1 n1 t1 k1 .nil) i B s = rnD W o1 n1 t1 k1 i B (s.flag false) := by
       simp only [rnD, eight_nl, hfit, Bool.false_eq_true, if_false, beq_self_eq_true, Bool.and_false, if_true, St.put_none, Int.add_zero]
       rw [rnF_one]; rfl
      rw [e]
      obtain ⟨⟨c, hc, e1⟩, fs, f1, f2, f3⟩ := ih _ _ _ _ hk.1 i B (s.flag false)
      refine ⟨?_, false :: fs, by rw [f1]; simp [St.flag], ?_, fun hf => ?_⟩
      ·rw [ctD_group, ctF_one]
       by_cases hno : noF (.cons o1 n1 t1 k1 .nil) = true
       ·refine ⟨c + 1, by rw [if_pos hno]; omega, ?_⟩
        rw [pkD_group, if_pos hno, if_neg (by omega), Nat.add_sub_cancel, e1, fin_flag]
       ·refine ⟨c, by rw [if_neg hno]; exact hc, ?_⟩
        rw [pkD_group, if_neg hno, e1, fin_flag]
      ·rw [opsD_cons8]; simp; omega
      ·rw [openD_group, f3 (fun b hb => hf b (List.mem_cons_of_mem _ hb)), fin_flag]
theorem catL_zero {l : Lay} (h : 0 < l.length) (h0 : (l[0]'h).1 = 0) : catL [(0, ⟨#[]⟩)] l = l := by
 cases l with
 | nil => simp at h
 | cons r k =>
   have : catL ([] ++ [((0 : Int), (⟨#[]⟩ : ByteArray))]) (r :: k) = [] ++ (0, (⟨#[]⟩ : ByteArray) ++ r.2) :: k := catL_snoc [] _ r k
   simp only [List.nil_append] at this
   rw [this, none_app]
   simp at h0
   rw [← h0]
theorem catL_start {d : Nat} {o n : Int} {t : ByteArray} {k : F} (h : okD d o n t k = true) (c : Nat) : catL St.zero.fin (nestL 0 (pkD o n t k c)) = pkD o n t k c := by
 have g := pick_good d o n t k h c
 rw [nestL_nought]
 exact catL_zero g.ne (g.h0 g.ne)
theorem valid_okD {o n : Int} {t : ByteArray} {k : F} (h : validD o n t k = true) : okD 40 o n t k = true := by
 simp only [validD, Bool.and_eq_true] at h; exact h.1
theorem rn_choice (W : Int) {o n : Int} {t : ByteArray} {k : F} (h : validD o n t k = true) : ∃ c, c < ctD o k ∧ (stD W o n t k).fin = pkD o n t k c := by
 obtain ⟨⟨c, hc, e⟩, _⟩ := rn_pick W 40 o n t k (valid_okD h) 0 0 St.zero
 exact ⟨c, hc, by show (rnD W o n t k 0 0 St.zero).fin = _; rw [e, catL_start (valid_okD h)]⟩
theorem rn_lv (W : Int) {o n : Int} {t : ByteArray} {k : F} (h : validD o n t k = true) : lv (stD W o n t k).fin = true := by
 obtain ⟨c, _, e⟩ := rn_choice W h
 rw [e]; exact pick_lv h c
end Go.Proofs.YtjcaiecapapceaaGreat.Rn
namespace Go.Proofs.YtjcaiecapapceaaGreat.Rn
open Go.RowKit P1 Cnt CntC Flat Wid ChP
def ms : Lay → Int
 | [] => 0
 | r :: l => r.1 + (r.2.size : Int) + 1 + ms l
def us (s : St) : Int := ms s.rows + s.ind + (s.txt.size : Int) + 1
end Go.Proofs.YtjcaiecapapceaaGreat.Rn
namespace Go.Proofs.YtjcaiecapapceaaGreat.Rn
open Go.RowKit P1 Cnt CntC Flat Wid ChP
def stepI (W : Int) (x : Itm) (r : List Itm) (s : St) : List Itm × St :=
 if nl x.o then (r, s.line x.i) else if x.o == 8 && fitB W (ldI r) s x.t x.k then (r, (s.flag true).put (flD 8 x.t x.k)) else (kidsI x.k (x.i + x.n) ++ r, (if x.o == 8 then s.flag false else s).put x.t)
theorem stepI_run (W : Int) (x : Itm) (r : List Itm) (s : St) : rnI W (stepI W x r s).1 (stepI W x r s).2 = rnI W (x :: r) s := by
 unfold stepI
 by_cases hn : nl x.o = true
 ·rw [if_pos hn]; exact (rnI_line hn).symm
 ·rw [if_neg hn]
  simp only [Bool.not_eq_true] at hn
  by_cases h8 : x.o = 8
  ·by_cases hf : fitB W (ldI r) s x.t x.k = true
   ·rw [if_pos (by simp [h8, hf])]
    exact (rnI_fit h8 hf).symm
   ·simp only [Bool.not_eq_true] at hf
    rw [if_neg (by simp [hf]), if_pos (by simp [h8])]
    exact (rnI_open h8 hf).symm
  ·rw [if_neg (by simp [h8]), if_neg (by simp [h8])]
   exact (rnI_else hn h8).symm
theorem ldI_sz (r : List Itm) : ldI r ≤ szI r := by
 induction r with
 | nil => exact Nat.le_refl 0
 | cons x r ih =>
   have := nD_size x.o x.t x.k
   simp only [ldI, szI]
   split <;> omega
theorem len_wt (r : List Itm) : r.length ≤ wtI r := by
 induction r with
 | nil => exact Nat.le_refl 0
 | cons x r ih => simp only [wtI, List.length_cons]; omega
theorem mem_sz {r : List Itm} : ∀ x ∈ r, x.t.size + x.k.size ≤ szI r := by
 induction r with
 | nil => intro x hx; simp at hx
 | cons y r ih =>
   intro x hx
   simp only [szI]
   rcases List.mem_cons.1 hx with rfl | hx
   ·omega
   ·have := ih x hx; omega
structure Bnd (Z : Nat) (its : List Itm) (s : St) : Prop where
 ok : ∀ x ∈ its, OkI x
 wt : wtI its + s.rows.length + s.flags.length ≤ 80
 ind : 0 ≤ s.ind ∧ s.ind ≤ 720
 sz : s.txt.size + szI its ≤ Z
theorem flD_le {d : Nat} {n : Int} {t : ByteArray} {k : F} (hok : okD d 8 n t k = true) : (flD 8 t k).size ≤ 1 + t.size + k.size := by
 have h2 := zf_fl (.cons 8 n t k .nil) d (by rw [ok_cons, hok]; rfl)
 rw [zf_one, fl_one] at h2
 rw [← h2]; exact zD_size 8 t k
theorem Bnd.step {Z : Nat} {x : Itm} {r : List Itm} {s : St} (h : Bnd Z (x :: r) s) (W : Int) : Bnd Z (stepI W x r s).1 (stepI W x r s).2 ∧ wtI (stepI W x r s).1 < wtI (x :: r) := by
 have hx := h.ok x (by simp)
 have hr : ∀ y ∈ r, OkI y := fun y hy => h.ok y (by simp [hy])
 have hw := h.wt
 have hz := h.sz
 simp only [wtI, szI] at hw hz
 have e0 : (⟨#[]⟩ : ByteArray).size = 0 := rfl
 unfold stepI
 by_cases hn : nl x.o = true
 ·rw [if_pos hn]
  obtain ⟨_, hi0, hi1⟩ := hx
  refine ⟨⟨hr, ?_, ⟨hi0, ?_⟩, ?_⟩, by simp only [wtI]; omega⟩
  ·simp only [St.line, List.length_append, List.length_cons, List.length_nil]; omega
  ·show x.i ≤ 720
   omega
  ·simp only [St.line, e0]; omega
 ·rw [if_neg hn]
  by_cases hf : (x.o == 8 && fitB W (ldI r) s x.t x.k) = true
  ·rw [if_pos hf]
   simp only [Bool.and_eq_true, beq_iff_eq] at hf
   obtain ⟨⟨d, _, hok⟩, _⟩ := hx
   rw [hf.1] at hok
   have := flD_le hok
   refine ⟨⟨hr, ?_, h.ind, ?_⟩, by simp only [wtI]; omega⟩
   ·simp only [St.put, St.flag, List.length_append, List.length_cons, List.length_nil]; omega
   ·simp only [St.put, St.flag, ByteArray.size_append]; omega
  ·rw [if_neg hf]
   have h1 := szI_kids x.k (x.i + x.n) r
   have h2 := wtI_kids x.k (x.i + x.n) r
   refine ⟨⟨fun y hy => ?_, ?_, ?_, ?_⟩, by simp only [wtI, h2]; omega⟩
   ·rcases List.mem_append.1 hy with hy | hy
    ·exact okI_kids hx y hy
    ·exact hr y hy
   ·rw [h2]
    split <;> simp only [St.put, St.flag, List.length_append, List.length_cons, List.length_nil] <;> omega
   ·split <;> exact h.ind
   ·have : ((if x.o == 8 then s.flag false else s).put x.t).txt.size = s.txt.size + x.t.size := by
     split <;> simp only [St.put, St.flag, ByteArray.size_append]
    show ((if x.o == 8 then s.flag false else s).put x.t).txt.size + szI (kidsI x.k (x.i + x.n) ++ r) ≤ Z
    rw [this]; omega
theorem bnd_start {o n : Int} {t : ByteArray} {k : F} (h : validD o n t k = true) : Bnd (1 + t.size + k.size) [⟨0, o, n, t, k⟩] St.zero := by
 refine ⟨fun x hx => ?_, ?_, ⟨Int.le_refl 0, by show (0 : Int) ≤ 720; omega⟩, ?_⟩
 ·rw [List.mem_singleton] at hx; subst hx; exact okI_start h
 ·simp only [validD, Bool.and_eq_true, decide_eq_true_eq] at h
  simp only [wtI, St.zero, List.length_nil]; omega
 ·simp only [szI, St.zero]
  have e0 : (⟨#[]⟩ : ByteArray).size = 0 := rfl
  rw [e0]; omega
end Go.Proofs.YtjcaiecapapceaaGreat.Rn

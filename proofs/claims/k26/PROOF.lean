import PyProof.Rows.All
import Wide.All
import OpenK.AllK
import Wide.FinOn
import KE.DataCmp
import KE.SortCalls
import HandS.ForList
import KE.SortData
import HandS.SortKw
import HandS.ForMost
import HandS.IsInst
import HandS.TupAny
import HandS.EndBits
import HandS.Wide
import HandS.Codes
import KE.GoesEnum
import KE.GoesMore
import PyProof.EnumMake
import PyProof.Draws
import HandS.Defaults
import KE.DataMinMax
import HandS.TupMul
import HandS.Style
import HandS.Text
import HandS.Walk
import PyProof.FitsInt
import HandS.FStr
import HandS.More
import PySem.Challenge.RW_vowstair_k26_texts_of_ordinals
namespace Vw
inductive O where
  | z
  | add (e : O) (c : Int) (r : O)
  deriving DecidableEq
namespace O
def lt : O → O → Bool
  | z, z => false
  | z, add _ _ _ => true
  | add _ _ _, z => false
  | add e c r, add e' c' r' => if e = e' then (if c = c' then lt r r' else decide (c < c')) else lt e e'
theorem lt_irrefl : ∀ a : O, lt a a = false
  | z => rfl
  | add e c r => by simp [lt, lt_irrefl r]
theorem lt_trans : ∀ (a b c : O), lt a b = true → lt b c = true → lt a c = true
  | a, b, z, _, h2 => by cases b <;> simp [lt] at h2
  | a, z, add _ _ _, h1, _ => by cases a <;> simp [lt] at h1
  | z, add _ _ _, add _ _ _, _, _ => rfl
  | add e c r, add e' c' r', add e2 c2 r2, h1, h2 => by
    simp only [lt] at h1 h2 ⊢
    by_cases he : e = e'
    · subst he
      by_cases he2 : e = e2
      · subst he2
        simp only [if_true] at h1 h2 ⊢
        by_cases hc : c = c'
        · subst hc
          simp only [if_true] at h1
          by_cases hc2 : c = c2
          · subst hc2
            simp only [if_true] at h2 ⊢
            exact lt_trans r r' r2 h1 h2
          · rw [if_neg hc2] at h2 ⊢; exact h2
        · rw [if_neg hc] at h1
          have h1' := of_decide_eq_true h1
          by_cases hc2 : c' = c2
          · subst hc2; rw [if_neg hc]; exact h1
          · rw [if_neg hc2] at h2
            have h2' := of_decide_eq_true h2
            rw [if_neg (by omega)]; exact decide_eq_true (by omega)
      · rw [if_neg he2] at h2 ⊢; exact h2
    · rw [if_neg he] at h1
      by_cases he2 : e' = e2
      · subst he2; rw [if_neg he]; exact h1
      · rw [if_neg he2] at h2
        have h3 := lt_trans e e' e2 h1 h2
        by_cases he3 : e = e2
        · subst he3; rw [lt_irrefl] at h3; cases h3
        · rw [if_neg he3]; exact h3
theorem lt_asymm {a b : O} (h : lt a b = true) : lt b a = false := by
  cases q : lt b a with
  | false => rfl
  | true => have := lt_trans a b a h q; rw [lt_irrefl] at this; cases this
theorem lt_ne {a b : O} (h : lt a b = true) : a ≠ b := fun e => by subst e; rw [lt_irrefl] at h; cases h
theorem lt_total : ∀ (a b : O), a ≠ b → lt a b = true ∨ lt b a = true
  | z, z, h => absurd rfl h
  | z, add _ _ _, _ => .inl rfl
  | add _ _ _, z, _ => .inr rfl
  | add e c r, add e' c' r', h => by
    simp only [lt]
    by_cases he : e = e'
    · subst he
      simp only [if_true]
      by_cases hc : c = c'
      · subst hc
        simp only [if_true]
        exact lt_total r r' fun q => h (by rw [q])
      · rw [if_neg hc, if_neg (fun q => hc q.symm)]
        rcases Int.lt_or_gt_of_ne hc with q | q
        · exact .inl (decide_eq_true q)
        · exact .inr (decide_eq_true q)
    · rw [if_neg he, if_neg (fun q => he q.symm)]
      exact lt_total e e' he
theorem eq_of {a b : O} (h1 : lt a b = false) (h2 : lt b a = false) : a = b := by
  by_cases h : a = b
  · exact h
  · rcases lt_total a b h with q | q
    · rw [h1] at q; cases q
    · rw [h2] at q; cases q
theorem lt_of_ge {a b : O} (h : lt a b = false) (n : a ≠ b) : lt b a = true := by
  rcases lt_total a b n with q | q
  · rw [h] at q; cases q
  · exact q
/-- b ≤ a -/
theorem ge_trans {a b c : O} (h1 : lt a b = false) (h2 : lt b c = false) : lt a c = false := by
  cases q : lt a c with
  | false => rfl
  | true =>
    by_cases e : b = c
    · subst e; rw [h1] at q; cases q
    · have h3 := lt_of_ge h2 e
      have h4 := lt_trans _ _ _ q h3
      rw [h1] at h4; cases h4
theorem lt_ge {a b c : O} (h1 : lt a b = true) (h2 : lt c b = false) : lt a c = true := by
  by_cases e : c = b
  · subst e; exact h1
  · exact lt_trans _ _ _ h1 (lt_of_ge h2 e)
theorem ge_lt {a b c : O} (h1 : lt b a = false) (h2 : lt b c = true) : lt a c = true := by
  by_cases e : b = a
  · subst e; exact h2
  · exact lt_trans _ _ _ (lt_of_ge h1 e) h2

/-- the terms -/
def ts : O → List (O × Int)
  | z => []
  | add e c r => (e, c) :: ts r
def of : List (O × Int) → O
  | [] => z
  | (e, c) :: r => add e c (of r)
theorem of_ts : ∀ o : O, of (ts o) = o
  | z => rfl
  | add e c r => by show add e c (of (ts r)) = _; rw [of_ts r]
theorem ts_of : ∀ l : List (O × Int), ts (of l) = l
  | [] => rfl
  | (e, c) :: r => by show (e, c) :: ts (of r) = _; rw [ts_of r]
theorem ts_inj {a b : O} (h : ts a = ts b) : a = b := by rw [← of_ts a, ← of_ts b, h]

/-- the head's exponent is below e -/
def under (e : O) : O → Bool
  | z => true
  | add e' _ _ => lt e' e
/-- a right ordinal -/
def ok : O → Bool
  | z => true
  | add e c r => ok e && decide (1 ≤ c) && ok r && under e r
theorem ok_add {e : O} {c : Int} {r : O} : ok (add e c r) = true ↔ ok e = true ∧ 1 ≤ c ∧ ok r = true ∧ under e r = true := by
  simp [ok, Bool.and_eq_true, and_assoc]
/-- all exponents of an ordinal under e are below e -/
theorem under_all : ∀ {r : O} {e : O}, ok r = true → under e r = true → ∀ p ∈ ts r, lt p.1 e = true
  | z, _, _, _, p, hp => by cases hp
  | add e' c' r', e, h, hu, p, hp => by
    have h' := ok_add.mp h
    rcases List.mem_cons.mp hp with q | q
    · subst q; exact hu
    · exact lt_trans _ _ _ (under_all h'.2.2.1 h'.2.2.2 p q) hu

/-- the sum -/
def sum : O → O → O
  | a, z => a
  | z, b => b
  | add e c r, add e' c' r' => if lt e e' = true then add e' c' r' else if e = e' then add e (c + c') r' else add e c (sum r (add e' c' r'))
@[simp] theorem sum_z (a : O) : sum a z = a := by cases a <;> rfl
@[simp] theorem z_sum (b : O) : sum z b = b := by cases b <;> rfl
theorem sum_lt {e : O} {c : Int} {r : O} {e' : O} {c' : Int} {r' : O} (h : lt e e' = true) : sum (add e c r) (add e' c' r') = add e' c' r' := by
  show (if lt e e' = true then _ else _) = _; rw [if_pos h]
theorem sum_eq {e : O} {c : Int} {r : O} {c' : Int} {r' : O} : sum (add e c r) (add e c' r') = add e (c + c') r' := by
  show (if lt e e = true then _ else _) = _
  rw [lt_irrefl, if_neg Bool.false_ne_true, if_pos rfl]
theorem sum_gt {e : O} {c : Int} {r : O} {e' : O} {c' : Int} {r' : O} (h : lt e' e = true) : sum (add e c r) (add e' c' r') = add e c (sum r (add e' c' r')) := by
  show (if lt e e' = true then _ else _) = _
  rw [lt_asymm h, if_neg Bool.false_ne_true, if_neg (lt_ne h).symm]

/-- what the program's plus does -/
def plusP : O → O → O
  | a, z => a
  | a, add e c r => of ((ts a).filter (fun t => lt e t.1) ++ (e, (((ts a).filter fun t => decide (t.1 = e)).map fun t => t.2).sum + c) :: ts r)
/-- what the law's own sum does -/
def sumL : O → O → O
  | a, z => a
  | a, add e c r =>
    let left := (ts a).filter fun t => !lt t.1 e
    match left.getLast? with
    | some (e1, c1) => if e1 = e then of (left.dropLast ++ (e, c1 + c) :: ts r) else of (left ++ (e, c) :: ts r)
    | none => of (left ++ (e, c) :: ts r)
theorem filter_none {α : Type} {p : α → Bool} : ∀ {l : List α}, (∀ x ∈ l, p x = false) → l.filter p = []
  | [], _ => rfl
  | x :: r, h => by
    rw [List.filter_cons, h x List.mem_cons_self, if_neg Bool.false_ne_true]
    exact filter_none fun y hy => h y (List.mem_cons_of_mem _ hy)
theorem plusP_sum : ∀ (a b : O), ok a = true → plusP a b = sum a b
  | a, z, _ => by cases a <;> rfl
  | z, add e c r, _ => by show of ([] ++ (e, 0 + c) :: ts r) = _; simp [of, of_ts]
  | add e1 c1 r1, add e c r, h => by
    have h' := ok_add.mp h
    have ih := plusP_sum r1 (add e c r) h'.2.2.1
    have hall := under_all h'.2.2.1 h'.2.2.2
    by_cases q : e1 = e
    · subst q
      rw [sum_eq]
      have f1 : (ts r1).filter (fun t => lt e1 t.1) = [] := filter_none fun x hx => lt_asymm (hall x hx)
      have f2 : (ts r1).filter (fun t => decide (t.1 = e1)) = [] := filter_none fun x hx => decide_eq_false (lt_ne (hall x hx))
      show of ((ts (add e1 c1 r1)).filter _ ++ _) = _
      simp only [ts, List.filter_cons, lt_irrefl, f1, f2, decide_true, if_true]
      simp [of, of_ts]
    · rcases lt_total e1 e q with k | k
      · rw [sum_lt k]
        have f1 : (ts (add e1 c1 r1)).filter (fun t => lt e t.1) = [] := filter_none fun x hx => by
          rcases List.mem_cons.mp hx with y | y
          · subst y; exact lt_asymm k
          · exact lt_asymm (lt_trans _ _ _ (hall x y) k)
        have f2 : (ts (add e1 c1 r1)).filter (fun t => decide (t.1 = e)) = [] := filter_none fun x hx => by
          rcases List.mem_cons.mp hx with y | y
          · subst y; exact decide_eq_false q
          · exact decide_eq_false (lt_ne (lt_trans _ _ _ (hall x y) k))
        show of ((ts (add e1 c1 r1)).filter _ ++ _) = _
        rw [f1, f2]
        simp [of, of_ts]
      · rw [sum_gt k, ← ih]
        show of ((ts (add e1 c1 r1)).filter _ ++ _) = add e1 c1 (of ((ts r1).filter _ ++ _))
        have d : decide (e1 = e) = false := decide_eq_false q
        simp only [ts, List.filter_cons, k, d, if_true]
        simp [of]
theorem sumL_sum : ∀ (a b : O), ok a = true → sumL a b = sum a b
  | a, z, _ => by cases a <;> rfl
  | z, add e c r, _ => by show of ([] ++ (e, c) :: ts r) = _; simp [of, of_ts]
  | add e1 c1 r1, add e c r, h => by
    have h' := ok_add.mp h
    have ih := sumL_sum r1 (add e c r) h'.2.2.1
    have hall := under_all h'.2.2.1 h'.2.2.2
    by_cases q : e1 = e
    · subst q
      rw [sum_eq]
      have f1 : (ts r1).filter (fun t => !lt t.1 e1) = [] := filter_none fun x hx => by rw [hall x hx]; rfl
      simp only [sumL, ts, List.filter_cons, lt_irrefl, f1, Bool.not_false, if_true]
      simp [of, of_ts]
    · rcases lt_total e1 e q with k | k
      · rw [sum_lt k]
        have f1 : (ts r1).filter (fun t => !lt t.1 e) = [] := filter_none fun x hx => by rw [lt_trans _ _ _ (hall x hx) k]; rfl
        simp only [sumL, ts, List.filter_cons, k, f1]
        simp [of, of_ts]
      · rw [sum_gt k, ← ih]
        have k2 := lt_asymm k
        simp only [sumL, ts, List.filter_cons, k2, Bool.not_false, if_true]
        cases hl : (ts r1).filter (fun t => !lt t.1 e) with
        | nil => simp [of, q]
        | cons x l =>
          rw [List.getLast?_cons_cons]
          cases hg : (x :: l).getLast? with
          | none => simp at hg
          | some p =>
            obtain ⟨e2, c2⟩ := p
            simp only
            by_cases q2 : e2 = e
            · rw [if_pos q2, if_pos q2, List.dropLast_cons_cons]; rfl
            · rw [if_neg q2, if_neg q2]; rfl
theorem ok_under_sum : ∀ (a b e : O), under e a = true → under e b = true → under e (sum a b) = true
  | a, z, e, h, _ => by rw [sum_z]; exact h
  | z, b, e, _, h => by rw [z_sum]; exact h
  | add e1 c1 r1, add e2 c2 r2, e, h1, h2 => by
    by_cases q : e1 = e2
    · subst q; rw [sum_eq]; exact h1
    · rcases lt_total e1 e2 q with k | k
      · rw [sum_lt k]; exact h2
      · rw [sum_gt k]; exact h1
theorem ok_sum : ∀ (a b : O), ok a = true → ok b = true → ok (sum a b) = true
  | a, z, h, _ => by rw [sum_z]; exact h
  | z, b, _, h => by rw [z_sum]; exact h
  | add e1 c1 r1, add e2 c2 r2, h1, h2 => by
    have g1 := ok_add.mp h1
    have g2 := ok_add.mp h2
    by_cases q : e1 = e2
    · subst q; rw [sum_eq]; exact ok_add.mpr ⟨g1.1, by omega, g2.2.2.1, g2.2.2.2⟩
    · rcases lt_total e1 e2 q with k | k
      · rw [sum_lt k]; exact h2
      · rw [sum_gt k]; exact ok_add.mpr ⟨g1.1, g1.2.1, ok_sum r1 _ g1.2.2.1 h2, ok_under_sum _ _ _ g1.2.2.2 k⟩
theorem lt_head {e : O} {c : Int} {r e' : O} {c' : Int} {r' : O} (h : lt e e' = true) : lt (add e c r) (add e' c' r') = true := by
  show (if e = e' then _ else _) = _; rw [if_neg (lt_ne h)]; exact h
theorem lt_cnt {e : O} {c : Int} {r : O} {c' : Int} {r' : O} (h : c < c') : lt (add e c r) (add e c' r') = true := by
  show (if e = e then (if c = c' then _ else _) else _) = _
  rw [if_pos rfl, if_neg (by omega)]; exact decide_eq_true h
theorem lt_rest {e : O} {c : Int} {r r' : O} : lt (add e c r) (add e c r') = lt r r' := by
  show (if e = e then (if c = c then _ else _) else _) = _
  rw [if_pos rfl, if_pos rfl]
theorem nil_lt {a : O} (h : a ≠ z) : lt z a = true := by cases a <;> first | rfl | exact absurd rfl h
theorem not_lt_nil (a : O) : lt a z = false := by cases a <;> rfl
theorem sum_add_ne (a e : O) (c : Int) (r : O) : sum a (add e c r) ≠ z := by
  cases a with
  | z => rw [z_sum]; intro h; cases h
  | add e1 c1 r1 =>
    show (if _ then _ else if _ then _ else _) ≠ _
    split
    · intro h; cases h
    · split <;> (intro h; cases h)
/-- strictly ascending in the second part -/
theorem sum_mono : ∀ (a b c : O), ok a = true → ok b = true → ok c = true → lt b c = true → lt (sum a b) (sum a c) = true
  | z, b, c, _, _, _, h => by rw [z_sum, z_sum]; exact h
  | a, b, z, _, _, _, h => by rw [not_lt_nil] at h; cases h
  | add e1 c1 r1, z, add e3 c3 r3, ha, _, hc, _ => by
    have g1 := ok_add.mp ha
    have g3 := ok_add.mp hc
    rw [sum_z]
    by_cases q : e1 = e3
    · subst q; rw [sum_eq]; exact lt_cnt (by omega)
    · rcases lt_total e1 e3 q with k | k
      · rw [sum_lt k]; exact lt_head k
      · rw [sum_gt k, lt_rest]
        have := sum_mono r1 z (add e3 c3 r3) g1.2.2.1 rfl hc rfl
        rw [sum_z] at this
        exact this
  | add e1 c1 r1, add e2 c2 r2, add e3 c3 r3, ha, hb, hc, h => by
    have g1 := ok_add.mp ha
    have g2 := ok_add.mp hb
    have g3 := ok_add.mp hc
    by_cases q : e1 = e2
    · subst q
      rw [sum_eq]
      by_cases q3 : e1 = e3
      · subst q3
        rw [sum_eq]
        simp only [lt, if_true] at h ⊢
        by_cases x : c2 = c3
        · subst x; simpa using h
        · rw [if_neg x] at h
          rw [if_neg (by omega)]
          exact decide_eq_true (by have := of_decide_eq_true h; omega)
      · have k : lt e1 e3 = true := by simpa [lt, q3] using h
        rw [sum_lt k]; exact lt_head k
    · rcases lt_total e1 e2 q with k | k
      · rw [sum_lt k]
        have k3 : lt e1 e3 = true := by
          by_cases q3 : e2 = e3
          · subst q3; exact k
          · exact lt_trans _ _ _ k (by simpa [lt, q3] using h)
        rw [sum_lt k3]; exact h
      · rw [sum_gt k]
        by_cases q3 : e1 = e3
        · subst q3; rw [sum_eq]; exact lt_cnt (by omega)
        · rcases lt_total e1 e3 q3 with k3 | k3
          · rw [sum_lt k3]; exact lt_head k3
          · rw [sum_gt k3, lt_rest]
            exact sum_mono r1 _ _ g1.2.2.1 hb hc h
theorem sum_mono_iff {a b c : O} (ha : ok a = true) (hb : ok b = true) (hc : ok c = true) : lt (sum a b) (sum a c) = lt b c := by
  cases q : lt b c with
  | true => exact sum_mono a b c ha hb hc q
  | false =>
    by_cases e : c = b
    · subst e; exact lt_irrefl _
    · have k := lt_of_ge q (fun x => e x.symm)
      exact lt_asymm (sum_mono a c b ha hc hb k)
/-- at least the first part -/
theorem sum_ge_left {a b : O} (ha : ok a = true) (hb : ok b = true) : lt (sum a b) a = false := by
  by_cases e : b = z
  · subst e; rw [sum_z]; exact lt_irrefl _
  · have := sum_mono a z b ha rfl hb (nil_lt e)
    rw [sum_z] at this
    exact lt_asymm this
/-- at least the second part -/
theorem sum_ge_right : ∀ (a b : O), ok a = true → ok b = true → lt (sum a b) b = false
  | a, z, _, _ => not_lt_nil _
  | z, b, _, _ => by rw [z_sum]; exact lt_irrefl _
  | add e1 c1 r1, add e2 c2 r2, ha, hb => by
    have g1 := ok_add.mp ha
    by_cases q : e1 = e2
    · subst q; rw [sum_eq]; exact lt_asymm (lt_cnt (by omega))
    · rcases lt_total e1 e2 q with k | k
      · rw [sum_lt k]; exact lt_irrefl _
      · rw [sum_gt k]; exact lt_asymm (lt_head k)
theorem sum_assoc : ∀ (a b c : O), ok a = true → ok b = true → ok c = true → sum (sum a b) c = sum a (sum b c)
  | a, b, z, _, _, _ => by rw [sum_z, sum_z]
  | a, z, add _ _ _, _, _, _ => by rw [sum_z, z_sum]
  | z, add _ _ _, add _ _ _, _, _, _ => by rw [z_sum, z_sum]
  | add e1 c1 r1, add e2 c2 r2, add e3 c3 r3, ha, hb, hc => by
    have g1 := ok_add.mp ha
    have g2 := ok_add.mp hb
    by_cases q23 : e2 = e3
    · subst q23
      rw [sum_eq]
      by_cases q : e1 = e2
      · subst q; rw [sum_eq, sum_eq, sum_eq, Int.add_assoc]
      · rcases lt_total e1 e2 q with k | k
        · rw [sum_lt k, sum_lt k, sum_eq]
        · rw [sum_gt k, sum_gt k, sum_gt k, sum_assoc r1 _ _ g1.2.2.1 hb hc, sum_eq]
    · rcases lt_total e2 e3 q23 with k23 | k23
      · rw [sum_lt k23]
        by_cases q : e1 = e2
        · subst q; rw [sum_eq, sum_lt k23, sum_lt k23]
        · rcases lt_total e1 e2 q with k | k
          · rw [sum_lt k, sum_lt k23, sum_lt (lt_trans _ _ _ k k23)]
          · rw [sum_gt k]
            by_cases q3 : e1 = e3
            · subst q3; rw [sum_eq, sum_eq]
            · rcases lt_total e1 e3 q3 with k3 | k3
              · rw [sum_lt k3, sum_lt k3]
              · rw [sum_gt k3, sum_gt k3, sum_assoc r1 _ _ g1.2.2.1 hb hc, sum_lt k23]
      · rw [sum_gt k23]
        by_cases q : e1 = e2
        · subst q; rw [sum_eq, sum_gt k23, sum_eq]
        · rcases lt_total e1 e2 q with k | k
          · rw [sum_lt k, sum_lt k, sum_gt k23]
          · rw [sum_gt k, sum_gt (lt_trans _ _ _ k23 k), sum_gt k, sum_assoc r1 _ _ g1.2.2.1 hb hc, sum_gt k23]
def one : O := add z 1 z
/-- nothing between an ordinal and the next one -/
theorem lt_succ_iff : ∀ (a b : O), ok a = true → ok b = true → lt a b = true → lt b (sum a one) = false
  | z, b, _, hb, h => by
    rw [z_sum]
    cases b with
    | z => cases h
    | add e c r =>
      have g := ok_add.mp hb
      show (if e = z then (if c = 1 then lt r z else decide (c < 1)) else lt e z) = false
      rw [not_lt_nil, not_lt_nil]
      split
      · split
        · rfl
        · exact decide_eq_false (by omega)
      · rfl
  | add e c r, z, _, _, h => by cases h
  | add e c r, add e' c' r', ha, hb, h => by
    have g := ok_add.mp ha
    have g' := ok_add.mp hb
    by_cases qz : e = z
    · subst qz
      show lt _ (sum (add z c r) (add z 1 z)) = false
      rw [sum_eq]
      have hr : r = z := by
        cases r with
        | z => rfl
        | add x y w => have := g.2.2.2; rw [show under z (add x y w) = lt x z from rfl, not_lt_nil] at this; cases this
      subst hr
      by_cases q : z = e'
      · subst q
        have hc : c < c' ∨ (c = c' ∧ lt z r' = true) := by
          simp only [lt, if_true] at h
          by_cases x : c = c'
          · rw [if_pos x] at h; exact .inr ⟨x, h⟩
          · rw [if_neg x] at h; exact .inl (of_decide_eq_true h)
        rcases hc with x | ⟨x, y⟩
        · by_cases x2 : c + 1 = c'
          · rw [x2, lt_rest, not_lt_nil]
          · exact lt_asymm (lt_cnt (by omega))
        · have hr' : r' = z := by
            cases r' with
            | z => rfl
            | add x2 y2 w2 => have := g'.2.2.2; rw [show under z (add x2 y2 w2) = lt x2 z from rfl, not_lt_nil] at this; cases this
          rw [hr'] at y; cases y
      · exact lt_asymm (lt_head (nil_lt (fun x => q x.symm)))
    · have k : lt z e = true := nil_lt qz
      show lt _ (sum (add e c r) (add z 1 z)) = false
      rw [sum_gt k]
      by_cases q : e = e'
      · subst q
        by_cases x : c = c'
        · subst x
          rw [lt_rest] at h ⊢
          exact lt_succ_iff r r' g.2.2.1 g'.2.2.1 h
        · simp only [lt, if_true] at h
          rw [if_neg x] at h
          exact lt_asymm (lt_cnt (of_decide_eq_true h))
      · have : lt e e' = true := by simpa [lt, q] using h
        exact lt_asymm (lt_head this)
theorem ok_one : ok one = true := by decide
theorem lt_succ {a : O} (h : ok a = true) : lt a (sum a one) = true := by
  have := sum_mono a z one h rfl ok_one rfl
  rw [sum_z] at this
  exact this
end O
end Vw

set_option Elab.async false
set_option linter.all false
set_option maxRecDepth 100000
namespace Vw
open PySem PySem.W PyProof.Rows L2
namespace O
def toDs : O → List PyData
  | z => []
  | add e c r => .tuple [.tuple (toDs e), .int c] :: toDs r
def toD (o : O) : PyData := .tuple (toDs o)
def dp : O → Nat
  | z => 0
  | add e _ r => max (dp e + 2) (dp r)
theorem depth_toDs : ∀ o : O, PyData.depthAll (toDs o) = dp o
  | z => by simp [toDs, dp, PyData.depthAll]
  | add e c r => by
    have h1 := depth_toDs e
    have h2 := depth_toDs r
    simp only [toDs, dp, PyData.depthAll, PyData.depth, h1, h2]
    omega
theorem depth_toD (o : O) : (toD o).depth = dp o + 1 := by simp only [toD, PyData.depth, depth_toDs]
theorem lay_toDs : ∀ o : O, PyData.canLayAll0 (toDs o) = true
  | z => by simp [toDs, PyData.canLayAll0]
  | add e c r => by simp [toDs, PyData.canLayAll0, PyData.canLay0, lay_toDs e, lay_toDs r]
theorem lay_toD (o : O) : (toD o).canLay0 = true := by simp only [toD, PyData.canLay0, lay_toDs]
theorem shaped_toD {o : O} (h : dp o ≤ 60) : SeqAt.shaped (toD o) = true := by
  unfold SeqAt.shaped
  rw [lay_toD, depth_toD]
  simp; omega
theorem alike_toDs : ∀ a b : O, alikeAll (toDs a) (toDs b) = true
  | z, _ => by simp [toDs, alikeAll]
  | add _ _ _, z => by simp [toDs, alikeAll]
  | add e c r, add e' c' r' => by simp [toDs, alikeAll, alike, alike_toDs e e', alike_toDs r r']
theorem alike_toD (a b : O) : alike (toD a) (toD b) = true := by simp only [toD, alike, alike_toDs]
theorem eqv_toDs : ∀ a b : O, PyData.eqvAll (toDs a) (toDs b) = decide (a = b)
  | z, z => by simp [toDs, PyData.eqvAll]
  | z, add _ _ _ => by simp [toDs, PyData.eqvAll]
  | add _ _ _, z => by simp [toDs, PyData.eqvAll]
  | add e c r, add e' c' r' => by
    simp only [toDs, PyData.eqvAll, PyData.eqv, eqv_toDs e e', eqv_toDs r r']
    by_cases h1 : e = e' <;> by_cases h2 : c = c' <;> by_cases h3 : r = r' <;> simp [h1, h2, h3]
theorem eqv_toD (a b : O) : PyData.eqv (toD a) (toD b) = decide (a = b) := by simp only [toD, PyData.eqv, eqv_toDs]
/-- a term -/
def tD (p : O × Int) : PyData := .tuple [toD p.1, .int p.2]
theorem toDs_ts : ∀ o : O, toDs o = (ts o).map tD
  | z => rfl
  | add e c r => by show _ :: toDs r = _ :: _; rw [toDs_ts r]; rfl
theorem lt_toDs : ∀ a b : O, PyProof.Rows.lexLt itemOrd (keyToksAll (toDs a)) (keyToksAll (toDs b)) = lt a b
  | z, z => lex_irrefl _
  | z, add e c r => by
    simp only [toDs, toks_all_cons]
    simp only [keyToksAll]
    rw [lex_diff (O := itemOrd) (by simp)]
    rfl
  | add e c r, z => by
    simp only [toDs, toks_all_cons]
    simp only [keyToksAll]
    rw [lex_diff (O := itemOrd) (by simp)]
    rfl
  | add e c r, add e' c' r' => by
    have al : alike (.tuple [.tuple (toDs e), .int c]) (.tuple [.tuple (toDs e'), .int c']) = true := by simp [alikeAll, alike, alike_toDs e e']
    have ev : PyData.eqv (.tuple [.tuple (toDs e), .int c]) (.tuple [.tuple (toDs e'), .int c']) = decide (e = e' ∧ c = c') := by
      simp only [PyData.eqvAll, PyData.eqv, eqv_toDs e e']
      by_cases h1 : e = e' <;> by_cases h2 : c = c' <;> simp [h1, h2]
    simp only [toDs, lt]
    by_cases h1 : e = e'
    · by_cases h2 : c = c'
      · rw [dataLt_all_yes al (by rw [ev]; simp [h1, h2]), lt_toDs r r', if_pos h1, if_pos h2]
      · rw [dataLt_all_no al (by rw [ev]; simp [h1, h2]), if_pos h1, if_neg h2, dataLt_tuple, dataLt_all_yes (by simp [alike, alike_toDs e e']) (by subst h1; simp [PyData.eqv, eqv_toDs]), dataLt_all_no (by simp [alike]) (by simp [PyData.eqv, h2]), dataLt_int]
    · rw [dataLt_all_no al (by rw [ev]; simp [h1]), if_neg h1, dataLt_tuple, dataLt_all_no (by simp [alike, alike_toDs e e']) (by simp only [PyData.eqv, eqv_toDs e e']; simp [h1]), dataLt_tuple, lt_toDs e e']
theorem lt_toD (a b : O) : dataLt (toD a) (toD b) = lt a b := by rw [toD, toD, dataLt_tuple, lt_toDs]
end O
/-! ### < > <= >= of data -/
section
variable {X : Cx}
@[irreducible] def rCmp (g : PyData → PyData → Bool) (K : PySem.W.Frag) : R2 := fun x y H Q => ∃ d e, Dp K H x d ∧ Dp K H y e ∧ alike d e = true ∧ d ≠ .none ∧ d.depth ≤ 64 ∧ Q (.bl (g d e)) H
theorem op_ltD (hu : X.A.units + 64 < cLine) : OpR X (compareOp .Lt) (rCmp (fun d e => dataLt d e) X.K) := by
  intro pins s σ H x y v u Q I rx ry h
  unfold rCmp at h
  obtain ⟨d, e, hd, he, al, hn, hz, q⟩ := h
  obtain ⟨as, r1⟩ := Dp.reads I d x v hd rx
  obtain ⟨bs, r2⟩ := Dp.reads I e y u he ry
  exact lt_data r1 r2 al hn (by have := Nat.min_le_left d.depth e.depth; omega) ⟨.bl _, H, I, rfl, q⟩
theorem op_gtD (hu : X.A.units + 64 < cLine) : OpR X (compareOp .Gt) (rCmp (fun d e => dataLt e d) X.K) := by
  intro pins s σ H x y v u Q I rx ry h
  unfold rCmp at h
  obtain ⟨d, e, hd, he, al, hn, hz, q⟩ := h
  obtain ⟨as, r1⟩ := Dp.reads I d x v hd rx
  obtain ⟨bs, r2⟩ := Dp.reads I e y u he ry
  exact gt_data r1 r2 al hn (by have := Nat.min_le_left d.depth e.depth; omega) ⟨.bl _, H, I, rfl, q⟩
theorem op_leD (hu : X.A.units + 64 < cLine) : OpR X (compareOp .LtE) (rCmp (fun d e => !dataLt e d) X.K) := by
  intro pins s σ H x y v u Q I rx ry h
  unfold rCmp at h
  obtain ⟨d, e, hd, he, al, hn, hz, q⟩ := h
  obtain ⟨as, r1⟩ := Dp.reads I d x v hd rx
  obtain ⟨bs, r2⟩ := Dp.reads I e y u he ry
  exact le_data r1 r2 al hn (by have := Nat.min_le_left d.depth e.depth; omega) ⟨.bl _, H, I, rfl, q⟩
theorem op_geD (hu : X.A.units + 64 < cLine) : OpR X (compareOp .GtE) (rCmp (fun d e => !dataLt d e) X.K) := by
  intro pins s σ H x y v u Q I rx ry h
  unfold rCmp at h
  obtain ⟨d, e, hd, he, al, hn, hz, q⟩ := h
  obtain ⟨as, r1⟩ := Dp.reads I d x v hd rx
  obtain ⟨bs, r2⟩ := Dp.reads I e y u he ry
  exact ge_data r1 r2 al hn (by have := Nat.min_le_left d.depth e.depth; omega) ⟨.bl _, H, I, rfl, q⟩
end
end Vw

set_option Elab.async false
set_option linter.all false
set_option maxRecDepth 100000
namespace Vw
open PySem PySem.W PySem.SeqAt PyProof.Rows
section
variable {prog : Program} {w : World} {A : Around} {E : Value → Shared → Prop} {s : Shared}
theorem call_tuple_lt {Q : Value → Shared → Prop} {l b : Addr} {items items2 : Array Value} {e r : Nat → Bool} (hl : s.heap.IsTuple l items) (hb : s.heap.IsTuple b items2)
    (he : ∀ j (h1 : j < items.size) (h2 : j < items2.size), EqAt A.in1 s items[j] items2[j] (e j)) (hr : ∀ j (h1 : j < items.size) (h2 : j < items2.size), e j = false → RcLt A.in1 s items[j] items2[j] (r j))
    (h : Q (.bool (firstLt e r (decide (items.size < items2.size)) (List.range (min items.size items2.size)))) s) : wpAny (model prog w) A (call (.builtin "tuple.__lt__") [.ref l, .ref b]) Q E s := by
  obtain ⟨⟨cls, dd, data, sl⟩, ho, hc, n, hd⟩ := id hl
  obtain ⟨⟨cls2, dd2, data2, sl2⟩, ho2, hc2, n2, hd2⟩ := id hb
  simp only at hc hd hc2 hd2
  subst hc hd hc2 hd2
  exact call_meets F.slot_tuple_lt ⟨_, ho, rfl⟩ F.entry_tuple_lt (F.args_tuple_lt_2 _ _) (SeqAt.tuple_ltAt l b items items2 n n2 dd dd2 sl sl2 e r) ⟨ho, ho2, he, hr, h⟩
/-- two tuples by tuple's own less-than -/
theorem oneLt_tups {xs ys : List PyData} {a b : Value} {as bs : List Addr} {Q : Bool → Shared → Prop} (ra : Reads s.heap a (.tuple xs) as) (rb : Reads s.heap b (.tuple ys) bs) (h : alike (.tuple xs) (.tuple ys) = true)
    (hu : A.units + min (PyData.tuple xs).depth (PyData.tuple ys).depth < cLine) (hq : Q (dataLt (.tuple xs) (.tuple ys)) s) : wpAny (model prog w) A (oneLt' true a b) Q E s := by
  have hal : alikeAll xs ys = true := by simpa [alike] using h
  cases ra with
  | @tuple l o vs n _ as₁ h1 h2 h3 h4 =>
    cases rb with
    | @tuple l' o' vs' n' _ bs₁ k1 k2 k3 k4 =>
      have n1 : vs.size = xs.length := by simpa using ReadsAll.length _ _ _ h4
      have n2 : vs'.size = ys.length := by simpa using ReadsAll.length _ _ _ k4
      rw [dataLt_tuple, ← firstLt_toks xs ys hal, ← n1, ← n2] at hq
      rw [oneLt'_eq]
      simp only [if_true]
      refine wpAny_bind (wpAny_cRoomFor (room_here hu) ?_)
      refine wpAny_bind (wpAny_callSpecialIfBound?_slot (T := "tuple") ⟨_, h1, h2⟩ F.slot_tuple_lt (call_tuple_lt (e := pairEq xs ys) (r := fun j => dataLt (xs.getD j .none) (ys.getD j .none)) ⟨_, h1, h2, _, h3⟩ ⟨_, k1, k2, _, k3⟩ (fun j j1 j2 => ?_) (fun j j1 j2 hj => ?_) ?_))
      · have := eqAt_alikeAll xs ys A.in1 s vs.toList vs'.toList _ _ h4 k4 hal (room_in hu) j (by simpa using j1) (by simpa using j2)
        simpa using this
      · have := rcLt_alikeAll xs ys A.in1 s vs.toList vs'.toList _ _ h4 k4 hal (room_in hu) j (by simpa using j1) (by simpa using j2) hj
        simpa using this
      · exact wpAny_truthy_bool hq
theorem keyLt'_general (x y : Value) : keyLt' general' x y = oneLt' false x y := rfl
/-- a tuple with an item -/
def fullT : PyData → Bool
  | .tuple (_ :: _) => true
  | _ => false
theorem fullT_no {d : PyData} (h : d = .tuple []) : fullT d = false := by subst h; rfl
theorem fullT_yes {xs : List PyData} (h : ¬ PyData.tuple xs = .tuple []) : fullT (.tuple xs) = true := by
  cases xs with
  | nil => exact absurd rfl h
  | cons _ _ => rfl
/-- the first items -/
theorem firsts_any : ∀ {vs : List Value} {ds : List PyData}, EachIs (fun v d => ∃ as, Reads s.heap v d as) vs ds → (∀ d ∈ ds, ∃ xs, d = .tuple xs) →
    ∃ fs : List (Option Value), fs.map (·.isSome) = ds.map fullT ∧ ∀ (Q : List (Option Value) → Shared → Prop), Q fs s → wpAny (model prog w) A (vs.mapM firstOfTuple') Q E s
  | _, _, .nil, _ => ⟨[], rfl, fun Q q => by rw [List.mapM_nil]; exact wpAny_pure q⟩
  | _, _, .cons (a := v) (b := d) ⟨as, r⟩ t, ht => by
    obtain ⟨fs, h1, h2⟩ := firsts_any t fun d hd => ht d (List.mem_cons_of_mem _ hd)
    obtain ⟨xs, rfl⟩ := ht d (List.mem_cons_self ..)
    cases r with
    | @tuple a o vs n _ _ ho hc hd hr =>
      have hn : vs.size = xs.length := by simpa using ReadsAll.length _ _ _ hr
      refine ⟨vs[0]? :: fs, ?_, fun Q q => ?_⟩
      · rw [List.map_cons, List.map_cons, h1]
        congr 1
        cases xs with
        | nil =>
          have : vs.size = 0 := by simpa using hn
          simp [this, fullT]
        | cons x r =>
          have : 0 < vs.size := by simp at hn; omega
          simp [this, fullT]
      · rw [List.mapM_cons]
        refine wpAny_bind ?_
        rw [kas_first_eq]
        refine wpAny_bind (Looks.here (show Looks (model prog w) s.heap (typeOf (.ref a)) o.cls from (Looks.ld ho).andThen .now) ?_)
        rw [hc, if_neg (by first | decide | simp)]
        refine wpAny_bind (listItems_at ho hd (wpAny_pure ?_))
        exact wpAny_bind (h2 _ (wpAny_pure q))
/-- the kind of tuples of which some are empty -/
theorem kind_tups {vs : List Value} {ds : List PyData} (e : EachIs (fun v d => ∃ as, Reads s.heap v d as) vs ds) (ht : ∀ d ∈ ds, ∃ xs, d = .tuple xs) (hx : .tuple [] ∈ ds) :
    ∃ kd, (kd = oneType' ∨ kd = general') ∧ ∀ (E : Value → Shared → Prop) (Q : SortKind → Shared → Prop), Q kd s → wpAny (model prog w) A (keyKind' vs.toArray) Q E s := by
  have hall : ∀ fs : List (Option Value), fs.map (·.isSome) = ds.map fullT → ¬ (fs.toArray.all (·.isSome)) = true := fun fs hf hh => by
    simp only [List.all_toArray] at hh
    have h2 : (fs.map (·.isSome)).all id = true := by rw [List.all_map]; exact hh
    rw [hf, List.all_map, List.all_eq_true] at h2
    have := h2 _ hx
    simp [fullT] at this
  cases ds with
  | nil => cases hx
  | cons d₀ ds₀ =>
    have hsp : ∀ fs : List (Option Value), fs.map (·.isSome) = (d₀ :: ds₀).map fullT → (fs.toArray[0]?.bind id).isSome = fullT d₀ := fun fs hf => by
      cases fs with
      | nil => simp at hf
      | cons f r =>
        rw [List.map_cons, List.map_cons] at hf
        have := (List.cons.inj hf).1
        simpa using this
    by_cases h0 : d₀ = .tuple []
    · refine ⟨oneType', .inl rfl, fun E Q q => ?_⟩
      obtain ⟨fs, h1, h2⟩ := firsts_any (prog := prog) (w := w) (A := A) (E := E) (s := s) e ht
      rw [keyKind'_eq, List.mapM_toArray, map_eq_pure_bind]
      refine wpAny_bind (wpAny_bind (h2 _ (wpAny_pure ?_)))
      rw [if_neg (hall fs h1), if_neg (by rw [hsp fs h1, fullT_no h0]; exact Bool.false_ne_true)]
      rw [oneTypeOnly'_eq, List.mapM_toArray, map_eq_pure_bind]
      refine wpAny_bind (wpAny_bind (wpAny_bind (kas_mapM (r := Value.type "tuple") _ (fun v hv Q' hq => ?_) (wpAny_pure ?_))))
      · obtain ⟨d, hd, as, r⟩ := e.left v hv
        obtain ⟨xs, rfl⟩ := ht d hd
        exact (looks_reads r).here hq
      · have hne : vs ≠ [] := by rintro rfl; cases e
        obtain ⟨v0, vr, rfl⟩ : ∃ v0 vr, vs = v0 :: vr := by
          cases vs with
          | nil => exact absurd rfl hne
          | cons v0 vr => exact ⟨v0, vr, rfl⟩
        have hall3 : ((List.map (fun _ => Value.type "tuple") (v0 :: vr)).toArray.all fun x => x == Value.type "tuple") = true := by
          simp only [List.all_toArray, List.all_map, List.all_eq_true]
          intro _ _
          exact beq_self_eq_true _
        have h00 : (List.map (fun _ => Value.type "tuple") (v0 :: vr)).toArray[0]? = some (Value.type "tuple") := by simp
        rw [h00]
        simp only [hall3, if_true]
        exact wpAny_pure (wpAny_pure q)
    · refine ⟨general', .inr rfl, fun E Q q => ?_⟩
      obtain ⟨fs, h1, h2⟩ := firsts_any (prog := prog) (w := w) (A := A) (E := E) (s := s) e ht
      rw [keyKind'_eq, List.mapM_toArray, map_eq_pure_bind]
      refine wpAny_bind (wpAny_bind (h2 _ (wpAny_pure ?_)))
      rw [if_neg (hall fs h1), if_pos (by rw [hsp fs h1]; obtain ⟨xs, rfl⟩ := ht d₀ (List.mem_cons_self ..); exact fullT_yes h0)]
      exact wpAny_pure q
/-- tuples that are alike can be sorted, also where some are empty -/
theorem SortsAt.tups {vs : List Value} {ds : List PyData} (e : EachIs (fun v d => ∃ as, Reads s.heap v d as) vs ds) (hal : AllAlike ds) (ht : ∀ d ∈ ds, ∃ xs, d = .tuple xs) (hu : ∀ d, d ∈ ds → A.units + d.depth < cLine) : SortsAt prog w A s (dataKind s.heap ds) vs := by
  by_cases hx : .tuple [] ∈ ds
  · have room : ∀ {d d' : PyData}, d ∈ ds → A.units + min d.depth d'.depth < cLine := fun {d d'} hd => Nat.lt_of_le_of_lt (Nat.add_le_add_left (Nat.min_le_left _ _) _) (hu d hd)
    refine ⟨fun v hv => ?_, ?_⟩
    · obtain ⟨d, hd, as, r⟩ := e.left v hv
      exact ⟨_, dataKind_some hal hd r⟩
    · obtain ⟨kd, hk, h2⟩ := kind_tups (prog := prog) (w := w) (A := A) (s := s) e ht hx
      refine ⟨kd, ?_, fun _ E Q q => h2 E Q q⟩
      intro E x y a b Q ha hb hq
      obtain ⟨d, as, hd, ra, rfl⟩ := dataKind_inv ha
      obtain ⟨d', as', hd', rb, rfl⟩ := dataKind_inv hb
      have hdd := hal d hd d' hd'
      have hroom := room (d' := d') hd
      obtain ⟨x1, rfl⟩ := ht d hd
      obtain ⟨x2, rfl⟩ := ht d' hd'
      rcases hk with rfl | rfl
      · rw [keyLt'_oneType]
        exact oneLt_tups ra rb hdd hroom hq
      · rw [keyLt'_general]
        exact oneLt_alike (fun z => absurd z Bool.false_ne_true) ra rb hdd (fun z => by cases z) hroom hq
  · exact SortsAt.data e hal (.inl fun d hd => by
      obtain ⟨xs, rfl⟩ := ht d hd
      cases xs with
      | nil => exact absurd hd hx
      | cons x r => exact ⟨x, r, rfl⟩) hu
end
end Vw

set_option Elab.async false
set_option linter.all false
set_option maxRecDepth 100000
namespace Vw
open PySem PySem.W PyProof.Rows L2
/-! ### heaps -/
/-- all but the object at b stay -/
def Kp (b : Addr) (H H' : Hp) : Prop := ∀ a o, a ≠ b → H a = some o → H' a = some o
theorem Kp.refl {b : Addr} (H : Hp) : Kp b H H := fun _ _ _ h => h
theorem Kp.trans {b : Addr} {H H1 H2 : Hp} (x : Kp b H H1) (y : Kp b H1 H2) : Kp b H H2 := fun a o n h => y a o n (x a o n h)
theorem same_kp {b : Addr} {H H' : Hp} (x : Same H H') : Kp b H H' := fun a o _ h => x a o h
theorem Kp.upd {b : Addr} {H : Hp} {o : HO} : Kp b H (upd H b o) := fun a u n h => by rw [upd_ne n]; exact h
theorem same_new {H : Hp} {p : Addr} {o : HO} (h : H p = none) : Same H (upd H p o) := fun b u q => by rw [upd_ne (ne_of_none q h)]; exact q
/-- an object that H did not know may change -/
theorem same_mut {H H' : Hp} {p : Addr} {o : HO} (x : Same H H') (h : H p = none) : Same H (upd H' p o) := fun b u q => by rw [upd_ne (ne_of_none q h)]; exact x b u q
theorem kp_mut {b : Addr} {H H' : Hp} {p : Addr} {o : HO} (x : Kp b H H') (h : H p = none) : Kp b H (upd H' p o) := fun a u n q => by rw [upd_ne (ne_of_none q h)]; exact x a u n q
/-- all tuples stay -/
def Tp (H H' : Hp) : Prop := ∀ a xs, H a = some (.tup xs) → H' a = some (.tup xs)
theorem Tp.refl (H : Hp) : Tp H H := fun _ _ h => h
theorem Tp.trans {H H1 H2 : Hp} (x : Tp H H1) (y : Tp H1 H2) : Tp H H2 := fun a o h => y a o (x a o h)
theorem same_tp {H H' : Hp} (x : Same H H') : Tp H H' := fun a xs h => x a _ h
theorem Kp.tp {b : Addr} {H H' : Hp} {ys : List V} (x : Kp b H H') (hb : H b = some (.lst ys)) : Tp H H' := fun a xs h => x a _ (ne_of h hb (fun z => by cases z)) h
theorem tp_new {H : Hp} {p : Addr} {o : HO} (h : H p = none) : Tp H (upd H p o) := same_tp (same_new h)
theorem tp_lst {H : Hp} {p : Addr} {ys : List V} {o : HO} (h : H p = some (.lst ys)) : Tp H (upd H p o) := fun a xs q => by rw [upd_ne (ne_of q h (fun z => by cases z))]; exact q

/-! ### ordinals in the heap -/
def KT (K : PySem.W.Frag) (a : Addr) (xs : List V) : Prop := ∃ (o : Obj) (its : Array Value) (n : Nat), K.lookup a = some o ∧ o.cls = .type "tuple" ∧ o.data = .seq its n ∧ its.size ≤ sizeLine ∧ Vals xs its.toList
def TT (K : PySem.W.Frag) (H : Hp) (a : Addr) (xs : List V) : Prop := H a = some (.tup xs) ∨ KT K a xs
section
variable {K : PySem.W.Frag} {H H' : Hp}
theorem TT.tp {a : Addr} {xs : List V} (t : Tp H H') (h : TT K H a xs) : TT K H' a xs := h.imp (t a xs) id
theorem TT.sq {a : Addr} {xs : List V} (h : TT K H a xs) : SqT K H a xs := by
  rcases h with h | h
  · exact .inl (.inl h)
  · exact .inr h
theorem TT.of {a : Addr} {xs : List V} (h : H a = some (.tup xs)) : TT K H a xs := .inl h
theorem TT.ty {a : Addr} {xs : List V} (h : TT K H a xs) : TyX K H (.ref a) (.type "tuple") := by
  rcases h with h | ⟨o, its, n, h1, h2, _⟩
  · exact .base (.tup h)
  · exact .kTuple h1 h2
def TsA (K : PySem.W.Frag) (H : Hp) : List V → O → Prop
  | vs, .z => vs = []
  | vs, .add e c r => ∃ p q ws vr, vs = .ref p :: vr ∧ TT K H p [.ref q, .int c] ∧ TT K H q ws ∧ TsA K H ws e ∧ TsA K H vr r
def OA (K : PySem.W.Frag) (H : Hp) (v : V) (o : O) : Prop := ∃ a vs, v = .ref a ∧ TT K H a vs ∧ TsA K H vs o
/-- a term -/
def TmA (K : PySem.W.Frag) (H : Hp) (v : V) (t : O × Int) : Prop := ∃ p q, v = .ref p ∧ TT K H p [.ref q, .int t.2] ∧ OA K H (.ref q) t.1
theorem TsA.tp (t : Tp H H') : ∀ {o : O} {vs : List V}, TsA K H vs o → TsA K H' vs o
  | .z, _, h => h
  | .add e c r, _, h => by
    obtain ⟨p, q, ws, vr, rfl, h1, h2, h3, h4⟩ := h
    exact ⟨p, q, ws, vr, rfl, h1.tp t, h2.tp t, TsA.tp t h3, TsA.tp t h4⟩
theorem OA.tp {v : V} {o : O} (t : Tp H H') (h : OA K H v o) : OA K H' v o := by
  obtain ⟨a, vs, rfl, h1, h2⟩ := h
  exact ⟨a, vs, rfl, h1.tp t, h2.tp t⟩
theorem TmA.tp {v : V} {x : O × Int} (t : Tp H H') (h : TmA K H v x) : TmA K H' v x := by
  obtain ⟨p, q, rfl, h1, h2⟩ := h
  exact ⟨p, q, rfl, h1.tp t, h2.tp t⟩
theorem TsA.pair : ∀ {o : O} {vs : List V}, TsA K H vs o → Paired (TmA K H) vs (O.ts o)
  | .z, _, h => by cases h; exact .nil
  | .add e c r, _, h => by
    obtain ⟨p, q, ws, vr, rfl, h1, h2, h3, h4⟩ := h
    exact .cons ⟨p, q, rfl, h1, q, ws, rfl, h2, h3⟩ (TsA.pair h4)
theorem TsA.of : ∀ {l : List (O × Int)} {vs : List V}, Paired (TmA K H) vs l → TsA K H vs (O.of l)
  | _, _, .nil => rfl
  | _, _, .cons (b := (e, c)) ⟨p, q, h0, h1, q', ws, h2, h3, h4⟩ t => by
    cases h0
    cases h2
    exact ⟨p, q, ws, _, rfl, h1, h3, h4, TsA.of t⟩
theorem OA.of {a : Addr} {vs : List V} {l : List (O × Int)} (h : TT K H a vs) (p : Paired (TmA K H) vs l) : OA K H (.ref a) (O.of l) := ⟨a, vs, rfl, h, .of p⟩
theorem paired_mono {α β : Type} {F G : α → β → Prop} (h : ∀ a b, F a b → G a b) : ∀ {xs : List α} {ys : List β}, Paired F xs ys → Paired G xs ys
  | _, _, .nil => .nil
  | _, _, .cons a t => .cons (h _ _ a) (paired_mono h t)
theorem paired_app {α β : Type} {F : α → β → Prop} : ∀ {xs xs2 : List α} {ys ys2 : List β}, Paired F xs ys → Paired F xs2 ys2 → Paired F (xs ++ xs2) (ys ++ ys2)
  | _, _, _, _, .nil, t => t
  | _, _, _, _, .cons a t, u => .cons a (paired_app t u)
theorem paired_get {α β : Type} {F : α → β → Prop} : ∀ {xs : List α} {ys : List β} {i : Nat} {x : α}, Paired F xs ys → xs[i]? = some x → ∃ y, ys[i]? = some y ∧ F x y
  | _, _, _, _, .nil, h => by simp at h
  | _, _, 0, _, .cons a t, h => by
    simp at h; subst h
    exact ⟨_, rfl, a⟩
  | _, _, i + 1, _, .cons a t, h => by
    obtain ⟨y, h1, h2⟩ := paired_get (i := i) t (by simpa using h)
    exact ⟨y, by simpa using h1, h2⟩
theorem paired_get' {α β : Type} {F : α → β → Prop} : ∀ {xs : List α} {ys : List β} {i : Nat} {y : β}, Paired F xs ys → ys[i]? = some y → ∃ x, xs[i]? = some x ∧ F x y
  | _, _, _, _, .nil, h => by simp at h
  | _, _, 0, _, .cons a t, h => by
    simp at h; subst h
    exact ⟨_, rfl, a⟩
  | _, _, i + 1, _, .cons a t, h => by
    obtain ⟨y, h1, h2⟩ := paired_get' (i := i) t (by simpa using h)
    exact ⟨y, by simpa using h1, h2⟩
theorem paired_len {α β : Type} {F : α → β → Prop} : ∀ {xs : List α} {ys : List β}, Paired F xs ys → xs.length = ys.length
  | _, _, .nil => rfl
  | _, _, .cons _ t => congrArg Nat.succ (paired_len t)
theorem paired_take {α β : Type} {F : α → β → Prop} : ∀ {xs : List α} {ys : List β} (n : Nat), Paired F xs ys → Paired F (xs.take n) (ys.take n)
  | _, _, 0, _ => .nil
  | _, _, _ + 1, .nil => .nil
  | _, _, n + 1, .cons a t => .cons a (paired_take n t)
theorem paired_drop {α β : Type} {F : α → β → Prop} : ∀ {xs : List α} {ys : List β} (n : Nat), Paired F xs ys → Paired F (xs.drop n) (ys.drop n)
  | _, _, 0, h => h
  | _, _, _ + 1, .nil => .nil
  | _, _, n + 1, .cons a t => paired_drop n t
theorem paired_filter {α β : Type} {F : α → β → Prop} (f : α → Bool) (g : β → Bool) (h : ∀ a b, F a b → f a = g b) : ∀ {xs : List α} {ys : List β}, Paired F xs ys → Paired F (xs.filter f) (ys.filter g)
  | _, _, .nil => .nil
  | _, _, .cons (a := a) (b := b) x t => by
    rw [List.filter_cons, List.filter_cons, h a b x]
    cases g b with
    | true => exact .cons x (paired_filter f g h t)
    | false => exact paired_filter f g h t
mutual
theorem TsA.dp : ∀ {o : O} {vs : List V}, TsA K H vs o → DpAll K H vs (O.toDs o)
  | .z, _, h => by cases h; exact .nil
  | .add e c r, _, h => by
    obtain ⟨p, q, ws, vr, rfl, h1, h2, h3, h4⟩ := h
    exact .cons (.tup h1.sq (.cons (.tup h2.sq (TsA.dp h3)) (.cons (.int c) .nil))) (TsA.dp h4)
end
theorem OA.dp {v : V} {o : O} (h : OA K H v o) : Dp K H v (O.toD o) := by
  obtain ⟨a, vs, rfl, h1, h2⟩ := h
  exact .tup h1.sq h2.dp
theorem OA.ref {v : V} {o : O} (h : OA K H v o) : ∃ a, v = .ref a := by
  obtain ⟨a, vs, rfl, _⟩ := h
  exact ⟨a, rfl⟩
theorem OA.nil {a : Addr} (h : TT K H a []) : OA K H (.ref a) .z := ⟨a, [], rfl, h, rfl⟩
/-! ### what the comparisons ask -/
variable {x y : V} {a b : O} {Q : VK}
theorem rd_lt (ha : OA K H x a) (hb : OA K H y b) (h : O.dp a ≤ 60) (q : Q (.bl (O.lt a b)) H) : rCmp (fun d e => dataLt d e) K x y H Q := by
  unfold rCmp
  exact ⟨_, _, ha.dp, hb.dp, O.alike_toD a b, (fun z => by cases z), by rw [O.depth_toD]; omega, by show Q (.bl (dataLt _ _)) H; rw [O.lt_toD]; exact q⟩
theorem rd_gt (ha : OA K H x a) (hb : OA K H y b) (h : O.dp a ≤ 60) (q : Q (.bl (O.lt b a)) H) : rCmp (fun d e => dataLt e d) K x y H Q := by
  unfold rCmp
  exact ⟨_, _, ha.dp, hb.dp, O.alike_toD a b, (fun z => by cases z), by rw [O.depth_toD]; omega, by show Q (.bl (dataLt _ _)) H; rw [O.lt_toD]; exact q⟩
theorem rd_le (ha : OA K H x a) (hb : OA K H y b) (h : O.dp a ≤ 60) (q : Q (.bl (!O.lt b a)) H) : rCmp (fun d e => !dataLt e d) K x y H Q := by
  unfold rCmp
  exact ⟨_, _, ha.dp, hb.dp, O.alike_toD a b, (fun z => by cases z), by rw [O.depth_toD]; omega, by show Q (.bl (!dataLt _ _)) H; rw [O.lt_toD]; exact q⟩
theorem rd_ge (ha : OA K H x a) (hb : OA K H y b) (h : O.dp a ≤ 60) (q : Q (.bl (!O.lt a b)) H) : rCmp (fun d e => !dataLt d e) K x y H Q := by
  unfold rCmp
  exact ⟨_, _, ha.dp, hb.dp, O.alike_toD a b, (fun z => by cases z), by rw [O.depth_toD]; omega, by show Q (.bl (!dataLt _ _)) H; rw [O.lt_toD]; exact q⟩
@[irreducible] def rEqO (K : PySem.W.Frag) : R2 := rEqD K
@[irreducible] def rNeO (K : PySem.W.Frag) : R2 := rNeD K
theorem rd_eq (ha : OA K H x a) (hb : OA K H y b) (h : O.dp a ≤ 60) (h2 : O.dp b ≤ 60) (q : Q (.bl (decide (a = b))) H) : rEqO K x y H Q := by
  unfold rEqO
  exact ⟨_, _, ha.dp, hb.dp, O.shaped_toD h, O.shaped_toD h2, by rw [O.eqv_toD]; exact q⟩
theorem rd_ne (ha : OA K H x a) (hb : OA K H y b) (h : O.dp a ≤ 60) (h2 : O.dp b ≤ 60) (q : Q (.bl (!decide (a = b))) H) : rNeO K x y H Q := by
  unfold rNeO
  exact ⟨_, _, ha.dp, hb.dp, O.shaped_toD h, O.shaped_toD h2, by rw [O.eqv_toD]; exact q⟩
end
theorem op_eqO {X : Cx} (hu : X.A.units + 64 < cLine) : OpR X (compareOp .Eq) (rEqO X.K) := by unfold rEqO; exact op_eqD hu
theorem op_neO {X : Cx} (hu : X.A.units + 64 < cLine) : OpR X (compareOp .NotEq) (rNeO X.K) := by unfold rNeO; exact op_neD hu
/-! ### sorted(.., reverse=True) of ordinals -/
def rSortedO (K : PySem.W.Frag) : List V → List V → Hp → VK → Prop := fun vs zs H Q => ∃ (a : Addr) (xs : List V) (os : List O), vs = [V.ref a] ∧ zs = [.bl true] ∧ SqL K H a xs ∧ Paired (OA K H) xs os ∧ (∀ o ∈ os, O.dp o ≤ 60) ∧
  ∀ (ys : List V) (os' : List O) (p : Addr), Paired (OA K H) ys os' → os'.Perm os → os'.Pairwise (fun a b => O.lt a b = false) → H p = none → Q (.ref p) (upd H p (.lst ys))
theorem dataLe_toD (a b : O) : dataLe true O.toD a b = !O.lt a b := by
  show sortLe (listOrd itemOrd) true (fun b => keyToks (O.toD b)) a b = _
  rw [← O.lt_toD]
  rfl
section
variable {X : Cx}
theorem each_of {R : Value → O → Prop} {F : V → O → Prop} (h : ∀ x u o, F x o → RelV x u → R u o) : ∀ {xs : List V} {os : List O} {us : List Value}, Paired F xs os → Vals xs us → EachIs R us os
  | _, _, _, .nil, .nil => .nil
  | _, _, _, .cons a t, .cons b u => .cons (h _ _ _ a b) (each_of h t u)
theorem each_back {F : V → O → Prop} : ∀ {us : List Value} {os : List O}, EachIs (fun u o => ∃ x, RelV x u ∧ F x o) us os → ∃ ys, Vals ys us ∧ Paired F ys os
  | _, _, .nil => ⟨[], .nil, .nil⟩
  | _, _, .cons ⟨x, a, b⟩ t => by
    obtain ⟨ys, h1, h2⟩ := each_back t
    exact ⟨x :: ys, .cons a h1, .cons b h2⟩
theorem cr_sortedO (hu : X.A.units + 64 < cLine) : CallRK X (.builtin "sorted") [Str.ofString "reverse"] (rSortedO X.K) := by
  intro pins s σ H vs zs us ws Q I r rz h
  obtain ⟨a, xs, os, rfl, rfl, hs, hp, hd, q⟩ := h
  obtain rfl := Vals.ref1 r
  obtain ⟨w1, rfl, e1⟩ := vals1 rz
  obtain rfl : w1 = Value.bool true := e1
  obtain ⟨its, rv, hl, hz⟩ := I.list hs
  have e0 : EachIs (fun u o => ∃ x, RelV x u ∧ OA X.K H x o) its os := each_of (fun x u o a b => ⟨x, b, a⟩) hp rv
  have er : EachIs (fun v o => ∃ as, Reads s.heap v (O.toD o) as) its os := e0.mono fun u o ⟨x, rx, ox⟩ => Dp.reads I _ _ _ ox.dp rx
  have er' : EachIs (fun v o => ∃ as, Reads (sortingHeap (copyHeap s.heap its) (s.heap.objs.size + 1) its) v (O.toD o) as) its os := er.mono fun _ _ ⟨as, r⟩ => ⟨as, PyProof.Rows.Reads.keeps (fun _ _ => sorting_copy_old) r⟩
  have hal : AllAlike (os.map O.toD) := AllAlike.of O.alike_toD
  refine sorted_rev_vals (b := true) hl.isList (SortsAt.tups (s := { s with heap := sortingHeap (copyHeap s.heap its) (s.heap.objs.size + 1) its }) (each_map (R := fun v d => ∃ as, Reads (sortingHeap (copyHeap s.heap its) (s.heap.objs.size + 1) its) v d as) O.toD er') hal (fun d hd => ?_) (fun d hm => ?_)) (by rw [← rv.length]; exact hz) ?_
  · obtain ⟨o, _, rfl⟩ := List.mem_map.mp hd
    exact ⟨_, rfl⟩
  · obtain ⟨o, ho, rfl⟩ := List.mem_map.mp hm
    rw [O.depth_toD]
    have := hd o ho
    show X.A.units + 1 + 1 + _ < _
    omega
  · have e2 := sortVals_data (h' := sortingHeap (copyHeap s.heap its) (s.heap.objs.size + 1) its) (enc := O.toD) true e0 er' hal
    obtain ⟨ys, v1, v2⟩ := each_back e2
    obtain ⟨ep, he'⟩ := PyProof.Rows.sortedAll_at s.heap its (sortVals (dataKind (sortingHeap (copyHeap s.heap its) (s.heap.objs.size + 1) its) (os.map O.toD)) true its its).toArray
    have hlen : ys.length ≤ sizeLine := by
      rw [paired_len v2, (List.mergeSort_perm os _).length_eq, ← paired_len hp]
      exact hz
    refine ⟨.ref _, upd H (s.heap.objs.size + 1) (.lst ys), I.laid (t' := s.toks) (fun _ _ => PyProof.Rows.sortedAll_old) (Nat.le_succ _) ⟨hlen, _, ep, v1, he'⟩, rfl, q _ _ _ v2 (List.mergeSort_perm os _) ?_ (I.hok.fresh (Nat.le_succ _))⟩
    refine (List.pairwise_mergeSort (le := dataLe true O.toD) (fun a b c h1 h2 => ?_) (fun a b => ?_) os).imp fun {a b} h => ?_
    · rw [dataLe_toD] at h1 h2 ⊢
      simp only [Bool.not_eq_true'] at h1 h2 ⊢
      exact O.ge_trans h1 h2
    · rw [dataLe_toD, dataLe_toD]
      by_cases e : a = b
      · subst e; rw [O.lt_irrefl]; rfl
      · rcases O.lt_total a b e with k | k
        · rw [k, O.lt_asymm k]; rfl
        · rw [k, O.lt_asymm k]; rfl
    · rw [dataLe_toD] at h
      simpa using h
end
/-! ### f(k = v, ..) -/
section
variable {X : Cx} {CX : CXT} {k : Nat} {f : Addr} {fd : FuncData} {ps ks : List Str} {sp : Sp} {E : XK} {x : Str} {p pos : Pos} {kws : List Keyword} {tk : TA} {g : List Value → List Value → List Value} {gV : List V → List V → List V}
theorem pe_callK0 (F : FnOk X.prog X.w X.K X.mg X.base CX k f fd ps sp) (hr : Room k X.A) (hg : Gl X x) (hm : X.mg x = some (.ref f)) (hk : PySem.W.keepIn X.K (.ref f) = true) (hb : KBinds X.K fd ps ks g gV) (hx : Passes CX X E)
    (hkw : PK X kws tk) (hall : (backToKw pos (keywordEach kws X.env)).all (·.1.isSome) = true := by rfl) (hks : (backToKw pos (keywordEach kws X.env)).filterMap (·.1) = ks := by rfl)
    (hdb : (x == ("__debug__" : Str)) = false := by decide)
    (hpl : ((backTo pos (starEach [] X.env)).any (·.1) || (backToKw pos (keywordEach kws X.env)).any (·.1.isNone)) = false := by rfl) :
    PE X (.Call (.Name x p) [] kws pos) (tCallK sp gV E tNil tk) := by
  refine ⟨fun pins s σ H Q I h => ?_⟩
  refine wpAny_Call_Name_kw (ld_glob I hg hm ?_ hdb)
  refine PySem.W.callWith_KW0 (h₀ := X.base) I.ok.mod.kin hk hall ?_ hpl
  refine thn (hkw.run pos pins s σ H _ I h) fun ws s2 ⟨zs, H2, I2, rz, q2⟩ => ⟨I2.kIn, ?_⟩
  rw [hks]
  exact run_fnk (us := []) (vs := []) F hr hb hx I2 .nil rz q2
end
/-! ### a def that keeps its promise, as it is called -/
structure Cal (P : Program) (w : World) (K : PySem.W.Frag) (mg : Str → Option Value) (base : Heap) (k : Nat) (x : Str) (ps : List Str) (sp : Sp) (f : Addr) (fd : FuncData) : Prop where
  G : FnOk P w K mg base CX0 k f fd ps sp
  m : mg x = some (.ref f)
  kp : PySem.W.keepIn K (.ref f) = true
  b : Binds K fd ps []
end Vw

set_option Elab.async false
set_option linter.all false
set_option maxRecDepth 100000
namespace Vw
open PySem PySem.W PyProof.Rows L2
namespace O
def num (n : Int) : O := if 0 < n then add z n z else z
theorem ok_num (n : Int) : ok (num n) = true := by
  unfold num
  split
  · exact ok_add.mpr ⟨rfl, by omega, rfl, rfl⟩
  · rfl
theorem dp_num (n : Int) : dp (num n) ≤ 2 := by
  unfold num
  split
  · show max (0 + 2) 0 ≤ 2; omega
  · show 0 ≤ 2; omega
theorem len_num (n : Int) : (ts (num n)).length ≤ 1 := by
  unfold num
  split
  · exact Nat.le_refl _
  · exact Nat.zero_le _
def lastE (l : List (O × Int)) : Option O := l.getLast?.map (·.1)
theorem under_of {e : O} : ∀ {l : List (O × Int)}, l ≠ [] → under e (of l) = (match l with | [] => true | t :: _ => lt t.1 e)
  | [], h => absurd rfl h
  | t :: _, _ => rfl
theorem ok_snoc : ∀ (l : List (O × Int)) (p : O) (c : Int), ok (of l) = true → ok p = true → 1 ≤ c → (∀ t, l.getLast? = some t → lt p t.1 = true) → ok (of (l ++ [(p, c)])) = true
  | [], p, c, _, hp, hc, _ => ok_add.mpr ⟨hp, hc, rfl, rfl⟩
  | [t], p, c, h, hp, hc, hl => by
    have g := ok_add.mp h
    exact ok_add.mpr ⟨g.1, g.2.1, ok_add.mpr ⟨hp, hc, rfl, rfl⟩, hl t rfl⟩
  | t :: u :: r, p, c, h, hp, hc, hl => by
    have g := ok_add.mp h
    refine ok_add.mpr ⟨g.1, g.2.1, ok_snoc (u :: r) p c g.2.2.1 hp hc (fun x hx => hl x (by rw [List.getLast?_cons_cons]; exact hx)), g.2.2.2⟩
theorem dp_of : ∀ (l : List (O × Int)) (n : Nat), (∀ t ∈ l, dp t.1 + 2 ≤ n) → dp (of l) ≤ n
  | [], n, _ => Nat.zero_le _
  | t :: r, n, h => by
    have h1 := h t List.mem_cons_self
    have h2 := dp_of r n fun x hx => h x (List.mem_cons_of_mem _ hx)
    show max (dp t.1 + 2) (dp (of r)) ≤ n
    omega
/-- the greatest number of terms, however deep -/
def wd : O → Nat
  | z => 0
  | add e c r => max (wd e) (max ((ts r).length + 1) (wd r))
theorem len_wd : ∀ a : O, (ts a).length ≤ wd a
  | z => Nat.le_refl _
  | add e c r => by show (ts r).length + 1 ≤ max (wd e) (max ((ts r).length + 1) (wd r)); omega
theorem wd_mem : ∀ {o : O} {t : O × Int}, t ∈ ts o → wd t.1 ≤ wd o
  | z, t, h => by cases h
  | add e c r, t, h => by
    rcases List.mem_cons.mp h with q | q
    · subst q; show wd e ≤ max (wd e) (max _ (wd r)); omega
    · have := wd_mem q; show _ ≤ max (wd e) (max _ (wd r)); omega
theorem wd_of : ∀ (l : List (O × Int)) (n : Nat), l.length ≤ n → (∀ t ∈ l, wd t.1 ≤ n) → wd (of l) ≤ n
  | [], n, _, _ => Nat.zero_le _
  | t :: r, n, hl, h => by
    have h1 := h t List.mem_cons_self
    have hl : r.length + 1 ≤ n := hl
    have h2 := wd_of r n (by omega) fun x hx => h x (List.mem_cons_of_mem _ hx)
    show max (wd t.1) (max ((ts (of r)).length + 1) (wd (of r))) ≤ n
    rw [ts_of]
    omega
theorem wd_num (n : Int) : wd (num n) ≤ 1 := by
  unfold num
  split
  · exact Nat.le_refl _
  · exact Nat.zero_le _
theorem dp_mem : ∀ {o : O} {t : O × Int}, t ∈ ts o → dp t.1 + 2 ≤ dp o
  | z, t, h => by cases h
  | add e c r, t, h => by
    rcases List.mem_cons.mp h with q | q
    · subst q; show dp e + 2 ≤ max (dp e + 2) (dp r); omega
    · have := dp_mem q; show _ ≤ max (dp e + 2) (dp r); omega
theorem ok_mem : ∀ {o : O} {t : O × Int}, ok o = true → t ∈ ts o → ok t.1 = true ∧ 1 ≤ t.2
  | z, t, _, h => by cases h
  | add e c r, t, hk, h => by
    have g := ok_add.mp hk
    rcases List.mem_cons.mp h with q | q
    · subst q; exact ⟨g.1, g.2.1⟩
    · exact ok_mem g.2.2.1 q
theorem dp_sum : ∀ (a b : O), dp (sum a b) ≤ max (dp a) (dp b)
  | a, z => by rw [sum_z]; omega
  | z, b => by rw [z_sum]; omega
  | add e1 c1 r1, add e2 c2 r2 => by
    by_cases q : e1 = e2
    · subst q; rw [sum_eq]; show max (dp e1 + 2) (dp r2) ≤ max (max _ _) (max _ _); omega
    · rcases lt_total e1 e2 q with k | k
      · rw [sum_lt k]; omega
      · rw [sum_gt k]
        have := dp_sum r1 (add e2 c2 r2)
        show max (dp e1 + 2) (dp (sum r1 (add e2 c2 r2))) ≤ max (max (dp e1 + 2) (dp r1)) _
        omega
theorem len_sum : ∀ (a b : O), (ts (sum a b)).length ≤ (ts a).length + (ts b).length
  | a, z => by rw [sum_z]; omega
  | z, b => by rw [z_sum]; omega
  | add e1 c1 r1, add e2 c2 r2 => by
    by_cases q : e1 = e2
    · subst q; rw [sum_eq]; simp only [ts, List.length_cons]; omega
    · rcases lt_total e1 e2 q with k | k
      · rw [sum_lt k]; omega
      · rw [sum_gt k]
        have := len_sum r1 (add e2 c2 r2)
        simp only [ts, List.length_cons] at this ⊢
        omega
end O
/-! ### data by kind -/
def tyN : PyData → String
  | .none => "NoneType"
  | .bool _ => "bool"
  | .int _ => "int"
  | .str _ => "str"
  | .list _ => "list"
  | .tuple _ => "tuple"
  | .dict _ => "dict"
section
variable {K : PySem.W.Frag} {H H' : Hp}
theorem dp_ty {x : V} {d : PyData} (h : Dp K H x d) : TyX K H x (.type (tyN d)) := by
  cases h with
  | non => exact .base .non
  | bl b => exact .base (.bl b)
  | int i => exact .base (.int i)
  | str s => exact .base (.str s)
  | lst hs _ =>
    rcases hs with (h | ⟨o, h⟩) | ⟨o, its, n, h1, h2, _⟩
    · exact .base (.lst h)
    · exact .base (.frz h)
    · exact .kList h1 h2
  | tup hs _ =>
    rcases hs with (h | ⟨o, h⟩) | ⟨o, its, n, h1, h2, _⟩
    · exact .base (.tup h)
    · exact .fTuple h
    · exact .kTuple h1 h2
def isinN (n T : String) : Bool := n == T || (n == "bool" && T == "int")
def isin (d : PyData) (T : String) : Bool := isinN (tyN d) T
theorem kits {T : String} (h0 : kitB "NoneType" T = some (isinN "NoneType" T)) (h1 : kitB "bool" T = some (isinN "bool" T)) (h2 : kitB "int" T = some (isinN "int" T)) (h3 : kitB "str" T = some (isinN "str" T)) (h4 : kitB "list" T = some (isinN "list" T)) (h5 : kitB "tuple" T = some (isinN "tuple" T)) :
    ∀ d : PyData, (∀ kv, d ≠ .dict kv) → kitOne K (.type (tyN d)) (.type T) = some (isin d T)
  | .none, _ => kit_ty h0
  | .bool _, _ => kit_ty h1
  | .int _, _ => kit_ty h2
  | .str _, _ => kit_ty h3
  | .list _, _ => kit_ty h4
  | .tuple _, _ => kit_ty h5
  | .dict kv, h => absurd rfl (h kv)
theorem kit_list (d : PyData) (hd : ∀ kv, d ≠ .dict kv) : kitOne K (.type (tyN d)) (.type "list") = some (isin d "list") := kits (by decide +kernel) (by decide +kernel) (by decide +kernel) (by decide +kernel) (by decide +kernel) (by decide +kernel) d hd
theorem kit_tuple (d : PyData) (hd : ∀ kv, d ≠ .dict kv) : kitOne K (.type (tyN d)) (.type "tuple") = some (isin d "tuple") := kits (by decide +kernel) (by decide +kernel) (by decide +kernel) (by decide +kernel) (by decide +kernel) (by decide +kernel) d hd
theorem kit_bool (d : PyData) (hd : ∀ kv, d ≠ .dict kv) : kitOne K (.type (tyN d)) (.type "bool") = some (isin d "bool") := kits (by decide +kernel) (by decide +kernel) (by decide +kernel) (by decide +kernel) (by decide +kernel) (by decide +kernel) d hd
theorem kit_int (d : PyData) (hd : ∀ kv, d ≠ .dict kv) : kitOne K (.type (tyN d)) (.type "int") = some (isin d "int") := kits (by decide +kernel) (by decide +kernel) (by decide +kernel) (by decide +kernel) (by decide +kernel) (by decide +kernel) d hd
theorem kit_str (d : PyData) (hd : ∀ kv, d ≠ .dict kv) : kitOne K (.type (tyN d)) (.type "str") = some (isin d "str") := kits (by decide +kernel) (by decide +kernel) (by decide +kernel) (by decide +kernel) (by decide +kernel) (by decide +kernel) d hd
theorem dp_nodict {x : V} {d : PyData} (h : Dp K H x d) : ∀ kv, d ≠ .dict kv := fun kv e => by subst e; cases h
@[irreducible] def rIsD (K : PySem.W.Frag) : List V → Hp → VK → Prop := rIsi K
@[irreducible] def rIsDT (K : PySem.W.Frag) : List V → Hp → VK → Prop := rIsiT K
theorem call_isD {X : Cx} : CallR X (.builtin "isinstance") (rIsD X.K) := by unfold rIsD; exact call_isi
theorem call_isDT {X : Cx} : CallR X (.builtin "isinstance") (rIsDT X.K) := by unfold rIsDT; exact call_isiT
variable {Q : VK} {x : V} {d : PyData}
theorem rd_list (h : Dp K H x d) (q : Q (.bl (isin d "list")) H) : rIsD K [x, .ty "list"] H Q := by unfold rIsD; exact ⟨x, _, _, _, _, rfl, .ty _, dp_ty h, kit_list d (dp_nodict h), q⟩
theorem rd_tuple (h : Dp K H x d) (q : Q (.bl (isin d "tuple")) H) : rIsD K [x, .ty "tuple"] H Q := by unfold rIsD; exact ⟨x, _, _, _, _, rfl, .ty _, dp_ty h, kit_tuple d (dp_nodict h), q⟩
theorem rd_bool (h : Dp K H x d) (q : Q (.bl (isin d "bool")) H) : rIsD K [x, .ty "bool"] H Q := by unfold rIsD; exact ⟨x, _, _, _, _, rfl, .ty _, dp_ty h, kit_bool d (dp_nodict h), q⟩
theorem rd_int (h : Dp K H x d) (q : Q (.bl (isin d "int")) H) : rIsD K [x, .ty "int"] H Q := by unfold rIsD; exact ⟨x, _, _, _, _, rfl, .ty _, dp_ty h, kit_int d (dp_nodict h), q⟩
theorem rd_str (h : Dp K H x d) (q : Q (.bl (isin d "str")) H) : rIsD K [x, .ty "str"] H Q := by unfold rIsD; exact ⟨x, _, _, _, _, rfl, .ty _, dp_ty h, kit_str d (dp_nodict h), q⟩
def isLT : PyData → Bool
  | .list _ => true
  | .tuple _ => true
  | _ => false
theorem rd_lt2 {tp : Addr} (h : Dp K H x d) (ht : H tp = some (.tup [.ty "list", .ty "tuple"])) (q : Q (.bl (isLT d)) H) : rIsDT K [x, .ref tp] H Q := by
  unfold rIsDT
  refine ⟨x, tp, _, _, [.type "list", .type "tuple"], isLT d, rfl, ht, .cons (.ty _) (.cons (.ty _) .nil), dp_ty h, ?_, q⟩
  refine kitAny_cons (kit_list d (dp_nodict h)) (fun e => kitAny_cons (kit_tuple d (dp_nodict h)) (fun e2 => ?_) fun e2 => ?_) fun e => ?_
  · rw [kitAny_nil]
    cases d <;> first | rfl | (revert e e2; show _ = false → _ = false → _; decide +revert) | exact absurd e (by show ¬ (isinN "list" "list" = false); decide) | exact absurd e2 (by show ¬ (isinN "tuple" "tuple" = false); decide)
  · cases d <;> first | rfl | exact absurd e2 (by show ¬ (isinN "NoneType" "tuple" = true); decide) | exact absurd e2 (by show ¬ (isinN "bool" "tuple" = true); decide) | exact absurd e2 (by show ¬ (isinN "int" "tuple" = true); decide) | exact absurd e2 (by show ¬ (isinN "str" "tuple" = true); decide) | exact absurd e2 (by show ¬ (isinN "dict" "tuple" = true); decide)
  · cases d <;> first | rfl | exact absurd e (by show ¬ (isinN "NoneType" "list" = true); decide) | exact absurd e (by show ¬ (isinN "bool" "list" = true); decide) | exact absurd e (by show ¬ (isinN "int" "list" = true); decide) | exact absurd e (by show ¬ (isinN "str" "list" = true); decide) | exact absurd e (by show ¬ (isinN "dict" "list" = true); decide)
theorem same_sqt {a : Addr} {xs : List V} (e : Same H H') (h : SqT K H a xs) : SqT K H' a xs := by
  rcases h with (h | ⟨o, h⟩) | h
  · exact .inl (.inl (e _ _ h))
  · exact .inl (.inr ⟨o, e _ _ h⟩)
  · exact .inr h
mutual
theorem dp_same (e : Same H H') : ∀ {d : PyData} {v : V}, Dp K H v d → Dp K H' v d
  | _, _, .non => .non
  | _, _, .bl b => .bl b
  | _, _, .int i => .int i
  | _, _, .str x => .str x
  | _, _, .lst h t => .lst (e.seq h) (dpall_same e t)
  | _, _, .tup h t => .tup (same_sqt e h) (dpall_same e t)
theorem dpall_same (e : Same H H') : ∀ {ds : List PyData} {vs : List V}, DpAll K H vs ds → DpAll K H' vs ds
  | _, _, .nil => .nil
  | _, _, .cons h t => .cons (dp_same e h) (dpall_same e t)
end
theorem dpall_len : ∀ {ds : List PyData} {vs : List V}, DpAll K H vs ds → vs.length = ds.length
  | _, _, .nil => rfl
  | _, _, .cons h t => congrArg Nat.succ (dpall_len t)
theorem dpall_get : ∀ {ds : List PyData} {vs : List V} {i : Nat} {v : V}, DpAll K H vs ds → vs[i]? = some v → ∃ d, ds[i]? = some d ∧ Dp K H v d
  | _, _, _, _, .nil, h => by simp at h
  | _, _, 0, _, .cons a t, h => by
    simp at h; subst h
    exact ⟨_, rfl, a⟩
  | _, _, i + 1, _, .cons a t, h => by
    obtain ⟨y, h1, h2⟩ := dpall_get (i := i) t (by simpa using h)
    exact ⟨y, by simpa using h1, h2⟩
theorem depth_get : ∀ {ds : List PyData} {i : Nat} {d : PyData}, ds[i]? = some d → d.depth ≤ PyData.depthAll ds
  | [], _, _, h => by simp at h
  | x :: r, 0, d, h => by
    simp at h; subst h
    simp only [PyData.depthAll]; omega
  | x :: r, i + 1, d, h => by
    have := depth_get (ds := r) (i := i) (by simpa using h)
    simp only [PyData.depthAll]; omega
theorem atI_ex {xs : List V} {i : Int} (h0 : 0 ≤ i) (h : i < (xs.length : Int)) : ∃ v, xs[i.toNat]? = some v ∧ atI xs i = some v := by
  obtain ⟨j, rfl⟩ := Int.eq_ofNat_of_zero_le h0
  have hj : j < xs.length := by omega
  exact ⟨xs[j], List.getElem?_eq_getElem hj, atI_nat (List.getElem?_eq_getElem hj)⟩
end
/-! ### len, with the bound that the model keeps -/
@[irreducible] def rLenB (K : PySem.W.Frag) : List V → Hp → VK → Prop := fun vs H Q => ∃ p ys, vs = [.ref p] ∧ (SqL K H p ys ∨ SqT K H p ys) ∧ (ys.length ≤ sizeLine → Q (.int (ys.length : Nat)) H)
theorem call_lenB {X : Cx} : CallR X (.builtin "len") (rLenB X.K) := by
  intro pins s σ H xs us Q I r h
  unfold rLenB at h
  obtain ⟨p, ys, rfl, hs, q⟩ := h
  have hz : ys.length ≤ sizeLine := by
    rcases hs with hs | hs
    · obtain ⟨_, _, _, z⟩ := I.list hs; exact z
    · obtain ⟨_, _, _, z⟩ := I.tuple hs; exact z
  exact call_len_seq pins s σ H _ us Q I r ⟨p, ys, rfl, hs, q hz⟩
theorem rd_len {K : PySem.W.Frag} {H : Hp} {Q : VK} {p : Addr} {ys : List V} (h : SqL K H p ys ∨ SqT K H p ys) (q : ys.length ≤ sizeLine → Q (.int (ys.length : Nat)) H) : rLenB K [.ref p] H Q := by
  unfold rLenB
  exact ⟨p, ys, rfl, h, q⟩
theorem line62 {n : Nat} (h : n ≤ sizeLine) : -(2 ^ 62) ≤ (n : Int) ∧ (n : Int) < 2 ^ 62 := by
  have : sizeLine ≤ 2 ^ 40 := by decide
  omega
/-! ### the bag of numbers -/
def Bag (l : Addr) (H : Hp) (b : Addr) : Prop := ∃ (ns : List Int) (i g s k : Int), l ≠ b ∧ H b = some (.lst [.ref l, .int i, .int g, .int s, .int k]) ∧ H l = some (.lst (ns.map V.int)) ∧ ns.length ≤ 63 ∧ 0 ≤ i ∧ 0 ≤ s ∧ s < 2147483647
theorem Bag.same {l : Addr} {H H' : Hp} {b : Addr} (x : Same H H') (h : Bag l H b) : Bag l H' b := by
  obtain ⟨ns, i, g, s, k, h1, h2, h3, h4⟩ := h
  exact ⟨ns, i, g, s, k, h1, x _ _ h2, x _ _ h3, h4⟩
theorem Bag.tp {l : Addr} {H H' : Hp} {b : Addr} (h : Bag l H b) (x : Kp b H H') : Tp H H' := by
  obtain ⟨ns, i, g, s, k, h1, h2, h3, h4⟩ := h
  exact x.tp h2
theorem Bag.ne {l : Addr} {H : Hp} {b p : Addr} (h : Bag l H b) (hp : H p = none) : p ≠ b := by
  obtain ⟨ns, i, g, s, k, h1, h2, h3, h4⟩ := h
  exact (ne_of_none h2 hp).symm
theorem Bag.nl {l : Addr} {H : Hp} {b p : Addr} (h : Bag l H b) (hp : H p = none) : p ≠ l := by
  obtain ⟨ns, i, g, s, k, h1, h2, h3, h4⟩ := h
  exact (ne_of_none h3 hp).symm
theorem Bag.mut {l : Addr} {H : Hp} {b p : Addr} {o : HO} (h : Bag l H b) (h1 : p ≠ b) (h2 : p ≠ l) : Bag l (upd H p o) b := by
  obtain ⟨ns, i, g, s, k, e1, e2, e3, e4⟩ := h
  exact ⟨ns, i, g, s, k, e1, by rw [upd_ne h1.symm]; exact e2, by rw [upd_ne h2.symm]; exact e3, e4⟩
def spBag (K : PySem.W.Frag) : Sp := fun vs H Q _ => ∃ (a : Addr) (ns : List Int), vs = [.ref a] ∧ SqL K H a (ns.map V.int) ∧ ns.length ≤ 63 ∧ ∀ (l b : Addr) (H' : Hp), H b = none → Same H H' → Bag l H' b → Q (.ref b) H'
/-- one number of the bag, below n -/
def spPull : Sp := fun vs H Q _ => ∃ (l b : Addr) (n : Int), vs = [.ref b, .int n] ∧ 1 ≤ n ∧ n < 2 ^ 100 ∧ Bag l H b ∧ ∀ (r : Int) (H' : Hp), 0 ≤ r → r < n → Kp b H H' → Bag l H' b → Q (.int r) H'
/-- one of some -/
def spOf (K : PySem.W.Frag) : Sp := fun vs H Q _ => ∃ (l b a : Addr) (xs : List V), vs = [.ref b, .ref a] ∧ Bag l H b ∧ ((a ≠ b ∧ H a = some (.lst xs)) ∨ TT K H a xs) ∧ xs ≠ [] ∧ ∀ (x : V) (H' : Hp), x ∈ xs → Kp b H H' → Bag l H' b → Q x H'
def spNum (K : PySem.W.Frag) : Sp := fun vs H Q _ => ∃ n : Int, vs = [.int n] ∧ ∀ (v : V) (H' : Hp), Same H H' → OA K H' v (O.num n) → Q v H'
/-- equal data are the same -/
def spSame (K : PySem.W.Frag) (n : Nat) : Sp := fun vs H Q _ => ∃ (x y : V) (d : PyData), vs = [x, y] ∧ Dp K H x d ∧ Dp K H y d ∧ d.depth < n ∧ ∀ H', Same H H' → Q (.bl true) H'
/-- a drawn ordinal -/
def spOrd (K : PySem.W.Frag) (d : Nat) : Sp := fun vs H Q _ => ∃ (l b : Addr), vs = [.ref b, .int (d : Int)] ∧ Bag l H b ∧ ∀ (o : O) (v : V) (H' : Hp), O.ok o = true → O.dp o ≤ 2 * d + 2 → O.wd o ≤ 3 → OA K H' v o → Kp b H H' → Bag l H' b → Q v H'
theorem cut_map (ns : List Int) (lo hi : Option Int) : ∃ ms : List Int, cutV (ns.map V.int) lo hi = ms.map V.int ∧ ms.length ≤ ns.length := by
  refine ⟨(ns.drop (HT.sIx (ns.map V.int).length 0 lo)).take (HT.sIx (ns.map V.int).length (ns.map V.int).length hi - HT.sIx (ns.map V.int).length 0 lo), ?_, ?_⟩
  · unfold cutV
    rw [List.map_take, List.map_drop]
  · rw [List.length_take, List.length_drop]; omega
/-- a def that keeps its promise, as it is called -/
theorem none_left {P : Program} {w : World} {K : PySem.W.Frag} {mg : Str → Option Value} {base : Heap} {f : Addr} {fd : FuncData} {ps : List Str} {sp : Sp} (no : ∀ vs H Q E, ¬ sp vs H Q E) : FnOk P w K mg base CX0 0 f fd ps sp :=
  ⟨fun vs H Q E h => absurd h (no vs H Q E), fun A outer s H args us vs Q E _ _ _ _ h => absurd h (no vs H Q E)⟩
/-- if, what holds behind the test said once -/
def tIfBy (c : L2.TT) (t u : TS) : TS := fun D σ H => ∃ A B : Hp → Prop, (c σ H fun b H1 => if b = true then A H1 else B H1) ∧ (∀ H1, A H1 → t D σ H1) ∧ ∀ H1, B H1 → u D σ H1
theorem ps_ifBy {X : Cx} {c : Expr} {a b : List Stmt} {tc : L2.TT} {t u : TS} {pos : Pos} (hc : PT X c tc) (ha : PSs X a t) (hb : PSs X b u) : PS X (.If c a b pos) (tIfBy tc t u) := by
  refine ⟨fun pins s σ H D I h => ?_⟩
  obtain ⟨A, B, h, h1, h2⟩ := h
  refine wpAny_If (thn (hc.run pins s σ H _ I h) fun d s1 ⟨H1, I1, q1⟩ => ?_)
  cases d with
  | true =>
    rw [if_pos rfl] at q1
    exact ha.run pins s1 σ H1 D I1 (h1 _ q1)
  | false =>
    rw [if_neg Bool.false_ne_true] at q1
    exact hb.run pins s1 σ H1 D I1 (h2 _ q1)
theorem eqv_nil (l : List PyData) : PyData.eqv (.list l) (.list []) = l.isEmpty := by
  cases l <;> simp [PyData.eqv, PyData.eqvAll]
theorem lay_terms : ∀ l : List (O × Int), PyData.canLayAll0 (l.map O.tD) = true
  | [] => by simp [PyData.canLayAll0]
  | t :: r => by simp [PyData.canLayAll0, O.tD, PyData.canLay0, O.lay_toD, lay_terms r]
theorem depth_terms (n : Nat) : ∀ l : List (O × Int), (∀ t ∈ l, O.dp t.1 + 2 ≤ n) → PyData.depthAll (l.map O.tD) ≤ n
  | [], _ => by simp [PyData.depthAll]
  | t :: r, h => by
    have h1 := h t List.mem_cons_self
    have h2 := depth_terms n r fun x hx => h x (List.mem_cons_of_mem _ hx)
    simp only [List.map_cons, PyData.depthAll, O.tD, PyData.depth, O.depth_toD]
    omega
theorem shaped_terms {l : List (O × Int)} (h : ∀ t ∈ l, O.dp t.1 ≤ 50) : SeqAt.shaped (.list (l.map O.tD)) = true := by
  have := depth_terms 52 l fun t ht => by have := h t ht; omega
  unfold SeqAt.shaped
  rw [show (PyData.list (l.map O.tD)).canLay0 = true by simp [PyData.canLay0, lay_terms], show (PyData.list (l.map O.tD)).depth = PyData.depthAll (l.map O.tD) + 1 by simp [PyData.depth], Bool.true_and, decide_eq_true_eq]
  omega
theorem shaped_nil : SeqAt.shaped (.list []) = true := by unfold SeqAt.shaped; simp [PyData.canLay0, PyData.canLayAll0, PyData.depth, PyData.depthAll]
section
variable {K : PySem.W.Frag} {H : Hp}
theorem TmA.dp {v : V} {t : O × Int} (h : TmA K H v t) : Dp K H v (O.tD t) := by
  obtain ⟨p, q, rfl, h1, h2⟩ := h
  exact .tup h1.sq (.cons h2.dp (.cons (.int _) .nil))
theorem terms_dp : ∀ {xs : List V} {l : List (O × Int)}, Paired (TmA K H) xs l → DpAll K H xs (l.map O.tD)
  | _, _, .nil => .nil
  | _, _, .cons a t => .cons a.dp (terms_dp t)
/-- a list of terms against the empty one -/
theorem rd_eqNil {x y : V} {p p2 : Addr} {xs : List V} {l : List (O × Int)} {Q : VK} (h1 : SqL K H p xs) (h2 : Paired (TmA K H) xs l) (h3 : SqL K H p2 []) (hd : ∀ t ∈ l, O.dp t.1 ≤ 50) (q : Q (.bl l.isEmpty) H) : rEqO K (.ref p) (.ref p2) H Q := by
  unfold rEqO
  refine ⟨_, _, .lst h1 (terms_dp h2), .lst h3 .nil, shaped_terms hd, shaped_nil, ?_⟩
  rw [eqv_nil]
  cases l <;> exact q
theorem rd_neNil {x y : V} {p p2 : Addr} {xs : List V} {l : List (O × Int)} {Q : VK} (h1 : SqL K H p xs) (h2 : Paired (TmA K H) xs l) (h3 : SqL K H p2 []) (hd : ∀ t ∈ l, O.dp t.1 ≤ 50) (q : Q (.bl (!l.isEmpty)) H) : rNeO K (.ref p) (.ref p2) H Q := by
  unfold rNeO
  refine ⟨_, _, .lst h1 (terms_dp h2), .lst h3 .nil, shaped_terms hd, shaped_nil, ?_⟩
  rw [eqv_nil]
  cases l <;> exact q
theorem paired_tp {H' : Hp} (t : Tp H H') {xs : List V} {os : List O} (h : Paired (OA K H) xs os) : Paired (OA K H') xs os := paired_mono (fun _ _ a => a.tp t) h
theorem terms_tp {H' : Hp} (t : Tp H H') {xs : List V} {l : List (O × Int)} (h : Paired (TmA K H) xs l) : Paired (TmA K H') xs l := paired_mono (fun _ _ a => a.tp t) h
theorem TmA.new {p q : Addr} {c : Int} {e : O} (h : OA K H (.ref q) e) (hp : H p = some (.tup [.ref q, .int c])) : TmA K H (.ref p) (e, c) := ⟨p, q, rfl, .of hp, h⟩
end
/-! ### tuples joined, cut -/
section
variable {K : PySem.W.Frag} {H : Hp} {Q : VK}
@[irreducible] def rCatO (K : PySem.W.Frag) : R2 := rCatA K
theorem op_catO {X : Cx} : OpR X (binaryOp .Add) (rCatO X.K) := by unfold rCatO; exact op_catA
theorem rd_cat {a b : Addr} {xs ys : List V} (ha : TT K H a xs) (hb : TT K H b ys) (hz : xs.length + ys.length ≤ 100000) (q : ∀ (p : Addr) (H' : Hp), Same H H' → TT K H' p (xs ++ ys) → Q (.ref p) H') : rCatO K (.ref a) (.ref b) H Q := by
  unfold rCatO
  refine ⟨a, b, xs, ys, rfl, rfl, ha.sq, hb.sq, Nat.le_trans hz (by decide), fun e => q b H (Same.refl H) (by rw [e]; exact hb), fun _ e => q a H (Same.refl H) (by rw [e, List.append_nil]; exact ha), fun _ _ p np => q p _ (same_new np) (.of upd_same)⟩
@[irreducible] def rSlO (K : PySem.W.Frag) : V → Option Int → Option Int → Hp → VK → Prop := rSlA K
theorem sl_tupO {X : Cx} : SlR X (rSlO X.K) := by unfold rSlO; exact sl_tupA
theorem cut_from {α : Type} (xs : List V) (k : Nat) : cutV xs (some (k : Int)) none = xs.drop k := by
  unfold cutV
  rw [HT.sIx_nat, HT.sIx_none]
  rcases Nat.le_total k xs.length with h | h
  · rw [Nat.min_eq_left h, List.take_of_length_le (by rw [List.length_drop]; omega)]
  · rw [Nat.min_eq_right h, List.drop_of_length_le (Nat.le_refl _), List.drop_of_length_le h]; simp
theorem cut_to {α : Type} (xs : List V) (k : Nat) : cutV xs none (some (k : Int)) = xs.take k := by
  unfold cutV
  rw [HT.sIx_nat, HT.sIx_none, List.drop_zero, Nat.sub_zero]
  rcases Nat.le_total k xs.length with h | h
  · rw [Nat.min_eq_left h]
  · rw [Nat.min_eq_right h, List.take_of_length_le h, List.take_of_length_le (Nat.le_refl _)]
theorem rd_sl {a : Addr} {xs : List V} {lo hi : Option Int} (ha : TT K H a xs) (q : ∀ (p : Addr) (H' : Hp), Same H H' → TT K H' p (cutV xs lo hi) → Q (.ref p) H') : rSlO K (.ref a) lo hi H Q := by
  unfold rSlO
  refine ⟨a, xs, rfl, ha.sq, fun e => q a H (Same.refl H) ?_, fun _ p np => q p _ (same_new np) (.of upd_same)⟩
  have : cutV xs lo hi = xs := by
    unfold cutV
    rw [e.1, e.2, List.drop_zero, Nat.sub_zero, List.take_length]
  rw [this]; exact ha
theorem rd_from {a : Addr} {xs : List V} (k : Nat) (ha : TT K H a xs) (q : ∀ (p : Addr) (H' : Hp), Same H H' → TT K H' p (xs.drop k) → Q (.ref p) H') : rSlO K (.ref a) (some (k : Int)) none H Q := rd_sl ha fun p H' s t => q p H' s (by rw [cut_from (α := Nat)] at t; exact t)
theorem rd_to {a : Addr} {xs : List V} (k : Nat) (ha : TT K H a xs) (q : ∀ (p : Addr) (H' : Hp), Same H H' → TT K H' p (xs.take k) → Q (.ref p) H') : rSlO K (.ref a) none (some (k : Int)) H Q := rd_sl ha fun p H' s t => q p H' s (by rw [cut_to (α := Nat)] at t; exact t)
theorem take_filter {α : Type} (l : List α) (f : α → Bool) (i : Nat) (t : α) (h : l[i]? = some t) : (l.take (i + 1)).filter f = (l.take i).filter f ++ (if f t = true then [t] else []) := by
  rw [List.take_add_one, h, List.filter_append]
  congr 1
  show [t].filter f = _
  rw [List.filter_cons]
  split <;> rfl
theorem OA.tt {a : Addr} {o : O} (h : OA K H (.ref a) o) : ∃ vs, TT K H a vs ∧ Paired (TmA K H) vs (O.ts o) := by
  obtain ⟨a', vs, e, h1, h2⟩ := h
  cases e
  exact ⟨vs, h1, h2.pair⟩
theorem TmA.un {v : V} {t : O × Int} (h : TmA K H v t) : ∃ p q, v = .ref p ∧ TT K H p [.ref q, .int t.2] ∧ OA K H (.ref q) t.1 := h
theorem Same.tt {H' : Hp} {a : Addr} {xs : List V} (s : Same H H') (h : TT K H a xs) : TT K H' a xs := h.tp (same_tp s)
theorem OA.same {H' : Hp} {v : V} {o : O} (h : OA K H v o) (s : Same H H') : OA K H' v o := h.tp (same_tp s)
theorem TT.same {H' : Hp} {a : Addr} {xs : List V} (h : TT K H a xs) (s : Same H H') : TT K H' a xs := h.tp (same_tp s)
theorem TmA.same {H' : Hp} {v : V} {t : O × Int} (h : TmA K H v t) (s : Same H H') : TmA K H' v t := h.tp (same_tp s)
theorem terms_same {H' : Hp} {xs : List V} {l : List (O × Int)} (h : Paired (TmA K H) xs l) (s : Same H H') : Paired (TmA K H') xs l := paired_mono (fun _ _ a => a.same s) h
end
/-- the program's sum -/
def spPlus (K : PySem.W.Frag) : Sp := fun vs H Q _ => ∃ (x y : V) (a b : O), vs = [x, y] ∧ OA K H x a ∧ OA K H y b ∧ O.ok a = true ∧ O.dp a ≤ 50 ∧ O.dp b ≤ 50 ∧ (O.ts a).length ≤ 1000 ∧ (O.ts b).length ≤ 1000 ∧ ∀ (v : V) (H' : Hp), Same H H' → OA K H' v (O.sum a b) → Q v H'
/-- a function of one ordinal -/
def spO1 (K : PySem.W.Frag) (g : O → O) : Sp := fun vs H Q _ => ∃ (x : V) (a : O), vs = [x] ∧ OA K H x a ∧ O.ok a = true ∧ O.dp a ≤ 50 ∧ (O.ts a).length ≤ 1000 ∧ ∀ (v : V) (H' : Hp), Same H H' → OA K H' v (g a) → Q v H'
def endO (o : O) : O := match (O.ts o).getLast? with
  | some t => t.1
  | none => .z
theorem endO_last {o : O} {t : O × Int} (h : (O.ts o).getLast? = some t) : endO o = t.1 := by
  unfold endO
  rw [h]
theorem last_ex {o : O} (h : o ≠ .z) : ∃ t, (O.ts o).getLast? = some t := by
  cases o with
  | z => exact absurd rfl h
  | add e c r =>
    cases q : (O.ts (.add e c r)).getLast? with
    | some t => exact ⟨t, rfl⟩
    | none => exact absurd (List.getLast?_eq_none_iff.mp q) (by intro z; cases z)
section
variable {K : PySem.W.Frag} {H : Hp} {Q : VK}
/-- the last term -/
theorem last_term {xs : List V} {l : List (O × Int)} {t : O × Int} (h : Paired (TmA K H) xs l) (ht : l.getLast? = some t) : ∃ p q, atI xs (-1) = some (.ref p) ∧ TT K H p [.ref q, .int t.2] ∧ OA K H (.ref q) t.1 ∧ xs ≠ [] := by
  obtain ⟨v, hv, vt⟩ : ∃ v, xs.getLast? = some v ∧ TmA K H v t := by
    rw [List.getLast?_eq_getElem?] at ht
    obtain ⟨v, h1, h2⟩ := paired_get' h ht
    rw [← paired_len h] at h1
    exact ⟨v, by rw [List.getLast?_eq_getElem?]; exact h1, h2⟩
  obtain ⟨p, q, rfl, g1, g2⟩ := vt
  have hn : xs ≠ [] := fun z => by rw [z] at hv; cases hv
  refine ⟨p, q, ?_, g1, g2, hn⟩
  have : xs = xs.dropLast ++ [.ref p] := by
    rw [List.getLast?_eq_some_getLast hn] at hv
    have := Option.some.inj hv
    rw [← this, List.dropLast_concat_getLast]
  rw [this]; exact atI_last _ _
theorem cut_m1 {α : Type} (xs : List V) : cutV xs none (some (-1)) = xs.dropLast := by
  unfold cutV
  rw [HT.sIx_none, List.drop_zero, Nat.sub_zero]
  have : HT.sIx xs.length xs.length (some (-1)) = xs.length - 1 := by
    show (if (-1 : Int) < 0 then ((-1 : Int) + (xs.length : Int)).toNat else min (-1 : Int).toNat xs.length) = _
    rw [if_pos (by decide)]
    omega
  rw [this, List.dropLast_eq_take]
theorem paired_dropLast {α β : Type} {F : α → β → Prop} {xs : List α} {ys : List β} (h : Paired F xs ys) : Paired F xs.dropLast ys.dropLast := by
  rw [List.dropLast_eq_take, List.dropLast_eq_take, paired_len h]
  exact paired_take _ h
end
/-! ### levels, alternatives -/
section
variable {P : Program} {w : World} {K : PySem.W.Frag} {mg : Str → Option Value} {base : Heap} {f : Addr} {fd : FuncData} {ps : List Str} {k k' : Nat} {x : Str} {sp sp' : Sp}
theorem fn_mono (G : FnOk P w K mg base CX0 k f fd ps sp) (h : k ≤ k') : FnOk P w K mg base CX0 k' f fd ps sp :=
  ⟨G.len, fun A outer s H args us vs Q E a b c e h' => G.run A outer s H args us vs Q E (a.mono h) b c e h'⟩
theorem fn_some {ι : Type} {p : ι → Prop} {sps : ι → Sp} (G : ∀ i, p i → FnOk P w K mg base CX0 k f fd ps (sps i)) : FnOk P w K mg base CX0 k f fd ps (fun vs H Q E => ∃ i, p i ∧ sps i vs H Q E) :=
  ⟨fun vs H Q E ⟨i, hi, h⟩ => (G i hi).len vs H Q E h, fun A outer s H args us vs Q E a b c e ⟨i, hi, h⟩ => (G i hi).run A outer s H args us vs Q E a b c e h⟩
/-- drawn ordinals up to m deep -/
def spOrdTo (K : PySem.W.Frag) (m : Nat) : Sp := fun vs H Q E => ∃ d, d ≤ m ∧ spOrd K d vs H Q E
theorem kb_of {qual : Str} {st : Stmt} {ks : List Str} (F : Fun K x qual st f fd) (g : List Value → List Value → List Value) (gV : List V → List V → List V)
    (rel : ∀ {vs : List V} {us : List Value} {zs : List V} {ws : List Value}, Vals vs us → Vals zs ws → Vals (gV vs zs) (g us ws))
    (h : ∀ (kV doc pm : Value) (an : Option Addr) (cdv ct : Value) (us ws : List Value), (g us ws).length = ps.length → bindArgs (PySem.W.fnOf x qual (defArgs st) (defBody st) (defScope st) .none kV doc pm an cdv ct) ⟨us, ks.zip ws⟩ = pure (ps.zip (g us ws))) : KBinds K fd ps ks g gV := by
  obtain ⟨oc, od, kV, doc, pm, an, cdv, ct, osl, rfl, lk, hcd⟩ := F.ex
  exact ⟨fun s us ws _ hl => .of_eq (h kV doc pm an cdv ct us ws hl), rel⟩
/-- f(b=.., a=..) of a def f(a, b) -/
def swapG {α : Type} : List α → List α → List α
  | [], [a, b] => [b, a]
  | _, _ => []
theorem swap_rel {vs : List V} {us : List Value} {zs : List V} {ws : List Value} (h1 : Vals vs us) (h2 : Vals zs ws) : Vals (swapG vs zs) (swapG us ws) := by
  cases h1 with
  | cons _ _ => exact .nil
  | nil =>
    cases h2 with
    | nil => exact .nil
    | cons a t => cases t with
      | nil => exact .nil
      | cons b u => cases u with
        | nil => exact .cons b (.cons a .nil)
        | cons _ _ => exact .nil
end
end Vw

set_option Elab.async false
set_option linter.all false
set_option maxRecDepth 100000
/-! for i, x in enumerate(t), t a tuple: the layer's own enumerate is for lists -/
namespace PySem
open Sem (wp)
open AutoSeq1 (wpAny_loadPart')
theorem enumT_new (t : Addr) (its : Array Value) (n : Nat) (dd : Option Addr) (sl : Array (Option Value)) :
    Meets (Builtin.«enumerate.__new__» ⟨[.type "enumerate", .ref t], []⟩) (fun _ R s => s.heap.get? t = some { cls := .type "tuple", dict := dd, data := .seq its n, slots := sl } ∧
      R (.ok (.ret (.ref (s.heap.push { cls := .type "tuple_iterator", data := .fields #[.ref t, .int 0 0] }).objs.size)))
        { s with heap := (s.heap.push { cls := .type "tuple_iterator", data := .fields #[.ref t, .int 0 0] }).push { cls := .type "enumerate", data := .fields #[.none, .bool false, .ref s.heap.objs.size, rawInt 0, .none, .none] } }) :=
  .of_wp fun prog w A R s h => by
    obtain ⟨hp, g, d, tk, os⟩ := s
    obtain ⟨ht, h⟩ := h
    have hs1 := sub_enumerate
    have hT : Heap.IsTuple (Shared.heap ⟨hp, g, d, tk, os⟩) t its := ⟨_, ht, rfl, n, rfl⟩
    wp_walk using wpAny_loadPart' ht
    refine wpAny_stack_any fun st => wpAny_pure ?_
    split
    · rename_i c _ _ _ _ _
      cases (c == Value.type "enumerate") <;> (wp_walk using wpAny_loadPart' ht, wpAny_pyIter_tuple hT; exact ⟨_, rfl, h⟩)
    · wp_walk using wpAny_loadPart' ht, wpAny_pyIter_tuple hT
      exact ⟨_, rfl, h⟩
theorem enumT_call {prog : Program} {w : World} {A : Around} {E : Value → Shared → Prop} {s : Shared} {t : Addr} {its : Array Value} {Q : Value → Shared → Prop} (ht : s.heap.IsTuple t its)
    (h : ∀ h', IsEnum h' (s.heap.objs.size + 1) s.heap.objs.size 0 .none → h'.IsTupleIter s.heap.objs.size t 0 → (∀ b o, s.heap.get? b = some o → h'.get? b = some o) → Q (.ref (s.heap.objs.size + 1)) { s with heap := h' }) :
    wpAny (model prog w) A (call (.type "enumerate") [.ref t]) Q E s := by
  obtain ⟨⟨c, dct, dt, sl⟩, hl, hc, n, hd⟩ := ht
  obtain rfl : c = .type "tuple" := hc
  obtain rfl : dt = .seq its n := hd
  refine callType_new F.called_enumerate (by decide) (F.typeCall_enumerate_1 _) (F.newCall_enumerate_1 _) (fun obj => F.args_object_init_2 obj _) F.entry_enumerate_new (enumT_new t its n dct sl) ⟨hl, ?_⟩
  have hz : (s.heap.push { cls := .type "tuple_iterator", data := .fields #[.ref t, .int 0 0] }).objs.size = s.heap.objs.size + 1 := Heap.size_push ..
  have he : IsEnum ((s.heap.push { cls := .type "tuple_iterator", data := .fields #[.ref t, .int 0 0] }).push { cls := .type "enumerate", data := .fields #[.none, .bool false, .ref s.heap.objs.size, rawInt 0, .none, .none] }) (s.heap.objs.size + 1) s.heap.objs.size 0 .none := by
    have q := Heap.get?_push_size (s.heap.push { cls := .type "tuple_iterator", data := .fields #[.ref t, .int 0 0] }) (o := { cls := .type "enumerate", data := .fields #[.none, .bool false, .ref s.heap.objs.size, rawInt 0, .none, .none] }) rfl
    rw [hz] at q
    exact q
  show _ ∧ _
  rw [hz]
  exact ⟨⟨_, he, rfl⟩, h _ he ⟨_, Heap.get?_push_of_some _ (Heap.get?_push_size _ rfl), rfl, rfl⟩ fun b o x => Heap.get?_push_of_some _ (Heap.get?_push_of_some _ x)⟩
end PySem
namespace Vw
open PySem PySem.W PyProof.Rows L2
/-- the tuple at a, each item in a new pair -/
def IteT (K : PySem.W.Frag) (a : Addr) : It :=
  ⟨fun i H => ∃ (xs : List V) (x : V), SqT K H a xs ∧ xs[i]? = some x, fun i H v H' => ∃ T x, v = .ref T ∧ H T = none ∧ H' = upd H T (.tup [.int (i : Nat), x]) ∧ ∀ xs, SqT K H a xs → xs[i]? = some x, fun i H => ∃ xs : List V, SqT K H a xs ∧ xs.length ≤ i⟩
theorem turn_enumT {P : Program} {w : World} {K : PySem.W.Frag} {elts : List Expr} {kk : Nat} {tpos : Pos} (a e it : Addr) (hea : e ≠ a) (hia : a ≠ it) (hei : e ≠ it) :
    Turn P w K (.Tuple elts kk tpos) (IteT K a) [e, it] e (fun i h => (∃ old, IsEnum h e it ((i : Nat) : Int) old) ∧ h.IsTupleIter it a i) where
  mem := List.mem_cons_self
  obj := fun i h st b hb => by
    obtain ⟨⟨old, he⟩, o, ho, hc, hd⟩ := st
    rcases List.mem_cons.mp hb with rfl | hb
    · exact ⟨_, he, fun v q => nomatch q⟩
    · rw [List.mem_singleton.mp hb]
      exact ⟨o, ho, fun v q => by rw [hd] at q; cases q⟩
  keep := fun i h h' st k => ⟨st.1.imp fun old he => k e List.mem_cons_self _ he, st.2.at fun o q => k it (List.mem_cons_of_mem _ (List.mem_singleton.mpr rfl)) o q⟩
  item := by
    intro X hP hw hK hc i pins s σ H E I hf st hg
    subst hP hw hK
    obtain ⟨⟨old, he⟩, hit⟩ := st
    obtain ⟨xs, x, hq, hx⟩ := hg
    obtain ⟨its, rv, p, hz⟩ := I.tuple hq
    have pT : s.heap.IsTuple a its.toArray := p
    have hel : e < s.heap.objs.size := Heap.lt_size he
    have hil : it < s.heap.objs.size := by obtain ⟨_, q, _⟩ := hit; exact Heap.lt_size q
    have hi : i < its.toArray.size := by
      have h1 := (List.getElem?_eq_some_iff.mp hx).1
      have h2 := rv.length
      rw [List.size_toArray]; omega
    refine wpAny_pyNext_enum_itemD (Draws.tuple (prog := X.prog) (w := X.w) (A := X.A.in1) (I.ok.hd hc) it a hia its.toArray) he ⟨hit, pT⟩ hi hei (by simp [hei, hea]) fun u h' tk hu ho hst hT hsz hk => ?_
    have hu' : its[i]? = some u := by simpa using hu
    obtain ⟨u2, hu2, ru⟩ := rv.get hx
    rw [hu'] at hu2
    obtain rfl : u = u2 := Option.some.inj hu2
    refine ⟨_, rfl, wpAny_letOwnedTupleGo_enum (s := { s with heap := h', toks := tk + 1 }) ho fun h'' he' sb => ?_⟩
    have hT2 : h''.get? s.heap.objs.size = some { cls := .type "tuple", data := .seq #[.int i tk, u] } := (sb.2 _ (Nat.ne_of_gt hel)).trans hT
    have new : ObjOk X.prog X.w (upd H s.heap.objs.size (.tup [.int (i : Nat), x])) h'' s.heap.objs.size (.tup [.int (i : Nat), x]) :=
      ⟨by show 2 ≤ sizeLine; decide, [.int i tk, u], .cons ⟨_, rfl⟩ (.cons ru .nil), ⟨_, hT2, rfl, _, rfl⟩⟩
    have I1 : Inv X pins σ (upd H s.heap.objs.size (.tup [.int (i : Nat), x])) { s with heap := h'', toks := tk + 1 } :=
      I.turnedNew (ch := [e, it]) (fun b ob hb q => (sb.2 b (fun z => hb (by simp [z]))).trans (hk b ob (fun z => hb (by simp [z])) (fun z => hb (by simp [z])) q)) hf (Nat.le_refl _) new
    refine ⟨.ref s.heap.objs.size, _, I1, rfl, ⟨_, x, rfl, I.hok.fresh (Nat.le_refl _), rfl, fun ys hy => by rw [I.tuple_inj hy hq]; exact hx⟩, ⟨⟨u, ?_⟩, hst.1.at fun o q => (sb.2 it (Ne.symm hei)).trans q⟩, fun b hb => ?_⟩
    · have e1 : ((i + 1 : Nat) : Int) = (i : Int) + 1 := by omega
      rw [e1]; exact he'
    · have hb' : b < s.heap.objs.size := by
        rcases List.mem_cons.mp hb with rfl | hb
        · exact hel
        · rw [List.mem_singleton.mp hb]; exact hil
      rw [upd_ne (Nat.ne_of_lt hb')]
      exact (hf b hb).1
  done := by
    intro X hP hw hK hc i pins s σ H E I hf st hg
    subst hP hw hK
    obtain ⟨⟨old, he⟩, hit⟩ := st
    obtain ⟨xs, hq, hx⟩ := hg
    obtain ⟨its, rv, p, hz⟩ := I.tuple hq
    have pT : s.heap.IsTuple a its.toArray := p
    obtain ⟨f0, f1, f2, f3, f4, f5⟩ := hf it (List.mem_cons_of_mem _ (List.mem_singleton.mpr rfl))
    have hT : s.TypeIs (.ref e) "enumerate" := ⟨_, he, rfl⟩
    have hl : its.toArray.size ≤ i := by rw [List.size_toArray]; have := rv.length; omega
    -- past the end as at the end
    have D : Draws X.prog X.w X.A.in1 it [it, a] i (fun _ _ => False) (fun j h => j = i ∧ h.IsTupleIter it a i ∧ h.IsTuple a its.toArray) :=
      { live := fun _ _ st => let ⟨o, ho, _⟩ := st.2.1; ⟨o, ho⟩
        frame := fun _ _ _ st hk => ⟨st.1, st.2.1.at fun o e => hk it (by simp) o e, st.2.2.at fun o e => hk a (by simp) o e⟩
        item := fun j s Q E hj st _ => absurd st.1 (Nat.ne_of_lt hj)
        done := fun s Q E st hE => wpAny_nextOf_tuple_end (I.ok.hd hc) st.2.1 st.2.2 (by simpa using hl) hE }
    exact wpAny_pyNext_enum_endD D he ⟨rfl, hit, pT⟩ fun h' eb => ⟨rfl, I.turned (t' := s.toks) (fun b o hb q => eb b o hb q) f0 f1 f3 f4 f5⟩
  self := fun A i s Q E st h => let ⟨⟨_, he⟩, _⟩ := st; wpAny_pyIter_enum he h
def iEnumT (K : PySem.W.Frag) (ta : L2.TA) : TI := fun σ H R => ta σ H fun vs H1 => ∃ a xs, vs = [.ref a] ∧ SqT K H1 a xs ∧ R (IteT K a) H1
theorem pi_enumT {X : Cx} {e : Expr} {ta : L2.TA} {p pos tpos : Pos} {elts : List Expr} {kk : Nat} (hg : Gl X "enumerate") (hm : X.mg "enumerate" = none) (ha : PA X [e] ta) (hs : starEach [e] X.env = [(false, eval e X.env)] := by rfl) :
    PI X (.Tuple elts kk tpos) (.Call (.Name "enumerate" p) [e] [] pos) (iEnumT X.K ta) := by
  refine ⟨fun pins s σ H R I h => ?_⟩
  refine Call_ (ld_blt I hg hm boot_enumerate (PyProof.Rows.callWith_type1 (thn (ha.run pos pins s σ H _ I h) fun us s1 ⟨vs, H1, I1, r1, q1⟩ => ?_) hs rfl))
  obtain ⟨a, xs, rfl, hq, q⟩ := q1
  obtain rfl := Vals.ref1 r1
  obtain ⟨its, rv, p', hz⟩ := I1.tuple hq
  have pT : s1.heap.IsTuple a its.toArray := p'
  have hal : a < s1.heap.objs.size := by obtain ⟨_, q, _⟩ := pT; exact Heap.lt_size q
  refine enumT_call pT fun h' he hit hk => wpAny_pyIter_enum he ?_
  have I2 : Inv X pins σ H1 { s1 with heap := h' } := I1.kept (t' := s1.toks) hk
  refine ⟨s1.heap.objs.size + 1, [s1.heap.objs.size + 1, s1.heap.objs.size], _, _, H1, rfl, I2, turn_enumT a (s1.heap.objs.size + 1) s1.heap.objs.size (fun z => by rw [← z] at hal; exact absurd hal (Nat.not_lt.mpr (Nat.le_succ _))) (Nat.ne_of_lt hal) (Nat.succ_ne_self _), ⟨⟨.none, he⟩, hit⟩, fun b hb => ?_, q⟩
  have hle : s1.heap.objs.size ≤ b := by
    rcases List.mem_cons.mp hb with z | z
    · rw [z]; exact Nat.le_add_right _ _
    · rw [List.mem_singleton.mp z]; exact Nat.le_refl _
  exact I1.fpOk hle (I1.hok.fresh hle)
theorem for_enumT {K : PySem.W.Frag} {a : Addr} {xs : List V} {g : L2.TG} {tb : L2.TS} {D : Ends} {σ : L2.St} {H : Hp} (Pv : Nat → L2.St → Hp → Prop) (h0 : Pv 0 σ H) (hl : ∀ i σ H, i ≤ xs.length → Pv i σ H → SqT K H a xs)
    (hs : ∀ i x T σ H, xs[i]? = some x → Pv i σ H → H T = none → g (.ref T) σ (upd H T (.tup [.int (i : Nat), x])) fun σ2 H2 => tb { D with nx := Pv (i + 1), ct := Pv (i + 1), bk := D.nx } σ2 H2) (hd : ∀ σ H, Pv xs.length σ H → D.nx σ H) :
    ∃ W : Nat → Nat → L2.St → Hp → Prop, (∃ m, W 0 m σ H) ∧ ∀ i m σ H, W i m σ H →
      ((IteT K a).stop i H ∧ D.nx σ H) ∨ ((IteT K a).go i H ∧ ∃ N : L2.St → Hp → Prop, (∀ σ' H', N σ' H' → ∃ m', m' < m ∧ W (i + 1) m' σ' H') ∧ ∀ x H', (IteT K a).yld i H x H' → g x σ H' fun σ2 H2 => tb { D with nx := N, ct := N, bk := D.nx } σ2 H2) := by
  refine ⟨fun i m σ H => m = xs.length - i ∧ i ≤ xs.length ∧ Pv i σ H, ⟨xs.length, by simp, Nat.zero_le _, h0⟩, ?_⟩
  rintro i m σ H ⟨rfl, hi, p⟩
  have q := hl i σ H hi p
  by_cases hlt : i < xs.length
  · refine .inr ⟨⟨xs, xs[i], q, List.getElem?_eq_getElem hlt⟩, Pv (i + 1), fun σ' H' p' => ⟨xs.length - (i + 1), by omega, rfl, hlt, p'⟩, fun v H' y => ?_⟩
    obtain ⟨T, x, rfl, nT, rfl, hx⟩ := y
    exact hs i x T σ H (hx xs q) p nT
  · obtain rfl : i = xs.length := by omega
    exact .inl ⟨⟨xs, q, Nat.le_refl _⟩, hd σ H p⟩
end Vw

set_option Elab.async false
set_option linter.all false
set_option maxRecDepth 100000
namespace Vw
open PySem PySem.W PyProof.Rows L2
namespace O
theorem toDs_inj : ∀ {a b : O}, toDs a = toDs b → a = b
  | z, z, _ => rfl
  | z, add _ _ _, h => by cases h
  | add _ _ _, z, h => by cases h
  | add e c r, add e' c' r', h => by
    simp only [toDs, List.cons.injEq, PyData.tuple.injEq, PyData.int.injEq, and_true] at h
    rw [toDs_inj h.1.1, h.1.2, toDs_inj h.2]
theorem toD_inj {a b : O} (h : toD a = toD b) : a = b := by
  unfold toD at h
  exact toDs_inj (PyData.tuple.inj h)
/-- neighbours descend -/
theorem ok_desc : ∀ {o : O} {i : Nat} {t u : O × Int}, ok o = true → (ts o)[i]? = some t → (ts o)[i + 1]? = some u → lt u.1 t.1 = true
  | z, i, t, u, _, h, _ => by simp [ts] at h
  | add e c r, 0, t, u, hk, h1, h2 => by
    have g := ok_add.mp hk
    have e1 : (e, c) = t := by simpa [ts] using h1
    subst e1
    cases r with
    | z => simp [ts] at h2
    | add e' c' r' =>
      have e2 : (e', c') = u := by simpa [ts] using h2
      subst e2
      exact g.2.2.2
  | add e c r, i + 1, t, u, hk, h1, h2 => ok_desc (o := r) (i := i) (ok_add.mp hk).2.2.1 (by simpa [ts] using h1) (by simpa [ts] using h2)
end O
def IsOrd (d : PyData) : Prop := ∃ o : O, O.toD o = d ∧ O.ok o = true
def IsTerm (d : PyData) : Prop := ∃ (e : O) (c : Int), d = O.tD (e, c) ∧ O.ok e = true ∧ 1 ≤ c
noncomputable def isOrdB (d : PyData) : Bool := open Classical in decide (IsOrd d)
noncomputable def isTermB (d : PyData) : Bool := open Classical in decide (IsTerm d)
def isCntB : PyData → Bool
  | .int n => decide (1 ≤ n)
  | _ => false
open Classical in
theorem isOrd_t {d : PyData} (h : IsOrd d) : isOrdB d = true := by unfold isOrdB; exact decide_eq_true h
open Classical in
theorem isOrd_f {d : PyData} (h : ¬ IsOrd d) : isOrdB d = false := by unfold isOrdB; exact decide_eq_false h
open Classical in
theorem isOrd_of {d : PyData} (h : isOrdB d = true) : IsOrd d := by unfold isOrdB at h; exact of_decide_eq_true h
open Classical in
theorem isTerm_t {d : PyData} (h : IsTerm d) : isTermB d = true := by unfold isTermB; exact decide_eq_true h
open Classical in
theorem isTerm_f {d : PyData} (h : ¬ IsTerm d) : isTermB d = false := by unfold isTermB; exact decide_eq_false h
open Classical in
theorem isTerm_of {d : PyData} (h : isTermB d = true) : IsTerm d := by unfold isTermB at h; exact of_decide_eq_true h
theorem isTerm_no {d : PyData} (h : isTermB d = false) : ¬ IsTerm d := fun z => by rw [isTerm_t z] at h; cases h
theorem isOrd_toD {o : O} (h : O.ok o = true) : isOrdB (O.toD o) = true := isOrd_t ⟨o, rfl, h⟩
theorem isTerm_two (a b : PyData) : isTermB (.tuple [a, b]) = (isCntB b && isOrdB a) := by
  cases h : isCntB b && isOrdB a with
  | true =>
    rw [Bool.and_eq_true] at h
    obtain ⟨o, rfl, ho⟩ := isOrd_of h.2
    cases b with
    | int n => exact isTerm_t ⟨o, n, rfl, ho, of_decide_eq_true h.1⟩
    | _ => cases h.1
  | false =>
    refine isTerm_f fun ⟨e, c, h1, h2, h3⟩ => ?_
    have h4 : a = O.toD e ∧ b = .int c := by simpa [O.tD] using h1
    rw [h4.1, h4.2, isOrd_toD h2, show isCntB (.int c) = true from decide_eq_true h3] at h
    cases h
theorem isTerm_other {d : PyData} (h : ∀ a b, d ≠ .tuple [a, b]) : isTermB d = false := isTerm_f fun ⟨e, c, h1, _⟩ => h _ _ h1
theorem isOrd_other {d : PyData} (h : ∀ ds, d ≠ .tuple ds) : isOrdB d = false := isOrd_f fun ⟨o, h1, _⟩ => h _ h1.symm
/-- the first i terms are right -/
def Pref (ds : List PyData) (l : List (O × Int)) (i : Nat) : Prop := ds.take i = l.map O.tD ∧ O.ok (O.of l) = true ∧ l.length = i
theorem pref_nil (ds : List PyData) : Pref ds [] 0 := ⟨rfl, rfl, rfl⟩
theorem pref_at {ds : List PyData} {l : List (O × Int)} {i j : Nat} (h : Pref ds l i) (hj : j < i) : ∃ t, l[j]? = some t ∧ ds[j]? = some (O.tD t) := by
  obtain ⟨h1, _, h3⟩ := h
  have hl : j < l.length := by omega
  refine ⟨l[j], List.getElem?_eq_getElem hl, ?_⟩
  have : (ds.take i)[j]? = some (O.tD l[j]) := by rw [h1, List.getElem?_map, List.getElem?_eq_getElem hl]; rfl
  rw [List.getElem?_take] at this
  rw [if_pos hj] at this
  exact this
theorem pref_last {ds : List PyData} {l : List (O × Int)} {i : Nat} (h : Pref ds l (i + 1)) : ∃ t, l.getLast? = some t ∧ ds[i]? = some (O.tD t) := by
  obtain ⟨t, h1, h2⟩ := pref_at h (Nat.lt_succ_self i)
  refine ⟨t, ?_, h2⟩
  rw [List.getLast?_eq_getElem?, h.2.2]
  exact h1
theorem pref_step {ds : List PyData} {l : List (O × Int)} {i : Nat} {e : O} {c : Int} (h : Pref ds l i) (hd : ds[i]? = some (O.tD (e, c))) (he : O.ok e = true) (hc : 1 ≤ c) (hl : ∀ t, l.getLast? = some t → O.lt e t.1 = true) : Pref ds (l ++ [(e, c)]) (i + 1) := by
  obtain ⟨h1, h2, h3⟩ := h
  refine ⟨?_, O.ok_snoc l e c h2 he hc hl, by rw [List.length_append, h3]; rfl⟩
  rw [List.take_add_one, hd, h1, List.map_append]
  rfl
theorem ord_term {ds : List PyData} (h : IsOrd (.tuple ds)) {i : Nat} {d : PyData} (hd : ds[i]? = some d) : IsTerm d := by
  obtain ⟨o, h1, h2⟩ := h
  have h3 : O.toDs o = ds := PyData.tuple.inj h1
  rw [← h3, O.toDs_ts, List.getElem?_map] at hd
  obtain ⟨t, ht, rfl⟩ := Option.map_eq_some_iff.mp hd
  have := O.ok_mem h2 (List.mem_of_getElem? ht)
  exact ⟨t.1, t.2, rfl, this.1, this.2⟩
theorem bad_term {ds : List PyData} {i : Nat} {d : PyData} (hd : ds[i]? = some d) (h : ¬ IsTerm d) : isOrdB (.tuple ds) = false := isOrd_f fun z => h (ord_term z hd)
theorem tD_inj {a b : O × Int} (h : O.tD a = O.tD b) : a = b := by
  obtain ⟨e, c⟩ := a
  obtain ⟨e', c'⟩ := b
  have : O.toD e = O.toD e' ∧ c = c' := by simpa [O.tD] using h
  rw [O.toD_inj this.1, this.2]
theorem bad_order {ds : List PyData} {i : Nat} {t u : O × Int} (h1 : ds[i]? = some (O.tD t)) (h2 : ds[i + 1]? = some (O.tD u)) (h : O.lt u.1 t.1 = false) : isOrdB (.tuple ds) = false := isOrd_f fun ⟨o, e1, e2⟩ => by
  have h3 : O.toDs o = ds := PyData.tuple.inj e1
  rw [← h3, O.toDs_ts, List.getElem?_map] at h1 h2
  obtain ⟨t', ht, a1⟩ := Option.map_eq_some_iff.mp h1
  obtain ⟨u', hu, a2⟩ := Option.map_eq_some_iff.mp h2
  have := O.ok_desc e2 ht hu
  rw [tD_inj a1, tD_inj a2, h] at this
  cases this
theorem pref_end {ds : List PyData} {l : List (O × Int)} (h : Pref ds l ds.length) : isOrdB (.tuple ds) = true := by
  obtain ⟨h1, h2, h3⟩ := h
  rw [List.take_length] at h1
  refine isOrd_t ⟨O.of l, ?_, h2⟩
  unfold O.toD
  rw [O.toDs_ts, O.ts_of, h1]
/-! ### comparisons of data that are ordinals -/
section
variable {K : PySem.W.Frag} {H : Hp} {x y : V} {a b : O} {Q : VK}
theorem rd_ltD (ha : Dp K H x (O.toD a)) (hb : Dp K H y (O.toD b)) (h : O.dp a ≤ 60) (q : Q (.bl (O.lt a b)) H) : rCmp (fun d e => dataLt d e) K x y H Q := by
  unfold rCmp
  exact ⟨_, _, ha, hb, O.alike_toD a b, (fun z => by cases z), by rw [O.depth_toD]; omega, by show Q (.bl (dataLt _ _)) H; rw [O.lt_toD]; exact q⟩
theorem rd_gtD (ha : Dp K H x (O.toD a)) (hb : Dp K H y (O.toD b)) (h : O.dp a ≤ 60) (q : Q (.bl (O.lt b a)) H) : rCmp (fun d e => dataLt e d) K x y H Q := by
  unfold rCmp
  exact ⟨_, _, ha, hb, O.alike_toD a b, (fun z => by cases z), by rw [O.depth_toD]; omega, by show Q (.bl (dataLt _ _)) H; rw [O.lt_toD]; exact q⟩
theorem rd_leD (ha : Dp K H x (O.toD a)) (hb : Dp K H y (O.toD b)) (h : O.dp a ≤ 60) (q : Q (.bl (!O.lt b a)) H) : rCmp (fun d e => !dataLt e d) K x y H Q := by
  unfold rCmp
  exact ⟨_, _, ha, hb, O.alike_toD a b, (fun z => by cases z), by rw [O.depth_toD]; omega, by show Q (.bl (!dataLt _ _)) H; rw [O.lt_toD]; exact q⟩
theorem rd_geD (ha : Dp K H x (O.toD a)) (hb : Dp K H y (O.toD b)) (h : O.dp a ≤ 60) (q : Q (.bl (!O.lt a b)) H) : rCmp (fun d e => !dataLt d e) K x y H Q := by
  unfold rCmp
  exact ⟨_, _, ha, hb, O.alike_toD a b, (fun z => by cases z), by rw [O.depth_toD]; omega, by show Q (.bl (!dataLt _ _)) H; rw [O.lt_toD]; exact q⟩
/-- a tuple of data -/
theorem dp_tup {ds : List PyData} (h : Dp K H x (.tuple ds)) : ∃ p xs, x = .ref p ∧ SqT K H p xs ∧ DpAll K H xs ds := by
  cases h with
  | tup h1 h2 => exact ⟨_, _, rfl, h1, h2⟩
theorem dp_list {ds : List PyData} (h : Dp K H x (.list ds)) : ∃ p xs, x = .ref p ∧ SqL K H p xs ∧ DpAll K H xs ds := by
  cases h with
  | lst h1 h2 => exact ⟨_, _, rfl, h1, h2⟩
/-- a pair -/
theorem dp_two {a b : PyData} (h : Dp K H x (.tuple [a, b])) : ∃ p u v, x = .ref p ∧ SqT K H p [u, v] ∧ Dp K H u a ∧ Dp K H v b := by
  obtain ⟨p, xs, rfl, h1, h2⟩ := dp_tup h
  cases h2 with
  | cons g1 t => cases t with
    | cons g2 t2 =>
      cases t2
      exact ⟨p, _, _, rfl, h1, g1, g2⟩
end
theorem depth_tD (t : O × Int) : (O.tD t).depth = O.dp t.1 + 2 := by
  unfold O.tD
  simp only [PyData.depth, PyData.depthAll, O.depth_toD]; omega
def spCnt (K : PySem.W.Frag) : Sp := fun vs H Q _ => ∃ (x : V) (d : PyData), vs = [x] ∧ Dp K H x d ∧ ∀ H', Same H H' → Q (.bl (isCntB d)) H'
def spIsOrd (K : PySem.W.Frag) (n : Nat) : Sp := fun vs H Q _ => ∃ (x : V) (d : PyData), vs = [x] ∧ Dp K H x d ∧ d.depth < n ∧ ∀ H', Same H H' → Q (.bl (isOrdB d)) H'
def spIsTerm (K : PySem.W.Frag) (n : Nat) : Sp := fun vs H Q _ => ∃ (x : V) (d : PyData), vs = [x] ∧ Dp K H x d ∧ d.depth < n ∧ ∀ H', Same H H' → Q (.bl (isTermB d)) H'
end Vw

set_option Elab.async false
set_option linter.all false
set_option maxRecDepth 100000
namespace Vw
open PySem PySem.W PyProof.Rows L2
namespace O
theorem endO_z : endO z = z := rfl
theorem endO_one (e : O) (c : Int) : endO (add e c z) = e := rfl
theorem endO_add (e : O) (c : Int) {r : O} (h : r ≠ z) : endO (add e c r) = endO r := by
  cases r with
  | z => exact absurd rfl h
  | add e2 c2 r2 =>
    unfold endO
    show (match ((e, c) :: (e2, c2) :: ts r2).getLast? with | some t => t.1 | none => z) = _
    rw [List.getLast?_cons_cons]
    rfl
/-- the power e, once -/
def pw (e : O) : O := add e 1 z
theorem ok_pw {e : O} (h : ok e = true) : ok (pw e) = true := ok_add.mpr ⟨h, Int.le_refl _, rfl, rfl⟩
theorem end_sum (e : O) (c : Int) : ∀ a : O, endO (sum a (add e c z)) = e
  | z => by rw [z_sum]; rfl
  | add e1 c1 r1 => by
    by_cases q : e1 = e
    · subst q; rw [sum_eq]; rfl
    · rcases lt_total e1 e q with k | k
      · rw [sum_lt k]; rfl
      · rw [sum_gt k, endO_add _ _ (sum_add_ne r1 e c z)]
        exact end_sum e c r1
/-- all exponents are at least the end -/
theorem end_le : ∀ {a : O} {t : O × Int}, ok a = true → t ∈ ts a → lt t.1 (endO a) = false
  | z, t, _, h => by cases h
  | add e c z, t, _, h => by
    rcases List.mem_cons.mp h with q | q
    · subst q; exact lt_irrefl _
    · cases q
  | add e c (add e2 c2 r2), t, hk, h => by
    have g := ok_add.mp hk
    rw [endO_add _ _ (by intro q; cases q)]
    rcases List.mem_cons.mp h with q | q
    · subst q
      have h1 := end_le (a := add e2 c2 r2) (t := (e2, c2)) g.2.2.1 List.mem_cons_self
      exact ge_trans (b := e2) (lt_asymm g.2.2.2) h1
    · exact end_le g.2.2.1 q
theorem end_mem : ∀ {a : O}, a ≠ z → ∃ c, (endO a, c) ∈ ts a
  | z, h => absurd rfl h
  | add e c z, _ => ⟨c, List.mem_cons_self⟩
  | add e c (add e2 c2 r2), _ => by
    obtain ⟨c', h⟩ := end_mem (a := add e2 c2 r2) (by intro q; cases q)
    rw [endO_add _ _ (by intro q; cases q)]
    exact ⟨c', List.mem_cons_of_mem _ h⟩
theorem ok_end : ∀ {a : O}, ok a = true → ok (endO a) = true := fun {a} h => by
  by_cases q : a = z
  · subst q; rfl
  · obtain ⟨c, hc⟩ := end_mem q
    exact (ok_mem h hc).1
theorem dp_end (a : O) : dp (endO a) ≤ dp a := by
  by_cases q : a = z
  · subst q; exact Nat.le_refl _
  · obtain ⟨c, hc⟩ := end_mem q
    have := dp_mem hc
    show dp (endO a, c).1 ≤ _
    omega
/-- the least ordinal at least a whose end is at least e -/
def raisedO (a e : O) : O := if lt (endO a) e = true then sum a (pw e) else a
theorem ok_raised {a e : O} (h : ok a = true) (h2 : ok e = true) : ok (raisedO a e) = true := by
  unfold raisedO
  split
  · exact ok_sum _ _ h (ok_pw h2)
  · exact h
theorem dp_raised (a e : O) : dp (raisedO a e) ≤ max (dp a) (dp e + 2) := by
  unfold raisedO
  split
  · have := dp_sum a (pw e)
    have h2 : dp (pw e) = max (dp e + 2) 0 := rfl
    omega
  · omega
theorem len_raised (a e : O) : (ts (raisedO a e)).length ≤ (ts a).length + 1 := by
  unfold raisedO
  split
  · exact len_sum a (pw e)
  · omega
theorem end_raised (a e : O) : lt (endO (raisedO a e)) e = false := by
  unfold raisedO
  split
  · rw [pw, end_sum]; exact lt_irrefl _
  · rename_i h; exact Bool.eq_false_iff.mpr h
theorem raised_ge {a e : O} (h : ok a = true) (h2 : ok e = true) : lt (raisedO a e) a = false := by
  unfold raisedO
  split
  · exact sum_ge_left h (ok_pw h2)
  · exact lt_irrefl _
/-- what has an end of at least e and something before it is at least the power -/
theorem pw_le {x e : O} (hx : ok x = true) (he : lt z e = true) (h : lt (endO x) e = false) : lt x (pw e) = false := by
  cases x with
  | z => rw [endO_z, he] at h; cases h
  | add e2 c2 r2 =>
    have g := ok_add.mp hx
    have h1 := end_le hx (t := (e2, c2)) List.mem_cons_self
    have h2 : lt e2 e = false := ge_trans h1 h
    show (if e2 = e then (if c2 = 1 then lt r2 z else decide (c2 < 1)) else lt e2 e) = false
    split
    · split
      · exact not_lt_nil _
      · exact decide_eq_false (by omega)
    · exact h2
/-- no ordinal between would do -/
theorem raised_least : ∀ {a x e : O}, ok a = true → ok x = true → lt (endO a) e = true → lt x a = false → lt (endO x) e = false → lt x (sum a (pw e)) = false
  | z, x, e, _, hx, h1, _, h3 => by rw [z_sum]; exact pw_le hx h1 h3
  | add e1 c1 r1, x, e, ha, hx, h1, h2, h3 => by
    have ga := ok_add.mp ha
    have ez : lt z e = true := by
      by_cases q : e = z
      · subst q; rw [not_lt_nil] at h1; cases h1
      · exact nil_lt q
    cases x with
    | z => cases h2
    | add e2 c2 r2 =>
      have gx := ok_add.mp hx
      have e2e : lt e2 e = false := ge_trans (end_le hx (t := (e2, c2)) List.mem_cons_self) h3
      by_cases q : e1 = e
      · subst q
        have hr1 : r1 ≠ z := fun z1 => by subst z1; rw [endO_one, lt_irrefl] at h1; cases h1
        show lt _ (sum (add e1 c1 r1) (add e1 1 z)) = false
        rw [sum_eq]
        by_cases q2 : e2 = e1
        · subst q2
          have hr2 : r2 = z := by
            cases r2 with
            | z => rfl
            | add e5 c5 r5 =>
              have h5 := end_le hx (t := (e5, c5)) (List.mem_cons_of_mem _ List.mem_cons_self)
              have := ge_trans h5 h3
              rw [show lt e5 e2 = true from gx.2.2.2] at this
              cases this
          subst hr2
          have hc : ¬ c2 ≤ c1 := fun hc => by
            have : lt (add e2 c2 z) (add e2 c1 r1) = true := by
              by_cases hcc : c2 = c1
              · subst hcc; rw [lt_rest]; exact nil_lt hr1
              · exact lt_cnt (by omega)
            rw [h2] at this; cases this
          by_cases hcc : c2 = c1 + 1
          · subst hcc; rw [lt_irrefl]
          · exact lt_asymm (lt_cnt (by omega))
        · exact lt_asymm (lt_head (lt_of_ge e2e q2))
      · rcases lt_total e1 e q with k | k
        · show lt _ (sum (add e1 c1 r1) (add e 1 z)) = false
          rw [sum_lt k]
          exact pw_le hx ez h3
        · have hr1 : r1 ≠ z := fun z1 => by subst z1; rw [endO_one, lt_asymm k] at h1; cases h1
          rw [endO_add _ _ hr1] at h1
          show lt _ (sum (add e1 c1 r1) (add e 1 z)) = false
          rw [sum_gt k]
          by_cases q2 : e2 = e1
          · subst q2
            by_cases hcc : c2 = c1
            · subst hcc
              rw [lt_rest] at h2 ⊢
              have hr2 : r2 ≠ z := fun z2 => by
                subst z2
                rw [nil_lt hr1] at h2; cases h2
              rw [endO_add _ _ hr2] at h3
              exact raised_least ga.2.2.1 gx.2.2.1 h1 h2 h3
            · by_cases hc : c2 < c1
              · rw [lt_cnt hc] at h2; cases h2
              · exact lt_asymm (lt_cnt (by omega))
          · have h5 : lt e2 e1 = false := by
              cases h6 : lt e2 e1 with
              | false => rfl
              | true => rw [lt_head h6] at h2; cases h2
            exact lt_asymm (lt_head (lt_of_ge h5 q2))
/-- the terms at least e -/
def keep (e a : O) : O := of ((ts a).filter fun t => !lt t.1 e)
theorem keep_add (e e1 : O) (c1 : Int) (r1 : O) : keep e (add e1 c1 r1) = if lt e1 e = true then keep e r1 else add e1 c1 (keep e r1) := by
  unfold keep
  show of (((e1, c1) :: ts r1).filter _) = _
  rw [List.filter_cons]
  cases lt e1 e <;> rfl
theorem keep_none {e : O} : ∀ {r : O}, (∀ t ∈ ts r, lt t.1 e = true) → keep e r = z
  | r, h => by
    unfold keep
    rw [filter_none fun x hx => by rw [h x hx]; rfl]
    rfl
theorem ts_keep (e a : O) : ts (keep e a) = (ts a).filter fun t => !lt t.1 e := ts_of _
theorem under_keep {x e : O} : ∀ {a : O}, ok a = true → under x a = true → under x (keep e a) = true
  | z, _, _ => rfl
  | add e1 c1 r1, h, hu => by
    have g := ok_add.mp h
    rw [keep_add]
    split
    · refine under_keep g.2.2.1 ?_
      cases r1 with
      | z => rfl
      | add e2 c2 r2 => exact lt_trans _ _ _ g.2.2.2 hu
    · exact hu
theorem ok_keep {e : O} : ∀ {a : O}, ok a = true → ok (keep e a) = true
  | z, _ => rfl
  | add e1 c1 r1, h => by
    have g := ok_add.mp h
    rw [keep_add]
    split
    · exact ok_keep g.2.2.1
    · exact ok_add.mpr ⟨g.1, g.2.1, ok_keep g.2.2.1, under_keep g.2.2.1 g.2.2.2⟩
theorem dp_keep (e : O) : ∀ a : O, dp (keep e a) ≤ dp a
  | z => Nat.le_refl _
  | add e1 c1 r1 => by
    have := dp_keep e r1
    rw [keep_add]
    split
    · show _ ≤ max _ _; omega
    · show max _ _ ≤ max _ _; omega
theorem len_keep (e a : O) : (ts (keep e a)).length ≤ (ts a).length := by
  rw [ts_keep]; exact List.length_filter_le _ _
/-- the sum forgets the terms below -/
theorem sum_keep {e : O} {c : Int} {r : O} : ∀ {a : O}, ok a = true → sum (keep e a) (add e c r) = sum a (add e c r)
  | z, _ => rfl
  | add e1 c1 r1, h => by
    have g := ok_add.mp h
    rw [keep_add]
    by_cases k : lt e1 e = true
    · rw [if_pos k, sum_lt k, sum_keep g.2.2.1]
      have : ∀ t ∈ ts r1, lt t.1 e = true := fun t ht => lt_trans _ _ _ (under_all g.2.2.1 g.2.2.2 t ht) k
      rw [← sum_keep g.2.2.1, keep_none this, z_sum]
    · rw [if_neg k]
      by_cases q : e1 = e
      · subst q; rw [sum_eq, sum_eq]
      · have k2 : lt e e1 = true := lt_of_ge (Bool.eq_false_iff.mpr k) q
        rw [sum_gt k2, sum_gt k2, sum_keep g.2.2.1]
theorem keep_all {e : O} : ∀ {a : O}, (∀ t ∈ ts a, lt t.1 e = false) → keep e a = a
  | z, _ => rfl
  | add e1 c1 r1, h => by
    rw [keep_add, h (e1, c1) List.mem_cons_self, if_neg Bool.false_ne_true, keep_all fun t ht => h t (List.mem_cons_of_mem _ ht)]
/-- what the law's own raising does -/
theorem raised_law {a e : O} (ha : ok a = true) : (if e = z ∨ (keep e a = a ∧ a ≠ z) then a else sum (keep e a) (pw e)) = raisedO a e := by
  unfold raisedO
  by_cases he : e = z
  · rw [if_pos (.inl he)]
    subst he
    rw [not_lt_nil, if_neg Bool.false_ne_true]
  · by_cases hz : a = z
    · subst hz
      rw [if_neg (fun h => h.elim he fun h => h.2 rfl), endO_z, if_pos (nil_lt he)]
      rfl
    · cases k : lt (endO a) e with
      | false =>
        have : keep e a = a := keep_all fun t ht => ge_trans (end_le ha ht) k
        rw [if_pos (.inr ⟨this, hz⟩), if_neg Bool.false_ne_true]
      | true =>
        have : keep e a ≠ a := fun h => by
          obtain ⟨c, hc⟩ := end_mem hz
          have hc2 : (endO a, c) ∈ (ts a).filter fun t => !lt t.1 e := by rw [← ts_keep, h]; exact hc
          have := (List.mem_filter.mp hc2).2
          rw [show lt (endO a, c).1 e = true from k] at this
          cases this
        rw [if_neg (fun h => h.elim he fun h => this h.1), if_pos rfl]
        exact sum_keep ha
/-- the first terms -/
theorem ok_take : ∀ (a : O) (k : Nat), ok a = true → ok (of ((ts a).take k)) = true
  | _, 0, _ => rfl
  | z, _ + 1, _ => rfl
  | add e c r, k + 1, h => by
    have g := ok_add.mp h
    refine ok_add.mpr ⟨g.1, g.2.1, ok_take r k g.2.2.1, ?_⟩
    cases r with
    | z => cases k <;> rfl
    | add e2 c2 r2 => cases k with
      | zero => rfl
      | succ k => exact g.2.2.2
theorem dp_take (a : O) (k : Nat) : dp (of ((ts a).take k)) ≤ dp a := dp_of _ _ fun t ht => dp_mem (List.mem_of_mem_take ht)
theorem len_take (a : O) (k : Nat) : (ts (of ((ts a).take k))).length ≤ (ts a).length := by
  rw [ts_of, List.length_take]; omega
/-- so many times the power -/
def pwN (e : O) (n : Int) : O := if n = 0 then z else add e n z
end O
def spPow (K : PySem.W.Frag) : Sp := fun vs H Q _ => ∃ (x : V) (e : O) (n : Int), vs = [x, .int n] ∧ OA K H x e ∧ ∀ (v : V) (H' : Hp), Same H H' → OA K H' v (O.pwN e n) → Q v H'
/-- a function of two ordinals -/
def spO2 (K : PySem.W.Frag) (g : O → O → O) : Sp := fun vs H Q _ => ∃ (x y : V) (a b : O), vs = [x, y] ∧ OA K H x a ∧ OA K H y b ∧ O.ok a = true ∧ O.ok b = true ∧ O.dp a ≤ 46 ∧ O.dp b ≤ 46 ∧ (O.ts a).length ≤ 900 ∧ (O.ts b).length ≤ 900 ∧ ∀ (v : V) (H' : Hp), Same H H' → OA K H' v (g a b) → Q v H'
end Vw

set_option Elab.async false
set_option linter.all false
set_option maxRecDepth 100000
namespace Vw
open PySem PySem.W PyProof.Rows L2
namespace O
/-- what makes b when it is added to a -/
def gap : O → O → O
  | z, b => b
  | add _ _ _, z => z
  | add e c r, add e' c' r' => if e = e' then (if c = c' then gap r r' else add e' (c' - c) r') else add e' c' r'
theorem ok_gap : ∀ {a b : O}, ok a = true → ok b = true → lt a b = true → ok (gap a b) = true
  | z, b, _, hb, _ => by cases b <;> exact hb
  | add _ _ _, z, _, _, _ => rfl
  | add e c r, add e' c' r', ha, hb, h => by
    have ga := ok_add.mp ha
    have gb := ok_add.mp hb
    unfold gap
    simp only [lt] at h
    split
    · rename_i he; rw [if_pos he] at h
      split
      · rename_i hc; rw [if_pos hc] at h
        exact ok_gap ga.2.2.1 gb.2.2.1 h
      · rename_i hc; rw [if_neg hc] at h
        have := of_decide_eq_true h
        exact ok_add.mpr ⟨gb.1, by omega, gb.2.2.1, gb.2.2.2⟩
    · exact hb
theorem gap_ne : ∀ {a b : O}, lt a b = true → gap a b ≠ z
  | z, b, h => by cases b <;> first | (cases h; done) | (intro q; cases q)
  | add e c r, z, h => by cases h
  | add e c r, add e' c' r', h => by
    unfold gap
    simp only [lt] at h
    split
    · rename_i he; rw [if_pos he] at h
      split
      · rename_i hc; rw [if_pos hc] at h
        exact gap_ne h
      · intro q; cases q
    · intro q; cases q
/-- the exponents of the gap are exponents of b -/
theorem gap_exp : ∀ {a b : O} {t : O × Int}, t ∈ ts (gap a b) → ∃ c, (t.1, c) ∈ ts b
  | z, b, t, h => ⟨t.2, by cases b <;> exact h⟩
  | add e c r, z, t, h => by cases h
  | add e c r, add e' c' r', t, h => by
    unfold gap at h
    split at h
    · split at h
      · obtain ⟨c2, h2⟩ := gap_exp h
        exact ⟨c2, List.mem_cons_of_mem _ h2⟩
      · rcases List.mem_cons.mp h with q | q
        · subst q; exact ⟨c', List.mem_cons_self⟩
        · exact ⟨t.2, List.mem_cons_of_mem _ q⟩
    · exact ⟨t.2, h⟩
theorem sum_gap : ∀ {a b : O}, ok a = true → ok b = true → lt a b = true → sum a (gap a b) = b
  | z, b, _, _, _ => by cases b <;> (unfold gap; rw [z_sum])
  | add _ _ _, z, _, _, h => by cases h
  | add e c r, add e' c' r', ha, hb, h => by
    have ga := ok_add.mp ha
    have gb := ok_add.mp hb
    unfold gap
    simp only [lt] at h
    split
    · rename_i he; rw [if_pos he] at h
      subst he
      split
      · rename_i hc; rw [if_pos hc] at h
        subst hc
        have ih := sum_gap ga.2.2.1 gb.2.2.1 h
        have hne := gap_ne h
        cases hg : gap r r' with
        | z => exact absurd hg hne
        | add e2 c2 r2 =>
          rw [hg] at ih
          obtain ⟨c5, h5⟩ := gap_exp (a := r) (b := r') (t := (e2, c2)) (by rw [hg]; exact List.mem_cons_self)
          have := under_all gb.2.2.1 gb.2.2.2 _ h5
          rw [sum_gt this, ih]
      · rename_i hc; rw [if_neg hc] at h
        rw [sum_eq]
        congr 1
        omega
    · rename_i he; rw [if_neg he] at h
      rw [sum_lt h]
theorem dp_gap (a b : O) : dp (gap a b) ≤ dp b := by
  rw [← of_ts (gap a b)]
  refine dp_of _ _ fun t ht => ?_
  obtain ⟨c, h⟩ := gap_exp ht
  exact dp_mem (t := (t.1, c)) h
theorem len_gap : ∀ a b : O, (ts (gap a b)).length ≤ (ts b).length
  | z, b => by cases b <;> exact Nat.le_refl _
  | add _ _ _, z => Nat.zero_le _
  | add e c r, add e' c' r' => by
    unfold gap
    split
    · split
      · have := len_gap r r'; show _ ≤ (ts r').length + 1; omega
      · exact Nat.le_refl _
    · exact Nat.le_refl _
/-- the exponent of the first term -/
def headE : O → O
  | z => z
  | add e _ _ => e
theorem dp_headE (a : O) : dp (headE a) ≤ dp a := by
  cases a with
  | z => exact Nat.le_refl _
  | add e c r => show dp e ≤ max (dp e + 2) (dp r); omega
theorem ok_headE {a : O} (h : ok a = true) : ok (headE a) = true := by
  cases a with
  | z => rfl
  | add e c r => exact (ok_add.mp h).1
theorem len_headE {a : O} : (ts (headE a)).length ≤ wd a := by
  cases a with
  | z => exact Nat.zero_le _
  | add e c r =>
    have := len_wd e
    show (ts e).length ≤ max (wd e) (max ((ts r).length + 1) (wd r)); omega
def maxO (a b : O) : O := if lt a b = true then b else a
theorem maxO_ge1 (a b : O) : lt (maxO a b) a = false := by
  unfold maxO; split
  · rename_i h; exact lt_asymm h
  · exact lt_irrefl _
theorem maxO_ge2 (a b : O) : lt (maxO a b) b = false := by
  unfold maxO; split
  · exact lt_irrefl _
  · rename_i h; exact Bool.eq_false_iff.mpr h
theorem maxO_or (a b : O) : maxO a b = a ∨ maxO a b = b := by unfold maxO; split <;> simp
theorem maxO_le {a b c : O} (h1 : lt c a = false) (h2 : lt c b = false) : lt c (maxO a b) = false := by
  rcases maxO_or a b with h | h <;> rw [h] <;> assumption
/-- the least ordinal above the ends of all from a on, before b -/
def endLim (a b : O) : O := maxO (sum (endO a) one) (if gap a b = pw (headE (gap a b)) then headE (gap a b) else sum (headE (gap a b)) one)
theorem succ_ne (a : O) : sum a one ≠ z := sum_add_ne _ _ _ _
theorem succ_le {a b : O} (ha : ok a = true) (hb : ok b = true) (h : lt a b = true) : lt b (sum a one) = false := lt_succ_iff a b ha hb h
theorem lt_of_succ {a b : O} (ha : ok a = true) (h : lt b (sum a one) = false) : lt a b = true := lt_ge (lt_succ ha) h
theorem pw_lt {e x : O} (h : lt e (headE x) = true) : lt (pw e) x = true := by
  cases x with
  | z => rw [show headE z = z from rfl, not_lt_nil] at h; cases h
  | add e2 c2 r2 => exact lt_head h
theorem lt_pw {e x : O} (hx : x ≠ z) (h : lt (headE x) e = true) : lt x (pw e) = true := by
  cases x with
  | z => exact absurd rfl hx
  | add e2 c2 r2 => exact lt_head h
theorem pw_head {x : O} (hx : ok x = true) (hz : x ≠ z) : lt x (pw (headE x)) = false := by
  cases x with
  | z => exact absurd rfl hz
  | add e c r =>
    have g := ok_add.mp hx
    show lt (add e c r) (add e 1 z) = false
    by_cases hc : c = 1
    · subst hc; rw [lt_rest]; exact not_lt_nil _
    · exact lt_asymm (lt_cnt (by omega))
section
variable {a b : O} (ha : ok a = true) (hb : ok b = true) (h : lt a b = true)
include ha hb h
theorem lim_gt : lt (endO a) (endLim a b) = true := lt_of_succ (ok_end ha) (maxO_ge1 _ _)
theorem lim_ne : endLim a b ≠ z := fun q => by
  have := lim_gt ha hb h
  rw [q, not_lt_nil] at this; cases this
/-- the raised one is not before b -/
theorem lim_raised : lt (raisedO a (endLim a b)) b = false := by
  unfold raisedO
  rw [if_pos (lim_gt ha hb h)]
  have hg := ok_gap ha hb h
  have e := sum_gap ha hb h
  have hF : ok (endLim a b) = true := by
    unfold endLim
    rcases maxO_or (sum (endO a) one) (if gap a b = pw (headE (gap a b)) then headE (gap a b) else sum (headE (gap a b)) one) with q | q <;> rw [q]
    · exact ok_sum _ _ (ok_end ha) ok_one
    · split
      · exact ok_headE hg
      · exact ok_sum _ _ (ok_headE hg) ok_one
  have key : lt (pw (endLim a b)) (gap a b) = false := by
    have h2 := maxO_ge2 (sum (endO a) one) (if gap a b = pw (headE (gap a b)) then headE (gap a b) else sum (headE (gap a b)) one)
    have h2 : lt (endLim a b) (if gap a b = pw (headE (gap a b)) then headE (gap a b) else sum (headE (gap a b)) one) = false := h2
    split at h2
    · rename_i hp
      rw [hp]
      have hh : headE (pw (headE (gap a b))) = headE (gap a b) := rfl
      by_cases q : endLim a b = headE (gap a b)
      · rw [q]; exact lt_irrefl _
      · exact lt_asymm (lt_head (lt_of_ge h2 q))
    · exact lt_asymm (lt_pw (gap_ne h) (lt_of_succ (ok_headE hg) h2))
  have m := sum_mono_iff ha (ok_pw hF) hg
  rw [e] at m
  rw [m]; exact key
/-- the least such -/
theorem lim_least {e : O} (he : ok e = true) (hz : e ≠ z) (hr : lt (raisedO a e) b = false) : lt e (endLim a b) = false := by
  have hg := ok_gap ha hb h
  have es := sum_gap ha hb h
  unfold raisedO at hr
  split at hr
  · rename_i h1
    have m := sum_mono_iff ha (ok_pw he) hg
    rw [es, hr] at m
    have m : lt (pw e) (gap a b) = false := m.symm
    refine maxO_le (succ_le (ok_end ha) he h1) ?_
    have h3 : lt e (headE (gap a b)) = false := by
      cases q : lt e (headE (gap a b)) with
      | false => rfl
      | true => rw [pw_lt q] at m; cases m
    split
    · exact h3
    · rename_i hp
      refine succ_le (ok_headE hg) he (lt_of_ge h3 fun q => hp ?_)
      subst q
      exact eq_of (pw_head hg (gap_ne h)) m
  · rw [h] at hr; cases hr
/-- it is among the exponents of b, their successors, and 1 -/
theorem lim_some : endLim a b = one ∨ (∃ c, (endLim a b, c) ∈ ts b) ∨ ∃ e c, (e, c) ∈ ts b ∧ endLim a b = sum e one := by
  have hg := ok_gap ha hb h
  have hne := gap_ne h
  obtain ⟨c0, h0⟩ : ∃ c, (headE (gap a b), c) ∈ ts b := by
    cases q : gap a b with
    | z => exact absurd q hne
    | add e c r => exact gap_exp (a := a) (t := (e, c)) (by rw [q]; exact List.mem_cons_self)
  rcases maxO_or (sum (endO a) one) (if gap a b = pw (headE (gap a b)) then headE (gap a b) else sum (headE (gap a b)) one) with q | q
  · have q : endLim a b = sum (endO a) one := q
    by_cases hz : a = z
    · subst hz; left; rw [q]; rfl
    · right
      by_cases h5 : lt (endO a) (headE (gap a b)) = true
      · -- then the successor of the end is at most the head
        have h6 := succ_le (ok_end ha) (ok_headE hg) h5
        have h7 := maxO_ge2 (sum (endO a) one) (if gap a b = pw (headE (gap a b)) then headE (gap a b) else sum (headE (gap a b)) one)
        have h7 : lt (endLim a b) (if gap a b = pw (headE (gap a b)) then headE (gap a b) else sum (headE (gap a b)) one) = false := h7
        rw [q] at h7
        split at h7
        · have := eq_of h6 h7
          left
          refine ⟨c0, ?_⟩
          rw [q, ← this]; exact h0
        · have := lt_of_succ (ok_headE hg) h7
          rw [h6] at this; cases this
      · right
        have h5 := Bool.eq_false_iff.mpr h5
        -- the end of a stays an exponent of b
        obtain ⟨c, hc⟩ : ∃ c, (endO a, c) ∈ ts b := by
          rw [← sum_gap ha hb h]
          cases q2 : gap a b with
          | z => exact absurd q2 hne
          | add e2 c2 r2 =>
            rw [q2] at h5
            obtain ⟨c1, m1⟩ := end_mem hz
            by_cases q3 : endO a = e2
            · clear q h5 hg hne h0 q2
              have : ∀ x : O, ∃ c, (e2, c) ∈ ts (sum x (add e2 c2 r2)) := fun x => by
                induction x with
                | z => exact ⟨c2, by rw [z_sum]; exact List.mem_cons_self⟩
                | add e c r _ ih =>
                  by_cases k : e = e2
                  · subst k; rw [sum_eq]; exact ⟨_, List.mem_cons_self⟩
                  · rcases lt_total e e2 k with k | k
                    · rw [sum_lt k]; exact ⟨_, List.mem_cons_self⟩
                    · rw [sum_gt k]
                      obtain ⟨c', h'⟩ := ih
                      exact ⟨c', List.mem_cons_of_mem _ h'⟩
              rw [q3]; exact this a
            · have k : lt e2 (endO a) = true := lt_of_ge h5 q3
              have : ∀ x : O, ok x = true → (endO a, c1) ∈ ts x → (endO a, c1) ∈ ts (sum x (add e2 c2 r2)) := fun x hx hm => by
                induction x with
                | z => cases hm
                | add e c r _ ih =>
                  have gx := ok_add.mp hx
                  have k2 : lt e2 e = true := by
                    rcases List.mem_cons.mp hm with k3 | k3
                    · cases k3; exact k
                    · exact lt_trans _ _ _ k (under_all gx.2.2.1 gx.2.2.2 _ k3)
                  rw [sum_gt k2]
                  rcases List.mem_cons.mp hm with k3 | k3
                  · rw [k3]; exact List.mem_cons_self
                  · exact List.mem_cons_of_mem _ (ih gx.2.2.1 k3)
              exact ⟨c1, this a ha m1⟩
        exact ⟨_, _, hc, q⟩
  · have q : endLim a b = (if gap a b = pw (headE (gap a b)) then headE (gap a b) else sum (headE (gap a b)) one) := q
    right
    split at q
    · left; exact ⟨c0, by rw [q]; exact h0⟩
    · right; exact ⟨_, _, h0, q⟩
/-- none from a on before b ends so -/
theorem lim_above {x : O} (hx : ok x = true) (h1 : lt x a = false) (h2 : lt x b = true) : lt (endO x) (endLim a b) = true := by
  cases q : lt (endO x) (endLim a b) with
  | true => rfl
  | false =>
    have h3 := raised_least ha hx (lim_gt ha hb h) h1 q
    have h4 := lim_raised ha hb h
    unfold raisedO at h4
    rw [if_pos (lim_gt ha hb h)] at h4
    rw [ge_trans h3 h4] at h2; cases h2
end
end O
end Vw

set_option Elab.async false
set_option linter.all false
set_option maxRecDepth 100000
namespace Vw
open PySem PySem.W PyProof.Rows L2
/-! ### max(a, b), min(list) of ordinals -/
theorem O.alikeAll (os : List O) : AlikeAll (os.map O.toD) :=
  ⟨fun x hx y hy => by
    obtain ⟨a, _, rfl⟩ := List.mem_map.mp hx
    obtain ⟨b, _, rfl⟩ := List.mem_map.mp hy
    exact O.alike_toD a b, fun x hx e => by
    obtain ⟨a, _, rfl⟩ := List.mem_map.mp hx
    cases e⟩
theorem O.depthAll {n : Nat} : ∀ {os : List O}, (∀ o ∈ os, O.dp o ≤ n) → PyData.depthAll (os.map O.toD) ≤ n + 1
  | [], _ => Nat.zero_le _
  | o :: r, h => by
    have h1 := h o List.mem_cons_self
    have h2 := O.depthAll (os := r) fun x hx => h x (List.mem_cons_of_mem _ hx)
    show max (O.toD o).depth (PyData.depthAll (r.map O.toD)) ≤ n + 1
    rw [O.depth_toD]
    omega
section
variable {prog : Program} {w : World} {A : Around} {E : Value → Shared → Prop} {s : Shared}
theorem max_two_data {u v : Value} {d e : PyData} {as bs : List Addr} {Q : Value → Shared → Prop} (hh : A.handled = none) (r1 : Reads s.heap u d as) (r2 : Reads s.heap v e bs) (ha : AlikeAll [d, e]) (hu : A.units + 1 + PyData.depthAll [d, e] < cLine)
    (h : ∀ h' tk, (∀ b o, s.heap.get? b = some o → h'.get? b = some o) → Q (if dataLt d e = true then v else u) { s with heap := h', toks := tk }) : wpAny (model prog w) A (call (.builtin "max") [u, v]) Q E s := by
  have hname : (toString "max" ++ toString ".loop" : String) = "max.loop" := by decide
  refine call_function_tree F.kind_max F.plain_max F.entry_max (F.args_max2 _ _) ?_
  show wpAny _ A.in1 (Builtin.Builtins.bindParams "max" ["key", "default"] 0 ⟨[], []⟩ >>= _) _ _ s
  refine wpAny_bind (wpAny_of_eq (show Builtin.Builtins.bindParams "max" ["key", "default"] 0 ⟨[], []⟩ = pure [none, none] from rfl) ?_)
  show wpAny _ A.in1 (newTuple [u, v] >>= _) _ _ s
  refine wpAny_bind (wpAny_newObj_type ?_)
  have hT : (s.heap.push { cls := .type "tuple", data := .seq #[u, v] }).IsTuple s.heap.objs.size #[u, v] := ⟨_, Heap.get?_push_size _ rfl, rfl, 0, rfl⟩
  have hold : ∀ b o, s.heap.get? b = some o → (s.heap.push { cls := .type "tuple", data := .seq #[u, v] }).get? b = some o := fun b o e => Heap.get?_push_of_some _ e
  have hr : ReadsAll (s.heap.push { cls := .type "tuple", data := .seq #[u, v] }) (#[u, v] : Array Value).toList [d, e] (as ++ (bs ++ [])) := .cons (reads_keeps hold r1) (.cons (reads_keeps hold r2) .nil)
  refine wpAny_bind (iter_tupleW (A := A.in1) (s := { s with heap := s.heap.push { cls := .type "tuple", data := .seq #[u, v] } }) hh hT fun s₂ es W st hfp hw hk => ?_)
  refine wpAny_bind (wpAny_newObj_type ?_)
  have hSf : s₂.heap.objs.size ∉ [(s.heap.push { cls := .type "tuple", data := .seq #[u, v] }).objs.size, s.heap.objs.size] := fun hm => Nat.lt_irrefl _ (hfp _ hm)
  have hcmp := cmpIn_gt (prog := prog) (w := w) (A := A.in1) (s := { s with heap := s.heap.push { cls := .type "tuple", data := .seq #[u, v] } }) (vs := #[u, v]) hr ha (by show A.units + 1 + _ < _; exact hu)
  rw [hname]
  refine wpAny_pure ⟨plainId_quiet F.plain_max_loop _, codeAny_max_loop_firstH W (s.heap.push { cls := .type "tuple", data := .seq #[u, v] }) hw _ hcmp s₂.heap.objs.size hSf (fresh_in hk) _ (show 0 < 2 by decide) (fun b o e => Heap.get?_push_of_some _ (hk b o e)) (W.frame 0 s₂ _ s₂.toks st (Nat.le_refl _) fun b _ o e => Heap.get?_push_of_some _ e) (Heap.get?_push_size _ rfl) fun x s' hP hm => ?_⟩
  have hm := Moved.drop_new (tk := s₂.toks) hm (Nat.le_refl _)
  obtain ⟨h', tk, rfl, hk'⟩ := moved_old es rfl hm
  have q := h h' tk fun b o e => hk' b o (hold b o e)
  have hv : x = if dataLt d e = true then v else u := by
    have hP' : (#[u, v] : Array Value)[argBest (fun i j => dataLt ([d, e].getD j .none) ([d, e].getD i .none)) 1]? = some x := hP
    have hb : argBest (fun i j => dataLt ([d, e].getD j .none) ([d, e].getD i .none)) 1 = if dataLt d e = true then 1 else 0 := rfl
    rw [hb] at hP'
    by_cases g : dataLt d e = true
    · rw [if_pos g] at hP' ⊢; exact (Option.some.inj hP').symm
    · rw [if_neg g] at hP' ⊢; exact (Option.some.inj hP').symm
  rw [hv]; exact q
theorem min_list_at {l : Addr} {vs : Array Value} {x : PyData} {xs : List PyData} {as : List Addr} {Q : Value → Shared → Prop} (hh : A.handled = none) (hl : s.heap.IsList l vs) (hr : ReadsAll s.heap vs.toList (x :: xs) as) (ha : AlikeAll (x :: xs)) (hu : A.units + 1 + PyData.depthAll (x :: xs) < cLine)
    (h : ∀ (i : Nat) v h' tk, vs[i]? = some v → (x :: xs).getD i .none = minD x xs → (∀ b o, s.heap.get? b = some o → h'.get? b = some o) → Q v { s with heap := h', toks := tk }) :
    wpAny (model prog w) A (call (.builtin "min") [.ref l]) Q E s := by
  have hn : vs.size = xs.length + 1 := readsAll_len hr
  refine call_min_walkH (iter_listW (A := A.in1) hh hl fun s₂ e W st hfp hw hk => ?_)
  refine ⟨_, _, _, _, _, _, _, s.heap, _, rfl, W, st, hfp, by omega, hw, hk, cmpIn_lt (A := A.in1) hr ha (by show A.units + 1 + _ < _; exact hu), fun v s' hP m => ?_⟩
  obtain ⟨h', tk, rfl, hk'⟩ := moved_old e rfl m
  have e1 : vs.size - 1 = xs.length := by omega
  have e2 := (argBest_fold dataLt PyData.none x xs xs.length (Nat.le_refl _)).2
  rw [List.take_length] at e2
  refine h _ v h' tk hP ?_ hk'
  rw [e1]
  exact e2
end
def minO (x : O) (xs : List O) : O := xs.foldl (fun a y => if O.lt y a = true then y else a) x
theorem minD_toD (x : O) : ∀ xs : List O, minD (O.toD x) (xs.map O.toD) = O.toD (minO x xs) := fun xs => by
  unfold minD minO
  induction xs generalizing x with
  | nil => rfl
  | cons y ys ih =>
    rw [List.map_cons, List.foldl_cons, List.foldl_cons, O.lt_toD, ← ih]
    congr 1
    split <;> rfl
theorem minO_le : ∀ (xs : List O) (x : O), O.lt x (minO x xs) = false ∧ ∀ y ∈ xs, O.lt y (minO x xs) = false
  | [], x => ⟨O.lt_irrefl _, fun y h => by cases h⟩
  | y :: ys, x => by
    have ih := minO_le ys (if O.lt y x = true then y else x)
    have e : minO x (y :: ys) = minO (if O.lt y x = true then y else x) ys := rfl
    rw [e]
    by_cases g : O.lt y x = true
    · rw [if_pos g] at ih ⊢
      refine ⟨O.ge_trans (O.lt_asymm g) ih.1, fun z hz => ?_⟩
      rcases List.mem_cons.mp hz with h | h
      · subst h; exact ih.1
      · exact ih.2 z h
    · rw [if_neg g] at ih ⊢
      refine ⟨ih.1, fun z hz => ?_⟩
      rcases List.mem_cons.mp hz with h | h
      · subst h; exact O.ge_trans (Bool.eq_false_iff.mpr g) ih.1
      · exact ih.2 z h
theorem vals_at : ∀ {xs : List V} {us : List Value} {i : Nat} {u : Value}, Vals xs us → us[i]? = some u → ∃ x, xs[i]? = some x ∧ RelV x u
  | _, _, _, _, .nil, h => by simp at h
  | _, _, 0, _, .cons a t, h => by
    simp at h; subst h
    exact ⟨_, rfl, a⟩
  | _, _, i + 1, _, .cons a t, h => by
    obtain ⟨x, h1, h2⟩ := vals_at (i := i) t (by simpa using h)
    exact ⟨x, by simpa using h1, h2⟩
theorem dpAll_of {K : PySem.W.Frag} {H : Hp} : ∀ {xs : List V} {os : List O}, Paired (OA K H) xs os → DpAll K H xs (os.map O.toD)
  | _, _, .nil => .nil
  | _, _, .cons a t => .cons a.dp (dpAll_of t)
@[irreducible] def rMaxO (K : PySem.W.Frag) : List V → Hp → VK → Prop := fun vs H Q => ∃ (x y : V) (a b : O), vs = [x, y] ∧ OA K H x a ∧ OA K H y b ∧ O.dp a ≤ 60 ∧ O.dp b ≤ 60 ∧ Q (if O.lt a b = true then y else x) H
@[irreducible] def rMinO (K : PySem.W.Frag) : List V → Hp → VK → Prop := fun vs H Q => ∃ (l : Addr) (xs : List V) (os : List O), vs = [.ref l] ∧ SqL K H l xs ∧ Paired (OA K H) xs os ∧ os ≠ [] ∧ (∀ o ∈ os, O.dp o ≤ 60) ∧ ∀ (v : V) (m : O), m ∈ os → OA K H v m → (∀ o ∈ os, O.lt o m = false) → Q v H
section
variable {X : Cx}
theorem cr_maxO (hc : X.calm = true) (hu : X.A.units + 64 < cLine) : CallR X (.builtin "max") (rMaxO X.K) := by
  intro pins s σ H vs us Q I r h
  unfold rMaxO at h
  obtain ⟨x, y, a, b, rfl, hx, hy, da, db, q⟩ := h
  obtain ⟨u, v, rfl, rx, ry⟩ := vals2 r
  obtain ⟨as, r1⟩ := Dp.reads I _ x u hx.dp rx
  obtain ⟨bs, r2⟩ := Dp.reads I _ y v hy.dp ry
  have hd := O.depthAll (n := 60) (os := [a, b]) fun o ho => by
    simp only [List.mem_cons, List.not_mem_nil, or_false] at ho
    rcases ho with h | h <;> subst h <;> assumption
  have hd : PyData.depthAll [O.toD a, O.toD b] ≤ 61 := hd
  refine max_two_data (I.ok.hd hc) r1 r2 (O.alikeAll [a, b]) (by omega) fun h' tk hk => ⟨_, H, I.kept hk, ?_, q⟩
  rw [O.lt_toD]
  split <;> assumption
theorem cr_minO (hc : X.calm = true) (hu : X.A.units + 64 < cLine) : CallR X (.builtin "min") (rMinO X.K) := by
  intro pins s σ H vs us Q I r h
  unfold rMinO at h
  obtain ⟨l, xs, os, rfl, hs, hp, hne, hd, q⟩ := h
  obtain rfl := Vals.ref1 r
  obtain ⟨its, rv, hl, hz⟩ := I.list hs
  obtain ⟨as, ra⟩ := Dp.readsAll I _ _ _ (dpAll_of hp) rv
  have hdd := O.depthAll hd
  cases os with
  | nil => exact absurd rfl hne
  | cons o os =>
    refine min_list_at (I.ok.hd hc) hl.isList ra (O.alikeAll (o :: os)) (by show X.A.units + 1 + PyData.depthAll ((o :: os).map O.toD) < cLine; omega) fun i v h' tk hv hm hk => ?_
    rw [minD_toD] at hm
    have hv : its[i]? = some v := by simpa using hv
    obtain ⟨y, hy, ry⟩ := vals_at rv hv
    obtain ⟨m, hm2, om⟩ := paired_get hp hy
    have e : ((o :: os).map O.toD).getD i .none = O.toD m := by
      rw [List.getD_eq_getElem?_getD, List.getElem?_map, hm2]; rfl
    have e : O.toD o :: os.map O.toD = (o :: os).map O.toD := rfl
    rw [e, List.getD_eq_getElem?_getD, List.getElem?_map, hm2] at hm
    have hm : m = minO o os := O.toD_inj hm
    have hle := minO_le os o
    refine ⟨y, H, I.kept hk, ry, q y m (List.mem_of_getElem? hm2) om fun z hz => ?_⟩
    rw [hm]
    rcases List.mem_cons.mp hz with h | h
    · subst h; exact hle.1
    · exact hle.2 z h
end
section
variable {K : PySem.W.Frag} {H : Hp} {Q : VK}
theorem rd_max {x y : V} {a b : O} (hx : OA K H x a) (hy : OA K H y b) (da : O.dp a ≤ 60) (db : O.dp b ≤ 60) (q : ∀ v, OA K H v (O.maxO a b) → Q v H) : rMaxO K [x, y] H Q := by
  unfold rMaxO
  refine ⟨x, y, a, b, rfl, hx, hy, da, db, q _ ?_⟩
  unfold O.maxO
  split <;> assumption
theorem rd_min {l : Addr} {xs : List V} {os : List O} (hs : SqL K H l xs) (hp : Paired (OA K H) xs os) (hd : ∀ o ∈ os, O.dp o ≤ 60) (hn : os ≠ []) (q : ∀ v m, m ∈ os → OA K H v m → (∀ o ∈ os, O.lt o m = false) → Q v H) : rMinO K [.ref l] H Q := by
  unfold rMinO
  exact ⟨l, xs, os, rfl, hs, hp, hn, hd, q⟩
end
end Vw

set_option Elab.async false
set_option linter.all false
set_option maxRecDepth 100000
namespace Vw
open PySem PySem.W PyProof.Rows L2
namespace O
theorem drop_cons {a : O} {i : Nat} {t : O × Int} (h : (ts a)[i]? = some t) : of ((ts a).drop i) = add t.1 t.2 (of ((ts a).drop (i + 1))) := by
  obtain ⟨hi, e⟩ := List.getElem?_eq_some_iff.mp h
  rw [List.drop_eq_getElem_cons hi, e]
  rfl
theorem drop_nil {a : O} {i : Nat} (h : (ts a)[i]? = none) : of ((ts a).drop i) = z := by
  rw [List.drop_eq_nil_iff.mpr (List.getElem?_eq_none_iff.mp h)]
  rfl
/-- what the walk over equal terms keeps -/
def GapAt (a b : O) (i : Nat) : Prop := gap a b = gap (of ((ts a).drop i)) (of ((ts b).drop i)) ∧ lt (of ((ts a).drop i)) (of ((ts b).drop i)) = true
theorem GapAt.zero {a b : O} (h : lt a b = true) : GapAt a b 0 := by
  unfold GapAt
  rw [List.drop_zero, List.drop_zero, of_ts, of_ts]
  exact ⟨rfl, h⟩
theorem GapAt.other {a b : O} {i : Nat} {t : O × Int} (g : GapAt a b i) (h : (ts a)[i]? = some t) : ∃ t', (ts b)[i]? = some t' := by
  cases q : (ts b)[i]? with
  | some t' => exact ⟨t', rfl⟩
  | none =>
    have := g.2
    rw [drop_nil q, not_lt_nil] at this
    cases this
theorem GapAt.next {a b : O} {i : Nat} {t : O × Int} (g : GapAt a b i) (h : (ts a)[i]? = some t) (h2 : (ts b)[i]? = some t) : GapAt a b (i + 1) := by
  obtain ⟨g1, g2⟩ := g
  rw [drop_cons h, drop_cons h2] at g1 g2
  rw [lt_rest] at g2
  refine ⟨g1.trans ?_, g2⟩
  show (if t.1 = t.1 then (if t.2 = t.2 then _ else _) else _) = _
  rw [if_pos rfl, if_pos rfl]
theorem GapAt.short {a b : O} {i : Nat} (g : GapAt a b i) (h : (ts a)[i]? = none) : gap a b = of ((ts b).drop i) := by
  obtain ⟨g1, _⟩ := g
  rw [g1, drop_nil h]
  cases of ((ts b).drop i) <;> rfl
theorem GapAt.count {a b : O} {i : Nat} {t t' : O × Int} (g : GapAt a b i) (h : (ts a)[i]? = some t) (h2 : (ts b)[i]? = some t') (n : t ≠ t') (e : t.1 = t'.1) : gap a b = of ((t'.1, t'.2 - t.2) :: (ts b).drop (i + 1)) := by
  obtain ⟨g1, _⟩ := g
  rw [g1, drop_cons h, drop_cons h2]
  show (if t.1 = t'.1 then (if t.2 = t'.2 then _ else _) else _) = _
  rw [if_pos e, if_neg fun e2 => n (Prod.ext e e2)]
  rfl
theorem GapAt.exp {a b : O} {i : Nat} {t t' : O × Int} (g : GapAt a b i) (h : (ts a)[i]? = some t) (h2 : (ts b)[i]? = some t') (e : t.1 ≠ t'.1) : gap a b = of ((ts b).drop i) := by
  obtain ⟨g1, _⟩ := g
  rw [g1, drop_cons h, drop_cons h2]
  show (if t.1 = t'.1 then (if t.2 = t'.2 then _ else _) else _) = _
  rw [if_neg e]
theorem sum_exp : ∀ {a b : O} {t : O × Int}, t ∈ ts (sum a b) → (∃ c, (t.1, c) ∈ ts a) ∨ ∃ c, (t.1, c) ∈ ts b
  | a, z, t, h => by rw [sum_z] at h; exact .inl ⟨t.2, h⟩
  | z, b, t, h => by rw [z_sum] at h; exact .inr ⟨t.2, h⟩
  | add e c r, add e' c' r', t, h => by
    by_cases q : e = e'
    · subst q
      rw [sum_eq] at h
      rcases List.mem_cons.mp h with k | k
      · subst k; exact .inl ⟨c, List.mem_cons_self⟩
      · exact .inr ⟨t.2, List.mem_cons_of_mem _ k⟩
    · rcases lt_total e e' q with k | k
      · rw [sum_lt k] at h; exact .inr ⟨t.2, h⟩
      · rw [sum_gt k] at h
        rcases List.mem_cons.mp h with k2 | k2
        · subst k2; exact .inl ⟨c, List.mem_cons_self⟩
        · rcases sum_exp k2 with ⟨c2, h2⟩ | h2
          · exact .inl ⟨c2, List.mem_cons_of_mem _ h2⟩
          · exact .inr h2
theorem wd_sum (a b : O) : wd (sum a b) ≤ wd a + wd b := by
  rw [← of_ts (sum a b)]
  refine wd_of _ _ ?_ fun t ht => ?_
  · have := len_sum a b
    have := len_wd a
    have := len_wd b
    omega
  · rcases sum_exp ht with ⟨c, h⟩ | ⟨c, h⟩
    · have : wd t.1 ≤ wd a := wd_mem (t := (t.1, c)) h
      omega
    · have : wd t.1 ≤ wd b := wd_mem (t := (t.1, c)) h
      omega
theorem wd_pw (e : O) : wd (pw e) ≤ wd e + 1 := by
  show max (wd e) (max (0 + 1) 0) ≤ _
  omega
theorem wd_raised (a e : O) : wd (raisedO a e) ≤ wd a + wd e + 1 := by
  unfold raisedO
  split
  · have := wd_sum a (pw e)
    have := wd_pw e
    omega
  · omega
theorem wd_take (a : O) (k : Nat) : wd (of ((ts a).take k)) ≤ wd a := by
  refine wd_of _ _ ?_ fun t ht => wd_mem (List.mem_of_mem_take ht)
  have := len_wd a
  rw [List.length_take]; omega
theorem wd_end (a : O) : wd (endO a) ≤ wd a := by
  by_cases q : a = z
  · subst q; exact Nat.le_refl _
  · obtain ⟨c, hc⟩ := end_mem q
    exact wd_mem hc
theorem dp_max (a b : O) : dp (maxO a b) ≤ max (dp a) (dp b) := by
  rcases maxO_or a b with h | h <;> rw [h] <;> omega
theorem wd_max (a b : O) : wd (maxO a b) ≤ max (wd a) (wd b) := by
  rcases maxO_or a b with h | h <;> rw [h] <;> omega
theorem wd_headE (a : O) : wd (headE a) ≤ wd a := by
  cases a with
  | z => exact Nat.le_refl _
  | add e c r => show wd e ≤ max (wd e) _; omega
theorem wd_gap (a b : O) : wd (gap a b) ≤ wd b := by
  rw [← of_ts (gap a b)]
  refine wd_of _ _ ?_ fun t ht => ?_
  · have := len_gap a b
    have := len_wd b
    omega
  · obtain ⟨c, h⟩ := gap_exp ht
    exact wd_mem (t := (t.1, c)) h
theorem dp_lim (a b : O) : dp (endLim a b) ≤ max (max (dp a) (dp b)) 2 := by
  unfold endLim
  have h1 := dp_max (sum (endO a) one) (if gap a b = pw (headE (gap a b)) then headE (gap a b) else sum (headE (gap a b)) one)
  have h2 := dp_sum (endO a) one
  have h3 := dp_end a
  have h4 : dp one = 2 := by decide
  have h5 := dp_headE (gap a b)
  have h6 := dp_gap a b
  have h7 := dp_sum (headE (gap a b)) one
  by_cases hp : gap a b = pw (headE (gap a b))
  · rw [if_pos hp] at h1 ⊢; omega
  · rw [if_neg hp] at h1 ⊢; omega
theorem wd_lim (a b : O) : wd (endLim a b) ≤ wd a + wd b + 1 := by
  unfold endLim
  have h1 := wd_max (sum (endO a) one) (if gap a b = pw (headE (gap a b)) then headE (gap a b) else sum (headE (gap a b)) one)
  have h2 := wd_sum (endO a) one
  have h3 := wd_end a
  have h4 : wd one = 1 := by decide
  have h5 := wd_headE (gap a b)
  have h6 := wd_gap a b
  have h7 := wd_sum (headE (gap a b)) one
  by_cases hp : gap a b = pw (headE (gap a b))
  · rw [if_pos hp] at h1 ⊢; omega
  · rw [if_neg hp] at h1 ⊢; omega
end O
theorem eqv_tD (s t : O × Int) : PyData.eqv (O.tD s) (O.tD t) = decide (s = t) := by
  obtain ⟨a, c⟩ := s
  obtain ⟨b, d⟩ := t
  unfold O.tD
  simp only [PyData.eqv, PyData.eqvAll, O.eqv_toD, Bool.and_true, Prod.mk.injEq, Bool.decide_and]
  rfl
theorem shaped_tD {t : O × Int} (h : O.dp t.1 ≤ 50) : SeqAt.shaped (O.tD t) = true := by
  have h1 := O.lay_toD t.1
  have h2 := O.depth_toD t.1
  unfold SeqAt.shaped O.tD
  simp only [PyData.canLay0, PyData.canLayAll0, PyData.depth, PyData.depthAll, h1, h2, Bool.and_true, Bool.true_and, decide_eq_true_eq]
  omega
theorem rd_eqT {K : PySem.W.Frag} {H : Hp} {x y : V} {s t : O × Int} {Q : VK} (ha : TmA K H x s) (hb : TmA K H y t) (h : O.dp s.1 ≤ 50) (h2 : O.dp t.1 ≤ 50) (q : Q (.bl (decide (s = t))) H) : rEqO K x y H Q := by
  unfold rEqO
  exact ⟨_, _, ha.dp, hb.dp, shaped_tD h, shaped_tD h2, by rw [eqv_tD]; exact q⟩
/-- a function of one ordinal and a greater one -/
def spLim (K : PySem.W.Frag) (g : O → O → O) : Sp := fun vs H Q _ => ∃ (x y : V) (a b : O), vs = [x, y] ∧ OA K H x a ∧ OA K H y b ∧ O.ok a = true ∧ O.ok b = true ∧ O.lt a b = true ∧ O.dp a ≤ 40 ∧ O.dp b ≤ 40 ∧ O.wd a ≤ 400 ∧ O.wd b ≤ 400 ∧ ∀ (v : V) (H' : Hp), Same H H' → OA K H' v (g a b) → Q v H'
end Vw

set_option Elab.async false
set_option linter.all false
set_option maxRecDepth 100000
namespace Vw
open PySem PySem.W PyProof.Rows L2
/-! ### rows -/
def RowA (K : PySem.W.Frag) (H : Hp) (v : V) (os : List O) : Prop := ∃ a xs, v = .ref a ∧ TT K H a xs ∧ Paired (OA K H) xs os
def rowD (os : List O) : PyData := .tuple (os.map O.toD)
theorem eqvAll_toD : ∀ os ps : List O, PyData.eqvAll (os.map O.toD) (ps.map O.toD) = decide (os = ps)
  | [], [] => by simp [PyData.eqvAll]
  | [], p :: ps => by simp [PyData.eqvAll]
  | o :: os, [] => by simp [PyData.eqvAll]
  | o :: os, p :: ps => by
    simp only [List.map_cons, PyData.eqvAll, eqvAll_toD os ps, O.eqv_toD, List.cons.injEq, Bool.decide_and]
theorem eqv_rowD (os ps : List O) : PyData.eqv (rowD os) (rowD ps) = decide (os = ps) := by
  unfold rowD
  simp only [PyData.eqv, eqvAll_toD]
theorem lay_all : ∀ os : List O, PyData.canLayAll0 (os.map O.toD) = true
  | [] => rfl
  | o :: os => by simp only [List.map_cons, PyData.canLayAll0, O.lay_toD, lay_all os, Bool.and_self]
theorem shaped_rowD {os : List O} (h : ∀ o ∈ os, O.dp o ≤ 50) : SeqAt.shaped (rowD os) = true := by
  have h1 := lay_all os
  have h2 := O.depthAll h
  unfold SeqAt.shaped rowD
  rw [Bool.and_eq_true, decide_eq_true_eq]
  refine ⟨by simp only [PyData.canLay0, h1], ?_⟩
  have : (PyData.tuple (os.map O.toD)).depth = PyData.depthAll (os.map O.toD) + 1 := by simp only [PyData.depth]
  omega
/-- what the ordinals of a drawn row are -/
def Good (os : List O) : Prop := ∀ o ∈ os, O.ok o = true ∧ O.dp o ≤ 14 ∧ O.wd o ≤ 12
theorem Good.dp {os : List O} (h : Good os) : ∀ o ∈ os, O.dp o ≤ 50 := fun o ho => by have := (h o ho).2.1; omega
theorem Good.take {os : List O} (h : Good os) (k : Nat) : Good (os.take k) := fun o ho => h o (List.mem_of_mem_take ho)
theorem Good.app {os ps : List O} (h : Good os) (h2 : Good ps) : Good (os ++ ps) := fun o ho => (List.mem_append.mp ho).elim (h o) (h2 o)
section
variable {K : PySem.W.Frag} {H H' : Hp} {v x y : V} {os ps : List O} {Q : VK}
theorem RowA.tp (t : Tp H H') (h : RowA K H v os) : RowA K H' v os := by
  obtain ⟨a, xs, rfl, h1, h2⟩ := h
  exact ⟨a, xs, rfl, h1.tp t, paired_tp t h2⟩
theorem RowA.same (h : RowA K H v os) (s : Same H H') : RowA K H' v os := h.tp (same_tp s)
theorem RowA.dp (h : RowA K H v os) : Dp K H v (rowD os) := by
  obtain ⟨a, xs, rfl, h1, h2⟩ := h
  exact .tup h1.sq (dpAll_of h2)
theorem RowA.of {a : Addr} {xs : List V} (h : TT K H a xs) (p : Paired (OA K H) xs os) : RowA K H (.ref a) os := ⟨a, xs, rfl, h, p⟩
theorem rd_eqRow (hx : RowA K H x os) (hy : RowA K H y ps) (g : Good os) (g2 : Good ps) (q : Q (.bl (decide (os = ps))) H) : rEqO K x y H Q := by
  unfold rEqO
  exact ⟨_, _, hx.dp, hy.dp, shaped_rowD g.dp, shaped_rowD g2.dp, by rw [eqv_rowD]; exact q⟩
theorem rd_eqNilO {p p2 : Addr} {xs : List V} (h1 : SqL K H p xs) (h2 : Paired (OA K H) xs os) (h3 : SqL K H p2 []) (g : Good os) (q : Q (.bl os.isEmpty) H) : rEqO K (.ref p) (.ref p2) H Q := by
  unfold rEqO
  refine ⟨_, _, .lst h1 (dpAll_of h2), .lst h3 .nil, ?_, shaped_nil, ?_⟩
  · have e1 := lay_all os
    have e2 := O.depthAll g.dp
    unfold SeqAt.shaped
    rw [Bool.and_eq_true, decide_eq_true_eq]
    refine ⟨by simp only [PyData.canLay0, e1], ?_⟩
    have : (PyData.list (os.map O.toD)).depth = PyData.depthAll (os.map O.toD) + 1 := by simp only [PyData.depth]
    omega
  · rw [eqv_nil]
    cases os <;> exact q
end
/-- what is_below says -/
def below (k : Nat) (os ps : List O) : Bool := decide (os.take k = ps.take k) && O.lt (ps.getD k .z) (os.getD k .z)
theorem below_trans {k : Nat} {os ps qs : List O} (h1 : below k os ps = true) (h2 : below k ps qs = true) : below k os qs = true := by
  unfold below at *
  rw [Bool.and_eq_true, decide_eq_true_eq] at *
  exact ⟨h1.1.trans h2.1, O.lt_trans _ _ _ h2.2 h1.2⟩
theorem below_low {k j : Nat} {os ps qs : List O} (h1 : below k os ps = true) (hj : j < k) : below j os qs = below j ps qs := by
  unfold below at *
  rw [Bool.and_eq_true, decide_eq_true_eq] at h1
  have e1 : os.take j = ps.take j := by
    have := congrArg (List.take j) h1.1
    rw [List.take_take, List.take_take, Nat.min_eq_left (by omega)] at this
    exact this
  have e2 : os.getD j .z = ps.getD j .z := by
    have := congrArg (fun l => l[j]?) h1.1
    simp only [List.getElem?_take, if_pos hj] at this
    rw [List.getD_eq_getElem?_getD, List.getD_eq_getElem?_getD, this]
  rw [e1, e2]
@[irreducible] def spBelow (K : PySem.W.Frag) : Sp := fun vs H Q _ => ∃ (x y : V) (os ps : List O) (k m : Nat), vs = [.int (k : Nat), x, y] ∧ RowA K H x os ∧ RowA K H y ps ∧ Good os ∧ Good ps ∧ os.length = m ∧ ps.length = m ∧ k < m ∧ ∀ H', Same H H' → Q (.bl (below k os ps)) H'
/-- each ordinal but the first is at most the end of the one before -/
def Steps (os : List O) : Prop := ∀ i o p, os[i]? = some o → os[i + 1]? = some p → O.lt (endO o) p = false
theorem steps_nil : Steps [] := fun i o p h => by cases h
theorem steps_one (o : O) : Steps [o] := fun i o p h h2 => by
  cases i <;> cases h2
theorem steps_cons {o p : O} {os : List O} (h : O.lt (endO o) p = false) (hs : Steps (p :: os)) : Steps (o :: p :: os) := fun i a b h1 h2 => by
  cases i with
  | zero =>
    cases h1
    cases h2
    exact h
  | succ i => exact hs i a b h1 h2
/-- a row of m ordinals is drawn -/
def spRow (K : PySem.W.Frag) : Sp := fun vs H Q _ => ∃ (l b : Addr) (m : Nat), vs = [.ref b, .int (m : Nat)] ∧ m ≤ 3 ∧ Bag l H b ∧ ∀ (v : V) (os : List O) (H' : Hp), RowA K H' v os → os.length = m → Good os → Steps os → Kp b H H' → Bag l H' b → Q v H'
/-- some answer: yes or no -/
def spSome (K : PySem.W.Frag) : Sp := fun vs H Q _ => ∃ (x : V) (os : List O) (m : Nat), vs = [.int (m : Nat), x] ∧ RowA K H x os ∧ Good os ∧ os.length = m ∧ m ≤ 3 ∧ ∀ (r : Bool) (H' : Hp), Same H H' → Q (.bl r) H'
/-- an expression, what it answers said once -/
def tCutE (t : TE) : TE := fun σ H Q => ∃ Mid : V → Hp → Prop, t σ H Mid ∧ ∀ v H', Mid v H' → Q v H'
theorem pe_cut {X : Cx} {e : Expr} {t : TE} (h : PE X e t) : PE X e (tCutE t) := ⟨fun pins s σ H Q I ⟨Mid, h1, h2⟩ =>
  thn (h.run pins s σ H Mid I h1) fun u s1 ⟨v, H', J, r, q⟩ => ⟨v, H', J, r, h2 v H' q⟩⟩
end Vw

set_option Elab.async false
set_option linter.all false
set_option maxRecDepth 100000
set_option maxHeartbeats 4000000
namespace Vw
open PySem PySem.Spec PySem.W PyProof.Rows L2
/-! ### tuple * int, once or oftener -/
theorem tuple_mulW1 (l : Addr) (items : Array Value) (n : Nat) (dd : Option Addr) (sl : Array (Option Value)) (u : Tok) :
    Meets (Builtin.«tuple.__mul__» ⟨[.ref l, .int 1 u], []⟩) (fun _ R s => s.heap.get? l = some { cls := .type "tuple", dict := dd, data := .seq items n, slots := sl } ∧ R (.ok (.ret (Value.ref l))) s) :=
  .of_wp fun prog w A R s h => by
    obtain ⟨hp, g, d, tk, os⟩ := s
    obtain ⟨hl, h⟩ := h
    have f1 := AutoSeq1.idx_int
    have c0 : (decide ((1 : Int) < -(2 ^ 63)) || decide ((1 : Int) ≥ 2 ^ 63)) = false := by decide
    have c1 : (items.isEmpty || (1 : Int) == 1) = true := by simp
    wp_walk using wpAny_loadPart' hl
    repeat (first
      | (refine wpAny_ite_false (decide_eq_false (by rw [c0]; exact Bool.false_ne_true)) ?_; wp_walk using wpAny_loadPart' hl)
      | (refine wpAny_ite_true (decide_eq_true (by rw [c1])) ?_; wp_walk using wpAny_loadPart' hl))
    exact ⟨_, rfl, h⟩
@[irreducible] def rRepO (K : PySem.W.Frag) : R2 := fun x y H Q => ∃ l k xs, x = .ref l ∧ y = .int k ∧ TT K H l xs ∧ xs ≠ [] ∧ 1 ≤ k ∧ k ≤ 1000 ∧ xs.length ≤ 1000 ∧ ∀ p H', Same H H' → TT K H' p (List.replicate k.toNat xs).flatten → Q (.ref p) H'
theorem op_repO {X : Cx} : OpR X (binaryOp .Mult) (rRepO X.K) := by
  intro pins s σ H x y v u Q I rx ry h
  unfold rRepO at h
  obtain ⟨l, k, xs, rfl, rfl, hT, hne, h1, h2, hz, q⟩ := h
  by_cases h3 : k = 1
  · subst h3
    cases rx
    obtain ⟨t, rfl⟩ := ry
    obtain ⟨its, r, ⟨⟨cls, dd, data, sl⟩, ho, hc, n, hd⟩, hs⟩ := I.tuple hT.sq
    simp only at hc hd
    subst hc hd
    refine wpAny_binaryOp_repeat_ref (T := "tuple") (U := "int") (by decide) ⟨_, ho, rfl⟩ (fun s' => typeIs_int s' 1 t) noFill_tuple_mul F.fills_int_mul F.slot_int_rmul repeat_tuple F.slot_int_index.lookup
      (call_meets F.slot_int_rmul (typeIs_int s 1 t) F.entry_int_rmul (F.args_int_rmul_2 _ _) (int_rmul_tuple 1 t l its.toArray n dd sl)
        ⟨ho, rfl, ⟨_, ho, rfl⟩, call_meets F.slot_tuple_mul ⟨_, ho, rfl⟩ F.entry_tuple_mul (F.args_tuple_mul_2 _ _) (tuple_mulW1 l its.toArray n dd sl t) ⟨ho, ?_⟩⟩)
    have e : (List.replicate (1 : Int).toNat xs).flatten = xs := by simp
    rw [e] at q
    exact ⟨.ref l, H, I, rfl, q l H (Same.refl H) hT⟩
  · exact op_repT pins s σ H _ _ v u Q I rx ry ⟨l, k, xs, rfl, rfl, hT.sq, hne, by omega, h2, hz, fun p np => q p _ (same_new np) (.of upd_same)⟩
theorem rd_rep {K : PySem.W.Frag} {H : Hp} {Q : VK} {l : Addr} {x : V} {k : Int} (h : TT K H l [x]) (h1 : 1 ≤ k) (h2 : k ≤ 1000) (q : ∀ p H', Same H H' → TT K H' p (List.replicate k.toNat x) → Q (.ref p) H') : rRepO K (.ref l) (.int k) H Q := by
  unfold rRepO
  refine ⟨l, k, [x], rfl, rfl, h, by simp, h1, h2, (show 1 ≤ 1000 by decide), fun p H' s t => q p H' s ?_⟩
  have : (List.replicate k.toNat [x]).flatten = List.replicate k.toNat x := by simp
  rw [this] at t
  exact t
end Vw
namespace Vw
open PySem PySem.Spec PySem.W PyProof.Rows L2
def turnG {α : Type} : List α → List α → List α
  | [], [o, r, l] => [l, r, o]
  | _, _ => []
theorem turn_rel {vs : List V} {us : List Value} {zs : List V} {ws : List Value} (h1 : Vals vs us) (h2 : Vals zs ws) : Vals (turnG vs zs) (turnG us ws) := by
  cases h1 with
  | cons a t => exact .nil
  | nil =>
    cases h2 with
    | nil => exact .nil
    | cons a t => cases t with
      | nil => exact .nil
      | cons b t => cases t with
        | nil => exact .nil
        | cons c t => cases t with
          | nil => exact .cons c (.cons b (.cons a .nil))
          | cons d t => exact .nil
end Vw

set_option Elab.async false
set_option linter.all false
set_option maxRecDepth 100000
set_option maxHeartbeats 4000000
namespace Vw
open PySem PySem.Spec PySem.W PyProof.Rows L2
/-! ### tuple[::-1] -/
theorem adjust_rev (n : Nat) : Builtin.Slice.sliceAdjust none none (-1) (n : Int) = ((n : Int) - 1, -1) := by
  unfold Builtin.Slice.sliceAdjust
  simp
theorem places_rev (n : Nat) : Builtin.Slice.slicePlaces ((n : Int) - 1) (-1) (-1) = n := by
  unfold Builtin.Slice.slicePlaces
  have h1 : ¬ ((-1 : Int) > 0) := by omega
  simp only [h1, if_false]
  split <;> (try simp) <;> omega
theorem pick_rev (xs : List Value) : ((List.range xs.length).filterMap fun (m : Nat) => xs.toArray[(((xs.length : Nat) : Int) - 1 + (m : Int) * (-1)).toNat]?) = xs.reverse := by
  have e : ∀ k, k ≤ xs.length → ((List.range k).filterMap fun (m : Nat) => xs.toArray[(((xs.length : Nat) : Int) - 1 + (m : Int) * (-1)).toNat]?) = xs.reverse.take k := by
    intro k
    induction k with
    | zero => intro _; rfl
    | succ k ih =>
      intro hk
      rw [List.range_succ, List.filterMap_append, ih (by omega), List.take_add_one]
      congr 1
      have h1 : (((xs.length : Nat) : Int) - 1 + (k : Int) * (-1)).toNat = xs.length - 1 - k := by omega
      simp only [List.filterMap_cons, List.filterMap_nil]
      rw [h1, List.getElem?_reverse (by omega)]
      rw [List.getElem?_toArray]
      cases xs[xs.length - 1 - k]? <;> rfl
  have := e xs.length (Nat.le_refl _)
  rw [this, List.take_of_length_le (by rw [List.length_reverse]; exact Nat.le_refl _)]
section
variable {prog : Program} {w : World} {A : Around} {E : Value → Shared → Prop} {s : Shared}
theorem sliceApplied_rev {sl : Addr} {u : Tok} {n : Nat} {Q : Int × Int × Nat → Shared → Prop} (hs : s.heap.IsSliceOf sl .none .none (.int (-1) u))
    (h : Q ((n : Int) - 1, -1, n) s) : wpAny (model prog w) A (Builtin.Slice.sliceApplied (.ref sl) (pure (n : Int))) Q E s := by
  obtain ⟨os, hos, hcs, hds⟩ := id hs
  unfold Builtin.Slice.sliceApplied Builtin.Slice.sliceFields
  refine wpAny_bind (wpAny_bind (wpAny_field hos hds (x := .none) rfl (wpAny_bind (wpAny_field hos hds (x := .none) rfl (wpAny_bind (wpAny_field hos hds (x := .int (-1) u) rfl (wpAny_pure ?_)))))))
  refine wpAny_bind (PyProof.Rows.slicePart_int ?_)
  show wpAny _ _ (if ((-1 : Int) == 0) = true then _ else _) _ _ s
  rw [if_neg (by decide)]
  refine wpAny_bind (PyProof.Rows.slicePart_none (wpAny_bind (PyProof.Rows.slicePart_none (wpAny_bind (wpAny_pure ?_)))))
  show wpAny _ _ (match Builtin.Slice.sliceAdjust none none (-1) (n : Int) with | (lo, hi) => pure (lo, (-1 : Int), Builtin.Slice.slicePlaces lo hi (-1))) _ _ s
  rw [adjust_rev n]
  show wpAny _ _ (pure ((n : Int) - 1, (-1 : Int), Builtin.Slice.slicePlaces ((n : Int) - 1) (-1) (-1))) _ _ s
  rw [places_rev]
  exact wpAny_pure h
theorem getItem_tuple_rev {t sl : Addr} {items : List Value} {u : Tok} {Q : Value → Shared → Prop} (ht : IsTup s.heap t items.toArray) (hs : s.heap.IsSliceOf sl .none .none (.int (-1) u))
    (h : Q (.ref s.heap.objs.size) { s with heap := s.heap.push { cls := .type "tuple", data := .seq items.reverse.toArray } }) (hsz : items.length ≤ sizeLine) : wpAny (model prog w) A (getItem (.ref t) (.ref sl)) Q E s := by
  have htake : sizeOk (.seq items.reverse.toArray) := by
    show items.reverse.toArray.size ≤ sizeLine
    rw [List.size_toArray, List.length_reverse]; exact hsz
  obtain ⟨os, hos, hcs, hds⟩ := id hs
  have hTs : s.TypeIs (.ref sl) "slice" := ⟨os, hos, hcs⟩
  unfold getItem
  try with_reducible refine wpAny_holding ?_
  first | refine wpAny_bind (wpAny_pure ?_) | skip
  refine wpAny_bind (wpAny_sequenceKey ht.typeIs (by decide) ?_)
  refine wpAny_bind (wpAny_callSpecial?_slot (name := Str.ofString "__getitem__") ht.typeIs PyProof.Rows.slot_tuple_getitem
    (wpAny_call_entry PyProof.Rows.slot_tuple_getitem ht.typeIs PyProof.Rows.entry_tuple_getitem ?_ (PyProof.Rows.args_tuple_getitem _ _)))
  show wpAny _ _ (Builtin.Tuple.tupleItemsOf (.ref t) >>= _) _ _ s
  refine wpAny_bind (PyProof.Rows.tupleItemsOf_ ht ?_)
  refine wpAny_bind (wpAny_typeOf hTs ?_)
  rw [if_pos (by decide)]
  refine wpAny_bind (sliceApplied_rev (n := items.toArray.size) hs ?_)
  have hno : ¬ ((((items.toArray.size : Nat) : Int) - 1 == 0 && (-1 : Int) == 1 && items.toArray.size == items.toArray.size) = true) := by simp
  show wpAny _ _ (if ((((items.toArray.size : Nat) : Int) - 1 == 0 && (-1 : Int) == 1 && items.toArray.size == items.toArray.size) = true) then _ else _) _ _ s
  rw [if_neg hno]
  have hp : ((List.range items.toArray.size).filterMap fun (k : Nat) => items.toArray[(((items.toArray.size : Nat) : Int) - 1 + (k : Int) * (-1)).toNat]?).toArray = items.reverse.toArray := by
    rw [List.size_toArray]
    exact congrArg List.toArray (pick_rev items)
  rw [hp]
  first
    | exact wpAny_bind (m := Builtin.Tuple.tupleExact _) (wpAny_newObj_type (wpAny_pure ⟨_, rfl, wpAny_pure h⟩) htake)
    | exact wpAny_bind (m := Builtin.Tuple.tupleExact _) (wpAny_newObj_type (wpAny_bind (wpAny_pure (wpAny_pure ⟨_, rfl, wpAny_pure h⟩))) htake)
    | exact wpAny_bind (wpAny_bind (m := Builtin.Tuple.tupleExact _) (wpAny_newObj_type (wpAny_pure (wpAny_pure ⟨_, rfl, wpAny_pure h⟩)) htake))
    | exact wpAny_bind (wpAny_bind (m := Builtin.Tuple.tupleExact _) (wpAny_newObj_type (wpAny_pure ⟨_, rfl, wpAny_pure h⟩) htake))
end
section
variable {X : Cx}
def tRevT (K : PySem.W.Frag) (te : TE) : TE := fun σ H Q => te σ H fun x H1 => ∃ a xs, x = .ref a ∧ TT K H1 a xs ∧ ∀ p H', Same H1 H' → TT K H' p xs.reverse → Q (.ref p) H'
theorem pe_revT {e : Expr} {te : TE} {k : Nat} {p1 p2 p3 pos : Pos} (he : PE X e te) : PE X (.Subscript e (.Slice none none (some (.UnaryOp .USub (.Constant (.int 1) k p1) p2)) p3) pos) (tRevT X.K te) := by
  refine ⟨fun pins s σ H Q I h => ?_⟩
  refine Subscript_ (thn (he.run pins s σ H _ I h) fun v s1 ⟨x, H1, I1, r1, q1⟩ => ?_)
  obtain ⟨a, xs, ex, hx, q⟩ := q1
  subst ex
  cases r1
  have hst : PO X (some (.UnaryOp .USub (.Constant (.int 1) k p1) p2)) (tPart (tUn (rU fun i => .int (-i)) (tC (.int 1)))) := po_some (pe_un un_neg pe_int)
  refine wpAny_Slice (thn (po_none.run pins s1 σ H1 (fun o H2 => o = none ∧ H2 = H1) I1 ⟨rfl, rfl⟩) fun vl s2 ⟨l, H2, I2, pl, el, e2⟩ => ?_)
  subst el e2
  refine thn (po_none.run pins s2 σ H2 (fun o H3 => o = none ∧ H3 = H2) I2 ⟨rfl, rfl⟩) fun vu s3 ⟨u, H3, I3, pu, eu, e3⟩ => ?_
  subst eu e3
  refine thn (hst.run pins s3 σ H3 (fun o H4 => o = some (-1) ∧ H4 = H3) I3 ⟨1, rfl, -1, rfl, rfl, rfl⟩) fun vs s4 ⟨o, H4, I4, ps, eo, e4⟩ => ?_
  subst eo e4
  have I5 : Inv X pins σ H4 { s4 with heap := s4.heap.push { cls := .type "slice", data := .fields #[vl, vu, vs] } } := I4.kept (t' := s4.toks) fun b ob q => Heap.get?_push_of_some _ q
  obtain ⟨its, r, ht, hz⟩ := I5.tuple hx.sq
  cases pl
  cases pu
  cases ps
  show wpAny (model X.prog X.w) X.A (subscriptTail e (.Slice none none (some (.UnaryOp .USub (.Constant (.int 1) k p1) p2)) p3) (.ref a) (.ref s4.heap.objs.size)) (EP X pins σ Q) X.xe _
  refine tail_any (ops := [.ref a, .ref s4.heap.objs.size]) ht.typeIs (PyProof.Rows.slot_tuple_getitem.lookup) ?_ (by with_unfolding_all rfl)
  refine getItem_tuple_rev ht (Heap.IsSliceOf.new _ _ _ _) ?_ (by rw [← r.length]; exact hz)
  have np := I5.hok.fresh (Nat.le_refl (({ s4 with heap := s4.heap.push { cls := .type "slice", data := .fields #[.none, .none, .int (-1) _] } } : Shared).heap.objs.size))
  refine ⟨.ref _, _, I5.laid (t' := s4.toks) (o := .tup xs.reverse) (fun b ob q => Heap.get?_push_of_some _ q) (Nat.le_refl _) ?_, rfl, q _ _ (same_new np) (.of upd_same)⟩
  exact ⟨by rw [List.length_reverse]; exact hz, _, r.reverse, IsTup.new _ _⟩
end
end Vw

set_option Elab.async false
set_option linter.all false
set_option maxRecDepth 100000
namespace Vw
open PySem PySem.W PyProof.Rows L2
/-! ### data of bounded depth -/
def EltD (K : PySem.W.Frag) (H : Hp) (n : Nat) (v : V) : Prop := ∃ d, Dp K H v d ∧ d.depth ≤ n
section
variable {K : PySem.W.Frag} {H H' : Hp} {n m : Nat} {v : V}
theorem EltD.same (s : Same H H') (h : EltD K H n v) : EltD K H' n v := by
  obtain ⟨d, h1, h2⟩ := h
  exact ⟨d, dp_same s h1, h2⟩
theorem EltD.mono (h : EltD K H n v) (l : n ≤ m) : EltD K H m v := by
  obtain ⟨d, h1, h2⟩ := h
  exact ⟨d, h1, Nat.le_trans h2 l⟩
theorem EltD.int (i : Int) : EltD K H n (.int i) := ⟨_, .int i, by simp only [PyData.depth]; omega⟩
theorem EltD.bl (b : Bool) : EltD K H n (.bl b) := ⟨_, .bl b, by simp only [PyData.depth]; omega⟩
theorem EltD.str (x : Str) : EltD K H n (.str x) := ⟨_, .str x, by simp only [PyData.depth]; omega⟩
theorem EltD.non : EltD K H n .non := ⟨_, .non, by simp only [PyData.depth]; omega⟩
theorem EltD.ord {o : O} (h : OA K H v o) (l : O.dp o + 1 ≤ n) : EltD K H n v := ⟨_, h.dp, by rw [O.depth_toD]; exact l⟩
theorem EltD.term {t : O × Int} (h : TmA K H v t) (l : O.dp t.1 + 2 ≤ n) : EltD K H n v := ⟨_, h.dp, by rw [depth_tD]; exact l⟩
theorem elts_all : ∀ {xs : List V}, (∀ v ∈ xs, EltD K H n v) → ∃ ds, DpAll K H xs ds ∧ PyData.depthAll ds ≤ n
  | [], _ => ⟨[], .nil, Nat.zero_le _⟩
  | x :: xs, h => by
    obtain ⟨d, h1, h2⟩ := h x List.mem_cons_self
    obtain ⟨ds, h3, h4⟩ := elts_all (xs := xs) fun v hv => h v (List.mem_cons_of_mem _ hv)
    exact ⟨d :: ds, .cons h1 h3, by show max d.depth (PyData.depthAll ds) ≤ n; omega⟩
theorem EltD.tup {p : Addr} {xs : List V} (h : TT K H p xs) (hx : ∀ v ∈ xs, EltD K H n v) : EltD K H (n + 1) (.ref p) := by
  obtain ⟨ds, h1, h2⟩ := elts_all hx
  exact ⟨.tuple ds, .tup h.sq h1, by simp only [PyData.depth]; omega⟩
theorem EltD.lst {p : Addr} {xs : List V} (h : SqL K H p xs) (hx : ∀ v ∈ xs, EltD K H n v) : EltD K H (n + 1) (.ref p) := by
  obtain ⟨ds, h1, h2⟩ := elts_all hx
  exact ⟨.list ds, .lst h h1, by simp only [PyData.depth]; omega⟩
theorem elts_terms {xs : List V} {l : List (O × Int)} (h : Paired (TmA K H) xs l) (hl : ∀ t ∈ l, O.dp t.1 + 2 ≤ n) : ∀ v ∈ xs, EltD K H n v := fun v hv => by
  obtain ⟨i, hi, e⟩ := List.getElem_of_mem hv
  obtain ⟨t, ht, tv⟩ := paired_get h (List.getElem?_eq_some_iff.mpr ⟨hi, e⟩)
  exact .term tv (hl t (List.mem_of_getElem? ht))
end
/-- data of tuples alone: it stands as long as tuples do -/
def EltT (K : PySem.W.Frag) (H : Hp) (n : Nat) (v : V) : Prop := ∃ d, d.depth ≤ n ∧ ∀ H', Tp H H' → Dp K H' v d
/-- data that stands as long as all but b stays -/
def EltB (K : PySem.W.Frag) (H : Hp) (b : Addr) (n : Nat) (v : V) : Prop := ∃ d, d.depth ≤ n ∧ ∀ H', Kp b H H' → Dp K H' v d
section
variable {K : PySem.W.Frag} {H H' : Hp} {n m : Nat} {v : V} {b l : Addr}
theorem EltT.tp (h : EltT K H n v) (t : Tp H H') : EltT K H' n v := by
  obtain ⟨d, h1, h2⟩ := h
  exact ⟨d, h1, fun H2 t2 => h2 H2 (t.trans t2)⟩
theorem EltT.same (s : Same H H') (h : EltT K H n v) : EltT K H' n v := h.tp (same_tp s)
theorem EltT.mono (h : EltT K H n v) (l : n ≤ m) : EltT K H m v := by
  obtain ⟨d, h1, h2⟩ := h
  exact ⟨d, Nat.le_trans h1 l, h2⟩
theorem EltT.int (i : Int) : EltT K H n (.int i) := ⟨.int i, by simp only [PyData.depth]; omega, fun _ _ => .int i⟩
theorem EltT.bl (b : Bool) : EltT K H n (.bl b) := ⟨.bool b, by simp only [PyData.depth]; omega, fun _ _ => .bl b⟩
theorem EltT.str (x : Str) : EltT K H n (.str x) := ⟨.str x, by simp only [PyData.depth]; omega, fun _ _ => .str x⟩
theorem EltT.non : EltT K H n .non := ⟨.none, by simp only [PyData.depth]; omega, fun _ _ => .non⟩
theorem EltT.ord {o : O} (h : OA K H v o) (l : O.dp o + 1 ≤ n) : EltT K H n v := ⟨_, by rw [O.depth_toD]; exact l, fun _ t => (h.tp t).dp⟩
theorem EltT.term {t : O × Int} (h : TmA K H v t) (l : O.dp t.1 + 2 ≤ n) : EltT K H n v := ⟨_, by rw [depth_tD]; exact l, fun _ x => (h.tp x).dp⟩
theorem eltT_all : ∀ {xs : List V}, (∀ v ∈ xs, EltT K H n v) → ∃ ds, PyData.depthAll ds ≤ n ∧ ∀ H', Tp H H' → DpAll K H' xs ds
  | [], _ => ⟨[], Nat.zero_le _, fun _ _ => .nil⟩
  | x :: xs, h => by
    obtain ⟨d, h1, h2⟩ := h x List.mem_cons_self
    obtain ⟨ds, h3, h4⟩ := eltT_all (xs := xs) fun v hv => h v (List.mem_cons_of_mem _ hv)
    exact ⟨d :: ds, by show max d.depth (PyData.depthAll ds) ≤ n; omega, fun H' t => .cons (h2 H' t) (h4 H' t)⟩
theorem eltB_all : ∀ {xs : List V}, (∀ v ∈ xs, EltB K H b n v) → ∃ ds, PyData.depthAll ds ≤ n ∧ ∀ H', Kp b H H' → DpAll K H' xs ds
  | [], _ => ⟨[], Nat.zero_le _, fun _ _ => .nil⟩
  | x :: xs, h => by
    obtain ⟨d, h1, h2⟩ := h x List.mem_cons_self
    obtain ⟨ds, h3, h4⟩ := eltB_all (xs := xs) fun v hv => h v (List.mem_cons_of_mem _ hv)
    exact ⟨d :: ds, by show max d.depth (PyData.depthAll ds) ≤ n; omega, fun H' t => .cons (h2 H' t) (h4 H' t)⟩
theorem EltT.tup {p : Addr} {xs : List V} (h : TT K H p xs) (hx : ∀ v ∈ xs, EltT K H n v) : EltT K H (n + 1) (.ref p) := by
  obtain ⟨ds, h1, h2⟩ := eltT_all hx
  exact ⟨.tuple ds, by simp only [PyData.depth]; omega, fun H' t => .tup (h.tp t).sq (h2 H' t)⟩
theorem eltT_terms {xs : List V} {l : List (O × Int)} (h : Paired (TmA K H) xs l) (hl : ∀ t ∈ l, O.dp t.1 + 2 ≤ n) : ∀ v ∈ xs, EltT K H n v := fun v hv => by
  obtain ⟨i, hi, e⟩ := List.getElem_of_mem hv
  obtain ⟨t, ht, tv⟩ := paired_get h (List.getElem?_eq_some_iff.mpr ⟨hi, e⟩)
  exact .term tv (hl t (List.mem_of_getElem? ht))
theorem Bag.tpK (B : Bag l H b) (k : Kp b H H') : Tp H H' := B.tp k
theorem EltT.toB (h : EltT K H n v) (B : Bag l H b) : EltB K H b n v := by
  obtain ⟨d, h1, h2⟩ := h
  exact ⟨d, h1, fun H' k => h2 H' (B.tp k)⟩
theorem EltB.kp {H' : Hp} (h : EltB K H b n v) (k : Kp b H H') : EltB K H' b n v := by
  obtain ⟨d, h1, h2⟩ := h
  exact ⟨d, h1, fun H2 k2 => h2 H2 (k.trans k2)⟩
theorem EltB.same (s : Same H H') (h : EltB K H b n v) : EltB K H' b n v := h.kp (same_kp s)
theorem EltB.mono (h : EltB K H b n v) (l : n ≤ m) : EltB K H b m v := by
  obtain ⟨d, h1, h2⟩ := h
  exact ⟨d, Nat.le_trans h1 l, h2⟩
theorem EltB.elt (h : EltB K H b n v) : EltD K H n v := by
  obtain ⟨d, h1, h2⟩ := h
  exact ⟨d, h2 H (Kp.refl H), h1⟩
theorem EltT.elt (h : EltT K H n v) : EltD K H n v := by
  obtain ⟨d, h1, h2⟩ := h
  exact ⟨d, h2 H (Tp.refl H), h1⟩
theorem EltB.tup {p : Addr} {xs : List V} (B : Bag l H b) (h : TT K H p xs) (hx : ∀ v ∈ xs, EltB K H b n v) : EltB K H b (n + 1) (.ref p) := by
  obtain ⟨ds, h1, h2⟩ := eltB_all hx
  exact ⟨.tuple ds, by simp only [PyData.depth]; omega, fun H' k => .tup (h.tp (B.tp k)).sq (h2 H' k)⟩
theorem EltB.lst {p : Addr} {xs : List V} (hb : p ≠ b) (h : H p = some (.lst xs)) (hx : ∀ v ∈ xs, EltB K H b n v) : EltB K H b (n + 1) (.ref p) := by
  obtain ⟨ds, h1, h2⟩ := eltB_all hx
  exact ⟨.list ds, by simp only [PyData.depth]; omega, fun H' k => .lst (SqL.of (k _ _ hb h)) (h2 H' k)⟩
end
/-- a bent ordinal: any data, not deep -/
def spBent (K : PySem.W.Frag) (n : Nat) : Sp := fun vs H Q _ => ∃ (l b : Addr) (x : V) (o : O), vs = [.ref b, x] ∧ Bag l H b ∧ OA K H x o ∧ O.dp o < n ∧ O.dp o ≤ 20 ∧ O.wd o ≤ 100 ∧ ∀ (v : V) (H' : Hp), EltB K H' b (O.dp o + 5) v → Kp b H H' → Bag l H' b → Q v H'
/-- a number from 0 on, as an ordinal -/
def spNat (K : PySem.W.Frag) : Sp := fun vs H Q _ => ∃ n : Int, vs = [.int n] ∧ 0 ≤ n ∧ ∀ (v : V) (H' : Hp), Same H H' → OA K H' v (O.num n) → Q v H'
theorem O.pwN_num {n : Int} (h : 0 ≤ n) : O.pwN .z n = O.num n := by
  unfold O.pwN O.num
  by_cases e : n = 0
  · subst e; rfl
  · rw [if_neg e, if_pos (by omega)]
/-- a def with keyword-only defaults, as it is called -/
structure CalK (P : Program) (w : World) (K : PySem.W.Frag) (mg : Str → Option Value) (base : Heap) (k : Nat) (x : Str) (ps : List Str) (sp : Sp) (f : Addr) (fd : FuncData) : Prop where
  G : FnOk P w K mg base CX0 k f fd ps sp
  m : mg x = some (.ref f)
  kp : PySem.W.keepIn K (.ref f) = true
theorem kb_ofD {K : PySem.W.Frag} {x qual : Str} {st : Stmt} {kws : List (Str × V)} {f : Addr} {fd : FuncData} {ps ks : List Str} (F : FunD K x qual (defArgs st) (defBody st) (defScope st) [] kws f fd) (g : List Value → List Value → List Value) (gV : List V → List V → List V)
    (rel : ∀ {vs : List V} {us : List Value} {zs : List V} {ws : List Value}, Vals vs us → Vals zs ws → Vals (gV vs zs) (g us ws)) (hk : kws ≠ [])
    (h : ∀ (D : Addr) (doc pm : Value) (an : Option Addr) (cdv ct : Value) (us ws : List Value), (g us ws).length = ps.length → bindArgs (PySem.W.fnOf x qual (defArgs st) (defBody st) (defScope st) .none (.ref D) doc pm an cdv ct) ⟨us, ks.zip ws⟩ = pure (ps.zip (g us ws))) : KBinds K fd ps ks g gV := by
  obtain ⟨oc, od, dV, kV, doc, pm, an, cdv, ct, osl, rfl, lk, hcd, hD, hK⟩ := F.ex
  rcases hD with ⟨_, rfl⟩ | ⟨e, _⟩
  · rcases hK with e | ⟨D, rfl, hq⟩
    · exact absurd e hk
    · exact ⟨fun s us ws _ hl => .of_eq (h D doc pm an cdv ct us ws hl), rel⟩
  · exact absurd rfl e
def oneG {α : Type} : List α → List α → List α
  | [a], [b] => [a, b]
  | _, _ => []
theorem one_rel {vs : List V} {us : List Value} {zs : List V} {ws : List Value} (h1 : Vals vs us) (h2 : Vals zs ws) : Vals (oneG vs zs) (oneG us ws) := by
  cases h1 with
  | nil => exact .nil
  | cons a t => cases t with
    | cons b t => exact .nil
    | nil => cases h2 with
      | nil => exact .nil
      | cons b t => cases t with
        | nil => exact .cons a (.cons b .nil)
        | cons c t => exact .nil
/-- the power one, once -/
def O.omega : O := O.add O.one 1 .z
/-! ### the great ordinals -/
def wideO : O := O.of ((List.range 12).map fun k => (O.num (11 - (k : Nat)), 1 + (k : Nat)))
def deepO : Nat → O
  | 0 => O.num 2
  | k + 1 => O.of [(deepO k, 2), (.z, 1)]
def spGreat (K : PySem.W.Frag) : Sp := fun vs H Q _ => vs = [] ∧ ∀ (D : Addr) (x y : V) (H' : Hp), Same H H' → H' D = some (.lst [x, y]) → OA K H' x wideO → OA K H' y (deepO 5) → Q (.ref D) H'
theorem ok_wide : O.ok wideO = true := by decide
theorem ok_deep : O.ok (deepO 5) = true := by decide
/-- the last term twice is no ordinal -/
theorem twice_no {o : O} {t : O × Int} (h : (O.ts o).getLast? = some t) : isOrdB (.tuple (O.toDs o ++ [O.tD t])) = false := by
  have hl : 0 < (O.ts o).length := by
    cases e : O.ts o with
    | nil => rw [e] at h; cases h
    | cons a b => exact Nat.succ_pos _
  have h1 : (O.toDs o ++ [O.tD t])[(O.ts o).length - 1]? = some (O.tD t) := by
    rw [List.getElem?_append_left (by rw [O.toDs_ts, List.length_map]; omega), O.toDs_ts, List.getElem?_map]
    rw [List.getLast?_eq_getElem?] at h
    rw [h]; rfl
  have h2 : (O.toDs o ++ [O.tD t])[(O.ts o).length - 1 + 1]? = some (O.tD t) := by
    rw [show (O.ts o).length - 1 + 1 = (O.toDs o).length from by rw [O.toDs_ts, List.length_map]; omega]
    simp
  exact bad_order h1 h2 (O.lt_irrefl _)
/-- turned round, it is none -/
theorem rev_no {ds : List PyData} {t u : O × Int} {r : List PyData} (h : ds = O.tD t :: O.tD u :: r) (hl : O.lt u.1 t.1 = false) : isOrdB (.tuple ds) = false := by
  subst h
  exact bad_order (i := 0) rfl rfl hl
end Vw

set_option Elab.async false
set_option linter.all false
set_option maxRecDepth 100000
namespace Vw
open PySem PySem.W PyProof.Rows L2
/-! ### which data are rows -/
/-- each ordinal is at most the end of the one ahead of it -/
def IsRow (m : Int) (d : PyData) : Prop := ∃ os : List O, rowD os = d ∧ (os.length : Int) = m ∧ (∀ o ∈ os, O.ok o = true) ∧ Steps os
noncomputable def isRowB (m : Int) (d : PyData) : Bool := open Classical in decide (IsRow m d)
open Classical in
theorem isRow_t {m : Int} {d : PyData} (h : IsRow m d) : isRowB m d = true := by unfold isRowB; exact decide_eq_true h
open Classical in
theorem isRow_f {m : Int} {d : PyData} (h : ¬ IsRow m d) : isRowB m d = false := by unfold isRowB; exact decide_eq_false h
theorem isRow_other {m : Int} {d : PyData} (h : ∀ ds, d ≠ .tuple ds) : isRowB m d = false := isRow_f fun ⟨os, h1, _⟩ => h _ h1.symm
theorem isRow_len {m : Int} {ds : List PyData} (h : (ds.length : Int) ≠ m) : isRowB m (.tuple ds) = false := isRow_f fun ⟨os, h1, h2, _⟩ => h (by
  have : os.map O.toD = ds := PyData.tuple.inj h1
  rw [← this, List.length_map]; exact h2)
/-- the first i ordinals are right -/
def RPref (ds : List PyData) (os : List O) (i : Nat) : Prop := ds.take i = os.map O.toD ∧ (∀ o ∈ os, O.ok o = true) ∧ Steps os ∧ os.length = i
theorem rpref_nil (ds : List PyData) : RPref ds [] 0 := by
  refine ⟨rfl, ?_, ?_, rfl⟩
  · intro o h; cases h
  · intro i o p h; simp at h
theorem rpref_at {ds : List PyData} {os : List O} {i j : Nat} (h : RPref ds os i) (hj : j < i) : ∃ o, os[j]? = some o ∧ ds[j]? = some (O.toD o) := by
  obtain ⟨h1, _, _, h3⟩ := h
  have hl : j < os.length := by omega
  refine ⟨os[j], List.getElem?_eq_getElem hl, ?_⟩
  have : (ds.take i)[j]? = some (O.toD os[j]) := by rw [h1, List.getElem?_map, List.getElem?_eq_getElem hl]; rfl
  rw [List.getElem?_take, if_pos hj] at this
  exact this
theorem rpref_step {ds : List PyData} {os : List O} {i : Nat} {p : O} (h : RPref ds os i) (hd : ds[i]? = some (O.toD p)) (hp : O.ok p = true) (hl : ∀ o, os[i - 1]? = some o → 0 < i → O.lt (endO o) p = false) : RPref ds (os ++ [p]) (i + 1) := by
  obtain ⟨h1, h2, h3, h4⟩ := h
  refine ⟨by rw [List.take_add_one, hd, h1, List.map_append]; rfl, fun o ho => ?_, fun j o q ho hq => ?_, by rw [List.length_append, h4]; rfl⟩
  · rcases List.mem_append.mp ho with h | h
    · exact h2 o h
    · rw [List.mem_singleton.mp h]; exact hp
  · have hj : j + 1 < i + 1 := by
      have := (List.getElem?_eq_some_iff.mp hq).1
      rw [List.length_append, h4] at this
      exact this
    rw [List.getElem?_append_left (by omega)] at ho
    by_cases e : j + 1 = i
    · have hi : i - 1 = j := by omega
      rw [List.getElem?_append_right (by omega), h4, e, Nat.sub_self] at hq
      have hq : p = q := by simpa using hq
      subst hq
      exact hl o (by rw [hi]; exact ho) (by omega)
    · rw [List.getElem?_append_left (by omega)] at hq
      exact h3 j o q ho hq
theorem rpref_end {ds : List PyData} {os : List O} (h : RPref ds os ds.length) : isRowB (ds.length : Nat) (.tuple ds) = true := by
  obtain ⟨h1, h2, h3, h4⟩ := h
  rw [List.take_length] at h1
  exact isRow_t ⟨os, by unfold rowD; rw [h1], by rw [h4], h2, h3⟩
theorem row_ord {m : Int} {ds : List PyData} {i : Nat} {d : PyData} (hd : ds[i]? = some d) (h : isOrdB d = false) : isRowB m (.tuple ds) = false := isRow_f fun ⟨os, h1, _, h2, _⟩ => by
  have h3 : os.map O.toD = ds := PyData.tuple.inj h1
  rw [← h3, List.getElem?_map] at hd
  obtain ⟨o, ho, rfl⟩ := Option.map_eq_some_iff.mp hd
  rw [isOrd_toD (h2 o (List.mem_of_getElem? ho))] at h
  cases h
theorem row_step {m : Int} {ds : List PyData} {i : Nat} {o p : O} (h1 : ds[i]? = some (O.toD o)) (h2 : ds[i + 1]? = some (O.toD p)) (h : O.lt (endO o) p = true) : isRowB m (.tuple ds) = false := isRow_f fun ⟨os, e1, _, _, e2⟩ => by
  have h3 : os.map O.toD = ds := PyData.tuple.inj e1
  rw [← h3, List.getElem?_map] at h1 h2
  obtain ⟨o', ho, a1⟩ := Option.map_eq_some_iff.mp h1
  obtain ⟨p', hp, a2⟩ := Option.map_eq_some_iff.mp h2
  have := e2 i o' p' ho hp
  rw [O.toD_inj a1, O.toD_inj a2, h] at this
  cases this
/-- an ordinal as data: its end asked of data -/
def spEndD (K : PySem.W.Frag) : Sp := fun vs H Q _ => ∃ (x : V) (a : O), vs = [x] ∧ Dp K H x (O.toD a) ∧ O.dp a ≤ 50 ∧ ∀ (v : V) (H' : Hp), Same H H' → Dp K H' v (O.toD (endO a)) → Q v H'
theorem rd_eqD {K : PySem.W.Frag} {H : Hp} {x y : V} {a b : O} {Q : VK} (ha : Dp K H x (O.toD a)) (hb : Dp K H y (O.toD b)) (h : O.dp a ≤ 60) (h2 : O.dp b ≤ 60) (q : Q (.bl (decide (a = b))) H) : rEqO K x y H Q := by
  unfold rEqO
  exact ⟨_, _, ha, hb, O.shaped_toD h, O.shaped_toD h2, by rw [O.eqv_toD]; exact q⟩
def spIsRow (K : PySem.W.Frag) : Sp := fun vs H Q _ => ∃ (m : Int) (x : V) (d : PyData), vs = [.int m, x] ∧ Dp K H x d ∧ d.depth ≤ 50 ∧ ∀ H', Same H H' → Q (.bl (isRowB m d)) H'
end Vw

set_option Elab.async false
set_option linter.all false
set_option maxRecDepth 100000
namespace Vw
open PySem PySem.W PyProof.Rows L2
/-- a whole number's global name -/
theorem pe_globI {X : Cx} {x : Str} {n : Int} {pos : Pos} (hg : Gl X x) (hm : ∃ t, X.mg x = some (.int n t)) (hd : (x == ("__debug__" : Str)) = false := by decide) : PE X (.Name x pos) (tC (.int n)) := by
  obtain ⟨t, h⟩ := hm
  exact pe_glob hg h ⟨t, rfl⟩ hd
def resv : List V := [.str "true", .str "false", .str "not", .str "and", .str "or", .str "then", .str "shown"]
def isLow (c : Nat) : Bool := decide (97 ≤ c) && decide (c ≤ 122)
/-- names: 1 to 6 small letters, no reserved word -/
def isNm (z : Str) : Bool := !inV (.str z) resv && (decide (1 ≤ z.length) && (decide (z.length ≤ 6) && z.cps.toList.all isLow))
def spNm : Sp := fun vs H Q _ => ∃ z : Str, vs = [.str z] ∧ z.length ≤ 30 ∧ ∀ H', Same H H' → Q (.bl (isNm z)) H'
theorem lt_one (c d : Nat) : decide ([c] < [d]) = decide (c < d) := by
  by_cases h : c < d
  · rw [decide_eq_true h]; exact decide_eq_true (List.Lex.rel h)
  · rw [decide_eq_false h]
    refine decide_eq_false fun e => ?_
    cases e with
    | rel h' => exact h h'
    | cons h' => cases h'
theorem take_succ_get {α : Type} {xs : List α} {i : Nat} {c : α} (h : xs[i]? = some c) : xs.take (i + 1) = xs.take i ++ [c] := by
  rw [List.take_succ, h]; rfl
theorem cps_get {z : Str} {i : Nat} {c : Nat} (h : z.cps[i]? = some c) : z.cps.toList[i]? = some c := by rw [Array.getElem?_toList]; exact h
theorem mem_letters (c : Nat) : decide (c ∈ ("abcdefghijklmnopqrstuvwxyz" : Str).cps.toList) = isLow c := by
  have e : ("abcdefghijklmnopqrstuvwxyz" : Str).cps.toList = [97, 98, 99, 100, 101, 102, 103, 104, 105, 106, 107, 108, 109, 110, 111, 112, 113, 114, 115, 116, 117, 118, 119, 120, 121, 122] := by decide +kernel
  rw [e]
  unfold isLow
  by_cases h : 97 ≤ c ∧ c ≤ 122
  · obtain ⟨h1, h2⟩ := h
    have : c ∈ [97, 98, 99, 100, 101, 102, 103, 104, 105, 106, 107, 108, 109, 110, 111, 112, 113, 114, 115, 116, 117, 118, 119, 120, 121, 122] := by
      simp only [List.mem_cons, List.not_mem_nil, or_false]; omega
    rw [decide_eq_true this, decide_eq_true h1, decide_eq_true h2]; rfl
  · have : c ∉ [97, 98, 99, 100, 101, 102, 103, 104, 105, 106, 107, 108, 109, 110, 111, 112, 113, 114, 115, 116, 117, 118, 119, 120, 121, 122] := by
      simp only [List.mem_cons, List.not_mem_nil, or_false]; omega
    rw [decide_eq_false this]
    by_cases h1 : 97 ≤ c
    · have h2 : ¬ c ≤ 122 := fun x => h ⟨h1, x⟩
      rw [decide_eq_true h1, decide_eq_false h2]; rfl
    · rw [decide_eq_false h1]; rfl
theorem atI_exG {α : Type} {xs : List α} {i : Int} (h0 : 0 ≤ i) (h : i < (xs.length : Int)) : ∃ v, v ∈ xs ∧ atI xs i = some v := by
  obtain ⟨j, rfl⟩ := Int.eq_ofNat_of_zero_le h0
  have hj : j < xs.length := by omega
  exact ⟨xs[j], List.getElem_mem hj, atI_nat (List.getElem?_eq_getElem hj)⟩
theorem joinL_len : ∀ parts : List (List Nat), (∀ p ∈ parts, p.length ≤ 1) → (TL.joinL [] parts).length ≤ parts.length
  | [], _ => Nat.le_refl _
  | [p], h => h p (List.mem_singleton.mpr rfl)
  | p :: q :: r, h => by
    have ih := joinL_len (q :: r) fun x hx => h x (List.mem_cons_of_mem _ hx)
    have h1 := h p List.mem_cons_self
    show (p ++ ([] ++ TL.joinL [] (q :: r))).length ≤ r.length + 1 + 1
    rw [List.length_append, List.nil_append]
    have : (q :: r).length = r.length + 1 := rfl
    omega
theorem join_len (ys : List Str) (h : ∀ y ∈ ys, y.length = 1) : (Txt.join "" ys).length ≤ ys.length := by
  rw [TL.join_eq, TL.len_tl, TL.tl_join]
  have e : TL.tl ("" : Str) = [] := by decide +kernel
  rw [e]
  have := joinL_len (ys.map TL.tl) fun p hp => by
    obtain ⟨y, hy, rfl⟩ := List.mem_map.mp hp
    rw [← TL.len_tl, h y hy]; exact Nat.le_refl _
  rw [List.length_map] at this
  exact this
theorem sum_ones : ∀ ys : List Str, (∀ y ∈ ys, y.length = 1) → (ys.map (·.length)).sum = ys.length
  | [], _ => rfl
  | y :: ys, h => by
    rw [List.map_cons, List.sum_cons, h y List.mem_cons_self, sum_ones ys fun x hx => h x (List.mem_cons_of_mem _ hx), List.length_cons]; omega
theorem len_app (x y : Str) : (x ++ y).length = x.length + y.length := by
  rw [TL.len_tl, TL.len_tl, TL.len_tl, TL.tl_append, List.length_append]
end Vw

set_option Elab.async false
set_option linter.all false
set_option maxRecDepth 100000
/-! the texts of ordinals, and how long they are -/
namespace Vw
open PySem PySem.W PyProof.Rows L2
namespace O
/-- the greatest number of bits of a count -/
def cb : O → Nat
  | z => 0
  | add e c r => max (cb e) (max c.natAbs.log2 (cb r))
/-- a bound of the text's length -/
def ms : O → Nat
  | z => 0
  | add e c r => ms e + (c.natAbs.log2 + 10) + ms r
theorem cb_mem : ∀ {o : O} {t : O × Int}, t ∈ ts o → cb t.1 ≤ cb o ∧ t.2.natAbs.log2 ≤ cb o
  | z, t, h => by cases h
  | add e c r, t, h => by
    rcases List.mem_cons.mp h with q | q
    · subst q; show cb e ≤ max (cb e) (max _ (cb r)) ∧ c.natAbs.log2 ≤ max (cb e) (max c.natAbs.log2 (cb r)); omega
    · have := cb_mem q; show _ ≤ max (cb e) (max _ (cb r)) ∧ _ ≤ max (cb e) (max _ (cb r)); omega
theorem ms_mem : ∀ {o : O} {t : O × Int}, t ∈ ts o → ms t.1 ≤ ms o
  | z, t, h => by cases h
  | add e c r, t, h => by
    rcases List.mem_cons.mp h with q | q
    · subst q; show ms e ≤ ms e + _ + ms r; omega
    · have := ms_mem q; show _ ≤ ms e + _ + ms r; omega
theorem cb_of : ∀ (l : List (O × Int)) (n : Nat), (∀ t ∈ l, cb t.1 ≤ n ∧ t.2.natAbs.log2 ≤ n) → cb (of l) ≤ n
  | [], n, _ => Nat.zero_le _
  | t :: r, n, h => by
    have h1 := h t List.mem_cons_self
    have h2 := cb_of r n fun x hx => h x (List.mem_cons_of_mem _ hx)
    show max (cb t.1) (max t.2.natAbs.log2 (cb (of r))) ≤ n
    omega
theorem ms_of : ∀ (l : List (O × Int)) (n : Nat), (∀ t ∈ l, ms t.1 + (t.2.natAbs.log2 + 10) ≤ n) → ms (of l) ≤ l.length * n
  | [], n, _ => Nat.zero_le _
  | t :: r, n, h => by
    have h1 := h t List.mem_cons_self
    have h2 := ms_of r n fun x hx => h x (List.mem_cons_of_mem _ hx)
    show ms t.1 + (t.2.natAbs.log2 + 10) + ms (of r) ≤ (r.length + 1) * n
    rw [Nat.succ_mul]
    omega
theorem lg_le {n k : Nat} (h : n < 2 ^ (k + 1)) : n.log2 ≤ k := by
  by_cases e : n = 0
  · subst e; exact Nat.le_trans (Nat.le_of_eq (by decide : Nat.log2 0 = 0)) (Nat.zero_le _)
  · have := (Nat.log2_lt e).mpr h
    omega
theorem lt_lg (n : Nat) : n < 2 ^ (n.log2 + 1) := by
  by_cases e : n = 0
  · subst e; decide
  · exact (Nat.log2_lt e).mp (Nat.lt_succ_self _)
theorem lg_add (a b : Int) : (a + b).natAbs.log2 ≤ max a.natAbs.log2 b.natAbs.log2 + 1 := by
  refine lg_le ?_
  have h1 := lt_lg a.natAbs
  have h2 := lt_lg b.natAbs
  have p1 : 2 ^ (a.natAbs.log2 + 1) ≤ 2 ^ (max a.natAbs.log2 b.natAbs.log2 + 1) := Nat.pow_le_pow_right (by decide) (by omega)
  have p2 : 2 ^ (b.natAbs.log2 + 1) ≤ 2 ^ (max a.natAbs.log2 b.natAbs.log2 + 1) := Nat.pow_le_pow_right (by decide) (by omega)
  rw [Nat.pow_succ 2 (max a.natAbs.log2 b.natAbs.log2 + 1)]
  omega
theorem cb_sum : ∀ a b : O, cb (sum a b) ≤ max (cb a) (cb b) + 1
  | a, z => by rw [sum_z]; omega
  | z, b => by rw [z_sum]; omega
  | add e c r, add e' c' r' => by
    have ih := cb_sum r (add e' c' r')
    have h3 := lg_add c c'
    show cb (if lt e e' = true then add e' c' r' else if e = e' then add e (c + c') r' else add e c (sum r (add e' c' r'))) ≤ _
    split
    · omega
    · split
      · show max (cb e) (max (c + c').natAbs.log2 (cb r')) ≤ max (max (cb e) (max c.natAbs.log2 (cb r))) (max (cb e') (max c'.natAbs.log2 (cb r'))) + 1
        omega
      · have ih : cb (sum r (add e' c' r')) ≤ max (cb r) (max (cb e') (max c'.natAbs.log2 (cb r'))) + 1 := ih
        show max (cb e) (max c.natAbs.log2 (cb (sum r (add e' c' r')))) ≤ max (max (cb e) (max c.natAbs.log2 (cb r))) (max (cb e') (max c'.natAbs.log2 (cb r'))) + 1
        omega
theorem ms_sum : ∀ a b : O, ms (sum a b) ≤ ms a + ms b
  | a, z => by rw [sum_z]; omega
  | z, b => by rw [z_sum]; omega
  | add e c r, add e' c' r' => by
    have ih := ms_sum r (add e' c' r')
    have h3 := lg_add c c'
    show ms (if lt e e' = true then add e' c' r' else if e = e' then add e (c + c') r' else add e c (sum r (add e' c' r'))) ≤ _
    split
    · omega
    · split
      · show ms e + ((c + c').natAbs.log2 + 10) + ms r' ≤ ms e + (c.natAbs.log2 + 10) + ms r + (ms e' + (c'.natAbs.log2 + 10) + ms r')
        omega
      · have ih : ms (sum r (add e' c' r')) ≤ ms r + (ms e' + (c'.natAbs.log2 + 10) + ms r') := ih
        show ms e + (c.natAbs.log2 + 10) + ms (sum r (add e' c' r')) ≤ ms e + (c.natAbs.log2 + 10) + ms r + (ms e' + (c'.natAbs.log2 + 10) + ms r')
        omega
theorem cb_raised (a e : O) : cb (raisedO a e) ≤ max (cb a) (cb e) + 1 := by
  unfold raisedO
  split
  · have := cb_sum a (pw e)
    have h2 : cb (pw e) ≤ cb e := by
      show max (cb e) (max (1 : Int).natAbs.log2 0) ≤ cb e
      have : (1 : Int).natAbs.log2 = 0 := by decide
      omega
    omega
  · omega
theorem ms_raised (a e : O) : ms (raisedO a e) ≤ ms a + ms e + 10 := by
  unfold raisedO
  split
  · have := ms_sum a (pw e)
    have h2 : ms (pw e) = ms e + 10 := by
      show ms e + ((1 : Int).natAbs.log2 + 10) + 0 = ms e + 10
      have : (1 : Int).natAbs.log2 = 0 := by decide
      omega
    omega
  · omega
/-! ### texts -/
def nT (c : Int) : Str := Str.ofString (toString c)
theorem nT_len (c : Int) : (nT c).length ≤ c.natAbs.log2 + 2 := by
  unfold nT
  rw [PySem.ofString_length]
  exact int_text_length_le (k := c.natAbs.log2 + 1) (by omega) (Nat.lt_succ_self _)
/-- the text of a power, te the text of its exponent -/
def pwT (e : O) (te : Str) : Str := if e = one then "w" else if ((ts e).headD (.z, 0)).1 = z then "w^" ++ te else "w^(" ++ te ++ ")"
def tmT (e : O) (te : Str) (c : Int) : Str := if e = z then nT c else if c = 1 then pwT e te else pwT e te ++ "*" ++ nT c
/-- the terms joined -/
def jnT (l : List Str) : Str := if l = [] then "0" else Str.join "+" l
def txs : O → List Str
  | z => []
  | add e c r => tmT e (jnT (txs e)) c :: txs r
def txt (o : O) : Str := jnT (txs o)
theorem txs_ts : ∀ o : O, txs o = (ts o).map fun t => tmT t.1 (txt t.1) t.2
  | z => rfl
  | add e c r => by
    show tmT e (jnT (txs e)) c :: txs r = _
    rw [txs_ts r]; rfl
def lens (l : List Str) : Nat := (l.map (·.length)).sum + l.length
theorem join_len : ∀ l : List Str, (Str.join "+" l).length ≤ lens l
  | [] => by decide +kernel
  | [x] => by
    show x.length ≤ (x.length + 0) + 1
    omega
  | x :: y :: r => by
    have h := join_len (y :: r)
    show (x ++ "+" ++ Str.join "+" (y :: r)).length ≤ x.length + ((y :: r).map (·.length)).sum + ((y :: r).length + 1)
    rw [Str.length_append, Str.length_append]
    have : ("+" : Str).length = 1 := by decide +kernel
    unfold lens at h
    omega
theorem txs_len : ∀ o : O, lens (txs o) ≤ ms o
  | z => Nat.le_refl _
  | add e c r => by
    have h1 := txs_len e
    have h2 := txs_len r
    have h3 := nT_len c
    have l1 : ("w" : Str).length = 1 := by decide +kernel
    have l2 : ("w^" : Str).length = 2 := by decide +kernel
    have l3 : ("w^(" : Str).length = 3 := by decide +kernel
    have l4 : (")" : Str).length = 1 := by decide +kernel
    have l5 : ("*" : Str).length = 1 := by decide +kernel
    show (tmT e (jnT (txs e)) c).length + ((txs r).map (·.length)).sum + ((txs r).length + 1) ≤ ms e + (c.natAbs.log2 + 10) + ms r
    have key : (tmT e (jnT (txs e)) c).length ≤ ms e + c.natAbs.log2 + 9 := by
      by_cases he : e = z
      · unfold tmT; rw [if_pos he]; omega
      · have hj : (jnT (txs e)).length ≤ ms e := by
          have hne : txs e ≠ [] := by
            cases e with
            | z => exact absurd rfl he
            | add _ _ _ => intro z; cases z
          unfold jnT; rw [if_neg hne]
          exact Nat.le_trans (join_len _) h1
        have hp : (pwT e (jnT (txs e))).length ≤ ms e + 4 := by
          unfold pwT
          split
          · omega
          · split
            · rw [Str.length_append]; omega
            · rw [Str.length_append, Str.length_append]; omega
        unfold tmT
        rw [if_neg he]
        split
        · omega
        · rw [Str.length_append, Str.length_append]; omega
    unfold lens at h2
    omega
theorem txt_len (o : O) : (txt o).length ≤ ms o + 1 := by
  unfold txt jnT
  split
  · have : ("0" : Str).length = 1 := by decide +kernel
    omega
  · exact Nat.le_trans (Nat.le_trans (join_len _) (txs_len o)) (Nat.le_succ _)
theorem txs_mem {o : O} {x : Str} (h : x ∈ txs o) : x.length ≤ ms o := by
  have h1 := txs_len o
  have : ∀ l : List Str, x ∈ l → x.length ≤ lens l := fun l => by
    induction l with
    | nil => intro h; cases h
    | cons y r ih =>
      intro h
      show _ ≤ y.length + (r.map (·.length)).sum + (r.length + 1)
      rcases List.mem_cons.mp h with e | e
      · subst e; omega
      · have := ih e
        unfold lens at this
        omega
  exact Nat.le_trans (this _ h) h1
end O
/-- the text of a row -/
def rowT (os : List O) : Str := Str.join "," (os.map O.txt)
/-- an ordinal's text -/
def spTxt (K : PySem.W.Frag) (n : Nat) : Sp := fun vs H Q _ => ∃ (x : V) (o : O), vs = [x] ∧ OA K H x o ∧ O.ok o = true ∧ O.dp o < n ∧ O.dp o ≤ 50 ∧ O.cb o ≤ 1000 ∧ O.ms o ≤ 1000000 ∧ O.wd o ≤ 1000 ∧ ∀ H', Same H H' → Q (.str (O.txt o)) H'
theorem strs_dpT {K : PySem.W.Frag} {H : Hp} : ∀ xs : List Str, DpAll K H (xs.map V.str) (xs.map PyData.str)
  | [] => .nil
  | x :: r => .cons (.str x) (strs_dpT r)
theorem lay_strsT : ∀ xs : List Str, (∀ x ∈ xs, PyData.strOk x = true) → PyData.canLayAll0 (xs.map PyData.str) = true
  | [], _ => by simp [PyData.canLayAll0]
  | x :: r, h => by simp [PyData.canLayAll0, PyData.canLay0, h x List.mem_cons_self, lay_strsT r fun y hy => h y (List.mem_cons_of_mem _ hy)]
theorem depth_strsT : ∀ xs : List Str, PyData.depthAll (xs.map PyData.str) ≤ 1
  | [] => by simp [PyData.depthAll]
  | x :: r => by
    have := depth_strsT r
    simp only [List.map_cons, PyData.depthAll, PyData.depth]; omega
theorem shaped_strsT (xs : List Str) (h : ∀ x ∈ xs, PyData.strOk x = true) : SeqAt.shaped (.list (xs.map PyData.str)) = true := by
  have h1 := depth_strsT xs
  have h2 : (PyData.list (xs.map PyData.str)).depth = PyData.depthAll (xs.map PyData.str) + 1 := by simp only [PyData.depth]
  have h3 : (PyData.list (xs.map PyData.str)).canLay0 = true := by simp only [PyData.canLay0, lay_strsT xs h]
  unfold SeqAt.shaped
  rw [h3, h2, Bool.true_and]
  exact decide_eq_true (by omega)
end Vw

set_option Elab.async false
set_option linter.all false
set_option maxRecDepth 100000
/-! texts of ordinals, read sign by sign -/
namespace Vw
open PySem PySem.W PyProof.Rows L2 TL
/-- what stands in a text from a place on -/
def From (t : Str) (a : Nat) : List Nat := t.cps.toList.drop a
theorem str_ext {a b : Str} (h : a.cps.toList = b.cps.toList) : a = b := Str.ext' (Array.toList_inj.mp h)
theorem cps_app (a b : Str) : (a ++ b).cps.toList = a.cps.toList ++ b.cps.toList := by rw [Str.cps_append, Array.toList_append]
theorem len_cps (t : Str) : t.cps.toList.length = t.length := by unfold Str.length; rw [Array.length_toList]
theorem cut_at (t : Str) {a b : Nat} (h : a ≤ b) : (cutS t (some (a : Int)) (some (b : Int))).cps.toList = (From t a).take (b - a) := by
  unfold cutS From
  rw [HT.sIx_nat, HT.sIx_nat]
  have hn := len_cps t
  show List.take (min b t.length - min a t.length) (List.drop (min a t.length) t.cps.toList) = _
  by_cases e : a ≤ t.length
  · rw [Nat.min_eq_left e]
    by_cases e2 : b ≤ t.length
    · rw [Nat.min_eq_left e2]
    · rw [Nat.min_eq_right (by omega), List.take_of_length_le (by rw [List.length_drop]; omega), List.take_of_length_le (by rw [List.length_drop]; omega)]
  · rw [Nat.min_eq_right (by omega), List.drop_eq_nil_of_le (by omega), List.drop_eq_nil_of_le (by omega)]
    simp
theorem from_app {t : Str} {a : Nat} {s r : List Nat} (h : From t a = s ++ r) : From t (a + s.length) = r := by
  unfold From at *
  rw [← List.drop_drop, h, List.drop_left]
theorem cut_sign (t : Str) (a : Nat) : (cutS t (some (a : Int)) (some ((a : Int) + 1))).cps.toList = (From t a).head?.toList := by
  have := cut_at t (a := a) (b := a + 1) (Nat.le_succ a)
  rw [show a + 1 - a = 1 from by omega] at this
  rw [show ((a : Int) + 1) = ((a + 1 : Nat) : Int) from rfl, this]
  cases From t a <;> rfl
theorem is_sign (t : Str) (a : Nat) (x : Str) (k : Nat) (hx : x.cps.toList = [k]) : decide (V.str (cutS t (some (a : Int)) (some ((a : Int) + 1))) = V.str x) = decide ((From t a).head? = some k) := by
  have h := cut_sign t a
  by_cases e : (From t a).head? = some k
  · rw [decide_eq_true e]
    refine decide_eq_true (congrArg V.str (str_ext ?_))
    rw [h, e, hx]; rfl
  · rw [decide_eq_false e]
    refine decide_eq_false fun z => e ?_
    have z := V.str.inj z
    rw [z, hx] at h
    cases e2 : (From t a).head? with
    | none => rw [e2] at h; cases h
    | some c => rw [e2] at h; cases h; rfl
/-- a digit stands there -/
def dg (l : List Nat) : Bool := match l.head? with
  | some c => decide (48 ≤ c) && decide (c ≤ 57)
  | none => false
theorem lt_sgn (c d : Nat) : ([c] < [d]) ↔ c < d := by
  constructor
  · intro h
    cases h with
    | rel h => exact h
    | cons h => cases h
  · exact fun h => .rel h
theorem dg_low (t : Str) (a : Nat) : (!decide ((cutS t (some (a : Int)) (some ((a : Int) + 1))).cps.toList < ("0" : Str).cps.toList)) = match (From t a).head? with | some c => decide (48 ≤ c) | none => false := by
  have e0 : ("0" : Str).cps.toList = [48] := by decide +kernel
  rw [cut_sign, e0]
  cases (From t a).head? with
  | none => decide
  | some c =>
    show (!decide ([c] < [48])) = decide (48 ≤ c)
    rw [decide_eq_decide.mpr (lt_sgn c 48)]
    by_cases h : 48 ≤ c
    · rw [decide_eq_true h, decide_eq_false (by omega)]; rfl
    · rw [decide_eq_false h, decide_eq_true (by omega)]; rfl
theorem dg_high (t : Str) (a : Nat) : (!decide (("9" : Str).cps.toList < (cutS t (some (a : Int)) (some ((a : Int) + 1))).cps.toList)) = match (From t a).head? with | some c => decide (c ≤ 57) | none => true := by
  have e0 : ("9" : Str).cps.toList = [57] := by decide +kernel
  rw [cut_sign, e0]
  cases (From t a).head? with
  | none => decide
  | some c =>
    show (!decide ([57] < [c])) = decide (c ≤ 57)
    rw [decide_eq_decide.mpr (lt_sgn 57 c)]
    by_cases h : c ≤ 57
    · rw [decide_eq_true h, decide_eq_false (by omega)]; rfl
    · rw [decide_eq_false h, decide_eq_true (by omega)]; rfl
/-! ### numbers -/
theorem nT_cps {c : Int} (h : 0 ≤ c) : (O.nT c).cps.toList = numL c.toNat := by
  have := tl_num c.toNat
  rw [Int.toNat_of_nonneg h] at this
  exact this
theorem digits_get {n i : Nat} (h : i < (numL n).length) : dg ((numL n).drop i) = true := by
  have hd := numL_digits n ((numL n)[i]) (List.getElem_mem h)
  unfold dg
  rw [List.head?_drop, List.getElem?_eq_getElem h]
  show (decide (48 ≤ _) && decide (_ ≤ 57)) = true
  have h1 : 48 ≤ (numL n)[i] ∧ (numL n)[i] ≤ 57 := by
    have := hd
    omega
  rw [decide_eq_true h1.1, decide_eq_true h1.2]; rfl
theorem nT_int {c : Int} (h : 0 ≤ c) (hl : (O.nT c).length ≤ 30) : PySem.intText? (O.nT c) = some c := by
  have := int_num (n := c.toNat) (by rw [← nT_cps h, len_cps]; omega)
  rw [Int.toNat_of_nonneg h] at this
  exact this
theorem nT_len30 {c : Int} (h : 0 ≤ c) (hl : c.natAbs.log2 ≤ 90) : (O.nT c).length ≤ 30 := by
  rw [← len_cps, nT_cps h]
  refine numL_len (by decide) ?_
  have h1 := O.lt_lg c.natAbs
  have h2 : 2 ^ (c.natAbs.log2 + 1) ≤ 2 ^ 91 := Nat.pow_le_pow_right (by decide) (by omega)
  have h3 : (2 : Nat) ^ 91 < 10 ^ 30 := by decide
  omega
/-- a statement that is never reached -/
theorem ps_never {X : Cx} {st : Stmt} : PS X st (fun _ _ _ => False) := ⟨fun _ _ _ _ _ _ h => h.elim⟩
theorem dg_eq (l : List Nat) : dg l = ((match l.head? with | some c => decide (48 ≤ c) | none => false) && (match l.head? with | some c => decide (c ≤ 57) | none => true)) := by
  unfold dg
  cases l.head? <;> rfl
/-- a number is read -/
def spNumAt (K : PySem.W.Frag) : Sp := fun vs H Q _ => ∃ (t : Str) (a : Nat) (c : Int) (r : List Nat), vs = [.str t, .int (a : Nat)] ∧ t.length ≤ 10000000 ∧ 0 ≤ c ∧ (O.nT c).length ≤ 30 ∧ From t a = (O.nT c).cps.toList ++ r ∧ dg r = false ∧
  ∀ (p : Addr) (H' : Hp), Same H H' → TT K H' p [.int c, .int ((a + (O.nT c).length : Nat) : Int)] → Q (.ref p) H'
/-! ### terms -/
/-- what stands behind the w of a power -/
def expT (e : O) : Str := if e = O.one then "" else if ((O.ts e).headD (.z, 0)).1 = .z then "^" ++ O.txt e else "^(" ++ O.txt e ++ ")"
def cntT (c : Int) : Str := if c = 1 then "" else "*" ++ O.nT c
theorem pw_exp (e : O) : O.pwT e (O.txt e) = "w" ++ expT e := by
  have h1 : ("w" : Str) ++ "^" = "w^" := by decide +kernel
  have h2 : ("w" : Str) ++ "^(" = "w^(" := by decide +kernel
  unfold O.pwT expT
  split
  · exact (Str.append_empty _).symm
  · split
    · rw [← Str.append_assoc, h1]
    · rw [← Str.append_assoc, ← Str.append_assoc, h2]
theorem tm_exp {e : O} (he : e ≠ .z) (c : Int) : O.tmT e (O.txt e) c = "w" ++ expT e ++ cntT c := by
  unfold O.tmT cntT
  rw [if_neg he, pw_exp]
  split
  · exact (Str.append_empty _).symm
  · rw [Str.append_assoc]
def endE (r : List Nat) : Prop := r = [] ∨ ∃ c r', r = c :: r' ∧ (c = 43 ∨ c = 41 ∨ c = 42)
def endT (r : List Nat) : Prop := r = [] ∨ ∃ c r', r = c :: r' ∧ (c = 43 ∨ c = 41)
def endOr (r : List Nat) : Prop := r = [] ∨ ∃ r', r = 41 :: r'
theorem endT.e {r : List Nat} (h : endT r) : endE r := by
  rcases h with h | ⟨c, r', h1, h2⟩
  · exact .inl h
  · exact .inr ⟨c, r', h1, by omega⟩
theorem endOr.t {r : List Nat} (h : endOr r) : endT r := by
  rcases h with h | ⟨r', h1⟩
  · exact .inl h
  · exact .inr ⟨_, r', h1, .inr rfl⟩
theorem endE.dg {r : List Nat} (h : endE r) : dg r = false := by
  rcases h with h | ⟨c, r', h1, h2⟩
  · subst h; rfl
  · subst h1
    rcases h2 with h | h | h <;> subst h <;> rfl
theorem endE.not {r : List Nat} (h : endE r) {k : Nat} (h1 : k ≠ 43) (h2 : k ≠ 41) (h3 : k ≠ 42) : r.head? ≠ some k := fun z => by
  rcases h with h | ⟨c, r', e1, e2⟩
  · subst h; cases z
  · subst e1
    have : c = k := Option.some.inj z
    omega
theorem endT.not {r : List Nat} (h : endT r) {k : Nat} (h1 : k ≠ 43) (h2 : k ≠ 41) : r.head? ≠ some k := fun z => by
  rcases h with h | ⟨c, r', e1, e2⟩
  · subst h; cases z
  · subst e1
    have : c = k := Option.some.inj z
    omega
theorem endOr.not {r : List Nat} (h : endOr r) {k : Nat} (h1 : k ≠ 41) : r.head? ≠ some k := fun z => by
  rcases h with h | ⟨r', e1⟩
  · subst h; cases z
  · subst e1
    have : 41 = k := Option.some.inj z
    omega
theorem cnt_end {c : Int} {r : List Nat} (h : endT r) : endE ((cntT c).cps.toList ++ r) := by
  have e0 : ("" : Str).cps.toList = [] := by decide +kernel
  have e1 : ("*" : Str).cps.toList = [42] := by decide +kernel
  unfold cntT
  split
  · rw [e0, List.nil_append]; exact h.e
  · rw [cps_app, e1]
    exact .inr ⟨42, _, rfl, .inr (.inr rfl)⟩
theorem dg_num {n : Nat} (r : List Nat) : dg (numL n ++ r) = true := by
  have h := digits_get (n := n) (i := 0) (List.length_pos_iff.mpr (numL_ne n))
  rw [List.drop_zero] at h
  unfold dg at *
  rw [List.head?_append]
  cases h2 : (numL n).head? with
  | none => rw [h2] at h; cases h
  | some x => rw [h2] at h; exact h
theorem dg_not {l : List Nat} (h : dg l = true) {k : Nat} (h1 : k < 48 ∨ 57 < k) : l.head? ≠ some k := fun z => by
  unfold dg at h
  rw [z] at h
  have : (decide (48 ≤ k) && decide (k ≤ 57)) = true := h
  rw [Bool.and_eq_true, decide_eq_true_eq, decide_eq_true_eq] at this
  omega
/-- what is read of a count: at least one, not great -/
def COk (c : Int) : Prop := 1 ≤ c ∧ c.natAbs.log2 ≤ 90
theorem COk.len {c : Int} (h : COk c) : (O.nT c).length ≤ 30 := nT_len30 (by have := h.1; omega) h.2
/-- the exponent of a power is read, the w behind us -/
def spExpAt (K : PySem.W.Frag) (n : Nat) : Sp := fun vs H Q _ => ∃ (t : Str) (a : Nat) (e : O) (r : List Nat), vs = [.str t, .int (a : Nat)] ∧ t.length ≤ 10000000 ∧ e ≠ .z ∧ O.ok e = true ∧ O.dp e < n ∧ O.cb e ≤ 90 ∧ O.wd e ≤ 1000 ∧ From t a = (expT e).cps.toList ++ r ∧ endE r ∧
  ∀ (p : Addr) (v : V) (H' : Hp), Same H H' → TT K H' p [v, .int ((a + (expT e).length : Nat) : Int)] → OA K H' v e → Q (.ref p) H'
def spTermAt (K : PySem.W.Frag) (n : Nat) : Sp := fun vs H Q _ => ∃ (t : Str) (a : Nat) (e : O) (c : Int) (r : List Nat), vs = [.str t, .int (a : Nat)] ∧ t.length ≤ 10000000 ∧ O.ok e = true ∧ O.dp e < n ∧ O.cb e ≤ 90 ∧ O.wd e ≤ 1000 ∧ COk c ∧ From t a = (O.tmT e (O.txt e) c).cps.toList ++ r ∧ endT r ∧
  ∀ (p : Addr) (v : V) (H' : Hp), Same H H' → TT K H' p [v, .int ((a + (O.tmT e (O.txt e) c).length : Nat) : Int)] → TmA K H' v (e, c) → Q (.ref p) H'
def spTermsAt (K : PySem.W.Frag) (n : Nat) : Sp := fun vs H Q _ => ∃ (t : Str) (a : Nat) (o : O) (r : List Nat), vs = [.str t, .int (a : Nat)] ∧ t.length ≤ 10000000 ∧ o ≠ .z ∧ O.ok o = true ∧ O.dp o < n ∧ O.cb o ≤ 90 ∧ O.wd o ≤ 1000 ∧ From t a = (O.txt o).cps.toList ++ r ∧ endOr r ∧
  ∀ (p : Addr) (v : V) (H' : Hp), Same H H' → TT K H' p [v, .int ((a + (O.txt o).length : Nat) : Int)] → OA K H' v o → Q (.ref p) H'
end Vw

set_option Elab.async false
set_option linter.all false
set_option maxRecDepth 100000
set_option maxHeartbeats 4000000
namespace Vw
open PySem PySem.W PyProof.Rows L2
def top (i : Nat) : Stmt := PySem.Challenge.pw_vowstair_k26_texts_of_ordinals.main.body.getD i (.Pass ⟨0, 0, 0, 0⟩)
abbrev s_law_bag : Stmt := top 27
theorem sc_law_bag : FnScope ["_law_script", "_law_salt", "_law_cell"] ["_law_script"] (defScope s_law_bag) := ⟨rfl, rfl, rfl, by decide +kernel, rfl, by decide +kernel, by decide +kernel⟩
abbrev s_law_pull : Stmt := top 28
theorem sc_law_pull : FnScope ["_law_bag_here", "_law_sides", "_law_cell", "_law_got", "_law_seed"] ["_law_bag_here", "_law_sides"] (defScope s_law_pull) := ⟨rfl, rfl, rfl, by decide +kernel, rfl, by decide +kernel, by decide +kernel⟩
abbrev s_law_same : Stmt := top 29
theorem sc_law_same : FnScope ["_law_found", "_law_due", "_law_k"] ["_law_found", "_law_due"] (defScope s_law_same) := ⟨rfl, rfl, rfl, by decide +kernel, rfl, by decide +kernel, by decide +kernel⟩
abbrev s_law_num : Stmt := top 30
theorem sc_law_num : FnScope ["_law_many_z"] ["_law_many_z"] (defScope s_law_num) := ⟨rfl, rfl, rfl, by decide +kernel, rfl, by decide +kernel, by decide +kernel⟩
def KO (K : PySem.W.Frag) (a : Addr) (o : O) : Prop := OA K (fun _ => none) (.ref a) o
structure Txt (K : PySem.W.Frag) (mg : Str → Option Value) (aZERO : Addr) (aONE : Addr) (aVowError : Addr) (aParseError : Addr) : Prop where
  m_VowError : mg "VowError" = some (.ref aVowError)
  m_ParseError : mg "ParseError" = some (.ref aParseError)
  z_len : mg "len" = none
  z_range : mg "range" = none
  z_enumerate : mg "enumerate" = none
  z_isinstance : mg "isinstance" = none
  z_int : mg "int" = none
  z_list : mg "list" = none
  z_tuple : mg "tuple" = none
  z_str : mg "str" = none
  z_bool : mg "bool" = none
  z_all : mg "all" = none
  z_sorted : mg "sorted" = none
  z_ValueError : mg "ValueError" = none
  m_ZERO : mg "ZERO" = some (.ref aZERO)
  t_ZERO : KT K aZERO []
  m_ONE : mg "ONE" = some (.ref aONE)
  t_ONE : KO K aONE O.one
  m__MOST_DIGITS : ∃ t, mg "_MOST_DIGITS" = some (.int 30 t)

section
variable {P : Program} {w : World} {K : PySem.W.Frag} {mg : Str → Option Value} {base : Heap}
theorem ok_bag  {aZERO : Addr} {aONE : Addr} {aVowError : Addr} {aParseError : Addr} (T : Txt K mg  aZERO aONE aVowError aParseError) {f : Addr} {fd : FuncData} {k : Nat} (F : Fun K "_law_bag" "_law_bag" s_law_bag f fd) : FnOk P w K mg base CX0 (k + 1) f fd ["_law_script"] (spBag K) := by
  refine F.ok sc_law_bag (fun vs H Q E h => ?_) (fun cdv A outer s H vs Q E hr h => ?_)
  · obtain ⟨a, ns, rfl, _⟩ := h; rfl
  obtain ⟨a, ns, rfl, hS, hl, q⟩ := h
  refine ⟨_, (pss_cons (ps_set (i := 1) sc_law_bag.nd rfl (Or.inl rfl) pe_int)
  (pss_cons (ps_for PassesOwn.never rfl (pi_list (pe_slice sl_list (pv 0) po_none (po_some pe_int))) (pg_name (i := 2) sc_law_bag.nd rfl (Or.inl rfl))
   (pss_one (ps_set (i := 1) sc_law_bag.nd rfl (Or.inl rfl) (pe_op op_mod (pe_op op_add (pe_op op_add (pe_op op_mul (pv 1) pe_int) (pe_op op_mod (pe_callTy call_int1 (by rfl) T.z_int (by decide +kernel) (pa_cons (pv 2) pa_nil)) pe_int)) pe_int) pe_int))))
  (pss_one (ps_ret (pe_lst (pa_cons (pe_callTy call_list_of (by rfl) T.z_list (by decide +kernel) (pa_cons (pe_slice sl_list (pv 0) po_none (po_some pe_int)) pa_nil)) (pa_cons pe_int (pa_cons pe_int (pa_cons (pv 1) (pa_cons pe_int pa_nil)))))))))), ?_⟩
  obtain ⟨ms, e1, e2⟩ := cut_map ns none (some 63)
  refine ⟨_, rfl, 63, rfl, a, _, rfl, hS, fun c nc => ⟨c, rfl, ⟨_, SqL.of upd_same⟩, ?_⟩⟩
  have s1 : Same H (upd H c (.lst (cutV (ns.map V.int) none (some 63)))) := same_new nc
  rw [e1] at s1 ⊢
  refine for_list (xs := ms.map V.int) (fun _ σ H' => H' = upd H c (.lst (ms.map V.int)) ∧ ∃ (z : Int) (u : Option V), σ = [some (.ref a), some (.int z), u] ∧ 0 ≤ z ∧ z < 2147483647) ⟨rfl, 3827, none, rfl, by decide, by decide⟩ (fun i σ H' _ h => ?_) (fun i x σ H' hx h => ?_) (fun σ H' h => ?_)
  · obtain ⟨rfl, _⟩ := h
    exact SqL.of upd_same
  · obtain ⟨rfl, z, u, rfl, z0, z1⟩ := h
    rw [List.getElem?_map] at hx
    cases hm : ms[i]? with
    | none => rw [hm] at hx; cases hx
    | some m =>
      rw [hm] at hx
      obtain rfl : V.int m = x := Option.some.inj hx
      refine ⟨_, rfl, _, _, rfl, rfl, .inl ⟨by omega, by omega⟩, _, rfl, .inl ⟨_, rfl, _, _, rfl, rfl, (by show (0 : Int) < 2147483587; decide), _, _, rfl, rfl, _, _, rfl, rfl, _, _, rfl, rfl, (by show (0 : Int) < 2147483647; decide), ?_⟩⟩
      exact ⟨rfl, _, _, rfl, Int.emod_nonneg _ (by decide), Int.emod_lt_of_pos _ (by decide)⟩
  · obtain ⟨rfl, z, u, rfl, z0, z1⟩ := h
    refine ⟨_, rfl, 63, rfl, a, _, rfl, s1.seq hS, fun d nd => ?_⟩
    rw [e1]
    have s2 := s1.trans (same_new (o := .lst (ms.map V.int)) nd)
    refine ⟨d, _, rfl, .inl (SqL.of upd_same), fun l nl => ?_⟩
    have s3 := s2.trans (same_new (o := .lst (ms.map V.int)) nl)
    refine ⟨_, rfl, (by show 5 ≤ sizeLine; decide), fun b nb => ?_⟩
    have s4 := s3.trans (same_new (o := .lst [.ref l, .int 0, .int 0, .int z, .int 0]) nb)
    have hlb : l ≠ b := fun e => by rw [e, upd_same] at nb; cases nb
    refine q l b _ (s3.free nb) s4 ⟨ms, 0, 0, z, 0, hlb, upd_same, ?_, by omega, by decide, z0, z1⟩
    rw [upd_ne hlb, upd_same]
theorem seed_bounds {s k : Int} : 0 ≤ (s + k * 7103) % 2147483647 ∧ (s + k * 7103) % 2147483647 < 2147483647 := ⟨Int.emod_nonneg _ (by decide), Int.emod_lt_of_pos _ (by decide)⟩
theorem ok_pull  {aZERO : Addr} {aONE : Addr} {aVowError : Addr} {aParseError : Addr} (T : Txt K mg  aZERO aONE aVowError aParseError) {f : Addr} {fd : FuncData} {k : Nat} (F : Fun K "_law_pull" "_law_pull" s_law_pull f fd) : FnOk P w K mg base CX0 (k + 1) f fd ["_law_bag_here", "_law_sides"] spPull := by
  refine F.ok sc_law_pull (fun vs H Q E h => ?_) (fun cdv A outer s H vs Q E hr h => ?_)
  · obtain ⟨_, b, n, rfl, _⟩ := h; rfl
  obtain ⟨l, b, n, rfl, n1, n2, ⟨ns, i, g, z, c, hlb, hb, hL, hl, i0, z0, z1⟩, q⟩ := h
  refine ⟨_, (C8.pss_cut (ps_if (PW.pt (pw_and (pt_cmpR op_eq (pe_ix ix_list (pv 0) pe_int (fun _ _ => rfl)) pe_int (nomark _)) (pw_and1 (pt_cmpR op_lt (pe_ix ix_list (pv 0) pe_int (fun _ _ => rfl)) (pe_callB call_len_seq (by rfl) T.z_len (by decide +kernel) (pa_cons (pe_ix ix_list (pv 0) pe_int (fun _ _ => rfl)) pa_nil)) (nomark _))))) (pss_cons (ps_set (i := 2) sc_law_pull.nd rfl (Or.inl rfl) (pe_ix ix_list (pe_ix ix_list (pv 0) pe_int (fun _ _ => rfl)) (pe_ix ix_list (pv 0) pe_int (fun _ _ => rfl)) (fun _ _ => rfl)))
  (pss_cons (ps_asg (pe_op op_add (pe_ix ix_list (pv 0) pe_int (fun _ _ => rfl)) pe_int) (pg_sub (pv 0) pe_int set_list))
  (pss_one (ps_if (pt_cmpR op_ge (pv 2) (pe_op op_pow pe_int pe_int) (nomark _)) (pss_one (ps_asg (pv 2) (pg_sub (pv 0) pe_int set_list))) (pss_one (ps_asg (pe_op op_mod (pe_op op_add (pe_op op_add (pe_op op_mul (pe_ix ix_list (pv 0) pe_int (fun _ _ => rfl)) pe_int) (pe_op op_mod (pe_callTy call_int1 (by rfl) T.z_int (by decide +kernel) (pa_cons (pv 2) pa_nil)) pe_int)) pe_int) pe_int) (pg_sub (pv 0) pe_int set_list))))))) pss_nil)
  (pss_cons (ps_if (pt_cmpR op_gt (pe_ix ix_list (pv 0) pe_int (fun _ _ => rfl)) pe_int (nomark _)) (pss_cons (ps_set (i := 3) sc_law_pull.nd rfl (Or.inl rfl) (pe_op op_mod (pe_callTy call_int1 (by rfl) T.z_int (by decide +kernel) (pa_cons (pe_ix ix_list (pv 0) pe_int (fun _ _ => rfl)) pa_nil)) (pv 1)))
  (pss_cons (ps_asg (pe_op op_fdivW (pe_ix ix_list (pv 0) pe_int (fun _ _ => rfl)) (pv 1)) (pg_sub (pv 0) pe_int set_list))
  (pss_one (ps_ret (pv 3))))) pss_nil)
  (pss_cons (ps_asg (pe_op op_add (pe_ix ix_list (pv 0) pe_int (fun _ _ => rfl)) pe_int) (pg_sub (pv 0) pe_int set_list))
  (pss_cons (ps_set (i := 4) sc_law_pull.nd rfl (Or.inl rfl) (pe_op op_mod (pe_op op_add (pe_ix ix_list (pv 0) pe_int (fun _ _ => rfl)) (pe_op op_mul (pe_ix ix_list (pv 0) pe_int (fun _ _ => rfl)) pe_int)) pe_int))
  (pss_cons (ps_asg (pe_op op_mod (pe_op op_add (pe_op op_add (pe_op op_pow (pv 4) pe_int) (pe_op op_mul pe_int (pv 4))) pe_int) pe_int) (pg_sub (pv 0) pe_int set_list))
  (pss_one (ps_ret (pe_op op_mod (pe_op op_add (pe_op op_fdiv (pe_ix ix_list (pv 0) pe_int (fun _ _ => rfl)) pe_int) (pe_op op_mul (pe_op op_mod (pe_callTy call_int1 (by rfl) T.z_int (by decide +kernel) (pa_cons (pe_ix ix_list (pv 0) pe_int (fun _ _ => rfl)) pa_nil)) pe_int) pe_int)) (pv 1))))))))), ?_⟩
  -- behind the draw of a cell
  let Mid : L2.St → Hp → Prop := fun σ' H' => ∃ (u2 u3 u4 : Option V) (i' g' z' : Int), σ' = [some (.ref b), some (.int n), u2, u3, u4] ∧ Kp b H H' ∧ H' b = some (.lst [.ref l, .int i', .int g', .int z', .int c]) ∧ 0 ≤ i' ∧ 0 ≤ z' ∧ z' < 2147483647
  have k0 : Kp b H H := Kp.refl H
  have hLs : ∀ H', Kp b H H' → SqL K H' l (ns.map V.int) := fun H' x => SqL.of (x _ _ hlb hL)
  refine ⟨Mid, ?_, ?_⟩
  · have m0 : Mid [some (V.ref b), some (V.int n), none, none, none] H := ⟨none, none, none, i, g, z, rfl, k0, hb, i0, z0, z1⟩
    refine ⟨_, rfl, b, _, 2, _, rfl, rfl, SqL.of hb, rfl, rfl, _, rfl, ?_⟩
    refine ite2 (fun e => ?_) (fun e => ?_)
    · refine ⟨_, rfl, b, _, 1, _, rfl, rfl, SqL.of hb, rfl, _, rfl, b, _, 0, _, rfl, rfl, SqL.of hb, rfl, l, _, rfl, .inl (SqL.of hL), _, _, rfl, rfl, _, rfl, ?_⟩
      refine ite2 (fun e2 => ?_) (fun e2 => ?_)
      · have hi : i < (ns.length : Int) := by
          have := of_decide_eq_true e2
          rw [List.length_map] at this
          exact this
        obtain ⟨v, hv, hat⟩ := atI_ex (xs := ns.map V.int) i0 (by rw [List.length_map]; exact hi)
        rw [List.getElem?_map] at hv
        obtain ⟨cell, _, rfl⟩ := Option.map_eq_some_iff.mp hv
        refine ⟨_, rfl, b, _, 0, _, rfl, rfl, SqL.of hb, rfl, _, rfl, b, _, 1, _, rfl, rfl, SqL.of hb, rfl, l, _, i, _, rfl, rfl, SqL.of hL, hat, ?_⟩
        refine ⟨_, rfl, b, _, 1, _, rfl, rfl, SqL.of hb, rfl, _, _, rfl, rfl, _, rfl, b, _, 1, 1, rfl, rfl, hb, rfl, ?_⟩
        refine ⟨_, rfl, _, _, rfl, rfl, ⟨by decide, by decide, by decide⟩, _, _, rfl, rfl, _, rfl, ?_⟩
        have hb1 : (upd H b (.lst (List.set [.ref l, .int i, .int g, .int z, .int c] 1 (.int (i + 1))))) b = some (.lst [.ref l, .int (i + 1), .int g, .int z, .int c]) := upd_same
        have k1 : Kp b H (upd H b (.lst (List.set [.ref l, .int i, .int g, .int z, .int c] 1 (.int (i + 1))))) := Kp.upd
        refine ite2 (fun e3 => ?_) (fun e3 => ?_)
        · refine ⟨_, rfl, _, rfl, b, _, 2, 2, rfl, rfl, hb1, rfl, ?_⟩
          exact ⟨_, _, _, i + 1, cell, z, rfl, k1.trans Kp.upd, upd_same, by omega, z0, z1⟩
        · refine ⟨_, rfl, b, _, 3, _, rfl, rfl, SqL.of hb1, rfl, _, _, rfl, rfl, .inl ⟨by omega, by omega⟩, _, rfl, .inl ⟨_, rfl, _, _, rfl, rfl, (by show (0 : Int) < 2147483579; decide), _, _, rfl, rfl, _, _, rfl, rfl, _, _, rfl, rfl, (by show (0 : Int) < 2147483647; decide), _, rfl, b, _, 3, 3, rfl, rfl, hb1, rfl, ?_⟩⟩
          exact ⟨_, _, _, i + 1, g, _, rfl, k1.trans Kp.upd, upd_same, by omega, Int.emod_nonneg _ (by decide), Int.emod_lt_of_pos _ (by decide)⟩
      · exact m0
    · exact m0
  · intro σ' H' hm
    obtain ⟨u2, u3, u4, i', g', z', rfl, k1, hb1, i1, z2, z3⟩ := hm
    have fin : ∀ (r : Int) (H2 : Hp) (g2 s2 c2 : Int), 0 ≤ r → r < n → Kp b H H2 → H2 b = some (.lst [.ref l, .int i', .int g2, .int s2, .int c2]) → 0 ≤ s2 → s2 < 2147483647 → Q (.int r) H2 := fun r H2 g2 s2 c2 r0 r1 kk hh s0 s1 =>
      q r H2 r0 r1 kk ⟨ns, i', g2, s2, c2, hlb, hh, kk _ _ hlb hL, hl, i1, s0, s1⟩
    refine ⟨_, rfl, b, _, 2, _, rfl, rfl, SqL.of hb1, rfl, _, _, rfl, rfl, _, rfl, ?_⟩
    refine ite2 (fun e => ?_) (fun e => ?_)
    · refine ⟨_, rfl, b, _, 2, _, rfl, rfl, SqL.of hb1, rfl, .inl ⟨_, rfl, _, rfl, _, _, rfl, rfl, (by omega), ?_⟩⟩
      refine ⟨_, rfl, b, _, 2, _, rfl, rfl, SqL.of hb1, rfl, _, rfl, _, _, rfl, rfl, wide_div (b := 100) (by omega) (by omega) (by decide) (by decide), _, rfl, b, _, 2, 2, rfl, rfl, hb1, rfl, ?_⟩
      refine ⟨_, rfl, ?_⟩
      exact fin _ _ _ z' c (Int.emod_nonneg _ (by omega)) (Int.emod_lt_of_pos _ (by omega)) (k1.trans Kp.upd) upd_same z2 z3
    · refine ⟨_, rfl, b, _, 4, _, rfl, rfl, SqL.of hb1, rfl, _, _, rfl, rfl, _, rfl, b, _, 4, 4, rfl, rfl, hb1, rfl, ?_⟩
      have hb2 : (upd H' b (.lst (List.set [.ref l, .int i', .int g', .int z', .int c] 4 (.int (c + 1))))) b = some (.lst [.ref l, .int i', .int g', .int z', .int (c + 1)]) := upd_same
      have k2 : Kp b H (upd H' b (.lst (List.set [.ref l, .int i', .int g', .int z', .int c] 4 (.int (c + 1))))) := k1.trans Kp.upd
      obtain ⟨sb0, sb1⟩ := seed_bounds (s := z') (k := c + 1)
      refine ⟨_, rfl, b, _, 3, _, rfl, rfl, SqL.of hb2, rfl, _, rfl, b, _, 4, _, rfl, rfl, SqL.of hb2, rfl, _, _, rfl, rfl, .inr ⟨by decide, by decide⟩, _, _, rfl, rfl, _, _, rfl, rfl, (by show (0 : Int) < 2147483647; decide), ?_⟩
      refine ⟨_, rfl, _, _, rfl, rfl, ⟨by decide, by decide, by omega⟩, _, rfl, _, _, rfl, rfl, .inl ⟨by decide, by decide⟩, _, _, rfl, rfl, _, _, rfl, rfl, _, _, rfl, rfl, (by show (0 : Int) < 2147483647; decide), _, rfl, b, _, 3, 3, rfl, rfl, hb2, rfl, ?_⟩
      refine ⟨_, rfl, b, _, 3, _, rfl, rfl, SqL.of upd_same, rfl, _, _, rfl, rfl, ⟨by decide, by decide⟩, _, rfl, b, _, 3, _, rfl, rfl, SqL.of upd_same, rfl, .inl ⟨_, rfl, _, _, rfl, rfl, (by show (0 : Int) < 7919; decide), _, _, rfl, rfl, .inr ⟨by decide, by decide⟩, _, _, rfl, rfl, _, rfl, _, _, rfl, rfl, (by omega), ?_⟩⟩
      exact fin _ _ _ _ (c + 1) (Int.emod_nonneg _ (by omega)) (Int.emod_lt_of_pos _ (by omega)) (k2.trans Kp.upd) upd_same (Int.emod_nonneg _ (by decide)) (Int.emod_lt_of_pos _ (by decide))
theorem ok_num  {aZERO : Addr} {aONE : Addr} {aVowError : Addr} {aParseError : Addr} (T : Txt K mg  aZERO aONE aVowError aParseError) {f : Addr} {fd : FuncData} {k : Nat} (F : Fun K "_law_num" "_law_num" s_law_num f fd) : FnOk P w K mg base CX0 (k + 1) f fd ["_law_many_z"] (spNum K) := by
  refine F.ok sc_law_num (fun vs H Q E h => ?_) (fun cdv A outer s H vs Q E hr h => ?_)
  · obtain ⟨_, rfl, _⟩ := h; rfl
  obtain ⟨n, rfl, q⟩ := h
  refine ⟨_, (pss_one (ps_ret (pe_ifExp (pt_cmpR op_gt (pv 0) pe_int (nomark _)) (pe_tup (pa_cons (pe_tup (pa_cons (pe_tup pa_nil) (pa_cons (pv 0) pa_nil))) pa_nil)) (pe_tup pa_nil)))), ?_⟩
  refine ⟨_, rfl, _, _, rfl, rfl, _, rfl, ?_⟩
  refine ite2 (fun e => ?_) (fun e => ?_)
  · have hn : 0 < n := of_decide_eq_true e
    refine ⟨(by show 0 ≤ sizeLine; decide), fun p0 n0 => ⟨_, rfl, (by show 2 ≤ sizeLine; decide), fun p1 n1 => ⟨(by show 1 ≤ sizeLine; decide), fun p2 n2 => ?_⟩⟩⟩
    refine q _ _ (((same_new n0).trans (same_new n1)).trans (same_new n2)) ?_
    have t1 := tp_new (o := .tup [.ref p0, .int n]) n1
    have t2 := tp_new (o := .tup [.ref p1]) n2
    have o0 := (OA.nil (K := K) (TT.of (H := upd H p0 (.tup [])) upd_same)).tp t1
    have hm : TmA K (upd (upd H p0 (.tup [])) p1 (.tup [.ref p0, .int n])) (.ref p1) (O.z, n) := ⟨p1, p0, rfl, .of upd_same, o0⟩
    have : O.num n = O.of [(O.z, n)] := by unfold O.num; rw [if_pos hn]; rfl
    rw [this]
    exact OA.of (.of upd_same) (.cons (hm.tp t2) .nil)
  · have hn : ¬ 0 < n := of_decide_eq_false (Bool.eq_false_iff.mpr e)
    refine ⟨(by show 0 ≤ sizeLine; decide), fun p0 n0 => ?_⟩
    refine q _ _ (same_new n0) ?_
    have : O.num n = O.z := by unfold O.num; rw [if_neg hn]
    rw [this]
    exact OA.nil (.of upd_same)
theorem ok_same  {aZERO : Addr} {aONE : Addr} {aVowError : Addr} {aParseError : Addr} (T : Txt K mg  aZERO aONE aVowError aParseError) {f : Addr} {fd : FuncData} {n : Nat} (F : Fun K "_law_same" "_law_same" s_law_same f fd) (C__law_same : Cal P w K mg base n "_law_same" ["_law_found", "_law_due"] (spSame K n) f fd) : FnOk P w K mg base CX0 (n + 1) f fd ["_law_found", "_law_due"] (spSame K (n + 1)) := by
  refine F.ok sc_law_same (fun vs H Q E h => ?_) (fun cdv A outer s H vs Q E hr h => ?_)
  · obtain ⟨_, _, _, rfl, _⟩ := h; rfl
  obtain ⟨x, y, d, rfl, hx, hy, hd, q⟩ := h
  refine ⟨_, (pss_cons (ps_if (pt_val (pe_callB call_isDT (by rfl) T.z_isinstance (by decide +kernel) (pa_cons (pv 1) (pa_cons (pe_tup (pa_cons (pe_bltn (v := .ty "list") (u := .type "list") (by rfl) T.z_list (by decide +kernel) rfl) (pa_cons (pe_bltn (v := .ty "tuple") (u := .type "tuple") (by rfl) T.z_tuple (by decide +kernel) rfl) pa_nil))) pa_nil)))) (pss_cons (ps_if (PW.pt (pw_or (pt_cmpR op_ne (pe_callB call_isD (by rfl) T.z_isinstance (by decide +kernel) (pa_cons (pv 0) (pa_cons (pe_bltn (v := .ty "list") (u := .type "list") (by rfl) T.z_list (by decide +kernel) rfl) pa_nil))) (pe_callB call_isD (by rfl) T.z_isinstance (by decide +kernel) (pa_cons (pv 1) (pa_cons (pe_bltn (v := .ty "list") (u := .type "list") (by rfl) T.z_list (by decide +kernel) rfl) pa_nil))) (nomark _)) (pw_or1 (pt_cmpR op_ne (pe_callB call_isD (by rfl) T.z_isinstance (by decide +kernel) (pa_cons (pv 0) (pa_cons (pe_bltn (v := .ty "tuple") (u := .type "tuple") (by rfl) T.z_tuple (by decide +kernel) rfl) pa_nil))) (pe_callB call_isD (by rfl) T.z_isinstance (by decide +kernel) (pa_cons (pv 1) (pa_cons (pe_bltn (v := .ty "tuple") (u := .type "tuple") (by rfl) T.z_tuple (by decide +kernel) rfl) pa_nil))) (nomark _))))) (pss_one (ps_ret pe_bl)) pss_nil)
  (pss_one (ps_ret (pe_and (pe_cmpR op_eq (pe_callB call_lenB (by rfl) T.z_len (by decide +kernel) (pa_cons (pv 0) pa_nil)) (pe_callB call_lenB (by rfl) T.z_len (by decide +kernel) (pa_cons (pv 1) pa_nil)) (nomark _)) (pe_one (pe_callB (cr_all rfl) (by rfl) T.z_all (by decide +kernel) (pa_cons (pe_lc (own := [("_law_k", 2)]) (g := gName 2) (tt := tYes) rfl sc_law_same.nd (pi_range1 (by rfl) T.z_range (pa_cons (pe_callB call_lenB (by rfl) T.z_len (by decide +kernel) (pa_cons (pv 1) pa_nil)) pa_nil)) (blkOk_by (own := [("_law_k", 2)]) (N := ["_law_found", "_law_due", "_law_k"]) (sc := defScope s_law_same) (by decide +kernel)) (fun _ _ _ _ _ => (pg_name (i := 2) sc_law_same.nd rfl (Or.inl rfl))) (fun _ _ _ _ _ => pts_nil) (fun _ _ _ _ _ => (pe_call C__law_same.G (hr.mono (by omega)) (by rfl) C__law_same.m C__law_same.kp C__law_same.b .nil pass0 (pa_cons (pe_ix (r := rIx K) ix_seq (pv 0) (pv 2) (fun _ _ => rfl)) (pa_cons (pe_ix (r := rIx K) ix_seq (pv 1) (pv 2) (fun _ _ => rfl)) pa_nil))))) pa_nil))))))) pss_nil)
  (pss_cons (ps_if (PW.pt (pw_or (pt_cmpR op_isN (pv 1) pe_non (nomark _)) (pw_or1 (pt_cmpR op_isN (pv 0) pe_non (nomark _))))) (pss_one (ps_ret (pe_and (pe_cmpR op_isN (pv 0) pe_non (nomark _)) (pe_one (pe_cmpR op_isN (pv 1) pe_non (nomark _)))))) pss_nil)
  (pss_cons (ps_if (PW.pt (pw_or (pt_cmpR op_ne (pe_callB call_isD (by rfl) T.z_isinstance (by decide +kernel) (pa_cons (pv 1) (pa_cons (pe_bltn (v := .ty "bool") (u := .type "bool") (by rfl) T.z_bool (by decide +kernel) rfl) pa_nil))) (pe_callB call_isD (by rfl) T.z_isinstance (by decide +kernel) (pa_cons (pv 0) (pa_cons (pe_bltn (v := .ty "bool") (u := .type "bool") (by rfl) T.z_bool (by decide +kernel) rfl) pa_nil))) (nomark _)) (pw_or1 (pt_cmpR op_ne (pe_callB call_isD (by rfl) T.z_isinstance (by decide +kernel) (pa_cons (pv 1) (pa_cons (pe_bltn (v := .ty "int") (u := .type "int") (by rfl) T.z_int (by decide +kernel) rfl) pa_nil))) (pe_callB call_isD (by rfl) T.z_isinstance (by decide +kernel) (pa_cons (pv 0) (pa_cons (pe_bltn (v := .ty "int") (u := .type "int") (by rfl) T.z_int (by decide +kernel) rfl) pa_nil))) (nomark _))))) (pss_one (ps_ret pe_bl)) pss_nil)
  (pss_one (ps_ret (pe_and (pe_cmpR op_eq (pe_callB call_isD (by rfl) T.z_isinstance (by decide +kernel) (pa_cons (pv 1) (pa_cons (pe_bltn (v := .ty "str") (u := .type "str") (by rfl) T.z_str (by decide +kernel) rfl) pa_nil))) (pe_callB call_isD (by rfl) T.z_isinstance (by decide +kernel) (pa_cons (pv 0) (pa_cons (pe_bltn (v := .ty "str") (u := .type "str") (by rfl) T.z_str (by decide +kernel) rfl) pa_nil))) (nomark _)) (pe_one (pe_cmpR op_eq (pv 0) (pv 1) (nomark _))))))))), ?_⟩
  refine ⟨_, rfl, (by show 2 ≤ sizeLine; decide), fun tp ntp => rd_lt2 (dp_same (same_new ntp) hy) upd_same ⟨_, rfl, ?_⟩⟩
  have s1 : Same H (upd H tp (.tup [.ty "list", .ty "tuple"])) := same_new ntp
  generalize upd H tp (.tup [.ty "list", .ty "tuple"]) = H1 at s1
  have hx1 := dp_same s1 hx
  have hy1 := dp_same s1 hy
  have fin : ∀ H', Same H1 H' → Q (.bl true) H' := fun H' z => q H' (s1.trans z)
  clear q
  refine ite2 (fun e => ?_) (fun e => ?_)
  · refine ⟨_, rfl, rd_list hx1 ⟨_, rfl, rd_list hy1 ⟨rfl, _, rfl, ?_⟩⟩⟩
    rw [decide_eq_true rfl]
    refine iteF ⟨_, rfl, rd_tuple hx1 ⟨_, rfl, rd_tuple hy1 ⟨rfl, _, rfl, ?_⟩⟩⟩
    rw [decide_eq_true rfl]
    refine iteF ?_
    obtain ⟨p1, p2, xs, ys, ds, rfl, rfl, h1, h2, a1, a2, hdep⟩ : ∃ p1 p2 xs ys ds, x = .ref p1 ∧ y = .ref p2 ∧ (SqL K H1 p1 xs ∨ SqT K H1 p1 xs) ∧ (SqL K H1 p2 ys ∨ SqT K H1 p2 ys) ∧ DpAll K H1 xs ds ∧ DpAll K H1 ys ds ∧ PyData.depthAll ds < n := by
      cases d with
      | list ds =>
        cases hx1 with
        | lst h1 a1 => cases hy1 with
          | lst h2 a2 => exact ⟨_, _, _, _, ds, rfl, rfl, .inl h1, .inl h2, a1, a2, by simp only [PyData.depth] at hd; omega⟩
      | tuple ds =>
        cases hx1 with
        | tup h1 a1 => cases hy1 with
          | tup h2 a2 => exact ⟨_, _, _, _, ds, rfl, rfl, .inr h1, .inr h2, a1, a2, by simp only [PyData.depth] at hd; omega⟩
      | _ => cases e
    have hl : xs.length = ys.length := (dpall_len a1).trans (dpall_len a2).symm
    refine ⟨_, rfl, rd_len h1 fun z1 => ⟨_, rfl, rd_len h2 fun z2 => ⟨rfl, _, rfl, ?_⟩⟩⟩
    rw [hl, decide_eq_true rfl]
    refine iteT ⟨_, rfl, rd_len h2 fun z2 => ⟨_, rfl, (line62 z2).1, (line62 z2).2, fun D nD => ?_⟩⟩
    refine lc_range (lo := 0) (n := (ys.length : Int).toNat) (fun i H' => Same H1 H' ∧ H' D = some (.lst (List.replicate i (.bl true)))) ⟨same_new nD, upd_same⟩ (fun i H' hi hp => ?_) (fun H' hp => ?_)
    · obtain ⟨sm, eD⟩ := hp
      refine ⟨rfl, ?_⟩
      have hi2 : i < ys.length := by omega
      have hi1 : i < xs.length := by omega
      have gx := List.getElem?_eq_getElem hi1
      have gy := List.getElem?_eq_getElem hi2
      obtain ⟨dx, e1, f1⟩ := dpall_get a1 gx
      obtain ⟨dy, e2, f2⟩ := dpall_get a2 gy
      have : dx = dy := Option.some.inj (e1.symm.trans e2)
      subst this
      have hk : (0 : Int) + (i : Nat) = ((i : Nat) : Int) := by omega
      have ix : ∀ (p : Addr) (zs : List V) (v : V), (SqL K H1 p zs ∨ SqT K H1 p zs) → zs[i]? = some v → ∀ (Q' : VK), Q' v H' → rIx K (.ref p) (.int (0 + (i : Nat))) H' Q' := fun p zs v hz hv Q' hq => by
        rw [hk]
        rcases hz with hz | hz
        · exact .inl ⟨p, zs, _, v, rfl, rfl, sm.seq hz, atI_nat hv, hq⟩
        · exact .inr (.inl ⟨p, zs, _, v, rfl, rfl, same_sqt sm hz, atI_nat hv, hq⟩)
      refine ⟨_, rfl, _, rfl, ix _ _ _ h1 gx _ ⟨_, rfl, _, rfl, ix _ _ _ h2 gy _ ?_⟩⟩
      refine ⟨_, _, dx, rfl, dp_same sm f1, dp_same sm f2, Nat.lt_of_le_of_lt (depth_get e1) hdep, fun H2 s2 => ?_⟩
      have eD2 := s2 _ _ eD
      refine ⟨_, eD2, by rw [List.length_replicate]; omega, same_mut (sm.trans s2) nD, ?_⟩
      rw [upd_same, ← List.replicate_succ']
    · obtain ⟨sm, eD⟩ := hp
      refine ⟨D, List.replicate ((ys.length : Int).toNat) true, rfl, SqL.of (by rw [List.map_replicate]; exact eD), ?_⟩
      have : (List.replicate ((ys.length : Int).toNat) true).all id = true := by rw [List.all_eq_true]; intro b hb; exact (List.mem_replicate.mp hb).2
      rw [this]
      exact fin H' sm
  · have sc : (∃ i, x = .int i ∧ y = .int i) ∨ (∃ i, x = .bl i ∧ y = .bl i) ∨ (∃ i, x = .str i ∧ y = .str i) ∨ (x = .non ∧ y = .non) := by
      cases d with
      | none => cases hx1; cases hy1; exact .inr (.inr (.inr ⟨rfl, rfl⟩))
      | bool b => cases hx1; cases hy1; exact .inr (.inl ⟨_, rfl, rfl⟩)
      | int b => cases hx1; cases hy1; exact .inl ⟨_, rfl, rfl⟩
      | str b => cases hx1; cases hy1; exact .inr (.inr (.inl ⟨_, rfl, rfl⟩))
      | list _ => exact absurd rfl e
      | tuple _ => exact absurd rfl e
      | dict kv => exact absurd rfl (dp_nodict hx1 kv)
    have hxy : x = y := by rcases sc with ⟨i, rfl, rfl⟩ | ⟨i, rfl, rfl⟩ | ⟨i, rfl, rfl⟩ | ⟨rfl, rfl⟩ <;> rfl
    have hscal : scal x y = true := by rcases sc with ⟨i, rfl, rfl⟩ | ⟨i, rfl, rfl⟩ | ⟨i, rfl, rfl⟩ | ⟨rfl, rfl⟩ <;> rfl
    clear sc
    subst hxy
    refine ⟨_, rfl, rfl, _, rfl, ?_⟩
    refine ite2 (fun e2 => ?_) (fun e2 => ?_)
    · obtain rfl : x = V.non := of_decide_eq_true e2
      exact iteT ⟨_, rfl, rfl, _, rfl, iteT ⟨_, rfl, rfl, fin H1 (Same.refl H1)⟩⟩
    · refine ⟨_, rfl, rfl, _, rfl, ?_⟩
      rw [Bool.eq_false_iff.mpr e2]
      refine iteF ⟨_, rfl, rd_bool hy1 ⟨_, rfl, rd_bool hx1 ⟨rfl, _, rfl, ?_⟩⟩⟩
      rw [decide_eq_true rfl]
      refine iteF ⟨_, rfl, rd_int hy1 ⟨_, rfl, rd_int hx1 ⟨rfl, _, rfl, ?_⟩⟩⟩
      rw [decide_eq_true rfl]
      refine iteF ⟨_, rfl, rd_str hy1 ⟨_, rfl, rd_str hx1 ⟨rfl, _, rfl, ?_⟩⟩⟩
      rw [decide_eq_true rfl]
      refine iteT ⟨_, rfl, _, rfl, hscal, ?_⟩
      rw [decide_eq_true rfl]
      exact fin H1 (Same.refl H1)
end
end Vw

set_option Elab.async false
set_option linter.all false
set_option maxRecDepth 100000
set_option maxHeartbeats 4000000
namespace Vw
open PySem PySem.W PyProof.Rows L2
abbrev s_law_ordinal : Stmt := top 31
theorem sc_law_ordinal : FnScope ["_law_bag_here", "_law_deep", "_law_some", "_law_found", "_law_power", "_law_k"] ["_law_bag_here", "_law_deep"] (defScope s_law_ordinal) := ⟨rfl, rfl, rfl, by decide +kernel, rfl, by decide +kernel, by decide +kernel⟩
section
variable {P : Program} {w : World} {K : PySem.W.Frag} {mg : Str → Option Value} {base : Heap}
def spOrdC (K : PySem.W.Frag) (d : Nat) : Sp := fun vs H Q _ => ∃ (l b : Addr), vs = [.ref b, .int (d : Int)] ∧ Bag l H b ∧ ∀ (o : O) (v : V) (H' : Hp), O.ok o = true → O.dp o ≤ 2 * d + 2 → O.wd o ≤ 3 → (O.cb o ≤ 60 ∧ O.ms o ≤ 1000 * 4 ^ d) → OA K H' v o → Kp b H H' → Bag l H' b → Q v H'
theorem num_bounds {m : Int} (h : m.natAbs.log2 ≤ 50) (d : Nat) : O.cb (O.num m) ≤ 60 ∧ O.ms (O.num m) ≤ 1000 * 4 ^ d := by
  have p : 1 ≤ 4 ^ d := Nat.pow_pos (by decide)
  unfold O.num
  split
  · refine ⟨?_, ?_⟩
    · show max 0 (max m.natAbs.log2 0) ≤ 60; omega
    · show 0 + (m.natAbs.log2 + 10) + 0 ≤ _; omega
  · exact ⟨Nat.zero_le _, Nat.zero_le _⟩
theorem of_bounds {ts : List (O × Int)} {d : Nat} (d0 : 0 < d) (hl : ts.length ≤ 3) (h : ∀ t ∈ ts, O.cb t.1 ≤ 60 ∧ O.ms t.1 ≤ 1000 * 4 ^ (d - 1) ∧ t.2.natAbs.log2 ≤ 60) : O.cb (O.of ts) ≤ 60 ∧ O.ms (O.of ts) ≤ 1000 * 4 ^ d := by
  refine ⟨O.cb_of ts _ fun t ht => ⟨(h t ht).1, (h t ht).2.2⟩, ?_⟩
  have h1 := O.ms_of ts (1000 * 4 ^ (d - 1) + 110) fun t ht => by have := h t ht; omega
  have h2 : ts.length * (1000 * 4 ^ (d - 1) + 110) ≤ 3 * (1000 * 4 ^ (d - 1) + 110) := Nat.mul_le_mul_right _ hl
  have p : 1 ≤ 4 ^ (d - 1) := Nat.pow_pos (by decide)
  have e : 4 ^ d = 4 ^ (d - 1) * 4 := by
    rw [← Nat.pow_succ]
    congr 1
    omega
  omega
theorem ok_ordinalC  {aZERO : Addr} {aONE : Addr} {aVowError : Addr} {aParseError : Addr} (T : Txt K mg  aZERO aONE aVowError aParseError) {f f1 f2 : Addr} {fd fd1 fd2 : FuncData} {d : Nat} (hd : d ≤ 10) (F : Fun K "_law_ordinal" "_law_ordinal" s_law_ordinal f fd)
    (C__law_ordinal : 0 < d → Cal P w K mg base (d + 1) "_law_ordinal" ["_law_bag_here", "_law_deep"] (spOrdC K (d - 1)) f fd)
    (bF : Binds K fd ["_law_bag_here", "_law_deep"] []) (mF : mg "_law_ordinal" = some (.ref f))
    (C__law_pull : Cal P w K mg base 1 "_law_pull" ["_law_bag_here", "_law_sides"] spPull f1 fd1)
    (C__law_num : Cal P w K mg base 1 "_law_num" ["_law_many_z"] (spNum K) f2 fd2) : FnOk P w K mg base CX0 (d + 2) f fd ["_law_bag_here", "_law_deep"] (spOrdC K d) := by
  have C__law_ordinal : Cal P w K mg base (d + 1) "_law_ordinal" ["_law_bag_here", "_law_deep"] (fun vs H Q E => 0 < d ∧ spOrdC K (d - 1) vs H Q E) f fd := by
    refine ⟨?_, mF, F.kp, bF⟩
    by_cases h0 : 0 < d
    · have G := (C__law_ordinal h0).G
      exact ⟨fun vs H Q E h => G.len vs H Q E h.2, fun A outer s H args us vs Q E a b c e h => G.run A outer s H args us vs Q E a b c e h.2⟩
    · exact ⟨fun vs H Q E h => absurd h.1 h0, fun A outer s H args us vs Q E _ _ _ _ h => absurd h.1 h0⟩
  refine F.ok sc_law_ordinal (fun vs H Q E h => ?_) (fun cdv A outer s H vs Q E hr h => ?_)
  · obtain ⟨_, _, rfl, _⟩ := h; rfl
  obtain ⟨l, b, rfl, hB, q⟩ := h
  refine ⟨_, (pss_cons (ps_if (pt_cmpR op_eq (pv 1) pe_int (nomark _)) (pss_one (ps_ret (pe_call C__law_num.G (hr.mono (by omega)) (by rfl) C__law_num.m C__law_num.kp C__law_num.b .nil pass0 (pa_cons (pe_ix ix_list (pe_lst (pa_cons pe_int (pa_cons pe_int (pa_cons pe_int (pa_cons pe_int (pa_cons (pe_op op_add pe_int (pe_call C__law_pull.G (hr.mono (by omega)) (by rfl) C__law_pull.m C__law_pull.kp C__law_pull.b .nil pass0 (pa_cons (pv 0) (pa_cons (pe_op op_pow pe_int pe_int) pa_nil)))) pa_nil)))))) (pe_call C__law_pull.G (hr.mono (by omega)) (by rfl) C__law_pull.m C__law_pull.kp C__law_pull.b .nil pass0 (pa_cons (pv 0) (pa_cons pe_int pa_nil))) (fun _ _ => rfl)) pa_nil)))) pss_nil)
  (pss_cons (ps_setLc (i := 2) (own := [("_law_k", 5)]) (g := gName 5) (tt := tYes) rfl sc_law_ordinal.nd rfl rfl (sw_true rfl rfl rfl (by decide +kernel)) (pi_range1 (by rfl) T.z_range (pa_cons (pe_call C__law_pull.G (hr.mono (by omega)) (by rfl) C__law_pull.m C__law_pull.kp C__law_pull.b .nil pass0 (pa_cons (pv 0) (pa_cons pe_int pa_nil))) pa_nil)) (blkOk_by (own := [("_law_k", 5)]) (N := ["_law_bag_here", "_law_deep", "_law_some", "_law_found", "_law_power", "_law_k"]) (sc := defScope s_law_ordinal) (by decide +kernel)) (fun _ _ _ _ _ => (pg_name (i := 5) sc_law_ordinal.nd rfl (Or.inl rfl))) (fun _ _ _ _ _ => pts_nil) (fun _ _ _ _ _ => (pe_call C__law_ordinal.G (hr.mono (by omega)) (by rfl) C__law_ordinal.m C__law_ordinal.kp C__law_ordinal.b .nil pass0 (pa_cons (pv 0) (pa_cons (pe_op op_sub (pv 1) pe_int) pa_nil)))))
  (pss_cons (ps_set (i := 3) sc_law_ordinal.nd rfl (Or.inl rfl) (pe_lst pa_nil))
  (pss_cons (ps_for PassesOwn.never rfl (pi_list (pe_callBK (cr_sortedO hr.units) (by rfl) T.z_sorted (by decide +kernel) (pa_cons (pv 2) pa_nil) (pk_cons pe_bl pk_nil))) (pg_name (i := 4) sc_law_ordinal.nd rfl (Or.inl rfl))
   (pss_one (ps_ifBy (PW.pt (pw_or (pt_cmpR (op_eqO hr.units) (pv 3) (pe_lst pa_nil) (nomark _)) (pw_or1 (pt_cmpR (op_ltD hr.units) (pv 4) (pe_ix ix_tup (pe_ix ix_list (pv 3) (pe_un un_neg pe_int) (fun _ _ => rfl)) pe_int (fun _ _ => rfl)) (nomark _))))) (pss_one (ps_expr (pe_bm PySem.F.plainAttrs_list PySem.F.slot_list_append PySem.F.type_list_append mt_append (pv 3) (pa_cons (pe_tup (pa_cons (pv 4) (pa_cons (pe_op op_add pe_int (pe_call C__law_pull.G (hr.mono (by omega)) (by rfl) C__law_pull.m C__law_pull.kp C__law_pull.b .nil pass0 (pa_cons (pv 0) (pa_cons (pe_ix ix_list (pe_lst (pa_cons pe_int (pa_cons pe_int (pa_cons pe_int (pa_cons pe_int (pa_cons (pe_op op_pow pe_int pe_int) pa_nil)))))) (pe_call C__law_pull.G (hr.mono (by omega)) (by rfl) C__law_pull.m C__law_pull.kp C__law_pull.b .nil pass0 (pa_cons (pv 0) (pa_cons pe_int pa_nil))) (fun _ _ => rfl)) pa_nil)))) pa_nil))) pa_nil)))) pss_nil)))
  (pss_one (ps_ret (pe_callTy call_tuple_of (by rfl) T.z_tuple (by decide +kernel) (pa_cons (pv 3) pa_nil)))))))), ?_⟩
  refine ⟨_, rfl, rfl, _, rfl, ?_⟩
  refine ite2 (fun e => ?_) (fun e => ?_)
  · -- a number
    refine ⟨_, rfl, _, _, rfl, rfl, ⟨by decide, by decide, by decide⟩, l, b, _, rfl, (by decide), (by decide), hB, fun r H1 r0 r1 k1 B1 => ?_⟩
    refine ⟨_, _, rfl, rfl, (by show 5 ≤ sizeLine; decide), fun p np => ?_⟩
    have hpb := B1.ne np
    have B2 := B1.same (same_new (o := .lst [.int 0, .int 1, .int 2, .int 3, .int (1 + r)]) np)
    refine ⟨_, rfl, l, b, _, rfl, (by decide), (by decide), B2, fun r2 H2 r20 r21 k2 B3 => ?_⟩
    obtain ⟨v, hv, hat⟩ := atI_ex (xs := [V.int 0, V.int 1, V.int 2, V.int 3, V.int (1 + r)]) r20 r21
    obtain ⟨m, rfl, hm⟩ : ∃ m : Int, v = .int m ∧ m.natAbs.log2 ≤ 50 := by
      have := List.mem_of_getElem? hv
      simp only [List.mem_cons, List.not_mem_nil, or_false] at this
      rcases this with h | h | h | h | h
      · exact ⟨_, h, by decide⟩
      · exact ⟨_, h, by decide⟩
      · exact ⟨_, h, by decide⟩
      · exact ⟨_, h, by decide⟩
      · refine ⟨_, h, O.lg_le ?_⟩
        have r1 : r < 10 ^ Int.toNat 9 := r1
        have e1 : ((10 : Int) ^ Int.toNat 9) = 1000000000 := by decide
        have e2 : (2 : Nat) ^ (90 + 1) = 2475880078570760549798248448 := by decide
        omega
    refine ⟨p, _, r2, _, rfl, rfl, SqL.of (k2 _ _ hpb upd_same), hat, m, rfl, fun v H3 s3 o3 => ?_⟩
    exact q _ v H3 (O.ok_num m) (Nat.le_trans (O.dp_num m) (by omega)) (Nat.le_trans (O.wd_num m) (by decide)) (num_bounds hm d) o3 (((k1.trans (same_kp (same_new np))).trans k2).trans (same_kp s3)) (B3.same s3)
  · have d0 : 0 < d := by
      have : ¬ V.int (d : Int) = V.int 0 := of_decide_eq_false (Bool.eq_false_iff.mpr e)
      rcases Nat.eq_zero_or_pos d with z | z
      · subst z; exact absurd rfl this
      · exact z
    refine ⟨_, rfl, l, b, _, rfl, (by decide), (by decide), hB, fun r H1 r0 r1 k1 B1 => ⟨_, rfl, by omega, by omega, fun D nD => ?_⟩⟩
    have nD0 : H D = none := by
      cases z : H D with
      | none => rfl
      | some o =>
        have := k1 _ _ (B1.ne nD) z
        rw [nD] at this; cases this
    have hDb := B1.ne nD
    have hDl := B1.nl nD
    refine lc_range (lo := 0) (n := r.toNat) (fun i H' => Kp b H H' ∧ Bag l H' b ∧ ∃ xs os, H' D = some (.lst xs) ∧ Paired (OA K H') xs os ∧ xs.length = i ∧ ∀ o ∈ os, O.ok o = true ∧ O.dp o ≤ 2 * d ∧ O.wd o ≤ 3 ∧ O.cb o ≤ 60 ∧ O.ms o ≤ 1000 * 4 ^ (d - 1)) ⟨kp_mut k1 nD0, B1.mut hDb hDl, [], [], upd_same, .nil, rfl, fun o ho => by cases ho⟩ (fun i H' hi hp => ?_) (fun H' hp => ?_)
    · obtain ⟨k2, B2, xs, os, eD, po, hl, hos⟩ := hp
      refine ⟨rfl, _, rfl, _, rfl, _, _, rfl, rfl, d0, l, b, ?_, B2, fun o v H2 o1 o2 o3 o5 o4 k3 B3 => ?_⟩
      · have : ((d : Int) - 1) = ((d - 1 : Nat) : Int) := by omega
        show [V.ref b, V.int ((d : Int) - 1)] = _
        rw [this]
      · have t3 := B2.tp k3
        have eD3 := k3 _ _ hDb eD
        refine ⟨xs, eD3, Nat.lt_of_lt_of_le (show xs.length < 4 by omega) (by decide), kp_mut (k2.trans k3) nD0, B3.mut hDb hDl, xs ++ [v], os ++ [o], upd_same, ?_, by rw [List.length_append, hl]; rfl, fun o' ho' => ?_⟩
        · exact paired_tp (tp_lst eD3) (paired_app (paired_tp t3 po) (.cons o4 .nil))
        · rcases List.mem_append.mp ho' with h | h
          · exact hos o' h
          · rw [List.mem_singleton.mp h]; exact ⟨o1, by omega, o3, o5⟩
    · obtain ⟨k2, B2, xs, os, eD, po, hl, hos⟩ := hp
      -- found = []
      refine ⟨(by show 0 ≤ sizeLine; decide), fun G nG => ?_⟩
      have hGb := B2.ne nG
      have hGl := B2.nl nG
      have nG0 : H G = none := by
        cases z : H G with
        | none => rfl
        | some o =>
          have := k2 _ _ hGb z
          rw [nG] at this; cases this
      have hGD : D ≠ G := ne_of_none eD nG
      have eD2 : (upd H' G (.lst [])) D = some (.lst xs) := by rw [upd_ne hGD]; exact eD
      -- sorted
      refine ⟨_, rfl, D, xs, os, rfl, rfl, SqL.of eD2, paired_tp (tp_new nG) po, (fun o ho => by have := (hos o ho).2.1; omega), fun ys os' S ps hperm _ nS => ?_⟩
      have hS0 : S ≠ G := fun z => by rw [z, upd_same] at nS; cases nS
      have B3 : Bag l (upd (upd H' G (.lst [])) S (.lst ys)) b := (B2.mut hGb hGl).same (same_new nS)
      have hSb : S ≠ b := (B2.mut (o := .lst []) hGb hGl).ne nS
      refine ⟨S, rfl, ⟨_, SqL.of upd_same⟩, ?_⟩
      have hos' : ∀ o ∈ os', O.ok o = true ∧ O.dp o ≤ 2 * d ∧ O.wd o ≤ 3 ∧ O.cb o ≤ 60 ∧ O.ms o ≤ 1000 * 4 ^ (d - 1) := fun o ho => hos o (hperm.mem_iff.mp ho)
      have hyl : ys.length ≤ 3 := by rw [paired_len ps, hperm.length_eq, ← paired_len po, hl]; omega
      refine for_list (xs := ys) (fun i σ H3 => ∃ u, σ = [some (.ref b), some (.int (d : Int)), some (.ref D), some (.ref G), u, none] ∧ Kp b H H3 ∧ Bag l H3 b ∧ H3 S = some (.lst ys) ∧ Paired (OA K H3) ys os' ∧
        ∃ fs ts, H3 G = some (.lst fs) ∧ Paired (TmA K H3) fs ts ∧ fs.length ≤ i ∧ O.ok (O.of ts) = true ∧ ∀ t ∈ ts, O.dp t.1 ≤ 2 * d ∧ O.wd t.1 ≤ 3 ∧ O.cb t.1 ≤ 60 ∧ O.ms t.1 ≤ 1000 * 4 ^ (d - 1) ∧ t.2.natAbs.log2 ≤ 60)
        ⟨none, rfl, kp_mut (kp_mut k2 nG0) (by
          cases z : H S with
          | none => rfl
          | some o =>
            have := kp_mut (o := .lst []) k2 nG0 _ _ hSb z
            rw [nS] at this; cases this), B3, upd_same, paired_tp (tp_new nS) ps, [], [], by rw [upd_ne hS0.symm, upd_same], .nil, Nat.zero_le _, rfl, fun t ht => by cases ht⟩
        (fun i σ H3 _ h => ?_) (fun i x σ H3 hx h => ?_) (fun σ H3 h => ?_)
      · obtain ⟨u, rfl, k3, B4, eS, _⟩ := h
        exact SqL.of eS
      · obtain ⟨u, rfl, k3, B4, eS, py, fs, ts, eG, pt, hfl, hok, hdt⟩ := h
        obtain ⟨o, ho, oa⟩ := paired_get py hx
        have hom := List.mem_of_getElem? ho
        have hi3 : i < 3 := by have := (List.getElem?_eq_some_iff.mp hx).1; omega
        -- the append
        have app : (∀ t, ts.getLast? = some t → O.lt o t.1 = true) → ∀ (H4 : Hp) (r4 : Int) (c : Addr), 0 ≤ r4 → r4 < 2 ^ 50 → Kp b H3 H4 → Bag l H4 b → H4 c = none → ∃ u', [some (V.ref b), some (V.int (d : Int)), some (V.ref D), some (V.ref G), some x, none] = [some (V.ref b), some (V.int (d : Int)), some (V.ref D), some (V.ref G), u', none] ∧ Kp b H (upd (upd H4 c (.tup [x, .int (1 + r4)])) G (.lst (fs ++ [.ref c]))) ∧ Bag l (upd (upd H4 c (.tup [x, .int (1 + r4)])) G (.lst (fs ++ [.ref c]))) b ∧ (upd (upd H4 c (.tup [x, .int (1 + r4)])) G (.lst (fs ++ [.ref c]))) S = some (.lst ys) ∧ Paired (OA K (upd (upd H4 c (.tup [x, .int (1 + r4)])) G (.lst (fs ++ [.ref c])))) ys os' ∧
            ∃ fs' ts', (upd (upd H4 c (.tup [x, .int (1 + r4)])) G (.lst (fs ++ [.ref c]))) G = some (.lst fs') ∧ Paired (TmA K (upd (upd H4 c (.tup [x, .int (1 + r4)])) G (.lst (fs ++ [.ref c])))) fs' ts' ∧ fs'.length ≤ i + 1 ∧ O.ok (O.of ts') = true ∧ ∀ t ∈ ts', O.dp t.1 ≤ 2 * d ∧ O.wd t.1 ≤ 3 ∧ O.cb t.1 ≤ 60 ∧ O.ms t.1 ≤ 1000 * 4 ^ (d - 1) ∧ t.2.natAbs.log2 ≤ 60 := by
          intro hlast H4 r4 c hr4 hr5 k4 B5 nc
          have hcb := B5.ne nc
          have eG4 := k4 _ _ hGb eG
          have eS4 := k4 _ _ hSb eS
          have hGc : G ≠ c := ne_of_none eG4 nc
          have hSc : S ≠ c := ne_of_none eS4 nc
          have tA : Tp H3 H4 := B4.tp k4
          have tB := tp_new (o := .tup [x, .int (1 + r4)]) nc
          have eG5 : (upd H4 c (.tup [x, .int (1 + r4)])) G = some (.lst fs) := by rw [upd_ne hGc]; exact eG4
          have tC := tp_lst (o := .lst (fs ++ [.ref c])) eG5
          have oa4 := (oa.tp tA).tp tB
          obtain ⟨xa, rfl⟩ := oa.ref
          refine ⟨_, rfl, kp_mut (k3.trans (k4.trans (same_kp (same_new nc)))) nG0, (B5.same (same_new nc)).mut hGb hGl, by rw [upd_ne hS0, upd_ne hSc]; exact eS4, paired_tp tC (paired_tp tB (paired_tp tA py)), fs ++ [.ref c], ts ++ [(o, 1 + r4)], upd_same, ?_, by rw [List.length_append]; show fs.length + 1 ≤ i + 1; omega, O.ok_snoc ts o _ hok (hos' o hom).1 (by omega) hlast, fun t ht => ?_⟩
          · exact terms_tp tC (paired_app (terms_tp tB (terms_tp tA pt)) (.cons (TmA.new oa4 upd_same) .nil))
          · rcases List.mem_append.mp ht with h | h
            · exact hdt t h
            · rw [List.mem_singleton.mp h]; exact ⟨(hos' o hom).2.1, (hos' o hom).2.2.1, (hos' o hom).2.2.2.1, (hos' o hom).2.2.2.2, O.lg_le (by
                have e1 : ((2 : Int) ^ 50) = 1125899906842624 := by decide
                have e2 : (2 : Nat) ^ (60 + 1) = 2305843009213693952 := by decide
                show (1 + r4).natAbs < _
                omega)⟩
        have stay : ∀ {H4 : Hp}, Same H3 H4 → ∃ u', [some (V.ref b), some (V.int (d : Int)), some (V.ref D), some (V.ref G), some x, none] = [some (V.ref b), some (V.int (d : Int)), some (V.ref D), some (V.ref G), u', none] ∧ Kp b H H4 ∧ Bag l H4 b ∧ H4 S = some (.lst ys) ∧ Paired (OA K H4) ys os' ∧ ∃ fs' ts', H4 G = some (.lst fs') ∧ Paired (TmA K H4) fs' ts' ∧ fs'.length ≤ i + 1 ∧ O.ok (O.of ts') = true ∧ ∀ t ∈ ts', O.dp t.1 ≤ 2 * d ∧ O.wd t.1 ≤ 3 ∧ O.cb t.1 ≤ 60 ∧ O.ms t.1 ≤ 1000 * 4 ^ (d - 1) ∧ t.2.natAbs.log2 ≤ 60 := fun s4 =>
          ⟨_, rfl, k3.trans (same_kp s4), B4.same s4, s4 _ _ eS, paired_tp (same_tp s4) py, fs, ts, s4 _ _ eG, terms_tp (same_tp s4) pt, by omega, hok, hdt⟩
        refine ⟨fun H4 => Same H3 H4 ∧ ∀ t, ts.getLast? = some t → O.lt o t.1 = true, fun H4 => Same H3 H4, ?_, fun H4 hA => ?_, fun H4 hB4 => ?_⟩
        · -- the test
          refine ⟨_, rfl, (by show 0 ≤ sizeLine; decide), fun E0 nE => rd_eqNil (x := .non) (y := .non) (SqL.of (same_new nE _ _ eG)) (terms_tp (tp_new nE) pt) (SqL.of upd_same) (fun t ht => by have := (hdt t ht).1; omega) ⟨_, rfl, ?_⟩⟩
          have s0 := same_new (o := .lst []) nE
          refine ite2 (fun e1 => ?_) (fun e1 => ?_)
          · refine iteT ⟨s0, fun t ht => ?_⟩
            have : ts = [] := List.isEmpty_iff.mp e1
            rw [this] at ht; cases ht
          · obtain ⟨t, ht⟩ : ∃ t, ts.getLast? = some t := by
              cases z : ts.getLast? with
              | some t => exact ⟨t, rfl⟩
              | none => exact absurd (List.isEmpty_iff.mpr (List.getLast?_eq_none_iff.mp z)) e1
            have htm := List.mem_of_getLast? ht
            obtain ⟨v, hv, vt⟩ : ∃ v, fs.getLast? = some v ∧ TmA K H3 v t := by
              rw [List.getLast?_eq_getElem?] at ht
              obtain ⟨v, h1, h2⟩ := paired_get' pt ht
              rw [← paired_len pt] at h1
              exact ⟨v, by rw [List.getLast?_eq_getElem?]; exact h1, h2⟩
            obtain ⟨pv1, qv1, rfl, g1, g2⟩ := vt
            have hat : atI fs (-1) = some (.ref pv1) := by
              have hn : fs ≠ [] := fun z => by rw [z] at hv; cases hv
              have : fs = fs.dropLast ++ [.ref pv1] := by
                rw [List.getLast?_eq_some_getLast hn] at hv
                have := Option.some.inj hv
                rw [← this, List.dropLast_concat_getLast]
              rw [this]; exact atI_last _ _
            refine ⟨_, rfl, _, rfl, _, rfl, G, fs, -1, _, rfl, rfl, SqL.of (s0 _ _ eG), hat, pv1, _, 0, _, rfl, rfl, (g1.tp (same_tp s0)).sq, rfl, rd_lt (oa.tp (same_tp s0)) (g2.tp (same_tp s0)) (by have := (hos' o hom).2.1; omega) ⟨_, rfl, ?_⟩⟩
            refine ite2 (fun e2 => ⟨s0, fun t' ht' => ?_⟩) (fun e2 => s0)
            rw [ht] at ht'
            cases ht'
            exact e2
        · obtain ⟨s4, hlast⟩ := hA
          have eG4 := s4 _ _ eG
          refine ⟨_, rfl, .inl ⟨rfl, _, SqL.of eG4⟩, _, rfl, _, rfl, _, _, rfl, rfl, ⟨by decide, by decide, by decide⟩, (by show 5 ≤ sizeLine; decide), fun p np => ?_⟩
          have B5 := B4.same s4
          have hpb := B5.ne np
          have s5 := s4.trans (same_new (o := .lst [.int 1, .int 2, .int 2, .int 9, .int (10 ^ Int.toNat 12)]) np)
          refine ⟨_, rfl, l, b, _, rfl, (by decide), (by decide), B4.same s5, fun r2 H6 r20 r21 k6 B6 => ?_⟩
          obtain ⟨v, hv, hat⟩ := atI_ex (xs := [V.int 1, V.int 2, V.int 2, V.int 9, V.int (10 ^ Int.toNat 12)]) r20 r21
          obtain ⟨m, rfl, m1, m2⟩ : ∃ m : Int, v = .int m ∧ 1 ≤ m ∧ m < 2 ^ 50 := by
            have := List.mem_of_getElem? hv
            simp only [List.mem_cons, List.not_mem_nil, or_false] at this
            rcases this with h | h | h | h | h <;> exact ⟨_, h, by decide, by decide⟩
          refine ⟨p, _, r2, _, rfl, rfl, SqL.of (k6 _ _ hpb upd_same), hat, l, b, m, rfl, m1, Int.lt_trans m2 (by decide), B6, fun r4 H7 r40 r41 k7 B7 => ?_⟩
          refine ⟨_, _, rfl, rfl, (by show 2 ≤ sizeLine; decide), fun c nc => ?_⟩
          have kk : Kp b H3 H7 := ((same_kp s5).trans k6).trans k7
          refine ⟨G, fs, _, rfl, rfl, ?_, Nat.lt_of_lt_of_le (show fs.length < 4 by omega) (by decide), app hlast H7 r4 c r40 (Int.lt_trans r41 m2) kk B7 nc⟩
          rw [upd_ne (ne_of_none (kk _ _ hGb eG) nc)]
          exact kk _ _ hGb eG
        · exact stay hB4
      · obtain ⟨u, rfl, k3, B4, eS, py, fs, ts, eG, pt, hfl, hok, hdt⟩ := h
        refine ⟨_, rfl, G, fs, rfl, .inl ⟨SqL.of eG, fun v nv => ?_⟩⟩
        have tv := tp_new (o := .tup fs) nv
        refine q (O.of ts) _ _ hok (O.dp_of ts _ fun t ht => by have := (hdt t ht).1; omega) ?_ (of_bounds d0 (by rw [← paired_len pt]; omega) fun t ht => (hdt t ht).2.2) (OA.of (.of upd_same) (terms_tp tv pt)) (k3.trans (same_kp (same_new nv))) (B4.same (same_new nv))
        exact O.wd_of ts 3 (by rw [← paired_len pt]; omega) fun t ht => (hdt t ht).2.1
theorem ordC_all  {aZERO : Addr} {aONE : Addr} {aVowError : Addr} {aParseError : Addr} (T : Txt K mg  aZERO aONE aVowError aParseError) {f f1 f2 : Addr} {fd fd1 fd2 : FuncData} (F : Fun K "_law_ordinal" "_law_ordinal" s_law_ordinal f fd) (bF : Binds K fd ["_law_bag_here", "_law_deep"] []) (mF : mg "_law_ordinal" = some (.ref f))
    (C1 : Cal P w K mg base 1 "_law_pull" ["_law_bag_here", "_law_sides"] spPull f1 fd1) (C2 : Cal P w K mg base 1 "_law_num" ["_law_many_z"] (spNum K) f2 fd2) : ∀ d : Nat, d ≤ 10 → FnOk P w K mg base CX0 (d + 2) f fd ["_law_bag_here", "_law_deep"] (spOrdC K d)
  | 0, h => ok_ordinalC T h F (fun z => absurd z (Nat.lt_irrefl _)) bF mF C1 C2
  | d + 1, h => ok_ordinalC T h F (fun _ => ⟨ordC_all T F bF mF C1 C2 d (by omega), mF, F.kp, bF⟩) bF mF C1 C2
def spOrdToC (K : PySem.W.Frag) (m : Nat) : Sp := fun vs H Q E => ∃ d, d ≤ m ∧ spOrdC K d vs H Q E
end
end Vw

set_option Elab.async false
set_option linter.all false
set_option maxRecDepth 100000
set_option maxHeartbeats 4000000
namespace Vw
open PySem PySem.W PyProof.Rows L2
section
variable {P : Program} {w : World} {K : PySem.W.Frag} {mg : Str → Option Value} {base : Heap}
abbrev somega_power : Stmt := top 10
theorem scomega_power : FnScope ["exponent", "times"] ["exponent", "times"] (defScope somega_power) := ⟨rfl, rfl, rfl, by decide +kernel, rfl, by decide +kernel, by decide +kernel⟩
theorem ok_power  {aZERO : Addr} {aONE : Addr} {aVowError : Addr} {aParseError : Addr} (T : Txt K mg  aZERO aONE aVowError aParseError) {f : Addr} {fd : FuncData} {k : Nat} (F : FunD K "omega_power" "omega_power" (defArgs somega_power) (defBody somega_power) (defScope somega_power) [] [("times", .int 1)] f fd) : FnOk P w K mg base CX0 (k + 1) f fd ["exponent", "times"] (spPow K) := by
  refine F.ok scomega_power (fun vs H Q E h => ?_) (fun cdv A outer s H vs Q E hr h => ?_)
  · obtain ⟨_, _, _, rfl, _⟩ := h; rfl
  obtain ⟨x, e, n, rfl, hx, q⟩ := h
  refine ⟨_, (pss_cons (ps_if (pt_cmpR op_eq (pv 1) pe_int (nomark _)) (pss_one (ps_ret (pe_glob (v := .ref aZERO) (by rfl) T.m_ZERO rfl))) pss_nil)
  (pss_one (ps_ret (pe_tup (pa_cons (pe_tup (pa_cons (pv 0) (pa_cons (pv 1) pa_nil))) pa_nil))))), ?_⟩
  refine ⟨_, rfl, rfl, _, rfl, ?_⟩
  refine ite2 (fun e1 => ?_) (fun e1 => ?_)
  · have hn : n = 0 := V.int.inj (of_decide_eq_true e1)
    subst hn
    exact q _ H (Same.refl H) (OA.nil (.inr T.t_ZERO))
  · have hn : n ≠ 0 := fun z => by subst z; exact e1 (decide_eq_true rfl)
    obtain ⟨xa, rfl⟩ := hx.ref
    refine ⟨_, rfl, _, rfl, (by show 2 ≤ sizeLine; decide), fun p1 n1 => ⟨(by show 1 ≤ sizeLine; decide), fun p2 n2 => ?_⟩⟩
    have s1 := same_new (o := .tup [.ref xa, .int n]) n1
    have s2 := same_new (o := .tup [.ref p1]) n2
    refine q _ _ (s1.trans s2) ?_
    unfold O.pwN
    rw [if_neg hn]
    exact OA.of (l := [(e, n)]) (.of upd_same) (.cons ((TmA.new (hx.same s1) upd_same).same s2) .nil)
theorem power_binds {f : Addr} {fd : FuncData} (F : FunD K "omega_power" "omega_power" (defArgs somega_power) (defBody somega_power) (defScope somega_power) [] [("times", .int 1)] f fd) : ∃ ds, Vals [.int 1] ds ∧ Binds K fd ["exponent", "times"] ds :=
  F.binds0 1 (by simp) rfl fun D doc pm an cdv ct us ks h1 h2 => by
    match us, ks, h1, h2 with
    | [u], [t], _, _ => exact ⟨_, _, _, _, _, _, rfl, rfl, rfl⟩
abbrev s_law_raise : Stmt := top 33
theorem sc_law_raise : FnScope ["_law_here", "_law_last", "_law_left", "_law_term_z"] ["_law_here", "_law_last"] (defScope s_law_raise) := ⟨rfl, rfl, rfl, by decide +kernel, rfl, by decide +kernel, by decide +kernel⟩
theorem ok_lraise  {aZERO : Addr} {aONE : Addr} {aVowError : Addr} {aParseError : Addr} (T : Txt K mg  aZERO aONE aVowError aParseError) {f f1 : Addr} {fd fd1 : FuncData} (F : Fun K "_law_raise" "_law_raise" s_law_raise f fd) (C__law_sum : Cal P w K mg base 1 "_law_sum" ["_law_here", "_law_there"] (spPlus K) f1 fd1) : FnOk P w K mg base CX0 2 f fd ["_law_here", "_law_last"] (spO2 K O.raisedO) := by
  refine F.ok sc_law_raise (fun vs H Q E h => ?_) (fun cdv A outer s H vs Q E hr h => ?_)
  · obtain ⟨_, _, _, _, rfl, _⟩ := h; rfl
  obtain ⟨x, y, a, e, rfl, hx, hy, ha, he, da, de, la, le, q⟩ := h
  refine ⟨_, (pss_cons (ps_set (i := 2) sc_law_raise.nd rfl (Or.inl rfl) (pe_callTy call_tuple_of (by rfl) T.z_tuple (by decide +kernel) (pa_cons (pe_lc (own := [("_law_term_z", 3)]) (g := gName 3) rfl sc_law_raise.nd (pi_tup (pv 0)) (blkOk_by (own := [("_law_term_z", 3)]) (N := ["_law_here", "_law_last", "_law_left", "_law_term_z"]) (sc := defScope s_law_raise) (by decide +kernel)) (fun _ _ _ _ _ => (pg_name (i := 3) sc_law_raise.nd rfl (Or.inl rfl))) (fun _ _ _ _ _ => (pts_one (pt_cmpR (r := rCmp (fun d e => !dataLt d e) K) (op_geD hr.units) (pe_ix (r := rIxT K) ix_tup (pv 3) pe_int (fun _ _ => rfl)) (pv 1) (nomark _)))) (fun _ _ _ _ _ => (pv 3))) pa_nil)))
  (pss_cons (ps_ifBy (PW.pt (pw_or (pt_cmpR (op_eqO hr.units) (pv 1) (pe_tup pa_nil) (nomark _)) (pw_or1 (PW.pt (pw_and (pt_cmpR (op_eqO hr.units) (pv 2) (pv 0) (nomark _)) (pw_and1 (pt_cmpR (op_neO hr.units) (pv 0) (pe_tup pa_nil) (nomark _)))))))) (pss_one (ps_ret (pv 0))) pss_nil)
  (pss_one (ps_ret (pe_call C__law_sum.G (hr.mono (by omega)) (by rfl) C__law_sum.m C__law_sum.kp C__law_sum.b .nil pass0 (pa_cons (pv 2) (pa_cons (pe_tup (pa_cons (pe_tup (pa_cons (pv 1) (pa_cons pe_int pa_nil))) pa_nil)) pa_nil))))))), ?_⟩
  rw [← O.raised_law ha] at q
  obtain ⟨ax, rfl⟩ := hx.ref
  obtain ⟨xs, tx, px⟩ := hx.tt
  have lx : xs.length ≤ 900 := by rw [paired_len px]; exact la
  refine ⟨_, rfl, ax, rfl, ⟨_, tx.sq⟩, fun D nD => ?_⟩
  refine lc_tup (K := K) (a := ax) (xs := xs) (fun i H' => Same H H' ∧ ∃ acc, H' D = some (.lst acc) ∧ acc.length ≤ i ∧ Paired (TmA K H) acc (((O.ts a).take i).filter fun t => !O.lt t.1 e)) ⟨same_new nD, [], upd_same, Nat.le_refl _, .nil⟩ (fun i H' _ h => (tx.same h.1).sq) (fun i v H' hv h => ?_) (fun H' h => ?_)
  · obtain ⟨sm, acc, eD, hl, pa⟩ := h
    obtain ⟨t, ht, p1, q1, rfl, t1, o1⟩ := paired_get px hv
    have hi : i < 900 := by have := (List.getElem?_eq_some_iff.mp hv).1; omega
    have dt := O.dp_mem (List.mem_of_getElem? ht)
    refine ⟨rfl, _, rfl, p1, _, 0, _, rfl, rfl, (t1.same sm).sq, rfl, _, rfl, rd_ge (o1.same sm) (hy.same sm) (by omega) ⟨_, rfl, ?_⟩⟩
    refine ite2 (fun e1 => ?_) (fun e1 => ?_)
    · refine ⟨_, rfl, acc, eD, small1000 (by omega), same_mut sm nD, _, upd_same, by rw [List.length_append]; show acc.length + 1 ≤ i + 1; omega, ?_⟩
      rw [take_filter _ _ _ _ ht, if_pos e1]
      exact paired_app pa (.cons ⟨p1, q1, rfl, t1, o1⟩ .nil)
    · refine ⟨sm, acc, eD, by omega, ?_⟩
      rw [take_filter _ _ _ _ ht, if_neg e1, List.append_nil]
      exact pa
  obtain ⟨s1, gs, eD, gl, pg⟩ := h
  rw [paired_len px, List.take_length] at pg
  refine ⟨D, gs, rfl, .inl ⟨SqL.of eD, fun g ng => ?_⟩⟩
  have s2 := s1.trans (same_new (o := .tup gs) ng)
  have og : OA K (upd H' g (.tup gs)) (.ref g) (O.keep e a) := OA.of (.of upd_same) (terms_same pg s2)
  generalize upd H' g (.tup gs) = H2 at s2 og
  have dk := O.dp_keep e a
  have lk := O.len_keep e a
  refine ⟨fun H3 => Same H2 H3 ∧ (e = .z ∨ (O.keep e a = a ∧ a ≠ .z)), fun H3 => Same H2 H3 ∧ ¬ (e = .z ∨ (O.keep e a = a ∧ a ≠ .z)), ?_, fun H3 h => ?_, fun H3 h => ?_⟩
  · refine ⟨_, rfl, (by show 0 ≤ sizeLine; decide), fun p1 n1 => ?_⟩
    have t1 := same_new (o := .tup []) n1
    refine rd_eq ((hy.same s2).same t1) (OA.nil (.of upd_same)) (by omega) (by decide) ⟨_, rfl, ?_⟩
    refine ite2 (fun e1 => iteT ⟨t1, .inl (of_decide_eq_true e1)⟩) (fun e1 => ?_)
    have hez : ¬ e = .z := of_decide_eq_false (Bool.eq_false_iff.mpr e1)
    refine ⟨_, rfl, _, rfl, rd_eq (og.same t1) ((hx.same s2).same t1) (by omega) (by omega) ⟨_, rfl, ?_⟩⟩
    refine ite2 (fun e2 => ?_) (fun e2 => iteF ⟨t1, fun h => h.elim hez fun h => e2 (decide_eq_true h.1)⟩)
    refine ⟨_, rfl, (by show 0 ≤ sizeLine; decide), fun p2 n2 => ?_⟩
    have t2 := t1.trans (same_new (o := .tup []) n2)
    refine rd_ne ((hx.same s2).same t2) (OA.nil (.of upd_same)) (by omega) (by decide) ⟨_, rfl, ?_⟩
    refine ite2 (fun e3 => ⟨t2, .inr ⟨of_decide_eq_true e2, fun z => by rw [z] at e3; exact absurd e3 (by decide)⟩⟩) (fun e3 => ⟨t2, fun h => h.elim hez fun h => e3 (by
      have : decide (a = O.z) = false := decide_eq_false h.2
      rw [this]; rfl)⟩)
  · obtain ⟨s3, h⟩ := h
    rw [if_pos h] at q
    exact ⟨_, rfl, q _ H3 (s2.trans s3) (hx.same (s2.trans s3))⟩
  · obtain ⟨s3, h⟩ := h
    rw [if_neg h] at q
    have s4 := s2.trans s3
    obtain ⟨ya, rfl⟩ := hy.ref
    refine ⟨_, rfl, _, rfl, (by show 2 ≤ sizeLine; decide), fun p1 n1 => ⟨(by show 1 ≤ sizeLine; decide), fun p2 n2 => ?_⟩⟩
    have t1 := same_new (o := .tup [.ref ya, .int 1]) n1
    have t2 := same_new (o := .tup [.ref p1]) n2
    have ow := OA.of (K := K) (l := [(e, 1)]) (.of (H := upd (upd H3 p1 (.tup [.ref ya, .int 1])) p2 (.tup [.ref p1])) upd_same) (.cons ((TmA.new ((hy.same s4).same t1) upd_same).same t2) .nil)
    exact ⟨_, _, O.keep e a, O.pw e, rfl, og.same (s3.trans (t1.trans t2)), ow, O.ok_keep ha, by omega, by show max (O.dp e + 2) 0 ≤ 50; omega, by omega, by show 1 ≤ 1000; decide, fun v H5 s5 o5 => q v H5 ((s4.trans (t1.trans t2)).trans s5) o5⟩
end
end Vw

set_option Elab.async false
set_option linter.all false
set_option maxRecDepth 100000
set_option maxHeartbeats 4000000
namespace Vw
open PySem PySem.W PyProof.Rows L2
section
variable {P : Program} {w : World} {K : PySem.W.Frag} {mg : Str → Option Value} {base : Heap}
abbrev s_law_sum : Stmt := top 32
theorem sc_law_sum : FnScope ["_law_here", "_law_there", "_law_left", "_law_term_z"] ["_law_here", "_law_there"] (defScope s_law_sum) := ⟨rfl, rfl, rfl, by decide +kernel, rfl, by decide +kernel, by decide +kernel⟩
theorem ok_lsum  {aZERO : Addr} {aONE : Addr} {aVowError : Addr} {aParseError : Addr} (T : Txt K mg  aZERO aONE aVowError aParseError) {f : Addr} {fd : FuncData} {k : Nat} (F : Fun K "_law_sum" "_law_sum" s_law_sum f fd) : FnOk P w K mg base CX0 (k + 1) f fd ["_law_here", "_law_there"] (spPlus K) := by
  refine F.ok sc_law_sum (fun vs H Q E h => ?_) (fun cdv A outer s H vs Q E hr h => ?_)
  · obtain ⟨_, _, _, _, rfl, _⟩ := h; rfl
  obtain ⟨x, y, a, b, rfl, hx, hy, hok, da, db, la, lb, q⟩ := h
  refine ⟨_, (pss_cons (ps_if (pt_cmpR (op_eqO hr.units) (pv 1) (pe_tup pa_nil) (nomark _)) (pss_one (ps_ret (pv 0))) pss_nil)
  (pss_cons (ps_setLc (i := 2) (own := [("_law_term_z", 3)]) (g := gName 3) rfl sc_law_sum.nd rfl rfl (sw_true rfl rfl rfl (by decide +kernel)) (pi_tup (pv 0)) (blkOk_by (own := [("_law_term_z", 3)]) (N := ["_law_here", "_law_there", "_law_left", "_law_term_z"]) (sc := defScope s_law_sum) (by decide +kernel)) (fun _ _ _ _ _ => (pg_name (i := 3) sc_law_sum.nd rfl (Or.inl rfl))) (fun _ _ _ _ _ => (pts_one (pt_cmpR (r := rCmp (fun d e => !dataLt d e) K) (op_geD hr.units) (pe_ix (r := rIxT K) ix_tup (pv 3) pe_int (fun _ _ => rfl)) (pe_ix (r := rIxT K) ix_tup (pe_ix (r := rIxT K) ix_tup (pv 1) pe_int (fun _ _ => rfl)) pe_int (fun _ _ => rfl)) (nomark _)))) (fun _ _ _ _ _ => (pv 3)))
  (pss_cons (ps_ifBy (PW.pt (pw_and (pt_cmpR (op_neO hr.units) (pv 2) (pe_lst pa_nil) (nomark _)) (pw_and1 (pt_cmpR (op_eqO hr.units) (pe_ix ix_tup (pe_ix ix_list (pv 2) (pe_un un_neg pe_int) (fun _ _ => rfl)) pe_int (fun _ _ => rfl)) (pe_ix ix_tup (pe_ix ix_tup (pv 1) pe_int (fun _ _ => rfl)) pe_int (fun _ _ => rfl)) (nomark _))))) (pss_one (ps_ret (pe_op op_catO (pe_op op_catO (pe_callTy call_tuple_of (by rfl) T.z_tuple (by decide +kernel) (pa_cons (pe_slice sl_list (pv 2) po_none (po_some (pe_un un_neg pe_int))) pa_nil)) (pe_tup (pa_cons (pe_tup (pa_cons (pe_ix ix_tup (pe_ix ix_tup (pv 1) pe_int (fun _ _ => rfl)) pe_int (fun _ _ => rfl)) (pa_cons (pe_op op_add (pe_ix ix_tup (pe_ix ix_list (pv 2) (pe_un un_neg pe_int) (fun _ _ => rfl)) pe_int (fun _ _ => rfl)) (pe_ix ix_tup (pe_ix ix_tup (pv 1) pe_int (fun _ _ => rfl)) pe_int (fun _ _ => rfl))) pa_nil))) pa_nil))) (pe_slice sl_tupO (pv 1) (po_some pe_int) po_none)))) pss_nil)
  (pss_one (ps_ret (pe_op op_catO (pe_callTy call_tuple_of (by rfl) T.z_tuple (by decide +kernel) (pa_cons (pv 2) pa_nil)) (pv 1))))))), ?_⟩
  refine ⟨_, rfl, (by show 0 ≤ sizeLine; decide), fun p0 n0 => ?_⟩
  have s0 := same_new (o := .tup []) n0
  refine rd_eq (hy.same s0) (OA.nil (.of upd_same)) (by omega) (by decide) ⟨_, rfl, ?_⟩
  refine ite2 (fun e => ?_) (fun e => ?_)
  · have hb : b = .z := of_decide_eq_true e
    exact ⟨_, rfl, q x _ s0 (by rw [hb, O.sum_z]; exact hx.same s0)⟩
  have hb : b ≠ .z := of_decide_eq_false (Bool.eq_false_iff.mpr e)
  rw [← O.sumL_sum a b hok] at q
  generalize upd H p0 (.tup []) = H0 at s0
  have q : ∀ (v : V) (H' : Hp), Same H0 H' → OA K H' v (O.sumL a b) → Q v H' := fun v H' s o => q v H' (s0.trans s) o
  have hx := hx.same s0
  have hy := hy.same s0
  cases b with
  | z => exact absurd rfl hb
  | add e1 c r =>
  clear e hb s0 n0
  obtain ⟨ay, ys, rfl, ty, hys⟩ := hy
  obtain ⟨p, pe, ws, vr, rfl, tp1, tw, hws, hvr⟩ := hys
  have hE : OA K H0 (.ref pe) e1 := ⟨pe, ws, rfl, tw, hws⟩
  have de : O.dp e1 ≤ 50 := by have : O.dp e1 + 2 ≤ max (O.dp e1 + 2) (O.dp r) := Nat.le_max_left _ _; have h2 : max (O.dp e1 + 2) (O.dp r) ≤ 50 := db; omega
  obtain ⟨ax, rfl⟩ := hx.ref
  obtain ⟨xs, tx, px⟩ := hx.tt
  have lx : xs.length ≤ 1000 := by rw [paired_len px]; exact la
  have hvl : vr.length ≤ 1000 := by
    have := paired_len (TsA.pair hvr)
    have : (O.ts (.add e1 c r)).length = (O.ts r).length + 1 := rfl
    omega
  refine ⟨_, rfl, ax, rfl, ⟨_, tx.sq⟩, fun D nD => ?_⟩
  refine lc_tup (K := K) (a := ax) (xs := xs) (fun i H' => Same H0 H' ∧ ∃ acc, H' D = some (.lst acc) ∧ acc.length ≤ i ∧ Paired (TmA K H0) acc (((O.ts a).take i).filter fun t => !O.lt t.1 e1)) ⟨same_new nD, [], upd_same, Nat.le_refl _, .nil⟩ (fun i H' _ h => (tx.same h.1).sq) (fun i v H' hv h => ?_) (fun H' h => ?_)
  · obtain ⟨sm, acc, eD, hl, pa⟩ := h
    obtain ⟨t, ht, p1, q1, rfl, t1, o1⟩ := paired_get px hv
    have hi : i < 1000 := by have := (List.getElem?_eq_some_iff.mp hv).1; omega
    have dt := O.dp_mem (List.mem_of_getElem? ht)
    refine ⟨rfl, _, rfl, p1, _, 0, _, rfl, rfl, (t1.same sm).sq, rfl, _, rfl, ay, _, 0, _, rfl, rfl, (ty.same sm).sq, atI_nat (j := 0) rfl, p, _, 0, _, rfl, rfl, (tp1.same sm).sq, rfl, rd_ge (o1.same sm) (hE.same sm) (by omega) ⟨_, rfl, ?_⟩⟩
    refine ite2 (fun e => ?_) (fun e => ?_)
    · refine ⟨_, rfl, acc, eD, small1000 (by omega), same_mut sm nD, _, upd_same, by rw [List.length_append]; show acc.length + 1 ≤ i + 1; omega, ?_⟩
      rw [take_filter _ _ _ _ ht, if_pos e]
      exact paired_app pa (.cons ⟨p1, q1, rfl, t1, o1⟩ .nil)
    · refine ⟨sm, acc, eD, by omega, ?_⟩
      rw [take_filter _ _ _ _ ht, if_neg e, List.append_nil]
      exact pa
  obtain ⟨s1, gs, eD, gl, pg⟩ := h
  rw [paired_len px, List.take_length] at pg
  have gl2 : gs.length ≤ 1000 := by omega
  have hdt : ∀ t ∈ (O.ts a).filter (fun t => !O.lt t.1 e1), O.dp t.1 ≤ 50 := fun t ht => by have := O.dp_mem (List.mem_filter.mp ht).1; omega
  have q : ∀ (v : V) (H' : Hp), Same H0 H' → OA K H' v (match ((O.ts a).filter (fun t => !O.lt t.1 e1)).getLast? with
    | some (e2, c2) => if e2 = e1 then O.of (((O.ts a).filter (fun t => !O.lt t.1 e1)).dropLast ++ (e1, c2 + c) :: O.ts r) else O.of (((O.ts a).filter (fun t => !O.lt t.1 e1)) ++ (e1, c) :: O.ts r)
    | none => O.of (((O.ts a).filter (fun t => !O.lt t.1 e1)) ++ (e1, c) :: O.ts r)) → Q v H' := q
  generalize (O.ts a).filter (fun t => !O.lt t.1 e1) = left at pg hdt q
  refine ⟨fun H4 => Same H' H4 ∧ ∃ c2, left.getLast? = some (e1, c2), fun H4 => Same H' H4 ∧ ∀ t, left.getLast? = some t → t.1 ≠ e1, ?_, fun H4 h => ?_, fun H4 h => ?_⟩
  · refine ⟨_, rfl, (by show 0 ≤ sizeLine; decide), fun E0 nE => ?_⟩
    have s2 := same_new (o := .lst []) nE
    refine rd_neNil (x := .non) (y := .non) (SqL.of (s2 _ _ eD)) (terms_same pg (s1.trans s2)) (SqL.of upd_same) hdt ⟨_, rfl, ?_⟩
    refine ite2 (fun e => ?_) (fun e => ?_)
    · obtain ⟨t, ht⟩ : ∃ t, left.getLast? = some t := by
        cases z : left.getLast? with
        | some t => exact ⟨t, rfl⟩
        | none => rw [List.getLast?_eq_none_iff] at z; subst z; cases e
      have s3 := s1.trans s2
      obtain ⟨p5, q5, h5, t5, o5, _⟩ := last_term (terms_same pg s3) ht
      refine ⟨_, rfl, _, rfl, D, gs, -1, _, rfl, rfl, SqL.of (s2 _ _ eD), h5, p5, _, 0, _, rfl, rfl, t5.sq, rfl, _, rfl, ay, _, 0, _, rfl, rfl, (ty.same s3).sq, atI_nat (j := 0) rfl, p, _, 0, _, rfl, rfl, (tp1.same s3).sq, rfl, rd_eq o5 (hE.same s3) (by have := hdt t (List.mem_of_getLast? ht); omega) (by omega) ⟨_, rfl, ?_⟩⟩
      refine ite2 (fun e2 => ?_) (fun e2 => ?_)
      · have : t.1 = e1 := of_decide_eq_true e2
        exact ⟨s2, t.2, by rw [ht, ← this]⟩
      · refine ⟨s2, fun t' ht' => ?_⟩
        rw [ht] at ht'; cases ht'
        exact of_decide_eq_false (Bool.eq_false_iff.mpr e2)
    · refine ⟨s2, fun t ht => ?_⟩
      have : left = [] := by
        cases left with
        | nil => rfl
        | cons _ _ => exact absurd rfl e
      rw [this] at ht; cases ht
  · obtain ⟨s2, c2, ht⟩ := h
    have s3 := s1.trans s2
    rw [ht] at q
    simp only [if_true] at q
    have pl := terms_same pg s3
    refine ⟨_, rfl, _, rfl, -1, rfl, D, gs, rfl, SqL.of (s2 _ _ eD), fun c1 nc1 => ?_⟩
    rw [cut_m1 (α := Nat)]
    have s4 := same_new (o := .lst gs.dropLast) nc1
    refine ⟨c1, _, rfl, .inl ⟨SqL.of upd_same, fun c3 nc3 => ?_⟩⟩
    have s5 := s4.trans (same_new (o := .tup gs.dropLast) nc3)
    have t3 : TT K _ c3 gs.dropLast := .of (upd_same (H := upd H4 c1 (.lst gs.dropLast)))
    have s6 := s3.trans s5
    generalize upd (upd H4 c1 (.lst gs.dropLast)) c3 (.tup gs.dropLast) = H5 at s5 t3 s6
    obtain ⟨p5, q5, h5, t5, o5, _⟩ := last_term (pl) ht
    refine ⟨_, rfl, ay, _, 0, _, rfl, rfl, (ty.same s6).sq, atI_nat (j := 0) rfl, p, _, 0, _, rfl, rfl, (tp1.same s6).sq, rfl, _, rfl, _, rfl, D, gs, -1, _, rfl, rfl, SqL.of (s5 _ _ (s2 _ _ eD)), h5, p5, _, 1, _, rfl, rfl, (t5.same s5).sq, rfl, _, rfl, ay, _, 0, _, rfl, rfl, (ty.same s6).sq, atI_nat (j := 0) rfl, p, _, 1, _, rfl, rfl, (tp1.same s6).sq, rfl, _, _, rfl, rfl, (by show 2 ≤ sizeLine; decide), fun p6 n6 => ⟨(by show 1 ≤ sizeLine; decide), fun p7 n7 => ?_⟩⟩
    have s7 := same_new (o := .tup [.ref pe, .int (c2 + c)]) n6
    have s8 := same_new (o := .tup [.ref p6]) n7
    have tm : TmA K (upd H5 p6 (.tup [.ref pe, .int (c2 + c)])) (.ref p6) (e1, c2 + c) := TmA.new ((hE.same s6).same s7) upd_same
    refine rd_cat (t3.same (s7.trans s8)) (.of upd_same) (by rw [List.length_dropLast]; show gs.length - 1 + 1 ≤ 100000; omega) fun p8 H6 s9 t8 => ?_
    have sA := (s6.trans (s7.trans s8)).trans s9
    refine ⟨_, rfl, 1, rfl, rd_from 1 (ty.same sA) fun p9 H7 s10 t9 => ?_⟩
    refine rd_cat (t8.same s10) t9 (by rw [List.length_append, List.length_dropLast]; show gs.length - 1 + 1 + vr.length ≤ 100000; omega) fun p10 H8 s11 t10 => ?_
    have sB := (s9.trans s10).trans s11
    refine q _ H8 (sA.trans (s10.trans s11)) ?_
    refine OA.of t10 ?_
    rw [List.append_assoc]
    refine paired_app (terms_same (paired_dropLast pg) (sA.trans (s10.trans s11))) ?_
    exact .cons ((tm.same s8).same sB) (terms_same (TsA.pair hvr) (sA.trans (s10.trans s11)))
  · obtain ⟨s2, hne⟩ := h
    have s3 := s1.trans s2
    refine ⟨_, rfl, D, gs, rfl, .inl ⟨SqL.of (s2 _ _ eD), fun c3 nc3 => ?_⟩⟩
    have s4 := same_new (o := .tup gs) nc3
    refine ⟨_, rfl, rd_cat (.of upd_same) (ty.same (s3.trans s4)) (by show gs.length + (vr.length + 1) ≤ 100000; omega) fun p8 H6 s5 t8 => ?_⟩
    have sA := (s3.trans s4).trans s5
    refine q _ H6 sA ?_
    have ho : OA K H6 (.ref p8) (O.of (left ++ (e1, c) :: O.ts r)) := OA.of t8 (paired_app (terms_same pg sA) (.cons (⟨p, pe, rfl, tp1.same sA, hE.same sA⟩) (terms_same (TsA.pair hvr) sA)))
    cases z : left.getLast? with
    | none => exact ho
    | some t =>
      obtain ⟨e2, c2⟩ := t
      simp only
      rw [if_neg (hne _ z)]
      exact ho
end
end Vw

set_option Elab.async false
set_option linter.all false
set_option maxRecDepth 100000
set_option maxHeartbeats 4000000
namespace Vw
open PySem PySem.W PyProof.Rows L2
def spLaw (K : PySem.W.Frag) : Sp := fun vs H Q _ => ∃ (a : Addr) (ns : List Int), vs = [.ref a] ∧ SqL K H a (ns.map V.int) ∧ ns.length ≤ 63 ∧ ∀ H', Q (.bl true) H'
theorem KO.at {K : PySem.W.Frag} {a : Addr} {o : O} (h : KO K a o) (H : Hp) : OA K H (.ref a) o := h.tp (fun a xs h => by cases h)
section
variable {K : PySem.W.Frag}
theorem lst2 {H : Hp} {D : Addr} {x y : V} {a b : O} (h : H D = some (.lst [x, y])) (hx : OA K H x a) (hy : OA K H y b) : Dp K H (.ref D) (.list [O.toD a, O.toD b]) := .lst (SqL.of h) (.cons hx.dp (.cons hy.dp .nil))
theorem depth2 {a b : O} (h1 : O.dp a ≤ 40) (h2 : O.dp b ≤ 40) : (PyData.list [O.toD a, O.toD b]).depth < 60 := by
  simp only [PyData.depth, PyData.depthAll, O.depth_toD]; omega
/-- a drawn ordinal -/
theorem use_ordW {l b : Addr} {r : Int} {H3 : Hp} {Q' : VK} (r0 : 0 ≤ r) (r1 : r < 4) (B : Bag l H3 b) (h : ∀ (o : O) (v : V) (H' : Hp), O.ok o = true → O.dp o ≤ 8 → O.wd o ≤ 3 → OA K H' v o → Kp b H3 H' → Bag l H' b → Q' v H') : spOrdTo K 10 [.ref b, .int r] H3 Q' E0 :=
  ⟨r.toNat, by omega, l, b, by rw [Int.toNat_of_nonneg r0], B, fun o v H' h1 h2 h3 h4 h5 h6 => h o v H' h1 (by omega) h3 h4 h5 h6⟩
theorem use_ord {l b : Addr} {r : Int} {H3 : Hp} {Q' : VK} (r0 : 0 ≤ r) (r1 : r < 4) (B : Bag l H3 b) (h : ∀ (o : O) (v : V) (H' : Hp), O.ok o = true → O.dp o ≤ 8 → (O.ts o).length ≤ 3 → OA K H' v o → Kp b H3 H' → Bag l H' b → Q' v H') : spOrdTo K 10 [.ref b, .int r] H3 Q' E0 :=
  ⟨r.toNat, by omega, l, b, by rw [Int.toNat_of_nonneg r0], B, fun o v H' h1 h2 h3 h4 h5 h6 => h o v H' h1 (by omega) (Nat.le_trans (O.len_wd o) h3) h4 h5 h6⟩
theorem use_plus {x y : O} {H : Hp} {Q' : VK} {u v : V} (h1 : OA K H u x) (h2 : OA K H v y) (h3 : O.ok x = true) (h4 : O.dp x ≤ 40) (h5 : O.dp y ≤ 40) (h6 : (O.ts x).length ≤ 100) (h7 : (O.ts y).length ≤ 100) (h8 : ∀ (v : V) (H' : Hp), Same H H' → OA K H' v (O.sum x y) → Q' v H') : spPlus K [u, v] H Q' E0 :=
  ⟨u, v, x, y, rfl, h1, h2, h3, by omega, by omega, by omega, by omega, h8⟩
end
section
variable {P : Program} {w : World} {K : PySem.W.Frag} {mg : Str → Option Value} {base : Heap}
theorem same_all  {aZERO : Addr} {aONE : Addr} {aVowError : Addr} {aParseError : Addr} (T : Txt K mg  aZERO aONE aVowError aParseError) {f : Addr} {fd : FuncData} (F : Fun K "_law_same" "_law_same" s_law_same f fd) (bF : Binds K fd ["_law_found", "_law_due"] []) (mF : mg "_law_same" = some (.ref f)) :
    ∀ n : Nat, FnOk P w K mg base CX0 n f fd ["_law_found", "_law_due"] (spSame K n)
  | 0 => none_left fun vs H Q E h => by
    obtain ⟨_, _, _, _, _, _, h, _⟩ := h
    exact absurd h (Nat.not_lt_zero _)
  | n + 1 => ok_same T F ⟨same_all T F bF mF n, mF, F.kp, bF⟩
theorem one_mk {K : PySem.W.Frag} {aONE p1 q1 : Addr} {tk1 : Tok} {o1 o2 o3 : Option Addr} {n1 n2 n3 : Nat} {sl1 sl2 sl3 : Array (Option Value)} (lo1 : K.lookup aONE = some ⟨.type "tuple", o1, .seq #[.ref p1] n1, sl1⟩) (lo2 : K.lookup p1 = some ⟨.type "tuple", o2, .seq #[.ref q1, .int 1 tk1] n2, sl2⟩) (lo3 : K.lookup q1 = some ⟨.type "tuple", o3, .seq #[] n3, sl3⟩) : KO K aONE O.one :=
  ⟨aONE, [.ref p1], rfl, .inr ⟨_, _, _, lo1, rfl, rfl, by show 1 ≤ sizeLine; decide, .cons rfl .nil⟩, p1, q1, [], [], rfl, .inr ⟨_, _, _, lo2, rfl, rfl, by show 2 ≤ sizeLine; decide, .cons rfl (.cons ⟨_, rfl⟩ .nil)⟩, .inr ⟨_, _, _, lo3, rfl, rfl, by show 0 ≤ sizeLine; decide, .nil⟩, rfl, rfl⟩
end
end Vw

set_option Elab.async false
set_option linter.all false
set_option maxRecDepth 100000
set_option maxHeartbeats 4000000
namespace Vw
open PySem PySem.W PyProof.Rows L2
section
variable {P : Program} {w : World} {K : PySem.W.Frag} {mg : Str → Option Value} {base : Heap}
theorem use_ordC {l b : Addr} {r : Int} {H3 : Hp} {Q' : VK} (r0 : 0 ≤ r) (r1 : r < 4) (B : Bag l H3 b) (h : ∀ (o : O) (v : V) (H' : Hp), O.ok o = true → O.dp o ≤ 8 → O.wd o ≤ 3 → (O.cb o ≤ 60 ∧ O.ms o ≤ 64000) → OA K H' v o → Kp b H3 H' → Bag l H' b → Q' v H') : spOrdToC K 10 [.ref b, .int r] H3 Q' E0 := by
  obtain ⟨d, rfl⟩ : ∃ d : Nat, r = (d : Nat) := ⟨r.toNat, by omega⟩
  refine ⟨d, by omega, l, b, rfl, B, fun o v H' h1 h2 h3 h4 h5 h6 h7 => h o v H' h1 (by omega) h3 ⟨h4.1, Nat.le_trans h4.2 ?_⟩ h5 h6 h7⟩
  have : 4 ^ d ≤ 4 ^ 3 := Nat.pow_le_pow_right (by decide) (by omega)
  have e : (4 : Nat) ^ 3 = 64 := by decide
  omega
def spRowC (K : PySem.W.Frag) : Sp := fun vs H Q _ => ∃ (l b : Addr) (m : Nat), vs = [.ref b, .int (m : Nat)] ∧ m ≤ 3 ∧ Bag l H b ∧ ∀ (v : V) (os : List O) (H' : Hp), RowA K H' v os → os.length = m → Good os → Steps os → (∀ o ∈ os, O.cb o ≤ 70 ∧ O.ms o ≤ 210000) → Kp b H H' → Bag l H' b → Q v H'
abbrev s_law_row : Stmt := top 34
theorem sc_law_row : FnScope ["_law_bag_here", "_law_many_z", "_law_found", "_law_k", "_law_low_z"] ["_law_bag_here", "_law_many_z"] (defScope s_law_row) := ⟨rfl, rfl, rfl, by decide +kernel, rfl, by decide +kernel, by decide +kernel⟩
theorem ok_rowC  {aZERO : Addr} {aONE : Addr} {aVowError : Addr} {aParseError : Addr} (T : Txt K mg  aZERO aONE aVowError aParseError) {f f1 f2 f3 : Addr} {fd fd1 fd2 fd3 : FuncData} (F : Fun K "_law_row" "_law_row" s_law_row f fd) (C__law_pull : Cal P w K mg base 1 "_law_pull" ["_law_bag_here", "_law_sides"] spPull f1 fd1)
    (C__law_ordinal : Cal P w K mg base 12 "_law_ordinal" ["_law_bag_here", "_law_deep"] (spOrdToC K 10) f2 fd2) (C__law_raise : Cal P w K mg base 2 "_law_raise" ["_law_here", "_law_last"] (spO2 K O.raisedO) f3 fd3) : FnOk P w K mg base CX0 13 f fd ["_law_bag_here", "_law_many_z"] (spRowC K) := by
  refine F.ok sc_law_row (fun vs H Q E h => ?_) (fun cdv A outer s H vs Q E hr h => ?_)
  · obtain ⟨_, _, _, rfl, _⟩ := h; rfl
  obtain ⟨l, b, m, rfl, hm, hB, q⟩ := h
  refine ⟨_, (pss_cons (ps_set (i := 2) sc_law_row.nd rfl (Or.inl rfl) (pe_lst pa_nil))
  (pss_cons (ps_for PassesOwn.never rfl (pi_range1 (by rfl) T.z_range (pa_cons (pv 1) pa_nil)) (pg_name (i := 3) sc_law_row.nd rfl (Or.inl rfl))
   (pss_cons (ps_set (i := 4) sc_law_row.nd rfl (Or.inl rfl) (pe_call C__law_ordinal.G (hr.mono (by omega)) (by rfl) C__law_ordinal.m C__law_ordinal.kp C__law_ordinal.b .nil pass0 (pa_cons (pv 0) (pa_cons (pe_call C__law_pull.G (hr.mono (by omega)) (by rfl) C__law_pull.m C__law_pull.kp C__law_pull.b .nil pass0 (pa_cons (pv 0) (pa_cons pe_int pa_nil))) pa_nil))))
  (pss_one (ps_expr (pe_bm PySem.F.plainAttrs_list PySem.F.slot_list_insert PySem.F.type_list_insert mt_insert (pv 2) (pa_cons pe_int (pa_cons (pe_ifExp (pt_cmpR (op_eqO hr.units) (pv 2) (pe_lst pa_nil) (nomark _)) (pv 4) (pe_call C__law_raise.G (hr.mono (by omega)) (by rfl) C__law_raise.m C__law_raise.kp C__law_raise.b .nil pass0 (pa_cons (pv 4) (pa_cons (pe_ix ix_list (pv 2) pe_int (fun _ _ => rfl)) pa_nil)))) pa_nil)))))))
  (pss_one (ps_ret (pe_callTy call_tuple_of (by rfl) T.z_tuple (by decide +kernel) (pa_cons (pv 2) pa_nil)))))), ?_⟩
  refine ⟨(by show 0 ≤ sizeLine; decide), fun D nD => ?_⟩
  have hDb := hB.ne nD
  have hDl := hB.nl nD
  refine ⟨_, rfl, _, rfl, (by omega), (by omega), ?_⟩
  refine for_range (lo := 0) (n := (m : Int).toNat) (fun i σ H' => ∃ u3 u4 xs os, σ = [some (.ref b), some (.int (m : Nat)), some (.ref D), u3, u4] ∧ Kp b H H' ∧ Bag l H' b ∧ H' D = some (.lst xs) ∧ Paired (OA K H') xs os ∧ os.length = i ∧ (∀ o ∈ os, O.ok o = true ∧ O.dp o ≤ 8 + 2 * i ∧ O.wd o ≤ 4 * i ∧ O.cb o ≤ 60 + i ∧ O.ms o ≤ 70000 * i) ∧ Steps os) ⟨_, _, [], [], rfl, same_kp (same_new nD), hB.same (same_new nD), upd_same, .nil, rfl, (fun o ho => by cases ho), steps_nil⟩ (fun i σ H1 hi h => ?_) (fun σ H1 h => ?_)
  · obtain ⟨u3, u4, xs, os, rfl, k1, B1, eD, po, hl, hos, hst⟩ := h
    have lx : xs.length = i := by rw [paired_len po]; exact hl
    refine ⟨_, rfl, _, rfl, l, b, 3, rfl, by decide, by decide, B1, fun r2 H2 r20 r21 k2 B2 => use_ordC r20 (by omega) B2 fun o v H3 a3 b3 c3 f3 d3 k3 B3 => ?_⟩
    have eD3 := k3 _ _ hDb (k2 _ _ hDb eD)
    have t3 := (B1.tp k2).trans (B2.tp k3)
    have po := paired_tp t3 po
    have kk := (k1.trans k2).trans k3
    have kD0 : H D = none := nD
    refine ⟨_, rfl, .inl ⟨rfl, _, SqL.of eD3⟩, _, rfl, (by show 0 ≤ sizeLine; decide), fun p0 n0 => ?_⟩
    have s4 := same_new (o := .lst []) n0
    have po := paired_tp (same_tp s4) po
    have d3 := d3.same s4
    have B4 := B3.same s4
    have kk := kk.trans (same_kp s4)
    have eD4 := s4 _ _ eD3
    have e0 : (upd H3 p0 (.lst [])) p0 = some (.lst []) := upd_same
    generalize upd H3 p0 (.lst []) = H4 at *
    have gos : Good os := fun o ho => ⟨(hos o ho).1, by have := (hos o ho).2.1; omega, by have := (hos o ho).2.2.1; omega⟩
    -- the insert
    have ins : ∀ (o' : O) (v' : V) (H5 : Hp), Same H4 H5 → OA K H5 v' o' → O.ok o' = true → O.dp o' ≤ 8 + 2 * (i + 1) → O.wd o' ≤ 4 * (i + 1) → O.cb o' ≤ 60 + (i + 1) → O.ms o' ≤ 70000 * (i + 1) → Steps (o' :: os) → ∃ u3' u4' xs' os', [some (V.ref b), some (V.int (m : Nat)), some (V.ref D), some (V.int (0 + (i : Nat))), some v] = [some (V.ref b), some (V.int (m : Nat)), some (V.ref D), u3', u4'] ∧ Kp b H (upd H5 D (.lst (xs.take (0 : Int).toNat ++ [v'] ++ xs.drop (0 : Int).toNat))) ∧ Bag l (upd H5 D (.lst (xs.take (0 : Int).toNat ++ [v'] ++ xs.drop (0 : Int).toNat))) b ∧ (upd H5 D (.lst (xs.take (0 : Int).toNat ++ [v'] ++ xs.drop (0 : Int).toNat))) D = some (.lst xs') ∧ Paired (OA K (upd H5 D (.lst (xs.take (0 : Int).toNat ++ [v'] ++ xs.drop (0 : Int).toNat)))) xs' os' ∧ os'.length = i + 1 ∧ (∀ o ∈ os', O.ok o = true ∧ O.dp o ≤ 8 + 2 * (i + 1) ∧ O.wd o ≤ 4 * (i + 1) ∧ O.cb o ≤ 60 + (i + 1) ∧ O.ms o ≤ 70000 * (i + 1)) ∧ Steps os' := fun o' v' H5 s5 ov' h1 h2 h3 h4 h5 hst' => by
      have eD5 := s5 _ _ eD4
      have tD := tp_lst (o := .lst (xs.take (0 : Int).toNat ++ [v'] ++ xs.drop (0 : Int).toNat)) eD5
      refine ⟨_, _, v' :: xs, o' :: os, rfl, kp_mut (kk.trans (same_kp s5)) kD0, (B4.same s5).mut hDb hDl, upd_same, .cons (ov'.tp tD) (paired_tp tD (paired_tp (same_tp s5) po)), by rw [List.length_cons, hl], fun o ho => ?_, hst'⟩
      rcases List.mem_cons.mp ho with h | h
      · subst h; exact ⟨h1, h2, h3, h4, h5⟩
      · exact ⟨(hos o h).1, by have := (hos o h).2.1; omega, by have := (hos o h).2.2.1; omega, by have := (hos o h).2.2.2.1; omega, by have := (hos o h).2.2.2.2; omega⟩
    refine rd_eqNilO (SqL.of eD4) po (SqL.of e0) gos ⟨_, rfl, ?_⟩
    refine ite2 (fun e => ?_) (fun e => ?_)
    · refine ⟨_, rfl, D, xs, 0, v, rfl, rfl, eD4, small1000 (by omega), by decide, by decide, ?_⟩
      exact ins o v H4 (Same.refl H4) d3 a3 (by omega) (by omega) (by omega) (by omega) (by rw [List.isEmpty_iff.mp e]; exact steps_one o)
    · cases os with
      | nil => exact absurd rfl e
      | cons o1 os1 =>
      obtain ⟨v1, hv1, ov1⟩ := paired_get' (i := 0) (y := o1) po rfl
      have ho1 := hos o1 List.mem_cons_self
      have z1 := O.dp_raised o o1
      have z2 := O.wd_raised o o1
      have z3 := O.len_wd o
      have z4 := O.len_wd o1
      have z5 := O.cb_raised o o1
      have z6 := O.ms_raised o o1
      obtain ⟨g1, g2, g3, g4, g5⟩ := ho1
      refine ⟨_, rfl, _, rfl, D, xs, 0, v1, rfl, rfl, SqL.of eD4, atI_nat (j := 0) hv1, _, _, o, o1, rfl, d3, ov1, a3, g1, by omega, by omega, by omega, by omega, fun v6 H6 s6 o6 => ?_⟩
      refine ⟨D, xs, 0, v6, rfl, rfl, s6 _ _ eD4, small1000 (by omega), by decide, by decide, ?_⟩
      exact ins (O.raisedO o o1) v6 H6 s6 o6 (O.ok_raised a3 g1) (by omega) (by omega) (by omega) (by omega) (steps_cons (O.end_raised o o1) hst)
  · obtain ⟨u3, u4, xs, os, rfl, k1, B1, eD, po, hl, hos, hst⟩ := h
    have hmm : (m : Int).toNat = m := by omega
    rw [hmm] at hl hos
    refine ⟨_, rfl, D, xs, rfl, .inl ⟨SqL.of eD, fun g ng => ?_⟩⟩
    have s1 := same_new (o := .tup xs) ng
    exact q _ os _ (RowA.of (.of upd_same) (paired_tp (same_tp s1) po)) hl (fun o ho => ⟨(hos o ho).1, by have := (hos o ho).2.1; omega, by have := (hos o ho).2.2.1; omega⟩) hst (fun o ho => ⟨by have := (hos o ho).2.2.2.1; omega, by have := (hos o ho).2.2.2.2; omega⟩) (k1.trans (same_kp s1)) (B1.same s1)
end
end Vw

set_option Elab.async false
set_option linter.all false
set_option maxRecDepth 100000
set_option maxHeartbeats 4000000
namespace Vw
open PySem PySem.W PyProof.Rows L2
section
variable {P : Program} {w : World} {K : PySem.W.Frag} {mg : Str → Option Value} {base : Heap}
abbrev snatural : Stmt := top 9
theorem scnatural : FnScope ["number"] ["number"] (defScope snatural) := ⟨rfl, rfl, rfl, by decide +kernel, rfl, by decide +kernel, by decide +kernel⟩
theorem ok_natural  {aZERO : Addr} {aONE : Addr} {aVowError : Addr} {aParseError : Addr} (T : Txt K mg  aZERO aONE aVowError aParseError) {f f1 : Addr} {fd fd1 : FuncData} (F : Fun K "natural" "natural" snatural f fd) (C_omega_power : CalK P w K mg base 1 "omega_power" ["exponent", "times"] (spPow K) f1 fd1) (KB_omega_power : KBinds K fd1 ["exponent", "times"] ["times"] oneG oneG) : FnOk P w K mg base CX0 2 f fd ["number"] (spNat K) := by
  refine F.ok scnatural (fun vs H Q E h => ?_) (fun cdv A outer s H vs Q E hr h => ?_)
  · obtain ⟨_, rfl, _⟩ := h; rfl
  obtain ⟨n, rfl, hn, q⟩ := h
  refine ⟨_, (pss_one (ps_ret (pe_callK C_omega_power.G (hr.mono (by omega)) (by rfl) C_omega_power.m C_omega_power.kp KB_omega_power pass0 (pa_cons (pe_glob (v := .ref aZERO) (by rfl) T.m_ZERO rfl) pa_nil) (pk_cons (pv 0) pk_nil)))), ?_⟩
  refine ⟨_, rfl, _, .z, n, rfl, OA.nil (.inr T.t_ZERO), fun v H' s o => q v H' s ?_⟩
  rw [← O.pwN_num hn]; exact o
theorem nat_ofPower  {aZERO : Addr} {aONE : Addr} {aVowError : Addr} {aParseError : Addr} (T : Txt K mg  aZERO aONE aVowError aParseError) {f f1 : Addr} {fd fd1 : FuncData} (F : Fun K "natural" "natural" snatural f fd) (bF : Binds K fd ["number"] []) (mF : mg "natural" = some (.ref f))
    (F1 : FunD K "omega_power" "omega_power" (defArgs somega_power) (defBody somega_power) (defScope somega_power) [] [("times", .int 1)] f1 fd1) (m1 : mg "omega_power" = some (.ref f1)) : Cal P w K mg base 2 "natural" ["number"] (spNat K) f fd :=
  ⟨ok_natural T F ⟨ok_power T F1, m1, F1.kp⟩ (kb_ofD F1 oneG oneG one_rel (by simp) fun _ _ _ _ _ _ us ws hl => by
      match us, ws, hl with
      | [_], [_], _ => rfl
      | [], _, h => cases h
      | [_], [], h => cases h
      | [_], _ :: _ :: _, h => cases h
      | _ :: _ :: _, _, h => cases h), mF, F.kp, bF⟩
end
end Vw

set_option Elab.async false
set_option linter.all false
set_option maxRecDepth 100000
set_option maxHeartbeats 4000000
namespace Vw
open PySem PySem.W PyProof.Rows L2
section
variable {P : Program} {w : World} {K : PySem.W.Frag} {mg : Str → Option Value} {base : Heap}
abbrev s_is_count : Stmt := top 8
theorem sc_is_count : FnScope ["value"] ["value"] (defScope s_is_count) := ⟨rfl, rfl, rfl, by decide +kernel, rfl, by decide +kernel, by decide +kernel⟩
abbrev s_is_term : Stmt := top 7
theorem sc_is_term : FnScope ["value", "exponent", "count"] ["value"] (defScope s_is_term) := ⟨rfl, rfl, rfl, by decide +kernel, rfl, by decide +kernel, by decide +kernel⟩
abbrev sis_ordinal : Stmt := top 6
theorem scis_ordinal : FnScope ["value", "at", "term"] ["value"] (defScope sis_ordinal) := ⟨rfl, rfl, rfl, by decide +kernel, rfl, by decide +kernel, by decide +kernel⟩
theorem ok_cnt  {aZERO : Addr} {aONE : Addr} {aVowError : Addr} {aParseError : Addr} (T : Txt K mg  aZERO aONE aVowError aParseError) {f : Addr} {fd : FuncData} {k : Nat} (F : Fun K "_is_count" "_is_count" s_is_count f fd) : FnOk P w K mg base CX0 (k + 1) f fd ["value"] (spCnt K) := by
  refine F.ok sc_is_count (fun vs H Q E h => ?_) (fun cdv A outer s H vs Q E hr h => ?_)
  · obtain ⟨_, _, rfl, _⟩ := h; rfl
  obtain ⟨x, d, rfl, hx, q⟩ := h
  refine ⟨_, (pss_one (ps_ret (pe_and (pe_callB call_isD (by rfl) T.z_isinstance (by decide +kernel) (pa_cons (pv 0) (pa_cons (pe_bltn (v := .ty "int") (u := .type "int") (by rfl) T.z_int (by decide +kernel) rfl) pa_nil))) (pe_and (pe_not (pe_callB call_isD (by rfl) T.z_isinstance (by decide +kernel) (pa_cons (pv 0) (pa_cons (pe_bltn (v := .ty "bool") (u := .type "bool") (by rfl) T.z_bool (by decide +kernel) rfl) pa_nil)))) (pe_one (pe_cmpR op_ge (pv 0) pe_int (nomark _))))))), ?_⟩
  have q := q H (Same.refl H)
  refine ⟨_, rfl, rd_int hx ⟨_, rfl, ?_⟩⟩
  cases d with
  | int n =>
    cases hx
    exact iteT ⟨_, rfl, rd_bool (.int n) ⟨_, rfl, _, rfl, iteT ⟨_, rfl, _, _, rfl, rfl, q⟩⟩⟩
  | bool b =>
    cases hx
    exact iteT ⟨_, rfl, rd_bool (.bl b) ⟨_, rfl, _, rfl, iteF q⟩⟩
  | none => exact iteF q
  | str s => exact iteF q
  | list l => exact iteF q
  | tuple l => exact iteF q
  | dict kv => exact absurd rfl (dp_nodict hx kv)
theorem ok_term  {aZERO : Addr} {aONE : Addr} {aVowError : Addr} {aParseError : Addr} (T : Txt K mg  aZERO aONE aVowError aParseError) {f f1 f2 : Addr} {fd fd1 fd2 : FuncData} {n : Nat} (F : Fun K "_is_term" "_is_term" s_is_term f fd) (C__is_count : Cal P w K mg base 1 "_is_count" ["value"] (spCnt K) f1 fd1)
    (C_is_ordinal : Cal P w K mg base (2 * n + 1) "is_ordinal" ["value"] (spIsOrd K n) f2 fd2) : FnOk P w K mg base CX0 (2 * n + 2) f fd ["value"] (spIsTerm K (n + 1)) := by
  refine F.ok sc_is_term (fun vs H Q E h => ?_) (fun cdv A outer s H vs Q E hr h => ?_)
  · obtain ⟨_, _, rfl, _⟩ := h; rfl
  obtain ⟨x, d, rfl, hx, hd, q⟩ := h
  refine ⟨_, (pss_cons (ps_if (PW.pt (pw_or (pt_not (pt_val (pe_callB call_isD (by rfl) T.z_isinstance (by decide +kernel) (pa_cons (pv 0) (pa_cons (pe_bltn (v := .ty "tuple") (u := .type "tuple") (by rfl) T.z_tuple (by decide +kernel) rfl) pa_nil))))) (pw_or1 (pt_cmpR op_ne (pe_callB call_lenB (by rfl) T.z_len (by decide +kernel) (pa_cons (pv 0) pa_nil)) pe_int (nomark _))))) (pss_one (ps_ret pe_bl)) pss_nil)
  (pss_cons (ps_asg (pv 0) (pg_tup (by rfl) (pgs_cons (pg_name (i := 1) sc_is_term.nd rfl (Or.inl rfl)) (pgs_cons (pg_name (i := 2) sc_is_term.nd rfl (Or.inl rfl)) pgs_nil))))
  (pss_one (ps_ret (pe_and (pe_call C__is_count.G (hr.mono (by omega)) (by rfl) C__is_count.m C__is_count.kp C__is_count.b .nil pass0 (pa_cons (pv 2) pa_nil)) (pe_one (pe_call C_is_ordinal.G (hr.mono (by omega)) (by rfl) C_is_ordinal.m C_is_ordinal.kp C_is_ordinal.b .nil pass0 (pa_cons (pv 1) pa_nil)))))))), ?_⟩
  refine ⟨_, rfl, rd_tuple hx ⟨_, rfl, ?_⟩⟩
  have no : (∀ a b, d ≠ .tuple [a, b]) → Q (.bl false) H := fun h => by rw [← isTerm_other h]; exact q H (Same.refl H)
  cases d with
  | tuple ds =>
    obtain ⟨p, xs, rfl, h1, h2⟩ := dp_tup hx
    have hl := dpall_len h2
    refine iteF ⟨_, rfl, rd_len (.inr h1) fun _ => ⟨rfl, _, rfl, ?_⟩⟩
    refine ite2 (fun e => ?_) (fun e => ?_)
    · refine no fun a b z => ?_
      have z' := PyData.tuple.inj z
      subst z'
      rw [show xs.length = 2 from hl] at e
      exact absurd e (by decide)
    · have e' : (xs.length : Int) = 2 := by
        have : (!decide (V.int (xs.length : Nat) = V.int 2)) = false := Bool.eq_false_iff.mpr e
        have : V.int (xs.length : Nat) = V.int 2 := by simpa using this
        exact V.int.inj this
      match ds, xs, hl, h1, h2, e' with
      | [a, b], [u, v], _, h1, .cons g1 (.cons g2 .nil), _ =>
        refine ⟨_, rfl, p, _, rfl, h1, rfl, u, _, rfl, v, _, rfl, rfl, ?_⟩
        refine ⟨_, rfl, v, b, rfl, g2, fun H1 s1 => ⟨_, rfl, ?_⟩⟩
        rw [isTerm_two] at q
        have hda : a.depth < n := by simp only [PyData.depth, PyData.depthAll] at hd; omega
        cases hb : isCntB b with
        | false =>
          rw [hb] at q
          exact iteF (q H1 s1)
        | true =>
          rw [hb] at q
          exact iteT ⟨_, rfl, u, a, rfl, dp_same s1 g1, hda, fun H2 s2 => q H2 (s1.trans s2)⟩
      | [], [], _, _, _, h => exact absurd h (by decide)
      | [_], [_], _, _, _, h => exact absurd h (by show ¬ ((1 : Nat) : Int) = 2; decide)
      | _ :: _ :: _ :: r, _ :: _ :: _ :: r', _, _, _, h => exact absurd h (by simp only [List.length_cons]; omega)
  | none => exact iteT (no fun a b z => by cases z)
  | bool _ => exact iteT (no fun a b z => by cases z)
  | int _ => exact iteT (no fun a b z => by cases z)
  | str _ => exact iteT (no fun a b z => by cases z)
  | list _ => exact iteT (no fun a b z => by cases z)
  | dict kv => exact absurd rfl (dp_nodict hx kv)
theorem ok_isord  {aZERO : Addr} {aONE : Addr} {aVowError : Addr} {aParseError : Addr} (T : Txt K mg  aZERO aONE aVowError aParseError) {f f1 : Addr} {fd fd1 : FuncData} {n : Nat} (hn : n ≤ 60) (F : Fun K "is_ordinal" "is_ordinal" sis_ordinal f fd) (C__is_term : Cal P w K mg base (2 * n + 2) "_is_term" ["value"] (spIsTerm K (n + 1)) f1 fd1) :
    FnOk P w K mg base CX0 (2 * n + 3) f fd ["value"] (spIsOrd K (n + 1)) := by
  refine F.ok scis_ordinal (fun vs H Q E h => ?_) (fun cdv A outer s H vs Q E hr h => ?_)
  · obtain ⟨_, _, rfl, _⟩ := h; rfl
  obtain ⟨x, d, rfl, hx, hd, q⟩ := h
  refine ⟨_, (pss_cons (ps_if (pt_not (pt_val (pe_callB call_isD (by rfl) T.z_isinstance (by decide +kernel) (pa_cons (pv 0) (pa_cons (pe_bltn (v := .ty "tuple") (u := .type "tuple") (by rfl) T.z_tuple (by decide +kernel) rfl) pa_nil))))) (pss_one (ps_ret pe_bl)) pss_nil)
  (pss_cons (ps_for PassesOwn.never rfl (pi_enumT (by rfl) T.z_enumerate (pa_cons (pv 0) pa_nil)) (pg_tup (by rfl) (pgs_cons (pg_name (i := 1) scis_ordinal.nd rfl (Or.inl rfl)) (pgs_cons (pg_name (i := 2) scis_ordinal.nd rfl (Or.inl rfl)) pgs_nil)))
   (pss_cons (ps_if (pt_not (pt_val (pe_call C__is_term.G (hr.mono (by omega)) (by rfl) C__is_term.m C__is_term.kp C__is_term.b .nil pass0 (pa_cons (pv 2) pa_nil)))) (pss_one (ps_ret pe_bl)) pss_nil)
  (pss_one (ps_if (PW.pt (pw_and (pt_cmpR op_gt (pv 1) pe_int (nomark _)) (pw_and1 (pt_cmpR (op_geD hr.units) (pe_ix ix_tup (pv 2) pe_int (fun _ _ => rfl)) (pe_ix ix_tup (pe_ix ix_tup (pv 0) (pe_op op_sub (pv 1) pe_int) (fun _ _ => rfl)) pe_int (fun _ _ => rfl)) (nomark _))))) (pss_one (ps_ret pe_bl)) pss_nil))))
  (pss_one (ps_ret pe_bl)))), ?_⟩
  refine ⟨_, rfl, rd_tuple hx ⟨_, rfl, ?_⟩⟩
  have no : (∀ ds, d ≠ .tuple ds) → Q (.bl false) H := fun h => by rw [← isOrd_other h]; exact q H (Same.refl H)
  cases d with
  | none => exact iteT (no fun a z => by cases z)
  | bool _ => exact iteT (no fun a z => by cases z)
  | int _ => exact iteT (no fun a z => by cases z)
  | str _ => exact iteT (no fun a z => by cases z)
  | list _ => exact iteT (no fun a z => by cases z)
  | dict kv => exact absurd rfl (dp_nodict hx kv)
  | tuple ds =>
    obtain ⟨p, xs, rfl, h1, h2⟩ := dp_tup hx
    have hl := dpall_len h2
    have hds : PyData.depthAll ds < n := by simp only [PyData.depth] at hd; omega
    refine iteF ⟨_, rfl, p, xs, rfl, h1, ?_⟩
    refine for_enumT (xs := xs) (fun i σ H' => ∃ u v, σ = [some (.ref p), u, v] ∧ Same H H' ∧ ∃ l, Pref ds l i) ⟨_, _, rfl, Same.refl H, [], pref_nil ds⟩ (fun i σ H' _ h => ?_) (fun i x2 C σ H' hx2 h nC => ?_) (fun σ H' h => ?_)
    · obtain ⟨_, _, _, s1, _⟩ := h
      exact same_sqt s1 h1
    · obtain ⟨u, v, rfl, s1, l, hp⟩ := h
      obtain ⟨dt, hdt, gx⟩ := dpall_get h2 hx2
      have hdd := depth_get hdt
      have s2 := s1.trans (same_new (o := .tup [.int (i : Nat), x2]) nC)
      refine ⟨C, _, rfl, SqT.of upd_same, rfl, _, _, rfl, _, _, rfl, rfl, ?_⟩
      refine ⟨_, rfl, x2, dt, rfl, dp_same s2 gx, by omega, fun H3 s3 => ⟨_, rfl, ?_⟩⟩
      have s4 := s2.trans s3
      cases ht : isTermB dt with
      | false =>
        refine iteT ?_
        have := q H3 s4
        rw [bad_term hdt (isTerm_no ht)] at this
        exact this
      | true =>
        refine iteF ⟨_, rfl, _, _, rfl, rfl, _, rfl, ?_⟩
        obtain ⟨e, c, rfl, he, hc⟩ := isTerm_of ht
        refine ite2 (fun e1 => ?_) (fun e1 => ?_)
        · have hi : 0 < i := by have := of_decide_eq_true e1; omega
          obtain ⟨j, rfl⟩ : ∃ j, i = j + 1 := ⟨i - 1, by omega⟩
          obtain ⟨t, tl, td⟩ := pref_last hp
          obtain ⟨x3, hx3⟩ : ∃ x3, xs[j]? = some x3 := by
            have : j + 1 < xs.length := (List.getElem?_eq_some_iff.mp hx2).1
            exact ⟨_, List.getElem?_eq_getElem (show j < xs.length by omega)⟩
          obtain ⟨dt3, hdt3, gx3⟩ := dpall_get h2 hx3
          rw [td] at hdt3
          obtain rfl := Option.some.inj hdt3
          obtain ⟨p2, u2, v2, rfl, a1, a2, a3⟩ := dp_two (dp_same s4 gx)
          obtain ⟨p3, u3, v3, rfl, b1, b2, b3⟩ := dp_two (dp_same s4 gx3)
          have hj : ((j + 1 : Nat) : Int) - 1 = ((j : Nat) : Int) := by omega
          refine ⟨_, rfl, p2, _, 0, _, rfl, rfl, a1, rfl, _, rfl, _, rfl, _, _, rfl, rfl, p, xs, _, _, rfl, rfl, same_sqt s4 h1, (by rw [hj]; exact atI_nat hx3), p3, _, 0, _, rfl, rfl, b1, rfl, ?_⟩
          refine rd_geD a2 b2 (by rw [depth_tD] at hdd; omega) ⟨_, rfl, ?_⟩
          refine ite2 (fun e2 => ?_) (fun e2 => ?_)
          · have := q H3 s4
            have e3 : O.lt e t.1 = false := by simpa using e2
            rw [bad_order td hdt e3] at this
            exact this
          · have e3 : O.lt e t.1 = true := by simpa using e2
            exact ⟨_, _, rfl, s4, _, pref_step hp hdt he hc fun t' h' => by rw [tl] at h'; cases h'; exact e3⟩
        · have hi : i = 0 := by
            have : ¬ (0 : Int) < (i : Nat) := of_decide_eq_false (Bool.eq_false_iff.mpr e1)
            omega
          subst hi
          have : l = [] := List.length_eq_zero_iff.mp hp.2.2
          subst this
          exact ⟨_, _, rfl, s4, _, pref_step hp hdt he hc fun t' h' => by cases h'⟩
    · obtain ⟨u, v, rfl, s1, l, hp⟩ := h
      have := q H' s1
      rw [hl] at hp
      rw [pref_end hp] at this
      exact this
theorem isord_all  {aZERO : Addr} {aONE : Addr} {aVowError : Addr} {aParseError : Addr} (T : Txt K mg  aZERO aONE aVowError aParseError) {f f1 f2 : Addr} {fd fd1 fd2 : FuncData} (F : Fun K "is_ordinal" "is_ordinal" sis_ordinal f fd) (b : Binds K fd ["value"] []) (m : mg "is_ordinal" = some (.ref f))
    (F1 : Fun K "_is_term" "_is_term" s_is_term f1 fd1) (b1 : Binds K fd1 ["value"] []) (m1 : mg "_is_term" = some (.ref f1)) (C2 : Cal P w K mg base 1 "_is_count" ["value"] (spCnt K) f2 fd2) :
    ∀ n, n ≤ 60 → FnOk P w K mg base CX0 (2 * n + 1) f fd ["value"] (spIsOrd K n)
  | 0, _ => fn_mono (none_left fun vs H Q E h => by
      obtain ⟨_, _, _, _, h, _⟩ := h
      exact absurd h (Nat.not_lt_zero _)) (Nat.zero_le _)
  | n + 1, h => ok_isord T (by omega) F ⟨ok_term T F1 C2 ⟨isord_all T F b m F1 b1 m1 C2 n (by omega), m, F.kp, b⟩, m1, F1.kp, b1⟩
end
end Vw

set_option Elab.async false
set_option linter.all false
set_option maxRecDepth 100000
set_option maxHeartbeats 4000000
namespace Vw
open PySem PySem.W PyProof.Rows L2
section
variable {P : Program} {w : World} {K : PySem.W.Frag} {mg : Str → Option Value} {base : Heap}
abbrev send_of : Stmt := top 11
theorem scend_of : FnScope ["ordinal"] ["ordinal"] (defScope send_of) := ⟨rfl, rfl, rfl, by decide +kernel, rfl, by decide +kernel, by decide +kernel⟩
theorem ok_end_ofD  {aZERO : Addr} {aONE : Addr} {aVowError : Addr} {aParseError : Addr} (T : Txt K mg  aZERO aONE aVowError aParseError) {f : Addr} {fd : FuncData} {k : Nat} (F : Fun K "end_of" "end_of" send_of f fd) : FnOk P w K mg base CX0 (k + 1) f fd ["ordinal"] (spEndD K) := by
  refine F.ok scend_of (fun vs H Q E h => ?_) (fun cdv A outer s H vs Q E hr h => ?_)
  · obtain ⟨_, _, rfl, _⟩ := h; rfl
  obtain ⟨x, a, rfl, hx, da, q⟩ := h
  refine ⟨_, (pss_cons (ps_if (pt_cmpR (op_eqO hr.units) (pv 0) (pe_glob (v := .ref aZERO) (by rfl) T.m_ZERO rfl) (nomark _)) (pss_one (ps_ret (pe_glob (v := .ref aZERO) (by rfl) T.m_ZERO rfl))) pss_nil)
  (pss_one (ps_ret (pe_ix ix_tup (pe_ix ix_tup (pv 0) (pe_un un_neg pe_int) (fun _ _ => rfl)) pe_int (fun _ _ => rfl))))), ?_⟩
  have hZ : OA K H (.ref aZERO) .z := OA.nil (.inr T.t_ZERO)
  refine ⟨_, rfl, rd_eqD hx hZ.dp (by omega) (by decide) ⟨_, rfl, ?_⟩⟩
  refine ite2 (fun e => ?_) (fun e => ?_)
  · have ha : a = .z := of_decide_eq_true e
    subst ha
    exact q _ H (Same.refl H) hZ.dp
  · have ha : a ≠ .z := of_decide_eq_false (Bool.eq_false_iff.mpr e)
    obtain ⟨t, ht⟩ := last_ex ha
    obtain ⟨p, xs, rfl, h1, h2⟩ := dp_tup hx
    have hl := dpall_len h2
    rw [O.toDs_ts, List.length_map] at hl
    have hpos : 0 < xs.length := by
      rw [hl]
      cases h : O.ts a with
      | nil => rw [h] at ht; cases ht
      | cons _ _ => exact Nat.succ_pos _
    obtain ⟨v, hv⟩ : ∃ v, xs[xs.length - 1]? = some v := ⟨_, List.getElem?_eq_getElem (show xs.length - 1 < xs.length by omega)⟩
    obtain ⟨d, hd, gx⟩ := dpall_get h2 hv
    rw [O.toDs_ts, List.getElem?_map, hl, ← List.getLast?_eq_getElem?, ht] at hd
    obtain rfl : O.tD t = d := Option.some.inj hd
    obtain ⟨p2, u2, v2, rfl, g1, g2, _⟩ := dp_two gx
    have hat : atI xs (-1) = some (.ref p2) := by
      have e : xs = xs.take (xs.length - 1) ++ [.ref p2] := by
        have := List.take_append_drop (xs.length - 1) xs
        rw [List.drop_eq_getElem_cons (show xs.length - 1 < xs.length by omega), List.drop_of_length_le (by omega)] at this
        have hg := List.getElem?_eq_some_iff.mp hv
        rw [hg.2] at this
        exact this.symm
      rw [e]; exact atI_last _ _
    refine ⟨_, rfl, _, rfl, p, xs, -1, _, rfl, rfl, h1, hat, p2, _, 0, _, rfl, rfl, g1, rfl, ?_⟩
    exact q _ H (Same.refl H) (by rw [endO_last ht]; exact g2)
abbrev sis_row : Stmt := top 13
theorem scis_row : FnScope ["levels", "value", "at", "ordinal"] ["levels", "value"] (defScope sis_row) := ⟨rfl, rfl, rfl, by decide +kernel, rfl, by decide +kernel, by decide +kernel⟩
theorem ok_isrow  {aZERO : Addr} {aONE : Addr} {aVowError : Addr} {aParseError : Addr} (T : Txt K mg  aZERO aONE aVowError aParseError) {f f1 f2 : Addr} {fd fd1 fd2 : FuncData} (F : Fun K "is_row" "is_row" sis_row f fd) (C_is_ordinal : Cal P w K mg base 121 "is_ordinal" ["value"] (spIsOrd K 60) f1 fd1)
    (C_end_of : Cal P w K mg base 1 "end_of" ["ordinal"] (spEndD K) f2 fd2) : FnOk P w K mg base CX0 122 f fd ["levels", "value"] (spIsRow K) := by
  refine F.ok scis_row (fun vs H Q E h => ?_) (fun cdv A outer s H vs Q E hr h => ?_)
  · obtain ⟨_, _, _, rfl, _⟩ := h; rfl
  obtain ⟨m, x, d, rfl, hx, hd, q⟩ := h
  refine ⟨_, (pss_cons (ps_ifBy (PW.pt (pw_or (pt_not (pt_val (pe_callB call_isD (by rfl) T.z_isinstance (by decide +kernel) (pa_cons (pv 1) (pa_cons (pe_bltn (v := .ty "tuple") (u := .type "tuple") (by rfl) T.z_tuple (by decide +kernel) rfl) pa_nil))))) (pw_or1 (pt_cmpR op_ne (pe_callB call_lenB (by rfl) T.z_len (by decide +kernel) (pa_cons (pv 1) pa_nil)) (pv 0) (nomark _))))) (pss_one (ps_ret pe_bl)) pss_nil)
  (pss_cons (ps_for PassesOwn.never rfl (pi_enumT (by rfl) T.z_enumerate (pa_cons (pv 1) pa_nil)) (pg_tup (by rfl) (pgs_cons (pg_name (i := 2) scis_row.nd rfl (Or.inl rfl)) (pgs_cons (pg_name (i := 3) scis_row.nd rfl (Or.inl rfl)) pgs_nil)))
   (pss_cons (ps_if (pt_not (pt_val (pe_call C_is_ordinal.G (hr.mono (by omega)) (by rfl) C_is_ordinal.m C_is_ordinal.kp C_is_ordinal.b .nil pass0 (pa_cons (pv 3) pa_nil)))) (pss_one (ps_ret pe_bl)) pss_nil)
  (pss_one (ps_ifBy (PW.pt (pw_and (pt_cmpR op_gt (pv 2) pe_int (nomark _)) (pw_and1 (pt_cmpR (op_gtD hr.units) (pv 3) (pe_call C_end_of.G (hr.mono (by omega)) (by rfl) C_end_of.m C_end_of.kp C_end_of.b .nil pass0 (pa_cons (pe_ix ix_tup (pv 1) (pe_op op_sub (pv 2) pe_int) (fun _ _ => rfl)) pa_nil)) (nomark _))))) (pss_one (ps_ret pe_bl)) pss_nil))))
  (pss_one (ps_ret pe_bl)))), ?_⟩
  refine ⟨fun H1 => Same H H1 ∧ isRowB m d = false, fun H1 => Same H H1 ∧ ∃ ds, d = .tuple ds ∧ (ds.length : Int) = m, ?_, fun H1 h => ?_, fun H1 h => ?_⟩
  · refine ⟨_, rfl, rd_tuple hx ⟨_, rfl, ?_⟩⟩
    have no : (∀ ds, d ≠ .tuple ds) → Same H H ∧ isRowB m d = false := fun h => ⟨Same.refl H, isRow_other h⟩
    cases d with
    | none => exact iteT (no fun a z => by cases z)
    | bool _ => exact iteT (no fun a z => by cases z)
    | int _ => exact iteT (no fun a z => by cases z)
    | str _ => exact iteT (no fun a z => by cases z)
    | list _ => exact iteT (no fun a z => by cases z)
    | dict kv => exact absurd rfl (dp_nodict hx kv)
    | tuple ds =>
      obtain ⟨p, xs, rfl, h1, h2⟩ := dp_tup hx
      have hl := dpall_len h2
      refine iteF ⟨_, rfl, rd_len (.inr h1) fun _ => ⟨_, rfl, rfl, _, rfl, ?_⟩⟩
      refine ite2 (fun e => ?_) (fun e => ?_)
      · refine ⟨Same.refl H, isRow_len fun z => ?_⟩
        rw [← hl] at z
        rw [z] at e
        simp at e
      · refine ⟨Same.refl H, ds, rfl, ?_⟩
        have : (!decide (V.int (xs.length : Nat) = V.int m)) = false := Bool.eq_false_iff.mpr e
        have : V.int (xs.length : Nat) = V.int m := by simpa using this
        rw [← hl]; exact V.int.inj this
  · have := q H1 h.1
    rw [h.2] at this
    exact this
  obtain ⟨s0, ds, rfl, hm⟩ := h
  have q : ∀ H', Same H1 H' → Q (.bl (isRowB m (.tuple ds))) H' := fun H' s => q H' (s0.trans s)
  have hx := dp_same s0 hx
  obtain ⟨p, xs, rfl, h1, h2⟩ := dp_tup hx
  have hl := dpall_len h2
  have hds : PyData.depthAll ds < 50 := by simp only [PyData.depth] at hd; omega
  refine ⟨_, rfl, p, xs, rfl, h1, ?_⟩
  refine for_enumT (xs := xs) (fun i σ H' => ∃ u v, σ = [some (.int m), some (.ref p), u, v] ∧ Same H1 H' ∧ ∃ os, RPref ds os i) ⟨_, _, rfl, Same.refl H1, [], rpref_nil ds⟩ (fun i σ H' _ h => ?_) (fun i x2 C σ H' hx2 h nC => ?_) (fun σ H' h => ?_)
  · obtain ⟨_, _, _, s1, _⟩ := h
    exact same_sqt s1 h1
  · obtain ⟨u, v, rfl, s1, os, hp⟩ := h
    obtain ⟨dt, hdt, gx⟩ := dpall_get h2 hx2
    have hdd := depth_get hdt
    have s2 := s1.trans (same_new (o := .tup [.int (i : Nat), x2]) nC)
    refine ⟨C, _, rfl, SqT.of upd_same, rfl, _, _, rfl, _, _, rfl, rfl, ?_⟩
    refine ⟨_, rfl, x2, dt, rfl, dp_same s2 gx, by omega, fun H3 s3 => ⟨_, rfl, ?_⟩⟩
    have s4 := s2.trans s3
    cases ht : isOrdB dt with
    | false =>
      refine iteT ?_
      have := q H3 s4
      rw [row_ord hdt ht] at this
      exact this
    | true =>
      obtain ⟨o, rfl, ho⟩ := isOrd_of ht
      refine iteF ?_
      refine ⟨fun H4 => Same H1 H4 ∧ isRowB m (.tuple ds) = false, fun H4 => Same H1 H4 ∧ ∀ o', os[i - 1]? = some o' → 0 < i → O.lt (endO o') o = false, ?_, fun H4 h => ?_, fun H4 h => ⟨_, _, rfl, h.1, _, rpref_step hp hdt ho h.2⟩⟩
      · refine ⟨_, rfl, _, _, rfl, rfl, _, rfl, ?_⟩
        refine ite2 (fun e1 => ?_) (fun e1 => ⟨s4, fun o' _ hi => absurd hi (by have : ¬ (0 : Int) < (i : Nat) := of_decide_eq_false (Bool.eq_false_iff.mpr e1); omega)⟩)
        have hi : 0 < i := by have := of_decide_eq_true e1; omega
        obtain ⟨j, rfl⟩ : ∃ j, i = j + 1 := ⟨i - 1, by omega⟩
        obtain ⟨o1, ho1, hd1⟩ := rpref_at hp (Nat.lt_succ_self j)
        obtain ⟨x3, hx3⟩ : ∃ x3, xs[j]? = some x3 := by
          have : j + 1 < xs.length := (List.getElem?_eq_some_iff.mp hx2).1
          exact ⟨_, List.getElem?_eq_getElem (show j < xs.length by omega)⟩
        obtain ⟨d3, hd3, gx3⟩ := dpall_get h2 hx3
        rw [hd1] at hd3
        obtain rfl := Option.some.inj hd3
        have hdd3 := depth_get hd1
        rw [O.depth_toD] at hdd hdd3
        have hj : ((j + 1 : Nat) : Int) - 1 = ((j : Nat) : Int) := by omega
        refine ⟨_, rfl, _, rfl, _, rfl, _, _, rfl, rfl, p, xs, _, _, rfl, rfl, same_sqt s4 h1, (by rw [hj]; exact atI_nat hx3), _, o1, rfl, dp_same s4 gx3, by omega, fun v5 H5 s5 d5 => ?_⟩
        refine rd_gtD (dp_same (s4.trans s5) gx) d5 (by omega) ⟨_, rfl, ?_⟩
        cases g : O.lt (endO o1) o with
        | true => exact iteT ⟨s4.trans s5, row_step hd1 hdt g⟩
        | false => exact iteF ⟨s4.trans s5, fun o' h' _ => by rw [Nat.add_sub_cancel, ho1] at h'; cases h'; exact g⟩
      · have := q H4 h.1
        rw [h.2] at this
        exact this
  · obtain ⟨u, v, rfl, s1, os, hp⟩ := h
    have := q H' s1
    rw [hl] at hp
    rw [← hm, rpref_end hp] at this
    exact this
end
end Vw

set_option Elab.async false
set_option linter.all false
set_option maxRecDepth 100000
set_option maxHeartbeats 4000000
namespace Vw
open PySem PySem.W PyProof.Rows L2
theorem omega_mk {K : PySem.W.Frag} {aOMEGA g1 g2 g3 g4 : Addr} {tg1 tg2 : Tok} {og1 og2 og3 og4 og5 : Option Addr} {ng1 ng2 ng3 ng4 ng5 : Nat} {sg1 sg2 sg3 sg4 sg5 : Array (Option Value)} (lg1 : K.lookup aOMEGA = some ⟨.type "tuple", og1, .seq #[.ref g1] ng1, sg1⟩) (lg2 : K.lookup g1 = some ⟨.type "tuple", og2, .seq #[.ref g2, .int 1 tg1] ng2, sg2⟩) (lg3 : K.lookup g2 = some ⟨.type "tuple", og3, .seq #[.ref g3] ng3, sg3⟩)
    (lg4 : K.lookup g3 = some ⟨.type "tuple", og4, .seq #[.ref g4, .int 1 tg2] ng4, sg4⟩) (lg5 : K.lookup g4 = some ⟨.type "tuple", og5, .seq #[] ng5, sg5⟩) : KO K aOMEGA O.omega := by
  have h : KO K g2 O.one := one_mk lg3 lg4 lg5
  obtain ⟨a, vs, e1, e2, e3⟩ := h
  obtain rfl := V.ref.inj e1
  exact ⟨aOMEGA, [.ref g1], rfl, .inr ⟨_, _, _, lg1, rfl, rfl, by show 1 ≤ sizeLine; decide, .cons rfl .nil⟩, g1, g2, vs, [], rfl, .inr ⟨_, _, _, lg2, rfl, rfl, by show 2 ≤ sizeLine; decide, .cons rfl (.cons ⟨_, rfl⟩ .nil)⟩, e2, e3, rfl⟩
section
variable {P : Program} {w : World} {K : PySem.W.Frag} {mg : Str → Option Value} {base : Heap}
abbrev s_law_great_ordinals : Stmt := top 36
theorem sc_law_great_ordinals : FnScope ["_law_wide", "_law_deep_one", "_law_k"] [] (defScope s_law_great_ordinals) := ⟨rfl, rfl, rfl, by decide +kernel, rfl, by decide +kernel, by decide +kernel⟩
theorem ok_great  {aZERO : Addr} {aONE : Addr} {aVowError : Addr} {aParseError : Addr} (T : Txt K mg  aZERO aONE aVowError aParseError) {f f1 : Addr} {fd fd1 : FuncData} (F : Fun K "_law_great_ordinals" "_law_great_ordinals" s_law_great_ordinals f fd) (C__law_num : Cal P w K mg base 1 "_law_num" ["_law_many_z"] (spNum K) f1 fd1) : FnOk P w K mg base CX0 2 f fd [] (spGreat K) := by
  refine F.ok sc_law_great_ordinals (fun vs H Q E h => ?_) (fun cdv A outer s H vs Q E hr h => ?_)
  · obtain ⟨rfl, _⟩ := h; rfl
  obtain ⟨rfl, q⟩ := h
  refine ⟨_, (pss_cons (ps_par (i := 0) (j := 1) (by rfl) sc_law_great_ordinals.nd rfl rfl (by decide) rfl rfl (pa_cons (pe_callTy call_tuple_of (by rfl) T.z_tuple (by decide +kernel) (pa_cons (pe_lc (own := [("_law_k", 2)]) (g := gName 2) (tt := tYes) rfl sc_law_great_ordinals.nd (pi_range1 (by rfl) T.z_range (pa_cons pe_int pa_nil)) (blkOk_by (own := [("_law_k", 2)]) (N := ["_law_wide", "_law_deep_one", "_law_k"]) (sc := defScope s_law_great_ordinals) (by decide +kernel)) (fun _ _ _ _ _ => (pg_name (i := 2) sc_law_great_ordinals.nd rfl (Or.inl rfl))) (fun _ _ _ _ _ => pts_nil) (fun _ _ _ _ _ => (pe_tup (pa_cons (pe_call C__law_num.G (hr.mono (by omega)) (by rfl) C__law_num.m C__law_num.kp C__law_num.b .nil pass0 (pa_cons (pe_op op_sub pe_int (pv 2)) pa_nil)) (pa_cons (pe_op op_add pe_int (pv 2)) pa_nil))))) pa_nil)) (pa_cons (pe_call C__law_num.G (hr.mono (by omega)) (by rfl) C__law_num.m C__law_num.kp C__law_num.b .nil pass0 (pa_cons pe_int pa_nil)) pa_nil)) (by rfl))
  (pss_cons (ps_for PassesOwn.never rfl (pi_range1 (by rfl) T.z_range (pa_cons pe_int pa_nil)) (pg_name (i := 2) sc_law_great_ordinals.nd rfl (Or.inl rfl))
   (pss_one (ps_set (i := 1) sc_law_great_ordinals.nd rfl (Or.inl rfl) (pe_tup (pa_cons (pe_tup (pa_cons (pv 1) (pa_cons pe_int pa_nil))) (pa_cons (pe_tup (pa_cons (pe_tup pa_nil) (pa_cons pe_int pa_nil))) pa_nil))))))
  (pss_one (ps_ret (pe_lst (pa_cons (pv 0) (pa_cons (pv 1) pa_nil))))))), ?_⟩
  refine ⟨12, rfl, by decide, by decide, fun D nD => ?_⟩
  refine lc_range (lo := 0) (n := 12) (fun j H' => Same H H' ∧ ∃ acc, H' D = some (.lst acc) ∧ acc.length = j ∧ Paired (TmA K H') acc ((List.range j).map fun k => (O.num (11 - (k : Nat)), 1 + (k : Nat)))) ⟨same_new nD, [], upd_same, rfl, .nil⟩ (fun j H' hj h => ?_) (fun H1 h => ?_)
  · obtain ⟨sm, acc, eD, la, pa⟩ := h
    refine ⟨rfl, _, rfl, _, _, rfl, rfl, _, rfl, fun v1 H1 s1 o1 => ⟨_, rfl, _, _, rfl, rfl, (by show 2 ≤ sizeLine; decide), fun p2 n2 => ?_⟩⟩
    have s2 := same_new (o := .tup [v1, .int (1 + (0 + (j : Nat)))]) n2
    have e0 : (0 + (j : Nat) : Int) = (j : Nat) := by omega
    obtain ⟨a1, rfl⟩ := o1.ref
    have eD2 := s2 _ _ (s1 _ _ eD)
    refine ⟨acc, eD2, small1000 (by omega), same_mut ((sm.trans s1).trans s2) nD, _, upd_same, by rw [List.length_append, la]; rfl, ?_⟩
    rw [e0] at o1
    have tm : TmA K (upd H1 p2 (.tup [.ref a1, .int (1 + (0 + (j : Nat)))])) (.ref p2) (O.num (11 - (j : Nat)), 1 + (j : Nat)) := TmA.new (o1.same s2) (by rw [e0]; exact upd_same)
    rw [List.range_succ, List.map_append]
    exact terms_tp (tp_lst eD2) (paired_app (terms_same pa (s1.trans s2)) (.cons tm .nil))
  obtain ⟨s1, acc, eD, la, pa⟩ := h
  refine ⟨D, acc, rfl, .inl ⟨SqL.of eD, fun g ng => ?_⟩⟩
  have s2 := same_new (o := .tup acc) ng
  have og : OA K (upd H1 g (.tup acc)) (.ref g) wideO := OA.of (.of upd_same) (terms_same pa s2)
  refine ⟨2, rfl, fun v3 H3 s3 o3 => ?_⟩
  have sA := (s1.trans s2).trans s3
  have og := og.same s3
  refine ⟨_, _, rfl, 5, rfl, by decide, by decide, ?_⟩
  refine for_range (lo := 0) (n := 5) (fun j σ H' => ∃ u v, σ = [some (.ref g), some v, u] ∧ Same H3 H' ∧ OA K H' v (deepO j)) ⟨_, _, rfl, Same.refl H3, o3⟩ (fun j σ H' hj h => ?_) (fun σ H' h => ?_)
  · obtain ⟨u, v, rfl, sm, ov⟩ := h
    obtain ⟨av, rfl⟩ := ov.ref
    refine ⟨_, rfl, (by show 2 ≤ sizeLine; decide), fun p1 n1 => ⟨(by show 0 ≤ sizeLine; decide), fun p2 n2 => ⟨(by show 2 ≤ sizeLine; decide), fun p3 n3 => ⟨(by show 2 ≤ sizeLine; decide), fun p4 n4 => ?_⟩⟩⟩⟩
    have z1 := same_new (o := .tup [.ref av, .int 2]) n1
    have z2 := same_new (o := .tup []) n2
    have z3 := same_new (o := .tup [.ref p2, .int 1]) n3
    have z4 := same_new (o := .tup [.ref p1, .ref p3]) n4
    have m1 := (((TmA.new (K := K) (c := 2) (ov.same z1) upd_same).same z2).same z3).same z4
    have m3 := (TmA.new (K := K) (c := 1) ((OA.nil (K := K) (.of (H := upd (upd H' p1 (.tup [.ref av, .int 2])) p2 (.tup [])) upd_same)).same z3) upd_same).same z4
    exact ⟨_, _, rfl, (((sm.trans z1).trans z2).trans z3).trans z4, OA.of (l := [(deepO j, 2), (.z, 1)]) (.of upd_same) (.cons m1 (.cons m3 .nil))⟩
  · obtain ⟨u, v, rfl, sm, ov⟩ := h
    refine ⟨_, rfl, _, rfl, (by show 2 ≤ sizeLine; decide), fun p5 n5 => ?_⟩
    have z5 := same_new (o := .lst [.ref g, v]) n5
    exact q p5 (.ref g) v _ ((sA.trans sm).trans z5) upd_same ((og.same sm).same z5) (ov.same z5)
end
end Vw

set_option Elab.async false
set_option linter.all false
set_option maxRecDepth 100000
set_option maxHeartbeats 4000000
namespace Vw
open PySem PySem.W PyProof.Rows L2
abbrev sformat_ordinal : Stmt := top 16
theorem scformat_ordinal : FnScope ["ordinal", "exponent", "count"] ["ordinal"] (defScope sformat_ordinal) := ⟨rfl, rfl, rfl, by decide +kernel, rfl, by decide +kernel, by decide +kernel⟩
abbrev s_term_text : Stmt := top 17
theorem sc_term_text : FnScope ["exponent", "count", "power"] ["exponent", "count"] (defScope s_term_text) := ⟨rfl, rfl, rfl, by decide +kernel, rfl, by decide +kernel, by decide +kernel⟩
abbrev s_power_text : Stmt := top 18
theorem sc_power_text : FnScope ["exponent"] ["exponent"] (defScope s_power_text) := ⟨rfl, rfl, rfl, by decide +kernel, rfl, by decide +kernel, by decide +kernel⟩
section
variable {P : Program} {w : World} {K : PySem.W.Frag} {mg : Str → Option Value} {base : Heap}
def spTerm (K : PySem.W.Frag) (n : Nat) : Sp := fun vs H Q _ => ∃ (x : V) (e : O) (c : Int), vs = [x, .int c] ∧ OA K H x e ∧ O.ok e = true ∧ O.dp e < n ∧ O.dp e ≤ 50 ∧ O.cb e ≤ 1000 ∧ c.natAbs.log2 ≤ 1000 ∧ O.ms e ≤ 1000000 ∧ O.wd e ≤ 1000 ∧ ∀ H', Same H H' → Q (.str (O.tmT e (O.txt e) c)) H'
def spPowT (K : PySem.W.Frag) (n : Nat) : Sp := fun vs H Q _ => ∃ (x : V) (e : O), vs = [x] ∧ OA K H x e ∧ e ≠ .z ∧ O.ok e = true ∧ O.dp e < n ∧ O.dp e ≤ 50 ∧ O.cb e ≤ 1000 ∧ O.ms e ≤ 1000000 ∧ O.wd e ≤ 1000 ∧ ∀ H', Same H H' → Q (.str (O.pwT e (O.txt e))) H'
theorem txt_fit {o : O} (h : O.ms o ≤ 1000000) : (O.txt o).length ≤ 1000001 := Nat.le_trans (O.txt_len o) (by omega)
theorem pw_fit {o : O} (h : O.ms o ≤ 1000000) : (O.pwT o (O.txt o)).length ≤ 1000005 := by
  have h1 := txt_fit h
  have l1 : ("w" : Str).length = 1 := by decide +kernel
  have l2 : ("w^" : Str).length = 2 := by decide +kernel
  have l3 : ("w^(" : Str).length = 3 := by decide +kernel
  have l4 : (")" : Str).length = 1 := by decide +kernel
  unfold O.pwT
  split
  · omega
  · split
    · rw [Str.length_append]; omega
    · rw [Str.length_append, Str.length_append]; omega
theorem line24 : (2000000 : Nat) ≤ sizeLine := by decide
theorem ok_power_text  {aZERO : Addr} {aONE : Addr} {aVowError : Addr} {aParseError : Addr} (T : Txt K mg  aZERO aONE aVowError aParseError) {f f1 : Addr} {fd fd1 : FuncData} {n k : Nat} (F : Fun K "_power_text" "_power_text" s_power_text f fd) (C_format_ordinal : Cal P w K mg base k "format_ordinal" ["ordinal"] (spTxt K n) f1 fd1) : FnOk P w K mg base CX0 (k + 1) f fd ["exponent"] (spPowT K n) := by
  refine F.ok sc_power_text (fun vs H Q E h => ?_) (fun cdv A outer s H vs Q E hr h => ?_)
  · obtain ⟨_, _, rfl, _⟩ := h; rfl
  obtain ⟨x, e, rfl, hx, hne, hok, hd, hd2, hc, hm, hw, q⟩ := h
  refine ⟨_, (pss_cons (ps_if (pt_cmpR (op_eqO hr.units) (pv 0) (pe_glob (v := .ref aONE) (by rfl) T.m_ONE rfl) (nomark _)) (pss_one (ps_ret pe_str)) pss_nil)
  (pss_cons (ps_if (pt_cmpR (op_eqO hr.units) (pe_ix ix_tup (pe_ix ix_tup (pv 0) pe_int (fun _ _ => rfl)) pe_int (fun _ _ => rfl)) (pe_glob (v := .ref aZERO) (by rfl) T.m_ZERO rfl) (nomark _)) (pss_one (ps_ret (pe_joined (.cons pe_str (.cons (pe_fmt (pe_call C_format_ordinal.G (hr.mono (by omega)) (by rfl) C_format_ordinal.m C_format_ordinal.kp C_format_ordinal.b .nil pass0 (pa_cons (pv 0) pa_nil))) .nil))))) pss_nil)
  (pss_one (ps_ret (pe_joined (.cons pe_str (.cons (pe_fmt (pe_call C_format_ordinal.G (hr.mono (by omega)) (by rfl) C_format_ordinal.m C_format_ordinal.kp C_format_ordinal.b .nil pass0 (pa_cons (pv 0) pa_nil))) (.cons pe_str .nil)))))))), ?_⟩
  have l2 : ("w^" : Str).length = 2 := by decide +kernel
  have l3 : ("w^(" : Str).length = 3 := by decide +kernel
  have l4 : (")" : Str).length = 1 := by decide +kernel
  have lt := txt_fit hm
  have lz := line24
  refine ⟨_, rfl, rd_eq hx (T.t_ONE.tp (fun a xs h => by cases h)) (by omega) (by decide) ⟨_, rfl, ?_⟩⟩
  refine ite2 (fun e1 => ?_) (fun e1 => ?_)
  · have e1 : e = O.one := of_decide_eq_true e1
    have := q H (Same.refl H)
    rw [show O.pwT e (O.txt e) = "w" from by unfold O.pwT; rw [if_pos e1]] at this
    exact this
  have e1 : ¬ e = O.one := fun z => e1 (decide_eq_true z)
  obtain ⟨ax, rfl⟩ := hx.ref
  obtain ⟨xs, tx, px⟩ := hx.tt
  obtain ⟨b1, c1, r1, he⟩ : ∃ b1 c1 r1, e = .add b1 c1 r1 := by
    cases e with
    | z => exact absurd rfl hne
    | add b c r => exact ⟨b, c, r, rfl⟩
  have ht : (O.ts e)[0]? = some (b1, c1) := by rw [he]; rfl
  obtain ⟨v0, hv0, p1, q1, rfl, t1, o1⟩ := paired_get' px ht
  have db : O.dp b1 + 2 ≤ O.dp e := O.dp_mem (List.mem_of_getElem? ht)
  have hp : O.pwT e (O.txt e) = if b1 = .z then "w^" ++ O.txt e else "w^(" ++ O.txt e ++ ")" := by
    unfold O.pwT
    rw [if_neg e1, show (O.ts e).headD (O.z, 0) = (b1, c1) from by rw [he]; rfl]
  rw [hp] at q
  refine ⟨_, rfl, ax, xs, _, _, rfl, rfl, tx.sq, atI_nat (j := 0) hv0, p1, _, 0, _, rfl, rfl, t1.sq, rfl, rd_eq o1 (OA.nil (.inr T.t_ZERO)) (by show O.dp b1 ≤ 60; omega) (by decide) ⟨_, rfl, ?_⟩⟩
  refine ite2 (fun e2 => ?_) (fun e2 => ?_)
  · rw [if_pos (of_decide_eq_true e2)] at q
    refine ⟨_, rfl, by rw [Str.empty_append]; omega, _, rfl, _, e, rfl, hx, hok, hd, hd2, hc, hm, hw, fun H1 s1 => .inl ⟨_, rfl, by omega, _, rfl, by rw [Str.empty_append, Str.length_append]; omega, ?_⟩⟩
    rw [Str.empty_append]
    exact q H1 s1
  · rw [if_neg (fun z => e2 (decide_eq_true z))] at q
    refine ⟨_, rfl, by rw [Str.empty_append]; omega, _, rfl, _, e, rfl, hx, hok, hd, hd2, hc, hm, hw, fun H1 s1 => .inl ⟨_, rfl, by omega, _, rfl, by rw [Str.empty_append, Str.length_append]; omega, _, rfl, by rw [Str.empty_append, Str.length_append, Str.length_append]; omega, ?_⟩⟩
    rw [Str.empty_append]
    exact q H1 s1
theorem ok_term_text  {aZERO : Addr} {aONE : Addr} {aVowError : Addr} {aParseError : Addr} (T : Txt K mg  aZERO aONE aVowError aParseError) {f f1 : Addr} {fd fd1 : FuncData} {n k : Nat} (F : Fun K "_term_text" "_term_text" s_term_text f fd) (C__power_text : Cal P w K mg base k "_power_text" ["exponent"] (spPowT K n) f1 fd1) : FnOk P w K mg base CX0 (k + 1) f fd ["exponent", "count"] (spTerm K n) := by
  refine F.ok sc_term_text (fun vs H Q E h => ?_) (fun cdv A outer s H vs Q E hr h => ?_)
  · obtain ⟨_, _, _, rfl, _⟩ := h; rfl
  obtain ⟨x, e, c, rfl, hx, hok, hd, hd2, hc, hl, hm, hw, q⟩ := h
  refine ⟨_, (pss_cons (ps_if (pt_cmpR (op_eqO hr.units) (pv 0) (pe_glob (v := .ref aZERO) (by rfl) T.m_ZERO rfl) (nomark _)) (pss_one (ps_ret (pe_callTy call_str_int (by rfl) T.z_str (by decide +kernel) (pa_cons (pv 1) pa_nil)))) pss_nil)
  (pss_cons (ps_set (i := 2) sc_term_text.nd rfl (Or.inl rfl) (pe_call C__power_text.G (hr.mono (by omega)) (by rfl) C__power_text.m C__power_text.kp C__power_text.b .nil pass0 (pa_cons (pv 0) pa_nil)))
  (pss_one (ps_ret (pe_ifExp (pt_cmpR op_eq (pv 1) pe_int (nomark _)) (pv 2) (pe_joined (.cons (pe_fmt (pv 2)) (.cons pe_str (.cons (pe_fmt (pv 1)) .nil))))))))), ?_⟩
  have ln := O.nT_len c
  have l5 : ("*" : Str).length = 1 := by decide +kernel
  have lz := line24
  refine ⟨_, rfl, rd_eq hx (OA.nil (.inr T.t_ZERO)) (by omega) (by decide) ⟨_, rfl, ?_⟩⟩
  refine ite2 (fun e1 => ?_) (fun e1 => ?_)
  · have := q H (Same.refl H)
    rw [show O.tmT e (O.txt e) c = O.nT c from by unfold O.tmT; rw [if_pos (of_decide_eq_true e1)]] at this
    exact ⟨_, rfl, c, rfl, by omega, this⟩
  have e1 : ¬ e = O.z := fun z => e1 (decide_eq_true z)
  have hp : O.tmT e (O.txt e) c = if c = 1 then O.pwT e (O.txt e) else O.pwT e (O.txt e) ++ "*" ++ O.nT c := by
    unfold O.tmT; rw [if_neg e1]
  rw [hp] at q
  have lp := pw_fit hm
  refine ⟨_, rfl, x, e, rfl, hx, e1, hok, hd, hd2, hc, hm, hw, fun H1 s1 => ?_⟩
  refine ⟨_, rfl, rfl, _, rfl, ite2 (fun e2 => ?_) (fun e2 => ?_)⟩
  · rw [if_pos (V.int.inj (of_decide_eq_true e2))] at q
    exact ⟨_, rfl, q H1 s1⟩
  · rw [if_neg (fun z => e2 (decide_eq_true (by rw [z])))] at q
    refine ⟨_, rfl, .inl ⟨_, rfl, by omega, _, rfl, by rw [Str.empty_append]; omega, _, rfl, by rw [Str.empty_append, Str.length_append]; omega, _, rfl, .inr ⟨c, rfl, by omega, _, rfl, ?_, ?_⟩⟩⟩
    · show (_ ++ O.nT c).length ≤ _
      rw [Str.empty_append, Str.length_append, Str.length_append]; omega
    · rw [Str.empty_append]
      exact q H1 s1
theorem strs_sum : ∀ l : List Str, (l.map (·.length)).sum + l.length ≤ O.lens l := fun l => Nat.le_refl _
theorem ok_format_ordinal  {aZERO : Addr} {aONE : Addr} {aVowError : Addr} {aParseError : Addr} (T : Txt K mg  aZERO aONE aVowError aParseError) {f f1 : Addr} {fd fd1 : FuncData} {n k : Nat} (F : Fun K "format_ordinal" "format_ordinal" sformat_ordinal f fd) (C__term_text : Cal P w K mg base k "_term_text" ["exponent", "count"] (spTerm K n) f1 fd1) : FnOk P w K mg base CX0 (k + 1) f fd ["ordinal"] (spTxt K (n + 1)) := by
  refine F.ok scformat_ordinal (fun vs H Q E h => ?_) (fun cdv A outer s H vs Q E hr h => ?_)
  · obtain ⟨_, _, rfl, _⟩ := h; rfl
  obtain ⟨x, o, rfl, hx, hok, hd, hd2, hc, hm, hw, q⟩ := h
  refine ⟨_, (pss_cons (ps_if (pt_cmpR (op_eqO hr.units) (pv 0) (pe_glob (v := .ref aZERO) (by rfl) T.m_ZERO rfl) (nomark _)) (pss_one (ps_ret pe_str)) pss_nil)
  (pss_one (ps_ret (pe_join pe_str (pe_lc (own := [("exponent", 1), ("count", 2)]) (g := gTup K 2 (gCons (gName 1) (gCons (gName 2) (gNil)))) (tt := tYes) rfl scformat_ordinal.nd (pi_tup (pv 0)) (blkOk_by (own := [("exponent", 1), ("count", 2)]) (N := ["ordinal", "exponent", "count"]) (sc := defScope sformat_ordinal) (by decide +kernel)) (fun _ _ _ _ _ => (pg_tup (by rfl) (pgs_cons (pg_name (i := 1) scformat_ordinal.nd rfl (Or.inl rfl)) (pgs_cons (pg_name (i := 2) scformat_ordinal.nd rfl (Or.inl rfl)) pgs_nil)))) (fun _ _ _ _ _ => pts_nil) (fun _ _ _ _ _ => (pe_call C__term_text.G (hr.mono (by omega)) (by rfl) C__term_text.m C__term_text.kp C__term_text.b .nil pass0 (pa_cons (pv 1) (pa_cons (pv 2) pa_nil))))))))), ?_⟩
  refine ⟨_, rfl, rd_eq hx (OA.nil (.inr T.t_ZERO)) (by omega) (by decide) ⟨_, rfl, ?_⟩⟩
  refine ite2 (fun e1 => ?_) (fun e1 => ?_)
  · have e1 : o = .z := of_decide_eq_true e1
    subst e1
    exact q H (Same.refl H)
  have e1 : ¬ o = O.z := fun z => e1 (decide_eq_true z)
  obtain ⟨ax, rfl⟩ := hx.ref
  obtain ⟨xs, tx, px⟩ := hx.tt
  have lw := O.len_wd o
  have lx : xs.length ≤ 1000 := by rw [paired_len px]; omega
  have lt := O.txs_len o
  have ll : (O.txs o).length = xs.length := by rw [O.txs_ts, List.length_map, paired_len px]
  refine ⟨⟨_, rfl⟩, _, rfl, ax, rfl, ⟨_, tx.sq⟩, fun D nD => ?_⟩
  refine lc_tup (K := K) (a := ax) (xs := xs) (fun i H' => Same H H' ∧ H' D = some (.lst (((O.txs o).take i).map V.str))) ⟨same_new nD, upd_same⟩ (fun i H' _ h => (tx.same h.1).sq) (fun i v H' hv h => ?_) (fun H' h => ?_)
  · obtain ⟨sm, eD⟩ := h
    have hi : i < xs.length := (List.getElem?_eq_some_iff.mp hv).1
    obtain ⟨t, ht, p1, q1, rfl, t1, o1⟩ := paired_get px hv
    have hm1 := List.mem_of_getElem? ht
    have d1 := O.dp_mem hm1
    have d2 := O.cb_mem hm1
    have d3 := O.ms_mem hm1
    have d4 := O.wd_mem hm1
    have hte : (O.txs o)[i]? = some (O.tmT t.1 (O.txt t.1) t.2) := by rw [O.txs_ts, List.getElem?_map, ht]; rfl
    refine ⟨p1, _, rfl, (t1.same sm).sq, rfl, _, _, rfl, _, _, rfl, rfl, rfl, _, rfl, _, rfl, .ref q1, t.1, t.2, rfl, o1.same sm, (O.ok_mem hok hm1).1, by omega, by omega, by omega, by omega, by omega, by omega, fun H2 s2 => ⟨_, s2 _ _ eD, by rw [List.length_map, List.length_take]; exact small1000 (by omega), same_mut (sm.trans s2) nD, ?_⟩⟩
    rw [upd_same, List.take_add_one, hte, List.map_append]
    rfl
  · obtain ⟨sm, eD⟩ := h
    rw [← ll, List.take_length] at eD
    have hs : ((O.txs o).map (·.length)).sum + (O.txs o).length * ("+" : Str).length ≤ 16777216 := by
      have l1 : ("+" : Str).length = 1 := by decide +kernel
      unfold O.lens at lt
      rw [l1]; omega
    refine ⟨_, D, O.txs o, rfl, rfl, .inl (SqL.of eD), hs, ?_⟩
    have := q H' sm
    rw [show O.txt o = Txt.join "+" (O.txs o) from by
      unfold O.txt O.jnT
      rw [if_neg (fun z => e1 (by cases o with | z => rfl | add _ _ _ => cases z))]
      exact (StrLaws.glued_eq_join _ _).symm] at this
    exact this
theorem fmt_all  {aZERO : Addr} {aONE : Addr} {aVowError : Addr} {aParseError : Addr} (T : Txt K mg  aZERO aONE aVowError aParseError) {f f1 f2 : Addr} {fd fd1 fd2 : FuncData} (F : Fun K "format_ordinal" "format_ordinal" sformat_ordinal f fd) (bF : Binds K fd ["ordinal"] []) (mF : mg "format_ordinal" = some (.ref f)) (F1 : Fun K "_term_text" "_term_text" s_term_text f1 fd1) (b1 : Binds K fd1 ["exponent", "count"] []) (m1 : mg "_term_text" = some (.ref f1))
    (F2 : Fun K "_power_text" "_power_text" s_power_text f2 fd2) (b2 : Binds K fd2 ["exponent"] []) (m2 : mg "_power_text" = some (.ref f2)) : ∀ n : Nat, FnOk P w K mg base CX0 (3 * n) f fd ["ordinal"] (spTxt K n)
  | 0 => none_left fun vs H Q E h => by
    obtain ⟨_, _, _, _, _, h, _⟩ := h
    exact absurd h (Nat.not_lt_zero _)
  | n + 1 => ok_format_ordinal T F ⟨ok_term_text T F1 ⟨ok_power_text T F2 ⟨fmt_all T F bF mF F1 b1 m1 F2 b2 m2 n, mF, F.kp, bF⟩, m2, F2.kp, b2⟩, m1, F1.kp, b1⟩
end
end Vw

set_option Elab.async false
set_option linter.all false
set_option maxRecDepth 100000
set_option maxHeartbeats 4000000
namespace Vw
open PySem PySem.W PyProof.Rows L2
abbrev sformat_row : Stmt := top 19
theorem scformat_row : FnScope ["row", "ordinal"] ["row"] (defScope sformat_row) := ⟨rfl, rfl, rfl, by decide +kernel, rfl, by decide +kernel, by decide +kernel⟩
abbrev s_law_ordinal_text : Stmt := top 35
theorem sc_law_ordinal_text : FnScope ["_law_here", "_law_found", "_law_power", "_law_many_z", "_law_text_z"] ["_law_here"] (defScope s_law_ordinal_text) := ⟨rfl, rfl, rfl, by decide +kernel, rfl, by decide +kernel, by decide +kernel⟩
section
variable {P : Program} {w : World} {K : PySem.W.Frag} {mg : Str → Option Value} {base : Heap}
/-- what a text asks of an ordinal -/
def TxOk (n : Nat) (o : O) : Prop := O.ok o = true ∧ O.dp o < n ∧ O.dp o ≤ 50 ∧ O.cb o ≤ 1000 ∧ O.ms o ≤ 1000000 ∧ O.wd o ≤ 1000
def spRowT (K : PySem.W.Frag) (n : Nat) : Sp := fun vs H Q _ => ∃ (x : V) (os : List O), vs = [x] ∧ RowA K H x os ∧ (∀ o ∈ os, TxOk n o) ∧ os.length ≤ 3 ∧ ∀ H', Same H H' → Q (.str (rowT os)) H'
theorem texts_sum {n : Nat} : ∀ {os : List O}, (∀ o ∈ os, TxOk n o) → ((os.map O.txt).map (·.length)).sum ≤ os.length * 1000001
  | [], _ => Nat.zero_le _
  | o :: r, h => by
    have h1 := texts_sum (n := n) (os := r) fun x hx => h x (List.mem_cons_of_mem _ hx)
    have h2 := txt_fit (h o List.mem_cons_self).2.2.2.2.1
    show (O.txt o).length + ((r.map O.txt).map (·.length)).sum ≤ (r.length + 1) * 1000001
    omega
theorem row_sum {n : Nat} {os : List O} (h : ∀ o ∈ os, TxOk n o) (hl : os.length ≤ 3) : ((os.map O.txt).map (·.length)).sum + (os.map O.txt).length * ("," : Str).length ≤ 16777216 := by
  have h1 := texts_sum h
  have l1 : ("," : Str).length = 1 := by decide +kernel
  rw [l1, List.length_map]
  omega
theorem row_join (os : List O) : rowT os = Txt.join "," (os.map O.txt) := (StrLaws.glued_eq_join _ _).symm
theorem ok_format_row  {aZERO : Addr} {aONE : Addr} {aVowError : Addr} {aParseError : Addr} (T : Txt K mg  aZERO aONE aVowError aParseError) {f f1 : Addr} {fd fd1 : FuncData} {n k : Nat} (F : Fun K "format_row" "format_row" sformat_row f fd) (C_format_ordinal : Cal P w K mg base k "format_ordinal" ["ordinal"] (spTxt K n) f1 fd1) : FnOk P w K mg base CX0 (k + 1) f fd ["row"] (spRowT K n) := by
  refine F.ok scformat_row (fun vs H Q E h => ?_) (fun cdv A outer s H vs Q E hr h => ?_)
  · obtain ⟨_, _, rfl, _⟩ := h; rfl
  obtain ⟨x, os, rfl, hx, hos, hl, q⟩ := h
  refine ⟨_, (pss_one (ps_ret (pe_join pe_str (pe_lc (own := [("ordinal", 1)]) (g := gName 1) (tt := tYes) rfl scformat_row.nd (pi_tup (pv 0)) (blkOk_by (own := [("ordinal", 1)]) (N := ["row", "ordinal"]) (sc := defScope sformat_row) (by decide +kernel)) (fun _ _ _ _ _ => (pg_name (i := 1) scformat_row.nd rfl (Or.inl rfl))) (fun _ _ _ _ _ => pts_nil) (fun _ _ _ _ _ => (pe_call C_format_ordinal.G (hr.mono (by omega)) (by rfl) C_format_ordinal.m C_format_ordinal.kp C_format_ordinal.b .nil pass0 (pa_cons (pv 1) pa_nil))))))), ?_⟩
  obtain ⟨ax, xs, rfl, tx, px⟩ := hx
  have lx : xs.length = os.length := paired_len px
  refine ⟨⟨_, rfl⟩, _, rfl, ax, rfl, ⟨_, tx.sq⟩, fun D nD => ?_⟩
  refine lc_tup (K := K) (a := ax) (xs := xs) (fun i H' => Same H H' ∧ H' D = some (.lst (((os.map O.txt).take i).map V.str))) ⟨same_new nD, upd_same⟩ (fun i H' _ h => (tx.same h.1).sq) (fun i v H' hv h => ?_) (fun H' h => ?_)
  · obtain ⟨sm, eD⟩ := h
    have hi : i < xs.length := (List.getElem?_eq_some_iff.mp hv).1
    obtain ⟨o, ho, oa⟩ := paired_get px hv
    obtain ⟨h1, h2, h3, h4, h5, h6⟩ := hos o (List.mem_of_getElem? ho)
    have hte : (os.map O.txt)[i]? = some (O.txt o) := by rw [List.getElem?_map, ho]; rfl
    refine ⟨rfl, _, rfl, v, o, rfl, oa.same sm, h1, h2, h3, h4, h5, h6, fun H2 s2 => ⟨_, s2 _ _ eD, by rw [List.length_map, List.length_take]; exact small1000 (by omega), same_mut (sm.trans s2) nD, ?_⟩⟩
    rw [upd_same, List.take_add_one, hte, List.map_append]
    rfl
  · obtain ⟨sm, eD⟩ := h
    rw [show xs.length = (os.map O.txt).length from by rw [List.length_map]; exact lx, List.take_length] at eD
    refine ⟨_, D, os.map O.txt, rfl, rfl, .inl (SqL.of eD), row_sum hos hl, ?_⟩
    rw [← row_join]
    exact q H' sm
/-! ### the law's own text -/
theorem strOk_of (s : String) : PyData.strOk (Str.ofString s) = true := by
  unfold PyData.strOk
  rw [Str.ofString_eq_toList, ← Array.all_toList, List.all_eq_true]
  intro c hc
  simp only [List.mem_map] at hc
  obtain ⟨ch, _, rfl⟩ := hc
  have := ch.valid
  refine decide_eq_true ?_
  have h : ch.val.toNat < 0x110000 := by
    rcases this with h | h
    · exact Nat.lt_trans h (by decide)
    · exact h.2
  exact h
theorem strOk_app {a b : Str} (h1 : PyData.strOk a = true) (h2 : PyData.strOk b = true) : PyData.strOk (a ++ b) = true := by
  unfold PyData.strOk at *
  rw [Str.cps_append, Array.all_append, h1, h2]; rfl
theorem strOk_join {s : Str} (hs : PyData.strOk s = true) : ∀ l : List Str, (∀ x ∈ l, PyData.strOk x = true) → PyData.strOk (Str.join s l) = true
  | [], _ => (by decide +kernel : PyData.strOk Str.empty = true)
  | [x], h => h x List.mem_cons_self
  | x :: y :: r, h => strOk_app (strOk_app (h x List.mem_cons_self) hs) (strOk_join hs (y :: r) fun z hz => h z (List.mem_cons_of_mem _ hz))
theorem strOk_tm {e : O} {te : Str} {c : Int} (h : PyData.strOk te = true) : PyData.strOk (O.tmT e te c) = true := by
  have hp : PyData.strOk (O.pwT e te) = true := by
    unfold O.pwT
    split
    · exact strOk_of _
    · split
      · exact strOk_app (strOk_of _) h
      · exact strOk_app (strOk_app (strOk_of _) h) (strOk_of _)
  unfold O.tmT
  split
  · exact strOk_of _
  · split
    · exact hp
    · exact strOk_app (strOk_app hp (strOk_of _)) (strOk_of _)
theorem strOk_jn {l : List Str} (h : ∀ x ∈ l, PyData.strOk x = true) : PyData.strOk (O.jnT l) = true := by
  unfold O.jnT
  split
  · exact strOk_of _
  · exact strOk_join (strOk_of _) l h
theorem strOk_txs : ∀ o : O, ∀ x ∈ O.txs o, PyData.strOk x = true
  | .z, x, h => by cases h
  | .add e c r, x, h => by
    rcases List.mem_cons.mp h with q | q
    · rw [q]; exact strOk_tm (strOk_jn (strOk_txs e))
    · exact strOk_txs r x q
theorem rd_neNil_strs {K : PySem.W.Frag} {H : Hp} {Q : VK} {D D2 : Addr} {xs : List Str} (h : H D = some (.lst (xs.map V.str))) (h2 : H D2 = some (.lst [])) (ho : ∀ x ∈ xs, PyData.strOk x = true) (q : Q (.bl (!xs.isEmpty)) H) : rNeO K (.ref D) (.ref D2) H Q := by
  unfold rNeO
  refine ⟨.list (xs.map PyData.str), .list [], .lst (SqL.of h) (strs_dpT xs), .lst (SqL.of h2) .nil, shaped_strsT xs ho, shaped_strsT [] (fun _ h => by cases h), ?_⟩
  have : (!PyData.eqv (.list (xs.map PyData.str)) (.list [])) = !xs.isEmpty := by
    cases xs with
    | nil => simp [PyData.eqv, PyData.eqvAll]
    | cons x r => simp [PyData.eqv, PyData.eqvAll]
  rw [this]; exact q
theorem num_head {e : O} (hok : O.ok e = true) {c : Int} {r : O} (h : e = .add .z c r) : O.txt e = O.nT c := by
  subst h
  have := (O.ok_add.mp hok).2.2.2
  have hr : r = .z := by
    cases r with
    | z => rfl
    | add e' c' r' =>
      have h2 : O.lt e' .z = true := this
      cases e' <;> cases h2
  subst hr
  rfl
theorem ok_lorder_text  {aZERO : Addr} {aONE : Addr} {aVowError : Addr} {aParseError : Addr} (T : Txt K mg  aZERO aONE aVowError aParseError) {f f1 : Addr} {fd fd1 : FuncData} {n k : Nat} (F : Fun K "_law_ordinal_text" "_law_ordinal_text" s_law_ordinal_text f fd) (C__law_ordinal_text : Cal P w K mg base (k + 1) "_law_ordinal_text" ["_law_here"] (spTxt K n) f fd) (C__law_num : Cal P w K mg base 1 "_law_num" ["_law_many_z"] (spNum K) f1 fd1) : FnOk P w K mg base CX0 (k + 2) f fd ["_law_here"] (spTxt K (n + 1)) := by
  refine F.ok sc_law_ordinal_text (fun vs H Q E h => ?_) (fun cdv A outer s H vs Q E hr h => ?_)
  · obtain ⟨_, _, rfl, _⟩ := h; rfl
  obtain ⟨x, o, rfl, hx, hok, hd, hd2, hc, hm, hw, q⟩ := h
  refine ⟨_, (pss_cons (ps_set (i := 1) sc_law_ordinal_text.nd rfl (Or.inl rfl) (pe_lst pa_nil))
  (pss_cons (ps_for PassesOwn.never rfl (pi_tup (pv 0)) (pg_tup (by rfl) (pgs_cons (pg_name (i := 2) sc_law_ordinal_text.nd rfl (Or.inl rfl)) (pgs_cons (pg_name (i := 3) sc_law_ordinal_text.nd rfl (Or.inl rfl)) pgs_nil)))
   (pss_one (ps_if (pt_cmpR (op_eqO hr.units) (pv 2) (pe_tup pa_nil) (nomark _)) (pss_one (ps_expr (pe_bm PySem.F.plainAttrs_list PySem.F.slot_list_append PySem.F.type_list_append mt_append (pv 1) (pa_cons (pe_callTy call_str_int (by rfl) T.z_str (by decide +kernel) (pa_cons (pv 3) pa_nil)) pa_nil)))) (pss_cons (ps_set (i := 4) sc_law_ordinal_text.nd rfl (Or.inl rfl) (pe_cut (pe_ifExp (pt_cmpR (op_eqO hr.units) (pv 2) (pe_call C__law_num.G (hr.mono (by omega)) (by rfl) C__law_num.m C__law_num.kp C__law_num.b .nil pass0 (pa_cons pe_int pa_nil)) (nomark _)) pe_str (pe_op op_add_str (pe_op op_add_str pe_str (pe_call C__law_ordinal_text.G (hr.mono (by omega)) (by rfl) C__law_ordinal_text.m C__law_ordinal_text.kp C__law_ordinal_text.b .nil pass0 (pa_cons (pv 2) pa_nil))) pe_str))))
  (C8.pss_cut (ps_if (PW.pt (pw_and (pt_cmpR (op_neO hr.units) (pv 2) (pe_call C__law_num.G (hr.mono (by omega)) (by rfl) C__law_num.m C__law_num.kp C__law_num.b .nil pass0 (pa_cons pe_int pa_nil)) (nomark _)) (pw_and1 (pt_cmpR (op_eqO hr.units) (pe_ix ix_tup (pe_ix ix_tup (pv 2) pe_int (fun _ _ => rfl)) pe_int (fun _ _ => rfl)) (pe_tup pa_nil) (nomark _))))) (pss_one (ps_set (i := 4) sc_law_ordinal_text.nd rfl (Or.inl rfl) (pe_op op_add_str pe_str (pe_callTy call_str_int (by rfl) T.z_str (by decide +kernel) (pa_cons (pe_ix ix_tup (pe_ix ix_tup (pv 2) pe_int (fun _ _ => rfl)) pe_int (fun _ _ => rfl)) pa_nil))))) pss_nil)
  (pss_one (ps_expr (pe_bm PySem.F.plainAttrs_list PySem.F.slot_list_append PySem.F.type_list_append mt_append (pv 1) (pa_cons (pe_op op_add_str (pv 4) (pe_cut (pe_ifExp (pt_cmpR op_eq (pv 3) pe_int (nomark _)) pe_str (pe_op op_add_str pe_str (pe_callTy call_str_int (by rfl) T.z_str (by decide +kernel) (pa_cons (pv 3) pa_nil)))))) pa_nil)))))))))
  (pss_one (ps_ret (pe_ifExp (pt_cmpR (op_neO hr.units) (pv 1) (pe_lst pa_nil) (nomark _)) (pe_join pe_str (pv 1)) pe_str))))), ?_⟩
  obtain ⟨ax, rfl⟩ := hx.ref
  obtain ⟨xs, tx, px⟩ := hx.tt
  have lw := O.len_wd o
  have lx : xs.length ≤ 1000 := by rw [paired_len px]; omega
  have lt := O.txs_len o
  have ll : (O.txs o).length = xs.length := by rw [O.txs_ts, List.length_map, paired_len px]
  have l1 : ("w" : Str).length = 1 := by decide +kernel
  have l2 : ("w^" : Str).length = 2 := by decide +kernel
  have l3 : ("w^(" : Str).length = 3 := by decide +kernel
  have l4 : (")" : Str).length = 1 := by decide +kernel
  have l5 : ("*" : Str).length = 1 := by decide +kernel
  have lz := line24
  refine ⟨(by show 0 ≤ sizeLine; decide), fun D nD => ⟨_, rfl, ax, rfl, ⟨_, (tx.same (same_new nD)).sq⟩, ?_⟩⟩
  refine for_tup (xs := xs) (fun i σ H' => ∃ u2 u3 u4, σ = [some (.ref ax), some (.ref D), u2, u3, u4] ∧ Same H H' ∧ H' D = some (.lst (((O.txs o).take i).map V.str))) ⟨_, _, _, rfl, same_new nD, upd_same⟩ (fun i σ H' _ h => ?_) (fun i y σ H1 hy h => ?_) (fun σ H' h => ?_)
  · obtain ⟨_, _, _, _, sm, _⟩ := h
    exact (tx.same sm).sq
  · obtain ⟨u2, u3, u4, rfl, sm, eD⟩ := h
    have hi : i < xs.length := (List.getElem?_eq_some_iff.mp hy).1
    obtain ⟨t, ht, p1, q1, rfl, t1, o1⟩ := paired_get px hy
    have hm1 := List.mem_of_getElem? ht
    have d1 := O.dp_mem hm1
    have d2 := O.cb_mem hm1
    have d3 := O.ms_mem hm1
    have d4 := O.wd_mem hm1
    have dok := (O.ok_mem hok hm1).1
    have hte : (O.txs o)[i]? = some (O.tmT t.1 (O.txt t.1) t.2) := by rw [O.txs_ts, List.getElem?_map, ht]; rfl
    have lp := pw_fit (o := t.1) (by omega)
    have lx2 := txt_fit (o := t.1) (by omega)
    have ln := O.nT_len t.2
    have app : ∀ (H4 : Hp) (y : Str), Same H1 H4 → y = O.tmT t.1 (O.txt t.1) t.2 → (upd H4 D (.lst (((O.txs o).take i).map V.str ++ [.str y]))) D = some (.lst (((O.txs o).take (i + 1)).map V.str)) := fun H4 y _ e => by
      rw [upd_same, List.take_add_one, hte, List.map_append, e]; rfl
    have ll2 : (((O.txs o).take i).map V.str).length < sizeLine := by rw [List.length_map, List.length_take]; exact small1000 (by omega)
    refine ⟨p1, _, rfl, (t1.same sm).sq, rfl, _, _, rfl, _, _, rfl, rfl, ?_⟩
    refine ⟨_, rfl, (by show 0 ≤ sizeLine; decide), fun p0 n0 => rd_eq (o1.same (sm.trans (same_new n0))) (OA.nil (.of upd_same)) (by omega) (by decide) ⟨_, rfl, ?_⟩⟩
    have z0 := same_new (o := .tup []) n0
    generalize upd H1 p0 (.tup []) = H2 at *
    refine ite2 (fun e1 => ?_) (fun e1 => ?_)
    · have e1 : t.1 = .z := of_decide_eq_true e1
      refine ⟨_, rfl, .inl ⟨rfl, _, SqL.of (z0 _ _ eD)⟩, _, rfl, t.2, rfl, by omega, D, _, _, rfl, rfl, z0 _ _ eD, ll2, ?_⟩
      exact ⟨_, _, _, rfl, same_mut (sm.trans z0) nD, app _ _ z0 (by unfold O.tmT; rw [if_pos e1]; rfl)⟩
    have e1 : ¬ t.1 = O.z := fun z => e1 (decide_eq_true z)
    have o2 := o1.same (sm.trans z0)
    have eD2 := z0 _ _ eD
    have s2 := sm.trans z0
    refine ⟨fun v H' => Same H2 H' ∧ v = .str (if t.1 = O.one then "w" else "w^(" ++ O.txt t.1 ++ ")"), ?_, fun v H3 hv => ?_⟩
    · refine ⟨_, rfl, 1, rfl, fun v Hn sn on => rd_eq (o2.same sn) on (by omega) (by decide) ⟨_, rfl, ?_⟩⟩
      refine ite2 (fun e2 => ⟨sn, ?_⟩) (fun e2 => ?_)
      · rw [if_pos (show t.1 = O.one from of_decide_eq_true e2)]
      · have e2 : ¬ t.1 = O.one := fun z => e2 (decide_eq_true z)
        refine ⟨_, rfl, _, t.1, rfl, o2.same sn, dok, by omega, by omega, by omega, by omega, by omega, fun H4 s4 => ⟨_, _, rfl, rfl, by omega, _, _, rfl, rfl, by rw [Str.length_append]; omega, sn.trans s4, ?_⟩⟩
        rw [if_neg e2]
    obtain ⟨s3, rfl⟩ := hv
    have o3 := o2.same s3
    have s23 := s2.trans s3
    refine ⟨fun σ' H' => Same H3 H' ∧ σ' = [some (.ref ax), some (.ref D), some (.ref q1), some (.int t.2), some (.str (O.pwT t.1 (O.txt t.1)))], ?_, fun σ' H' h => ?_⟩
    · refine ⟨_, rfl, 1, rfl, fun v Hn sn on => rd_ne (o3.same sn) on (by omega) (by decide) ⟨_, rfl, ?_⟩⟩
      refine ite2 (fun e2 => ?_) (fun e2 => ?_)
      · have e2 : ¬ t.1 = O.one := by simpa [show O.num 1 = O.one from rfl] using e2
        obtain ⟨b1, c1, r1, he⟩ : ∃ b1 c1 r1, t.1 = .add b1 c1 r1 := by
          cases h : t.1 with
          | z => exact absurd h e1
          | add b c r => exact ⟨b, c, r, rfl⟩
        obtain ⟨ys, ty, py⟩ := (o3.same sn).tt
        have ht2 : (O.ts t.1)[0]? = some (b1, c1) := by rw [he]; rfl
        obtain ⟨v0, hv0, p2, q2, rfl, t2, o4⟩ := paired_get' py ht2
        have db : O.dp b1 + 2 ≤ O.dp t.1 := O.dp_mem (List.mem_of_getElem? ht2)
        have cb2 : c1.natAbs.log2 ≤ O.cb t.1 := (O.cb_mem (List.mem_of_getElem? ht2)).2
        have ln2 := O.nT_len c1
        refine ⟨_, rfl, q1, ys, _, _, rfl, rfl, ty.sq, atI_nat (j := 0) hv0, p2, _, 0, _, rfl, rfl, t2.sq, rfl, (by show 0 ≤ sizeLine; decide), fun p5 n5 => rd_eq (o4.same (same_new n5)) (OA.nil (.of upd_same)) (by show O.dp b1 ≤ 60; omega) (by decide) ⟨_, rfl, ?_⟩⟩
        have z5 := same_new (o := .tup []) n5
        refine ite2 (fun e3 => ?_) (fun e3 => ?_)
        · have e3 : b1 = .z := of_decide_eq_true e3
          refine ⟨_, rfl, q1, ys, _, _, rfl, rfl, (ty.same z5).sq, atI_nat (j := 0) hv0, p2, _, 1, _, rfl, rfl, (t2.same z5).sq, rfl, c1, rfl, by omega, _, _, rfl, rfl, ?_, sn.trans z5, ?_⟩
          · show _ + (O.nT c1).length ≤ _
            omega
          · have : O.pwT t.1 (O.txt t.1) = "w^" ++ O.nT c1 := by
              unfold O.pwT
              rw [if_neg e2, show (O.ts t.1).headD (O.z, 0) = (b1, c1) from by rw [he]; rfl, if_pos e3, num_head dok (by rw [he, e3])]
            rw [this]; rfl
        · have e3 : ¬ b1 = O.z := fun z => e3 (decide_eq_true z)
          refine ⟨sn.trans z5, ?_⟩
          have : O.pwT t.1 (O.txt t.1) = "w^(" ++ O.txt t.1 ++ ")" := by
            unfold O.pwT
            rw [if_neg e2, show (O.ts t.1).headD (O.z, 0) = (b1, c1) from by rw [he]; rfl, if_neg e3]
          rw [this, if_neg e2]; rfl
      · have e2 : t.1 = O.one := by simpa [show O.num 1 = O.one from rfl] using e2
        refine ⟨sn, ?_⟩
        have : O.pwT t.1 (O.txt t.1) = "w" := by unfold O.pwT; rw [if_pos e2]
        rw [this, if_pos e2]; rfl
    obtain ⟨s5, rfl⟩ := h
    have eD5 := (s3.trans s5) _ _ eD2
    have s25 := s2.trans (s3.trans s5)
    refine ⟨_, rfl, .inl ⟨rfl, _, SqL.of eD5⟩, _, rfl, ?_⟩
    refine ⟨fun v H7 => H7 = H' ∧ v = .str (if t.2 = 1 then "" else "*" ++ O.nT t.2), ?_, fun v H6 hv => ?_⟩
    · refine ⟨_, rfl, rfl, _, rfl, ite2 (fun e2 => ?_) (fun e2 => ?_)⟩
      · rw [if_pos (V.int.inj (of_decide_eq_true e2))]
        exact ⟨rfl, rfl⟩
      · rw [if_neg (fun z => e2 (decide_eq_true (by rw [z])))]
        refine ⟨_, rfl, t.2, rfl, by omega, _, _, rfl, rfl, ?_, rfl, rfl⟩
        show _ + (O.nT t.2).length ≤ _
        omega
    obtain ⟨rfl, rfl⟩ := hv
    have l0 : ("" : Str).length = 0 := by decide +kernel
    refine ⟨_, _, rfl, rfl, ?_, D, _, _, rfl, rfl, eD5, ll2, ?_⟩
    · split
      · omega
      · rw [Str.length_append]; omega
    refine ⟨_, _, _, rfl, same_mut s25 nD, app _ _ (z0.trans (s3.trans s5)) ?_⟩
    unfold O.tmT
    rw [if_neg e1]
    split
    · exact Str.append_empty _
    · rw [Str.append_assoc]
  · obtain ⟨u2, u3, u4, rfl, sm, eD⟩ := h
    rw [← ll, List.take_length] at eD
    refine ⟨_, rfl, (by show 0 ≤ sizeLine; decide), fun p0 n0 => rd_neNil_strs (same_new n0 _ _ eD) upd_same (strOk_txs o) ⟨_, rfl, ?_⟩⟩
    have z0 := same_new (o := .lst []) n0
    refine ite2 (fun e => ?_) (fun e => ?_)
    · have hne : O.txs o ≠ [] := fun z => by rw [z] at e; cases e
      have hs : ((O.txs o).map (·.length)).sum + (O.txs o).length * ("+" : Str).length ≤ 16777216 := by
        have l1 : ("+" : Str).length = 1 := by decide +kernel
        unfold O.lens at lt
        rw [l1]; omega
      refine ⟨⟨_, rfl⟩, _, rfl, _, D, O.txs o, rfl, rfl, .inl (SqL.of (z0 _ _ eD)), hs, ?_⟩
      have := q _ (sm.trans z0)
      rw [show O.txt o = Txt.join "+" (O.txs o) from by
        unfold O.txt O.jnT
        rw [if_neg hne]
        exact (StrLaws.glued_eq_join _ _).symm] at this
      exact this
    · have he : O.txs o = [] := by
        cases h : O.txs o with
        | nil => rfl
        | cons a r => rw [h] at e; exact absurd rfl e
      have := q _ (sm.trans z0)
      rw [show O.txt o = "0" from by unfold O.txt O.jnT; rw [if_pos he]] at this
      exact this
theorem ltext_all  {aZERO : Addr} {aONE : Addr} {aVowError : Addr} {aParseError : Addr} (T : Txt K mg  aZERO aONE aVowError aParseError) {f f1 : Addr} {fd fd1 : FuncData} (F : Fun K "_law_ordinal_text" "_law_ordinal_text" s_law_ordinal_text f fd) (bF : Binds K fd ["_law_here"] []) (mF : mg "_law_ordinal_text" = some (.ref f)) (C1 : Cal P w K mg base 1 "_law_num" ["_law_many_z"] (spNum K) f1 fd1) : ∀ n : Nat, FnOk P w K mg base CX0 (n + 1) f fd ["_law_here"] (spTxt K n)
  | 0 => fn_mono (none_left fun vs H Q E h => by
    obtain ⟨_, _, _, _, _, h, _⟩ := h
    exact absurd h (Nat.not_lt_zero _)) (Nat.zero_le _)
  | n + 1 => ok_lorder_text T F ⟨ltext_all T F bF mF C1 n, mF, F.kp, bF⟩ C1
end
end Vw

set_option Elab.async false
set_option linter.all false
set_option maxRecDepth 100000
set_option maxHeartbeats 4000000
namespace Vw
open PySem PySem.W PyProof.Rows L2 TL
abbrev s_number_at : Stmt := top 24
theorem sc_number_at : FnScope ["text", "at", "behind"] ["text", "at"] (defScope s_number_at) := ⟨rfl, rfl, rfl, by decide +kernel, rfl, by decide +kernel, by decide +kernel⟩
section
variable {P : Program} {w : World} {K : PySem.W.Frag} {mg : Str → Option Value} {base : Heap}
theorem line26 : (10000000 : Nat) ≤ sizeLine := by decide
theorem ok_number_at  {aZERO : Addr} {aONE : Addr} {aVowError : Addr} {aParseError : Addr} (T : Txt K mg  aZERO aONE aVowError aParseError) {f : Addr} {fd : FuncData} {k : Nat} (F : Fun K "_number_at" "_number_at" s_number_at f fd) : FnOk P w K mg base CX0 (k + 1) f fd ["text", "at"] (spNumAt K) := by
  refine F.ok sc_number_at (fun vs H Q E h => ?_) (fun cdv A outer s H vs Q E hr h => ?_)
  · obtain ⟨_, _, _, _, rfl, _⟩ := h; rfl
  obtain ⟨t, a, c, r, rfl, lt, hc, hl, hf, hd, q⟩ := h
  refine ⟨_, (pss_cons (ps_set (i := 2) sc_number_at.nd rfl (Or.inl rfl) (pv 1))
  (C8.pss_cut (ps_while PassesOwn.never (pt_chain op_le_str op_le_str pe_str (pe_slice sl_str (pv 0) (po_some (pv 2)) (po_some (pe_op op_add (pv 2) pe_int))) pe_str) (pss_one (ps_aug (i := 2) sc_number_at.nd rfl (Or.inl rfl) pe_int ip_add)))
  (pss_cons (ps_if (PW.pt (pw_or (pt_cmpR op_eq (pv 2) (pv 1) (nomark _)) (pw_or1 (pt_cmpR op_gt (pe_op op_sub (pv 2) (pv 1)) (pe_globI (by rfl) T.m__MOST_DIGITS) (nomark _))))) (pss_one ps_never) pss_nil)
  (pss_one (ps_ret (pe_tup (pa_cons (pe_callTy call_int_str (by rfl) T.z_int (by decide +kernel) (pa_cons (pe_slice sl_str (pv 0) (po_some (pv 1)) (po_some (pv 2))) pa_nil)) (pa_cons (pv 2) pa_nil)))))))), ?_⟩
  have lz := line26
  have e1 := nT_cps hc
  have ln : (numL c.toNat).length = (O.nT c).length := by rw [← e1, len_cps]
  refine ⟨_, rfl, ?_⟩
  refine ⟨fun σ H' => H' = H ∧ σ = [some (.str t), some (.int (a : Nat)), some (.int ((a + (O.nT c).length : Nat) : Int))], ⟨fun n σ H' => ∃ j, σ = [some (.str t), some (.int (a : Nat)), some (.int ((a + j : Nat) : Int))] ∧ H' = H ∧ j ≤ (O.nT c).length ∧ n = (O.nT c).length - j, ⟨_, 0, rfl, rfl, Nat.zero_le _, rfl⟩, fun n σ H1 h => ?_⟩, fun σ H1 h => ?_⟩
  · obtain ⟨j, rfl, rfl, hj, hn⟩ := h
    have fj : From t (a + j) = (numL c.toNat).drop j ++ r := by
      unfold From at *
      rw [← List.drop_drop, hf, e1, List.drop_append_of_le_length (by omega)]
    have b1 := dg_low t (a + j)
    have b2 := dg_high t (a + j)
    have hdg := dg_eq (From t (a + j))
    rw [← b1, ← b2] at hdg
    have in_ : j < (O.nT c).length → dg (From t (a + j)) = true := fun hlt => by
      have := digits_get (n := c.toNat) (i := j) (by omega)
      rw [fj]
      unfold dg at *
      rw [List.head?_append]
      cases h : ((numL c.toNat).drop j).head? with
      | none => rw [h] at this; cases this
      | some x => rw [h] at this; exact this
    have out_ : j = (O.nT c).length → dg (From t (a + j)) = false := fun he => by
      rw [fj, List.drop_eq_nil_of_le (by omega), List.nil_append]; exact hd
    have stop : dg (From t (a + j)) = false → j = (O.nT c).length := fun h => by
      by_cases hlt : j < (O.nT c).length
      · rw [in_ hlt] at h; cases h
      · omega
    refine ⟨_, rfl, _, rfl, _, rfl, _, rfl, _, _, rfl, rfl, _, rfl, t, rfl, by omega, _, _, rfl, rfl, _, rfl, ?_⟩
    refine ite2 (fun e => ?_) (fun e => ?_)
    · have e : (!decide ((cutS t (some ((a + j : Nat) : Int)) (some (((a + j : Nat) : Int) + 1))).cps.toList < ("0" : Str).cps.toList)) = true := e
      refine ⟨_, _, rfl, rfl, _, rfl, ite2 (fun e2 => ?_) (fun e2 => ?_)⟩
      · have e2 : (!decide (("9" : Str).cps.toList < (cutS t (some ((a + j : Nat) : Int)) (some (((a + j : Nat) : Int) + 1))).cps.toList)) = true := e2
        rw [e, e2] at hdg
        have hlt : j < (O.nT c).length := by
          by_cases he : j = (O.nT c).length
          · rw [out_ he] at hdg; cases hdg
          · omega
        refine ⟨fun σ' H' => ∃ m', m' < n ∧ ∃ j, σ' = [some (.str t), some (.int (a : Nat)), some (.int ((a + j : Nat) : Int))] ∧ H' = H1 ∧ j ≤ (O.nT c).length ∧ m' = (O.nT c).length - j, fun σ' H' h => h, ?_⟩
        refine ⟨_, rfl, _, _, rfl, rfl, (O.nT c).length - (j + 1), by omega, j + 1, rfl, rfl, by omega, rfl⟩
      · have e2 : ¬ (!decide (("9" : Str).cps.toList < (cutS t (some ((a + j : Nat) : Int)) (some (((a + j : Nat) : Int) + 1))).cps.toList)) = true := e2
        rw [e, Bool.eq_false_iff.mpr e2] at hdg
        have := stop hdg
        exact ⟨rfl, by rw [this]⟩
    · have e : ¬ (!decide ((cutS t (some ((a + j : Nat) : Int)) (some (((a + j : Nat) : Int) + 1))).cps.toList < ("0" : Str).cps.toList)) = true := e
      rw [Bool.eq_false_iff.mpr e, Bool.false_and] at hdg
      have := stop hdg
      exact ⟨_, rfl, rfl, by rw [this]⟩
  · obtain ⟨rfl, rfl⟩ := h
    have hcut : cutS t (some (a : Nat)) (some ((a + (O.nT c).length : Nat) : Int)) = O.nT c := str_ext (by
      rw [cut_at t (Nat.le_add_right _ _), hf, Nat.add_sub_cancel_left, ← len_cps, List.take_left])
    have hne : 0 < (O.nT c).length := by
      rw [← ln]; exact List.length_pos_iff.mpr (numL_ne _)
    refine ⟨_, rfl, _, rfl, rfl, _, rfl, ite2 (fun e => ?_) (fun e => ⟨_, rfl, _, rfl, _, _, rfl, rfl, _, _, rfl, rfl, _, rfl, ite2 (fun e2 => ?_) (fun e2 => ?_)⟩)⟩
    · have e : V.int ((a + (O.nT c).length : Nat) : Int) = V.int (a : Nat) := of_decide_eq_true e
      have := V.int.inj e
      omega
    · have e2 : (30 : Int) < ((a + (O.nT c).length : Nat) : Int) - (a : Nat) := of_decide_eq_true e2
      omega
    · refine ⟨_, rfl, _, rfl, _, rfl, _, rfl, _, rfl, t, rfl, by omega, O.nT c, c, by rw [hcut], nT_int hc hl, by omega, _, rfl, (by show 2 ≤ sizeLine; decide), fun p np => q p _ (same_new np) (.of upd_same)⟩
end
end Vw

set_option Elab.async false
set_option linter.all false
set_option maxRecDepth 100000
set_option maxHeartbeats 4000000
namespace Vw
open PySem PySem.W PyProof.Rows L2 TL
abbrev s_term_at : Stmt := top 22
theorem sc_term_at : FnScope ["text", "at", "count", "exponent"] ["text", "at"] (defScope s_term_at) := ⟨rfl, rfl, rfl, by decide +kernel, rfl, by decide +kernel, by decide +kernel⟩
abbrev s_exponent_at : Stmt := top 23
theorem sc_exponent_at : FnScope ["text", "at", "number", "exponent"] ["text", "at"] (defScope s_exponent_at) := ⟨rfl, rfl, rfl, by decide +kernel, rfl, by decide +kernel, by decide +kernel⟩
abbrev s_terms_at : Stmt := top 21
theorem sc_terms_at : FnScope ["text", "at", "found", "term"] ["text", "at"] (defScope s_terms_at) := ⟨rfl, rfl, rfl, by decide +kernel, rfl, by decide +kernel, by decide +kernel⟩
section
variable {P : Program} {w : World} {K : PySem.W.Frag} {mg : Str → Option Value} {base : Heap}
theorem from_take {t : Str} {a : Nat} {s r : List Nat} (h : From t a = s ++ r) : From t (a + s.length) = r := from_app h
theorem ok_term_at  {aZERO : Addr} {aONE : Addr} {aVowError : Addr} {aParseError : Addr} (T : Txt K mg  aZERO aONE aVowError aParseError) {f f1 f2 : Addr} {fd fd1 fd2 : FuncData} {n k : Nat} (F : Fun K "_term_at" "_term_at" s_term_at f fd) (C__number_at : Cal P w K mg base (k + 1) "_number_at" ["text", "at"] (spNumAt K) f1 fd1)
    (C__exponent_at : Cal P w K mg base (k + 1) "_exponent_at" ["text", "at"] (spExpAt K n) f2 fd2) : FnOk P w K mg base CX0 (k + 2) f fd ["text", "at"] (spTermAt K n) := by
  refine F.ok sc_term_at (fun vs H Q E h => ?_) (fun cdv A outer s H vs Q E hr h => ?_)
  · obtain ⟨_, _, _, _, _, rfl, _⟩ := h; rfl
  obtain ⟨t, a, e, c, r, rfl, lt, hok, hd, hcb, hw, hc, hf, he, q⟩ := h
  refine ⟨_, (pss_cons (ps_if (pt_cmpR op_ne (pe_slice sl_str (pv 0) (po_some (pv 1)) (po_some (pe_op op_add (pv 1) pe_int))) pe_str (nomark _)) (pss_cons (ps_asg (pe_call C__number_at.G (hr.mono (by omega)) (by rfl) C__number_at.m C__number_at.kp C__number_at.b .nil pass0 (pa_cons (pv 0) (pa_cons (pv 1) pa_nil))) (pg_tup (by rfl) (pgs_cons (pg_name (i := 2) sc_term_at.nd rfl (Or.inl rfl)) (pgs_cons (pg_name (i := 1) sc_term_at.nd rfl (Or.inl rfl)) pgs_nil))))
  (pss_one (ps_ret (pe_tup (pa_cons (pe_tup (pa_cons (pe_glob (v := .ref aZERO) (by rfl) T.m_ZERO rfl) (pa_cons (pv 2) pa_nil))) (pa_cons (pv 1) pa_nil)))))) pss_nil)
  (pss_cons (ps_asg (pe_call C__exponent_at.G (hr.mono (by omega)) (by rfl) C__exponent_at.m C__exponent_at.kp C__exponent_at.b .nil pass0 (pa_cons (pv 0) (pa_cons (pe_op op_add (pv 1) pe_int) pa_nil))) (pg_tup (by rfl) (pgs_cons (pg_name (i := 3) sc_term_at.nd rfl (Or.inl rfl)) (pgs_cons (pg_name (i := 1) sc_term_at.nd rfl (Or.inl rfl)) pgs_nil))))
  (pss_cons (ps_if (pt_cmpR op_ne (pe_slice sl_str (pv 0) (po_some (pv 1)) (po_some (pe_op op_add (pv 1) pe_int))) pe_str (nomark _)) (pss_one (ps_ret (pe_tup (pa_cons (pe_tup (pa_cons (pv 3) (pa_cons pe_int pa_nil))) (pa_cons (pv 1) pa_nil))))) pss_nil)
  (pss_cons (ps_asg (pe_call C__number_at.G (hr.mono (by omega)) (by rfl) C__number_at.m C__number_at.kp C__number_at.b .nil pass0 (pa_cons (pv 0) (pa_cons (pe_op op_add (pv 1) pe_int) pa_nil))) (pg_tup (by rfl) (pgs_cons (pg_name (i := 2) sc_term_at.nd rfl (Or.inl rfl)) (pgs_cons (pg_name (i := 1) sc_term_at.nd rfl (Or.inl rfl)) pgs_nil))))
  (pss_one (ps_ret (pe_tup (pa_cons (pe_tup (pa_cons (pv 3) (pa_cons (pv 2) pa_nil))) (pa_cons (pv 1) pa_nil))))))))), ?_⟩
  have lz := line26
  have c0 : 0 ≤ c := by have := hc.1; omega
  have ew : ("w" : Str).cps.toList = [119] := by decide +kernel
  have es : ("*" : Str).cps.toList = [42] := by decide +kernel
  refine ⟨_, rfl, _, rfl, _, rfl, _, rfl, _, _, rfl, rfl, _, rfl, t, rfl, by omega, rfl, _, rfl, ?_⟩
  have hs := is_sign t a "w" 119 ew
  by_cases hz : e = .z
  · have htm : O.tmT e (O.txt e) c = O.nT c := by unfold O.tmT; rw [if_pos hz]
    rw [htm] at hf q
    refine ite2 (fun e1 => ?_) (fun e1 => ?_)
    · refine ⟨_, rfl, _, rfl, t, a, c, r, rfl, lt, c0, hc.len, hf, he.e.dg, fun p H1 s1 t1 => ⟨p, _, rfl, t1.sq, rfl, _, _, rfl, _, _, rfl, rfl, ?_⟩⟩
      refine ⟨_, rfl, (by show 2 ≤ sizeLine; decide), fun p2 n2 => ⟨_, rfl, (by show 2 ≤ sizeLine; decide), fun p3 n3 => ?_⟩⟩
      have z2 := same_new (o := .tup [.ref aZERO, .int c]) n2
      have z3 := same_new (o := .tup [.ref p2, .int ((a + (O.nT c).length : Nat) : Int)]) n3
      refine q p3 (.ref p2) _ ((s1.trans z2).trans z3) (.of upd_same) ?_
      rw [hz]
      exact (TmA.new (OA.nil (.inr T.t_ZERO)) upd_same).same z3
    · exfalso
      have e1 : ¬ (!decide (V.str (cutS t (some (a : Int)) (some ((a : Int) + 1))) = V.str "w")) = true := e1
      rw [hs, decide_eq_false (dg_not (by rw [hf, nT_cps c0]; exact dg_num r) (by omega))] at e1
      exact e1 rfl
  · have htm := tm_exp hz c
    have hlen : (O.tmT e (O.txt e) c).length = 1 + (expT e).length + (cntT c).length := by
      rw [htm, Str.length_append, Str.length_append]
      have : ("w" : Str).length = 1 := by decide +kernel
      omega
    have hf0 : From t a = 119 :: ((expT e).cps.toList ++ ((cntT c).cps.toList ++ r)) := by
      rw [hf, htm, cps_app, cps_app, ew]; simp
    have hf1 : From t (a + 1) = (expT e).cps.toList ++ ((cntT c).cps.toList ++ r) := from_app (s := [119]) hf0
    refine ite2 (fun e1 => ?_) (fun e1 => ?_)
    · exfalso
      have e1 : (!decide (V.str (cutS t (some (a : Int)) (some ((a : Int) + 1))) = V.str "w")) = true := e1
      rw [hs, decide_eq_true (by rw [hf0]; rfl)] at e1
      cases e1
    refine ⟨_, rfl, _, rfl, _, _, rfl, rfl, t, a + 1, e, _, rfl, lt, hz, hok, hd, hcb, hw, hf1, cnt_end he, fun p v H1 s1 t1 o1 => ⟨p, _, rfl, t1.sq, rfl, _, _, rfl, _, _, rfl, rfl, ?_⟩⟩
    have hf2 : From t (a + 1 + (expT e).length) = (cntT c).cps.toList ++ r := by
      rw [← len_cps]; exact from_app hf1
    refine ⟨_, rfl, _, rfl, _, rfl, _, rfl, _, _, rfl, rfl, _, rfl, t, rfl, by omega, rfl, _, rfl, ?_⟩
    have hs2 := is_sign t (a + 1 + (expT e).length) "*" 42 es
    by_cases h1 : c = 1
    · have hcn : cntT c = "" := by unfold cntT; rw [if_pos h1]
      have e0 : ("" : Str).cps.toList = [] := by decide +kernel
      have l0 : ("" : Str).length = 0 := by decide +kernel
      rw [hcn, e0, List.nil_append] at hf2
      rw [hcn, l0] at hlen
      refine ite2 (fun e2 => ?_) (fun e2 => ?_)
      · refine ⟨_, rfl, (by show 2 ≤ sizeLine; decide), fun p2 n2 => ⟨_, rfl, (by show 2 ≤ sizeLine; decide), fun p3 n3 => ?_⟩⟩
        have z2 := same_new (o := .tup [v, .int 1]) n2
        have z3 := same_new (o := .tup [.ref p2, .int ((a + 1 + (expT e).length : Nat) : Int)]) n3
        refine q p3 (.ref p2) _ ((s1.trans z2).trans z3) ?_ ?_
        · rw [show a + (O.tmT e (O.txt e) c).length = a + 1 + (expT e).length from by omega]
          exact .of upd_same
        · rw [h1]
          obtain ⟨va, rfl⟩ := o1.ref
          exact (TmA.new (o1.same z2) upd_same).same z3
      · exfalso
        have e2 : ¬ (!decide (V.str (cutS t (some ((a + 1 + (expT e).length : Nat) : Int)) (some (((a + 1 + (expT e).length : Nat) : Int) + 1))) = V.str "*")) = true := e2
        rw [hs2, decide_eq_false (by rw [hf2]; exact he.not (by omega) (by omega))] at e2
        exact e2 rfl
    · have hcn : cntT c = "*" ++ O.nT c := by unfold cntT; rw [if_neg h1]
      have ls : ("*" : Str).length = 1 := by decide +kernel
      rw [hcn, cps_app, es] at hf2
      rw [hcn, Str.length_append, ls] at hlen
      have hf3 : From t (a + 1 + (expT e).length + 1) = (O.nT c).cps.toList ++ r := from_app (s := [42]) (by rw [hf2]; simp)
      refine ite2 (fun e2 => ?_) (fun e2 => ?_)
      · exfalso
        have e2 : (!decide (V.str (cutS t (some ((a + 1 + (expT e).length : Nat) : Int)) (some (((a + 1 + (expT e).length : Nat) : Int) + 1))) = V.str "*")) = true := e2
        rw [hs2, decide_eq_true (by rw [hf2]; rfl)] at e2
        cases e2
      · refine ⟨_, rfl, _, rfl, _, _, rfl, rfl, t, a + 1 + (expT e).length + 1, c, r, rfl, lt, c0, hc.len, hf3, he.e.dg, fun p4 H4 s4 t4 => ⟨p4, _, rfl, t4.sq, rfl, _, _, rfl, _, _, rfl, rfl, ?_⟩⟩
        refine ⟨_, rfl, _, rfl, (by show 2 ≤ sizeLine; decide), fun p2 n2 => ⟨_, rfl, (by show 2 ≤ sizeLine; decide), fun p3 n3 => ?_⟩⟩
        have z2 := same_new (o := .tup [v, .int c]) n2
        have z3 := same_new (o := .tup [.ref p2, .int ((a + 1 + (expT e).length + 1 + (O.nT c).length : Nat) : Int)]) n3
        refine q p3 (.ref p2) _ (((s1.trans s4).trans z2).trans z3) ?_ ?_
        · rw [show a + (O.tmT e (O.txt e) c).length = a + 1 + (expT e).length + 1 + (O.nT c).length from by omega]
          exact .of upd_same
        · obtain ⟨va, rfl⟩ := o1.ref
          exact (TmA.new ((o1.same s4).same z2) upd_same).same z3
theorem ok_exponent_at  {aZERO : Addr} {aONE : Addr} {aVowError : Addr} {aParseError : Addr} (T : Txt K mg  aZERO aONE aVowError aParseError) {f f1 f2 f3 : Addr} {fd fd1 fd2 fd3 : FuncData} {n k : Nat} (F : Fun K "_exponent_at" "_exponent_at" s_exponent_at f fd) (C__number_at : Cal P w K mg base (k + 2) "_number_at" ["text", "at"] (spNumAt K) f1 fd1)
    (C_natural : Cal P w K mg base (k + 2) "natural" ["number"] (spNat K) f2 fd2) (C__terms_at : Cal P w K mg base (k + 2) "_terms_at" ["text", "at"] (spTermsAt K n) f3 fd3) : FnOk P w K mg base CX0 (k + 3) f fd ["text", "at"] (spExpAt K n) := by
  refine F.ok sc_exponent_at (fun vs H Q E h => ?_) (fun cdv A outer s H vs Q E hr h => ?_)
  · obtain ⟨_, _, _, _, rfl, _⟩ := h; rfl
  obtain ⟨t, a, e, r, rfl, lt, hz, hok, hd, hcb, hw, hf, he, q⟩ := h
  refine ⟨_, (pss_cons (ps_if (pt_cmpR op_ne (pe_slice sl_str (pv 0) (po_some (pv 1)) (po_some (pe_op op_add (pv 1) pe_int))) pe_str (nomark _)) (pss_one (ps_ret (pe_tup (pa_cons (pe_glob (v := .ref aONE) (by rfl) T.m_ONE rfl) (pa_cons (pv 1) pa_nil))))) pss_nil)
  (pss_cons (ps_if (pt_cmpR op_ne (pe_slice sl_str (pv 0) (po_some (pe_op op_add (pv 1) pe_int)) (po_some (pe_op op_add (pv 1) pe_int))) pe_str (nomark _)) (pss_cons (ps_asg (pe_call C__number_at.G (hr.mono (by omega)) (by rfl) C__number_at.m C__number_at.kp C__number_at.b .nil pass0 (pa_cons (pv 0) (pa_cons (pe_op op_add (pv 1) pe_int) pa_nil))) (pg_tup (by rfl) (pgs_cons (pg_name (i := 2) sc_exponent_at.nd rfl (Or.inl rfl)) (pgs_cons (pg_name (i := 1) sc_exponent_at.nd rfl (Or.inl rfl)) pgs_nil))))
  (pss_one (ps_ret (pe_tup (pa_cons (pe_call C_natural.G (hr.mono (by omega)) (by rfl) C_natural.m C_natural.kp C_natural.b .nil pass0 (pa_cons (pv 2) pa_nil)) (pa_cons (pv 1) pa_nil)))))) pss_nil)
  (pss_cons (ps_asg (pe_call C__terms_at.G (hr.mono (by omega)) (by rfl) C__terms_at.m C__terms_at.kp C__terms_at.b .nil pass0 (pa_cons (pv 0) (pa_cons (pe_op op_add (pv 1) pe_int) pa_nil))) (pg_tup (by rfl) (pgs_cons (pg_name (i := 3) sc_exponent_at.nd rfl (Or.inl rfl)) (pgs_cons (pg_name (i := 1) sc_exponent_at.nd rfl (Or.inl rfl)) pgs_nil))))
  (pss_one (ps_ret (pe_tup (pa_cons (pv 3) (pa_cons (pe_op op_add (pv 1) pe_int) pa_nil)))))))), ?_⟩
  have lz := line26
  have e0 : ("" : Str).cps.toList = [] := by decide +kernel
  have l0 : ("" : Str).length = 0 := by decide +kernel
  have ec : ("^" : Str).cps.toList = [94] := by decide +kernel
  have lc : ("^" : Str).length = 1 := by decide +kernel
  have ep : ("^(" : Str).cps.toList = [94, 40] := by decide +kernel
  have lp : ("^(" : Str).length = 2 := by decide +kernel
  have eo : ("(" : Str).cps.toList = [40] := by decide +kernel
  have eq : (")" : Str).cps.toList = [41] := by decide +kernel
  have lq : (")" : Str).length = 1 := by decide +kernel
  have hs := is_sign t a "^" 94 ec
  refine ⟨_, rfl, _, rfl, _, rfl, _, rfl, _, _, rfl, rfl, _, rfl, t, rfl, by omega, rfl, _, rfl, ?_⟩
  by_cases h1 : e = O.one
  · have hx : expT e = "" := by unfold expT; rw [if_pos h1]
    rw [hx, e0, List.nil_append] at hf
    rw [hx, l0] at q
    refine ite2 (fun e1 => ?_) (fun e1 => ?_)
    · refine ⟨_, rfl, (by show 2 ≤ sizeLine; decide), fun p np => q p (.ref aONE) _ (same_new np) (.of upd_same) ?_⟩
      rw [h1]
      exact (T.t_ONE.tp (fun a xs h => by cases h))
    · exfalso
      have e1 : ¬ (!decide (V.str (cutS t (some (a : Int)) (some ((a : Int) + 1))) = V.str "^")) = true := e1
      rw [hs, decide_eq_false (by rw [hf]; exact he.not (by omega) (by omega) (by omega))] at e1
      exact e1 rfl
  have stop : (From t a).head? = some 94 → ¬ (!decide (V.str (cutS t (some (a : Int)) (some ((a : Int) + 1))) = V.str "^")) = true := fun h z => by
    rw [hs, decide_eq_true h] at z
    cases z
  have hs2 := is_sign t (a + 1) "(" 40 eo
  by_cases h2 : ((O.ts e).headD (.z, 0)).1 = .z
  · have hx : expT e = "^" ++ O.txt e := by unfold expT; rw [if_neg h1, if_pos h2]
    obtain ⟨c, rr, hee⟩ : ∃ c rr, e = .add .z c rr := by
      cases e with
      | z => exact absurd rfl hz
      | add b c rr =>
        have : b = .z := h2
        subst this
        exact ⟨c, rr, rfl⟩
    have hnum := num_head hok hee
    have hcok : 1 ≤ c := by rw [hee] at hok; exact (O.ok_add.mp hok).2.1
    have hcb2 : c.natAbs.log2 ≤ 90 := by
      have : c.natAbs.log2 ≤ O.cb e := by rw [hee]; show _ ≤ max _ (max _ _); omega
      omega
    have hrr : e = O.num c := by
      have hr0 : rr = .z := by
        rw [hee] at hok
        have h2 := (O.ok_add.mp hok).2.2.2
        cases rr with
        | z => rfl
        | add e' c' r' =>
          have h3 : O.lt e' .z = true := h2
          cases e' <;> cases h3
      rw [hee, hr0]; unfold O.num; rw [if_pos (by omega)]
    have hc30 : (O.nT c).length ≤ 30 := COk.len ⟨hcok, hcb2⟩
    rw [hx, cps_app, ec, hnum] at hf
    rw [hx, Str.length_append, lc, hnum] at q
    have hf1 : From t (a + 1) = (O.nT c).cps.toList ++ r := from_app (s := [94]) (by rw [hf]; simp)
    refine ite2 (fun e1 => absurd e1 (stop (by rw [hf]; rfl))) (fun _ => ?_)
    refine ⟨_, rfl, _, rfl, _, _, rfl, rfl, _, rfl, _, rfl, _, _, rfl, rfl, _, rfl, t, rfl, by omega, rfl, _, rfl, ?_⟩
    refine ite2 (fun e2 => ?_) (fun e2 => ?_)
    · refine ⟨_, rfl, _, rfl, _, _, rfl, rfl, t, a + 1, c, r, rfl, lt, by omega, hc30, hf1, he.dg, fun p H1 s1 t1 => ⟨p, _, rfl, t1.sq, rfl, _, _, rfl, _, _, rfl, rfl, ?_⟩⟩
      refine ⟨_, rfl, c, rfl, by omega, fun v H2 s2 o2 => ⟨_, rfl, (by show 2 ≤ sizeLine; decide), fun p3 n3 => ?_⟩⟩
      refine q p3 v _ ((s1.trans s2).trans (same_new n3)) ?_ ?_
      · rw [show a + (1 + (O.nT c).length) = a + 1 + (O.nT c).length from by omega]
        exact .of upd_same
      · rw [hrr]; exact o2.same (same_new n3)
    · exfalso
      have e2 : ¬ (!decide (V.str (cutS t (some ((a + 1 : Nat) : Int)) (some (((a + 1 : Nat) : Int) + 1))) = V.str "(")) = true := e2
      rw [hs2, decide_eq_false (dg_not (by rw [hf1, nT_cps (by omega)]; exact dg_num r) (by omega))] at e2
      exact e2 rfl
  · have hx : expT e = "^(" ++ O.txt e ++ ")" := by unfold expT; rw [if_neg h1, if_neg h2]
    rw [hx, cps_app, cps_app, ep, eq] at hf
    rw [hx, Str.length_append, Str.length_append, lp, lq] at q
    have hf2 : From t (a + 2) = (O.txt e).cps.toList ++ (41 :: r) := from_app (s := [94, 40]) (by rw [hf]; simp)
    have hf1 : From t (a + 1) = 40 :: ((O.txt e).cps.toList ++ (41 :: r)) := from_app (s := [94]) (by rw [hf]; simp)
    refine ite2 (fun e1 => absurd e1 (stop (by rw [hf]; rfl))) (fun _ => ?_)
    refine ⟨_, rfl, _, rfl, _, _, rfl, rfl, _, rfl, _, rfl, _, _, rfl, rfl, _, rfl, t, rfl, by omega, rfl, _, rfl, ?_⟩
    refine ite2 (fun e2 => ?_) (fun e2 => ?_)
    · exfalso
      have e2 : (!decide (V.str (cutS t (some ((a + 1 : Nat) : Int)) (some (((a + 1 : Nat) : Int) + 1))) = V.str "(")) = true := e2
      rw [hs2, decide_eq_true (by rw [hf1]; rfl)] at e2
      cases e2
    · refine ⟨_, rfl, _, rfl, _, _, rfl, rfl, t, a + 2, e, _, rfl, lt, hz, hok, hd, hcb, hw, hf2, .inr ⟨r, rfl⟩, fun p v H1 s1 t1 o1 => ⟨p, _, rfl, t1.sq, rfl, _, _, rfl, _, _, rfl, rfl, ?_⟩⟩
      refine ⟨_, rfl, _, rfl, _, _, rfl, rfl, (by show 2 ≤ sizeLine; decide), fun p3 n3 => ?_⟩
      refine q p3 v _ (s1.trans (same_new n3)) ?_ (o1.same (same_new n3))
      rw [show a + (2 + (O.txt e).length + 1) = a + 2 + (O.txt e).length + 1 from by omega]
      exact .of upd_same
end
end Vw

set_option Elab.async false
set_option linter.all false
set_option maxRecDepth 100000
set_option maxHeartbeats 4000000
namespace Vw
open PySem PySem.W PyProof.Rows L2 TL
section
variable {P : Program} {w : World} {K : PySem.W.Frag} {mg : Str → Option Value} {base : Heap}
theorem join_drop {l : List Str} {i : Nat} {x : Str} (h : l[i]? = some x) : Str.join "+" (l.drop i) = if i + 1 < l.length then x ++ "+" ++ Str.join "+" (l.drop (i + 1)) else x := by
  have hi := (List.getElem?_eq_some_iff.mp h).1
  have hd : l.drop i = x :: l.drop (i + 1) := by
    rw [List.drop_eq_getElem_cons hi, (List.getElem?_eq_some_iff.mp h).2]
  rw [hd]
  split
  · rename_i h2
    cases e : l.drop (i + 1) with
    | nil => exact absurd (List.drop_eq_nil_iff.mp e) (by omega)
    | cons y r => rfl
  · rename_i h2
    rw [List.drop_eq_nil_of_le (by omega)]; rfl
theorem ok_terms_at  {aZERO : Addr} {aONE : Addr} {aVowError : Addr} {aParseError : Addr} (T : Txt K mg  aZERO aONE aVowError aParseError) {f f1 : Addr} {fd fd1 : FuncData} {n k : Nat} (F : Fun K "_terms_at" "_terms_at" s_terms_at f fd) (C__term_at : Cal P w K mg base k "_term_at" ["text", "at"] (spTermAt K n) f1 fd1) : FnOk P w K mg base CX0 (k + 1) f fd ["text", "at"] (spTermsAt K (n + 1)) := by
  refine F.ok sc_terms_at (fun vs H Q E h => ?_) (fun cdv A outer s H vs Q E hr h => ?_)
  · obtain ⟨_, _, _, _, rfl, _⟩ := h; rfl
  obtain ⟨t, a, o, r, rfl, lt, hz, hok, hd, hcb, hw, hf, he, q⟩ := h
  refine ⟨_, (pss_cons (ps_set (i := 2) sc_terms_at.nd rfl (Or.inl rfl) (pe_lst pa_nil))
  (pss_one (ps_while PassesOwn.never (pt_val pe_bl) (pss_cons (ps_asg (pe_call C__term_at.G (hr.mono (by omega)) (by rfl) C__term_at.m C__term_at.kp C__term_at.b .nil pass0 (pa_cons (pv 0) (pa_cons (pv 1) pa_nil))) (pg_tup (by rfl) (pgs_cons (pg_name (i := 3) sc_terms_at.nd rfl (Or.inl rfl)) (pgs_cons (pg_name (i := 1) sc_terms_at.nd rfl (Or.inl rfl)) pgs_nil))))
  (pss_cons (ps_expr (pe_bm PySem.F.plainAttrs_list PySem.F.slot_list_append PySem.F.type_list_append mt_append (pv 2) (pa_cons (pv 3) pa_nil)))
  (pss_cons (ps_if (pt_cmpR op_ne (pe_slice sl_str (pv 0) (po_some (pv 1)) (po_some (pe_op op_add (pv 1) pe_int))) pe_str (nomark _)) (pss_one (ps_ret (pe_tup (pa_cons (pe_callTy call_tuple_of (by rfl) T.z_tuple (by decide +kernel) (pa_cons (pv 2) pa_nil)) (pa_cons (pv 1) pa_nil))))) pss_nil)
  (pss_one (ps_aug (i := 1) sc_terms_at.nd rfl (Or.inl rfl) pe_int ip_add)))))))), ?_⟩
  have lz := line26
  have ep : ("+" : Str).cps.toList = [43] := by decide +kernel
  have lp : ("+" : Str).length = 1 := by decide +kernel
  have ll : (O.txs o).length = (O.ts o).length := by rw [O.txs_ts, List.length_map]
  have l0 : 0 < (O.ts o).length := by
    cases o with
    | z => exact absurd rfl hz
    | add _ _ _ => exact Nat.succ_pos _
  have lw := O.len_wd o
  have htx : O.txt o = Str.join "+" (O.txs o) := by
    unfold O.txt O.jnT
    rw [if_neg (fun z => by rw [z] at ll; exact absurd ll.symm (by show ¬ (O.ts o).length = 0; omega))]
  refine ⟨(by show 0 ≤ sizeLine; decide), fun D nD => ?_⟩
  refine ⟨fun m σ H' => ∃ (i b : Nat) (u : Option V) (fs : List V), σ = [some (.str t), some (.int (b : Nat)), some (.ref D), u] ∧ i < (O.ts o).length ∧ m = (O.ts o).length - i ∧ Same H H' ∧ H' D = some (.lst fs) ∧ fs.length = i ∧ Paired (TmA K H') fs ((O.ts o).take i) ∧ From t b = (Str.join "+" ((O.txs o).drop i)).cps.toList ++ r ∧ b + (Str.join "+" ((O.txs o).drop i)).length = a + (O.txt o).length, ⟨_, 0, a, _, [], rfl, l0, rfl, same_new nD, upd_same, rfl, .nil, by rw [List.drop_zero, ← htx]; exact hf, by rw [List.drop_zero, ← htx]⟩, fun m σ H1 h => ?_⟩
  obtain ⟨i, b, u, fs, rfl, hi, hm, sm, eD, lf, pf, hfb, hlen⟩ := h
  refine ⟨_, rfl, iteT ?_⟩
  obtain ⟨tm, ht⟩ : ∃ tm, (O.ts o)[i]? = some tm := ⟨_, List.getElem?_eq_getElem hi⟩
  have hmm := List.mem_of_getElem? ht
  have d1 := O.dp_mem hmm
  have d2 := O.cb_mem hmm
  have d4 := O.wd_mem hmm
  have dok := O.ok_mem hok hmm
  have hte : (O.txs o)[i]? = some (O.tmT tm.1 (O.txt tm.1) tm.2) := by rw [O.txs_ts, List.getElem?_map, ht]; rfl
  have hj := join_drop hte
  rw [ll] at hj
  -- what stands behind the term
  obtain ⟨rest, hrest, hend, hnext⟩ : ∃ rest, From t b = (O.tmT tm.1 (O.txt tm.1) tm.2).cps.toList ++ rest ∧ endT rest ∧ ((i + 1 < (O.ts o).length ∧ rest = 43 :: ((Str.join "+" ((O.txs o).drop (i + 1))).cps.toList ++ r)) ∨ (¬ i + 1 < (O.ts o).length ∧ rest = r)) := by
    by_cases h2 : i + 1 < (O.ts o).length
    · rw [if_pos h2] at hj
      refine ⟨_, ?_, .inr ⟨43, _, rfl, .inl rfl⟩, .inl ⟨h2, rfl⟩⟩
      rw [hfb, hj, cps_app, cps_app, ep]; simp
    · rw [if_neg h2] at hj
      exact ⟨r, by rw [hfb, hj], he.t, .inr ⟨h2, rfl⟩⟩
  refine ⟨fun σ' H' => ∃ m', m' < m ∧ ∃ (i b : Nat) (u : Option V) (fs : List V), σ' = [some (.str t), some (.int (b : Nat)), some (.ref D), u] ∧ i < (O.ts o).length ∧ m' = (O.ts o).length - i ∧ Same H H' ∧ H' D = some (.lst fs) ∧ fs.length = i ∧ Paired (TmA K H') fs ((O.ts o).take i) ∧ From t b = (Str.join "+" ((O.txs o).drop i)).cps.toList ++ r ∧ b + (Str.join "+" ((O.txs o).drop i)).length = a + (O.txt o).length, fun σ' H' h => h, _, rfl, _, rfl, t, b, tm.1, tm.2, rest, rfl, lt, dok.1, by omega, by omega, by omega, ⟨dok.2, by omega⟩, hrest, hend, fun p v H2 s2 t2 o2 => ⟨p, _, rfl, t2.sq, rfl, _, _, rfl, _, _, rfl, rfl, ?_⟩⟩
  have eD2 := s2 _ _ eD
  have tG := tp_lst (o := .lst (fs ++ [v])) eD2
  have sG : Same H (upd H2 D (.lst (fs ++ [v]))) := same_mut (sm.trans s2) nD
  have pG : Paired (TmA K (upd H2 D (.lst (fs ++ [v])))) (fs ++ [v]) ((O.ts o).take (i + 1)) := by
    rw [List.take_add_one, ht]
    exact terms_tp tG (paired_app (terms_tp (same_tp s2) pf) (.cons o2 .nil))
  refine ⟨_, rfl, .inl ⟨rfl, _, SqL.of eD2⟩, _, rfl, D, fs, _, rfl, rfl, eD2, small1000 (by omega), ?_⟩
  have eG : (upd H2 D (.lst (fs ++ [v]))) D = some (.lst (fs ++ [v])) := upd_same
  generalize upd H2 D (.lst (fs ++ [v])) = G at *
  have hb2 : From t (b + (O.tmT tm.1 (O.txt tm.1) tm.2).length) = rest := by rw [← len_cps]; exact from_app hrest
  have hs := is_sign t (b + (O.tmT tm.1 (O.txt tm.1) tm.2).length) "+" 43 ep
  refine ⟨_, rfl, _, rfl, _, rfl, _, rfl, _, _, rfl, rfl, _, rfl, t, rfl, by omega, rfl, _, rfl, ?_⟩
  rcases hnext with ⟨h2, hr2⟩ | ⟨h2, hr2⟩
  · refine ite2 (fun e => ?_) (fun e => ?_)
    · exfalso
      have e : (!decide (V.str (cutS t (some ((b + (O.tmT tm.1 (O.txt tm.1) tm.2).length : Nat) : Int)) (some (((b + (O.tmT tm.1 (O.txt tm.1) tm.2).length : Nat) : Int) + 1))) = V.str "+")) = true := e
      rw [hs, decide_eq_true (by rw [hb2, hr2]; rfl)] at e
      cases e
    · rw [if_pos h2] at hj
      rw [hj, Str.length_append, Str.length_append, lp] at hlen
      refine ⟨_, rfl, _, _, rfl, rfl, (O.ts o).length - (i + 1), by omega, i + 1, b + (O.tmT tm.1 (O.txt tm.1) tm.2).length + 1, _, fs ++ [v], rfl, h2, rfl, sG, eG, by rw [List.length_append, lf]; rfl, pG, ?_, by omega⟩
      exact from_app (s := [43]) (by rw [hb2, hr2]; simp)
  · refine ite2 (fun e => ?_) (fun e => ?_)
    · rw [if_neg h2] at hj
      rw [hj] at hlen
      refine ⟨_, rfl, D, fs ++ [v], rfl, .inl ⟨SqL.of eG, fun g ng => ⟨_, rfl, (by show 2 ≤ sizeLine; decide), fun p3 n3 => ?_⟩⟩⟩
      have z1 := same_new (o := .tup (fs ++ [v])) ng
      have z2 := same_new (o := .tup [.ref g, .int ((b + (O.tmT tm.1 (O.txt tm.1) tm.2).length : Nat) : Int)]) n3
      refine q p3 (.ref g) _ ((sG.trans z1).trans z2) (by rw [← hlen]; exact .of upd_same) ?_
      have := OA.of (K := K) (.of (H := upd G g (.tup (fs ++ [v]))) upd_same) (terms_tp (same_tp z1) pG)
      rw [List.take_of_length_le (by omega), O.of_ts] at this
      exact this.same z2
    · exfalso
      have e : ¬ (!decide (V.str (cutS t (some ((b + (O.tmT tm.1 (O.txt tm.1) tm.2).length : Nat) : Int)) (some (((b + (O.tmT tm.1 (O.txt tm.1) tm.2).length : Nat) : Int) + 1))) = V.str "+")) = true := e
      rw [hs, decide_eq_false (by rw [hb2, hr2]; exact he.not (by omega))] at e
      exact e rfl
theorem terms_all  {aZERO : Addr} {aONE : Addr} {aVowError : Addr} {aParseError : Addr} (T : Txt K mg  aZERO aONE aVowError aParseError) {f f1 f2 f3 f4 : Addr} {fd fd1 fd2 fd3 fd4 : FuncData} (F : Fun K "_terms_at" "_terms_at" s_terms_at f fd) (bF : Binds K fd ["text", "at"] []) (mF : mg "_terms_at" = some (.ref f)) (F1 : Fun K "_term_at" "_term_at" s_term_at f1 fd1) (b1 : Binds K fd1 ["text", "at"] []) (m1 : mg "_term_at" = some (.ref f1))
    (F2 : Fun K "_exponent_at" "_exponent_at" s_exponent_at f2 fd2) (b2 : Binds K fd2 ["text", "at"] []) (m2 : mg "_exponent_at" = some (.ref f2)) (F3 : Fun K "_number_at" "_number_at" s_number_at f3 fd3) (b3 : Binds K fd3 ["text", "at"] []) (m3 : mg "_number_at" = some (.ref f3))
    (C4 : Cal P w K mg base 2 "natural" ["number"] (spNat K) f4 fd4) : ∀ n : Nat, FnOk P w K mg base CX0 (3 * n + 2) f fd ["text", "at"] (spTermsAt K n)
  | 0 => fn_mono (none_left fun vs H Q E h => by
    obtain ⟨_, _, _, _, _, _, _, _, h, _⟩ := h
    exact absurd h (Nat.not_lt_zero _)) (Nat.zero_le _)
  | n + 1 => ok_terms_at (k := 3 * n + 4) T F ⟨ok_term_at (k := 3 * n + 2) T F1 ⟨ok_number_at T F3, m3, F3.kp, b3⟩
      ⟨ok_exponent_at (k := 3 * n) T F2 ⟨ok_number_at T F3, m3, F3.kp, b3⟩ ⟨fn_mono C4.G (by omega), C4.m, C4.kp, C4.b⟩ ⟨terms_all T F bF mF F1 b1 m1 F2 b2 m2 F3 b3 m3 C4 n, mF, F.kp, bF⟩, m2, F2.kp, b2⟩, m1, F1.kp, b1⟩
end
end Vw

set_option Elab.async false
set_option linter.all false
set_option maxRecDepth 100000
set_option maxHeartbeats 4000000
namespace Vw
open PySem PySem.W PyProof.Rows L2 TL
abbrev sparse_ordinal : Stmt := top 20
theorem scparse_ordinal : FnScope ["text", "found", "_"] ["text"] (defScope sparse_ordinal) := ⟨rfl, rfl, rfl, by decide +kernel, rfl, by decide +kernel, by decide +kernel⟩
section
variable {P : Program} {w : World} {K : PySem.W.Frag} {mg : Str → Option Value} {base : Heap}
/-- what a text asks of an ordinal that is read from it -/
def PaOk (o : O) : Prop := O.ok o = true ∧ O.dp o < 20 ∧ O.cb o ≤ 90 ∧ O.ms o ≤ 1000000 ∧ O.wd o ≤ 1000
def spParO (K : PySem.W.Frag) : Sp := fun vs H Q _ => ∃ o : O, vs = [.str (O.txt o)] ∧ PaOk o ∧ ∀ (v : V) (H' : Hp), Same H H' → OA K H' v o → Q v H'
theorem txt_z : O.txt .z = "0" := rfl
theorem zero_cps : ("0" : Str).cps.toList = [48] := by decide +kernel
/-- the head of a text -/
theorem txt_head {o : O} (h : o ≠ .z) (hok : O.ok o = true) : (O.txt o).cps.toList.head? = some 119 ∨ ∃ (c : Int), o = O.num c ∧ 0 < c := by
  cases o with
  | z => exact absurd rfl h
  | add e c r =>
    have hk := O.ok_add.mp hok
    by_cases he : e = .z
    · subst he
      refine .inr ⟨c, ?_, hk.2.1⟩
      have hr0 : r = .z := by
        have h2 := hk.2.2.2
        cases r with
        | z => rfl
        | add e' c' r' =>
          have h3 : O.lt e' .z = true := h2
          cases e' <;> cases h3
      rw [hr0]; unfold O.num; rw [if_pos (by have := hk.2.1; omega)]
    · refine .inl ?_
      have hw : ("w" : Str).cps.toList = [119] := by decide +kernel
      have ht : (O.tmT e (O.txt e) c).cps.toList.head? = some 119 := by
        rw [tm_exp he, cps_app, cps_app, hw]; rfl
      have hs : O.txt (.add e c r) = Str.join "+" (O.tmT e (O.txt e) c :: O.txs r) := rfl
      rw [hs]
      cases hr : O.txs r with
      | nil => exact ht
      | cons y l =>
        show ((O.tmT e (O.txt e) c) ++ "+" ++ Str.join "+" (y :: l)).cps.toList.head? = _
        rw [cps_app, cps_app, List.append_assoc, List.head?_append, ht]; rfl
theorem txt_num {c : Int} (h : 0 < c) : O.txt (O.num c) = O.nT c := by
  unfold O.num; rw [if_pos h]; rfl
theorem txt_ne {o : O} (h : o ≠ .z) (hok : O.ok o = true) : O.txt o ≠ "0" := fun z => by
  have zc := congrArg (fun s : Str => s.cps.toList) z
  have zc : (O.txt o).cps.toList = [48] := zc.trans zero_cps
  rcases txt_head h hok with q | ⟨c, rfl, hc⟩
  · rw [zc] at q; cases q
  · rw [txt_num hc, nT_cps (by omega)] at zc
    have hv := nT_int (c := c) (by omega) (by rw [← len_cps, nT_cps (by omega), zc]; decide)
    have h0 : O.nT c = O.nT 0 := str_ext (by rw [nT_cps (by omega), zc]; decide +kernel)
    rw [h0] at hv
    have h1 := nT_int (c := 0) (by omega) (by decide +kernel)
    rw [h1] at hv
    have := Option.some.inj hv
    omega
theorem ok_parse_ordinal  {aZERO : Addr} {aONE : Addr} {aVowError : Addr} {aParseError : Addr} (T : Txt K mg  aZERO aONE aVowError aParseError) {f f1 f2 f3 : Addr} {fd fd1 fd2 fd3 : FuncData} (F : Fun K "parse_ordinal" "parse_ordinal" sparse_ordinal f fd) (C__terms_at : Cal P w K mg base 62 "_terms_at" ["text", "at"] (spTermsAt K 20) f1 fd1)
    (C_is_ordinal : Cal P w K mg base 121 "is_ordinal" ["value"] (spIsOrd K 60) f2 fd2) (C_format_ordinal : Cal P w K mg base 60 "format_ordinal" ["ordinal"] (spTxt K 20) f3 fd3) : FnOk P w K mg base CX0 122 f fd ["text"] (spParO K) := by
  refine F.ok scparse_ordinal (fun vs H Q E h => ?_) (fun cdv A outer s H vs Q E hr h => ?_)
  · obtain ⟨_, rfl, _⟩ := h; rfl
  obtain ⟨o, rfl, ⟨hok, hd, hcb, hm, hw⟩, q⟩ := h
  refine ⟨_, (pss_cons (ps_set (i := 1) scparse_ordinal.nd rfl (Or.inl rfl) (pe_glob (v := .ref aZERO) (by rfl) T.m_ZERO rfl))
  (C8.pss_cut (ps_if (pt_cmpR op_ne (pv 0) pe_str (nomark _)) (pss_one (ps_asg (pe_call C__terms_at.G (hr.mono (by omega)) (by rfl) C__terms_at.m C__terms_at.kp C__terms_at.b .nil pass0 (pa_cons (pv 0) (pa_cons pe_int pa_nil))) (pg_tup (by rfl) (pgs_cons (pg_name (i := 1) scparse_ordinal.nd rfl (Or.inl rfl)) (pgs_cons (pg_name (i := 2) scparse_ordinal.nd rfl (Or.inl rfl)) pgs_nil))))) pss_nil)
  (pss_cons (ps_if (PW.pt (pw_or (pt_not (pt_val (pe_call C_is_ordinal.G (hr.mono (by omega)) (by rfl) C_is_ordinal.m C_is_ordinal.kp C_is_ordinal.b .nil pass0 (pa_cons (pv 1) pa_nil)))) (pw_or1 (pt_cmpR op_ne (pe_call C_format_ordinal.G (hr.mono (by omega)) (by rfl) C_format_ordinal.m C_format_ordinal.kp C_format_ordinal.b .nil pass0 (pa_cons (pv 1) pa_nil)) (pv 0) (nomark _))))) (pss_one ps_never) pss_nil)
  (pss_one (ps_ret (pv 1)))))), ?_⟩
  refine ⟨fun σ H' => ∃ (v : V) (u : Option V), σ = [some (.str (O.txt o)), some v, u] ∧ Same H H' ∧ OA K H' v o, ?_, fun σ H1 h => ?_⟩
  · refine ⟨_, rfl, rfl, _, rfl, ite2 (fun e => ?_) (fun e => ?_)⟩
    · have hz : o ≠ .z := fun z => by subst z; exact absurd e (by decide +kernel)
      have hf : From (O.txt o) 0 = (O.txt o).cps.toList ++ [] := by unfold From; rw [List.drop_zero, List.append_nil]
      refine ⟨_, rfl, _, 0, o, [], rfl, Nat.le_trans (txt_fit hm) (by decide), hz, hok, hd, hcb, hw, hf, .inl rfl, fun p v H1 s1 t1 o1 => ?_⟩
      exact ⟨p, _, rfl, t1.sq, rfl, _, _, rfl, _, _, rfl, rfl, _, _, rfl, s1, o1⟩
    · have hz : o = .z := Classical.byContradiction fun z => e (by
        have := txt_ne z hok
        exact (Bool.not_eq_true' _).mpr (decide_eq_false fun y => this (V.str.inj y)))
      subst hz
      exact ⟨_, _, rfl, Same.refl H, OA.nil (.inr T.t_ZERO)⟩
  obtain ⟨v, u, rfl, s1, ov⟩ := h
  refine ⟨_, rfl, v, O.toD o, rfl, ov.dp, by rw [O.depth_toD]; omega, fun H2 s2 => ?_⟩
  rw [isOrd_toD hok]
  refine ⟨_, rfl, _, rfl, v, o, rfl, ov.same s2, hok, hd, by omega, by omega, hm, hw, fun H3 s3 => ⟨_, rfl, rfl, _, rfl, ?_⟩⟩
  refine ite2 (fun e => absurd e (by simp)) (fun e => ?_)
  exact ⟨_, rfl, q v H3 ((s1.trans s2).trans s3) ((ov.same s2).same s3)⟩
end
end Vw

set_option Elab.async false
set_option linter.all false
set_option maxRecDepth 100000
set_option maxHeartbeats 4000000
namespace Vw
open PySem PySem.W PyProof.Rows L2 TL
abbrev sparse_row : Stmt := top 25
theorem scparse_row : FnScope ["levels", "text", "found", "part"] ["levels", "text"] (defScope sparse_row) := ⟨rfl, rfl, rfl, by decide +kernel, rfl, by decide +kernel, by decide +kernel⟩
section
variable {P : Program} {w : World} {K : PySem.W.Frag} {mg : Str → Option Value} {base : Heap}
theorem no44_num {c : Int} (h : 0 ≤ c) : 44 ∉ (O.nT c).cps.toList := fun z => by
  rw [nT_cps h] at z
  have := numL_digits c.toNat 44 z
  omega
theorem no44_pw {e : O} {te : Str} (h : 44 ∉ te.cps.toList) : 44 ∉ (O.pwT e te).cps.toList := by
  have e1 : ("w" : Str).cps.toList = [119] := by decide +kernel
  have e2 : ("w^" : Str).cps.toList = [119, 94] := by decide +kernel
  have e3 : ("w^(" : Str).cps.toList = [119, 94, 40] := by decide +kernel
  have e4 : (")" : Str).cps.toList = [41] := by decide +kernel
  unfold O.pwT
  split
  · rw [e1]; decide
  · split
    · rw [cps_app, e2]; simp [h]
    · rw [cps_app, cps_app, e3, e4]; simp [h]
theorem no44_tm {e : O} {te : Str} {c : Int} (h : 44 ∉ te.cps.toList) (hc : 0 ≤ c) : 44 ∉ (O.tmT e te c).cps.toList := by
  have e5 : ("*" : Str).cps.toList = [42] := by decide +kernel
  unfold O.tmT
  split
  · exact no44_num hc
  · split
    · exact no44_pw h
    · rw [cps_app, cps_app, e5]; simp [no44_pw h, no44_num hc]
theorem no44_join : ∀ {l : List Str}, (∀ x ∈ l, 44 ∉ x.cps.toList) → 44 ∉ (Str.join "+" l).cps.toList
  | [], _ => by decide +kernel
  | [x], h => h x List.mem_cons_self
  | x :: y :: r, h => by
    have e5 : ("+" : Str).cps.toList = [43] := by decide +kernel
    have h1 := no44_join (l := y :: r) fun z hz => h z (List.mem_cons_of_mem _ hz)
    have h2 := h x List.mem_cons_self
    show 44 ∉ (x ++ "+" ++ Str.join "+" (y :: r)).cps.toList
    rw [cps_app, cps_app, e5]; simp [h1, h2]
theorem no44_jn {l : List Str} (h : ∀ x ∈ l, 44 ∉ x.cps.toList) : 44 ∉ (O.jnT l).cps.toList := by
  unfold O.jnT
  split
  · decide +kernel
  · exact no44_join h
theorem no44_txs : ∀ o : O, O.ok o = true → ∀ x ∈ O.txs o, 44 ∉ x.cps.toList
  | .z, _, x, h => by cases h
  | .add e c r, k, x, h => by
    have hk := O.ok_add.mp k
    rcases List.mem_cons.mp h with q | q
    · rw [q]; exact no44_tm (no44_jn (no44_txs e hk.1)) (by have := hk.2.1; omega)
    · exact no44_txs r hk.2.2.1 x q
theorem no44 {o : O} (h : O.ok o = true) : 44 ∉ (O.txt o).cps.toList := no44_jn (no44_txs o h)
theorem depth_row {n : Nat} : ∀ {os : List O}, (∀ o ∈ os, O.dp o < n) → PyData.depthAll (os.map O.toD) ≤ n + 1
  | [], _ => Nat.zero_le _
  | o :: r, h => by
    have h1 := depth_row (os := r) fun x hx => h x (List.mem_cons_of_mem _ hx)
    have h2 := h o List.mem_cons_self
    simp only [List.map_cons, PyData.depthAll, O.depth_toD] at *
    omega
theorem join_lenC : ∀ l : List Str, (Str.join "," l).length ≤ O.lens l
  | [] => by
    have : Str.empty.length = 0 := by decide +kernel
    show Str.empty.length ≤ _
    omega
  | [x] => by
    show x.length ≤ ([x].map (·.length)).sum + 1
    simp
  | x :: y :: r => by
    have h := join_lenC (y :: r)
    have l1 : ("," : Str).length = 1 := by decide +kernel
    show (x ++ "," ++ Str.join "," (y :: r)).length ≤ _
    rw [Str.length_append, Str.length_append, l1]
    unfold O.lens at *
    simp only [List.map_cons, List.sum_cons, List.length_cons] at *
    omega
def spParR (K : PySem.W.Frag) : Sp := fun vs H Q _ => ∃ os : List O, vs = [.int (os.length : Nat), .str (rowT os)] ∧ os ≠ [] ∧ os.length ≤ 3 ∧ (∀ o ∈ os, PaOk o) ∧ Steps os ∧ ∀ (v : V) (H' : Hp), Same H H' → RowA K H' v os → Q v H'
theorem ok_parse_row  {aZERO : Addr} {aONE : Addr} {aVowError : Addr} {aParseError : Addr} (T : Txt K mg  aZERO aONE aVowError aParseError) {f f1 f2 : Addr} {fd fd1 fd2 : FuncData} (F : Fun K "parse_row" "parse_row" sparse_row f fd) (C_parse_ordinal : Cal P w K mg base 122 "parse_ordinal" ["text"] (spParO K) f1 fd1)
    (C_is_row : Cal P w K mg base 122 "is_row" ["levels", "value"] (spIsRow K) f2 fd2) : FnOk P w K mg base CX0 123 f fd ["levels", "text"] (spParR K) := by
  refine F.ok scparse_row (fun vs H Q E h => ?_) (fun cdv A outer s H vs Q E hr h => ?_)
  · obtain ⟨_, rfl, _⟩ := h; rfl
  obtain ⟨os, rfl, hne, hl, hos, hst, q⟩ := h
  refine ⟨_, (pss_cons (ps_set (i := 2) scparse_row.nd rfl (Or.inl rfl) (pe_callTy call_tuple_of (by rfl) T.z_tuple (by decide +kernel) (pa_cons (pe_lc (own := [("part", 3)]) (g := gName 3) (tt := tYes) rfl scparse_row.nd (pi_list (pe_split (pv 1) pe_str)) (blkOk_by (own := [("part", 3)]) (N := ["levels", "text", "found", "part"]) (sc := defScope sparse_row) (by decide +kernel)) (fun _ _ _ _ _ => (pg_name (i := 3) scparse_row.nd rfl (Or.inl rfl))) (fun _ _ _ _ _ => pts_nil) (fun _ _ _ _ _ => (pe_call C_parse_ordinal.G (hr.mono (by omega)) (by rfl) C_parse_ordinal.m C_parse_ordinal.kp C_parse_ordinal.b .nil pass0 (pa_cons (pv 3) pa_nil)))) pa_nil)))
  (pss_cons (ps_if (pt_not (pt_val (pe_call C_is_row.G (hr.mono (by omega)) (by rfl) C_is_row.m C_is_row.kp C_is_row.b .nil pass0 (pa_cons (pv 0) (pa_cons (pv 2) pa_nil))))) (pss_one ps_never) pss_nil)
  (pss_one (ps_ret (pv 2))))), ?_⟩
  have ec : tl ("," : Str) = 44 :: [] := by show ("," : Str).cps.toList = _; decide +kernel
  have hsp : Txt.split (rowT os) "," = os.map O.txt := by
    rw [row_join]
    exact split_join ec (by decide +kernel) (by simpa using hne) fun p hp => by
      obtain ⟨o, ho, rfl⟩ := List.mem_map.mp hp
      exact no44 (hos o ho).1
  have htx : ∀ o ∈ os, TxOk 20 o := fun o ho => by
    obtain ⟨h1, h2, h3, h4, h5⟩ := hos o ho
    exact ⟨h1, h2, by omega, by omega, h4, h5⟩
  have hlen : (rowT os).length + 2 ≤ sizeLine := by
    have h1 := texts_sum htx
    have h2 := join_lenC (os.map O.txt)
    have lz := line26
    have h3 : rowT os = Str.join "," (os.map O.txt) := rfl
    rw [h3]
    unfold O.lens at h2
    rw [List.length_map] at h2
    omega
  refine ⟨_, rfl, ⟨_, rfl⟩, _, _, rfl, rfl, (by decide +kernel), hlen, fun p np => ?_⟩
  rw [hsp]
  have s1 := same_new (o := .lst ((os.map O.txt).map V.str)) np
  have ep : (upd H p (.lst ((os.map O.txt).map V.str))) p = some (.lst ((os.map O.txt).map V.str)) := upd_same
  generalize upd H p (.lst ((os.map O.txt).map V.str)) = H1 at *
  refine ⟨p, rfl, ⟨_, SqL.of ep⟩, fun D nD => ?_⟩
  refine lc_list (K := K) (a := p) (xs := (os.map O.txt).map V.str) (fun i H' => Same H1 H' ∧ ∃ vs, H' D = some (.lst vs) ∧ vs.length = i ∧ Paired (OA K H') vs (os.take i)) ⟨same_new nD, [], upd_same, rfl, .nil⟩ (fun i H' _ h => SqL.of (h.1 _ _ ep)) (fun i v H' hv h => ?_) (fun H' h => ?_)
  · obtain ⟨sm, vs, eD, lv, pv⟩ := h
    rw [List.map_map, List.getElem?_map] at hv
    obtain ⟨o, ho, rfl⟩ := Option.map_eq_some_iff.mp hv
    have hi := (List.getElem?_eq_some_iff.mp ho).1
    refine ⟨rfl, _, rfl, o, rfl, hos o (List.mem_of_getElem? ho), fun v H2 s2 o2 => ⟨vs, s2 _ _ eD, small1000 (by omega), same_mut (sm.trans s2) nD, _, upd_same, by rw [List.length_append, lv]; rfl, ?_⟩⟩
    rw [List.take_add_one, ho]
    exact paired_tp (tp_lst (s2 _ _ eD)) (paired_app (paired_tp (same_tp s2) pv) (.cons o2 .nil))
  · obtain ⟨sm, vs, eD, lv, pv⟩ := h
    rw [List.length_map, List.length_map] at lv pv
    rw [List.take_length] at pv
    refine ⟨D, vs, rfl, .inl ⟨SqL.of eD, fun g ng => ?_⟩⟩
    have s2 := same_new (o := .tup vs) ng
    have rv : RowA K (upd H' g (.tup vs)) (.ref g) os := RowA.of (.of upd_same) (paired_tp (same_tp s2) pv)
    have sA := (s1.trans sm).trans s2
    generalize upd H' g (.tup vs) = H2 at *
    refine ⟨_, rfl, _, rfl, _, _, rowD os, rfl, rv.dp, by
      have := depth_row (n := 20) fun o ho => (hos o ho).2.1
      unfold rowD
      simp only [PyData.depth]
      omega, fun H3 s3 => ?_⟩
    rw [isRow_t ⟨os, rfl, rfl, fun o ho => (hos o ho).1, hst⟩]
    refine ⟨_, rfl, iteF ⟨_, rfl, q _ H3 (sA.trans s3) (rv.same s3)⟩⟩
end
end Vw

set_option Elab.async false
set_option linter.all false
set_option maxRecDepth 100000
set_option maxHeartbeats 4000000
namespace Vw
open PySem PySem.W PyProof.Rows L2 TL
abbrev slaw : Stmt := top 37
theorem sclaw : FnScope ["_law_script", "_law_bag_here", "_law_turn", "_law_here", "_law_text_z", "_law_many_z", "_law_place_z", "_law_one_z"] ["_law_script"] (defScope slaw) := ⟨rfl, rfl, rfl, by decide +kernel, rfl, by decide +kernel, by decide +kernel⟩
section
variable {P : Program} {w : World} {K : PySem.W.Frag} {mg : Str → Option Value} {base : Heap}
theorem PaOk.tx {o : O} (h : PaOk o) : TxOk 20 o := by
  obtain ⟨h1, h2, h3, h4, h5⟩ := h
  exact ⟨h1, h2, by omega, by omega, h4, h5⟩
theorem pa_wide : PaOk wideO := ⟨ok_wide, by decide +kernel, by decide +kernel, by decide +kernel, by decide +kernel⟩
theorem pa_deep : PaOk (deepO 5) := ⟨ok_deep, by decide +kernel, by decide +kernel, by decide +kernel, by decide +kernel⟩
theorem pa_row {os : List O} (g : Good os) (h : ∀ o ∈ os, O.cb o ≤ 70 ∧ O.ms o ≤ 210000) : ∀ o ∈ os, PaOk o := fun o ho => by
  have h1 := g o ho
  have h2 := h o ho
  exact ⟨h1.1, by omega, by omega, by omega, by omega⟩
theorem fn_someC {m k : Nat} {f : Addr} {fd : FuncData} {ps : List Str} (h : ∀ d, d ≤ m → FnOk P w K mg base CX0 k f fd ps (spOrdC K d)) : FnOk P w K mg base CX0 k f fd ps (spOrdToC K m) := ⟨fun vs H Q E z => by
    obtain ⟨d, hd, z⟩ := z
    exact (h d hd).len vs H Q E z, fun A outer s H args us vs Q E a b c e z => by
    obtain ⟨d, hd, z⟩ := z
    exact (h d hd).run A outer s H args us vs Q E a b c e z⟩
/-- a text and an ordinal, told alike -/
theorem two_same {H : Hp} {D D2 : Addr} {x y : V} {o : O} (h1 : H D = some (.lst [.str (O.txt o), x])) (h2 : H D2 = some (.lst [.str (O.txt o), y])) (ox : OA K H x o) (oy : OA K H y o) (hd : O.dp o < 20) : Dp K H (.ref D) (.list [.str (O.txt o), O.toD o]) ∧ Dp K H (.ref D2) (.list [.str (O.txt o), O.toD o]) ∧ (PyData.list [.str (O.txt o), O.toD o]).depth < 40 :=
  ⟨.lst (SqL.of h1) (.cons (.str _) (.cons ox.dp .nil)), .lst (SqL.of h2) (.cons (.str _) (.cons oy.dp .nil)), by simp only [PyData.depth, PyData.depthAll, O.depth_toD]; omega⟩
theorem two_rows {H : Hp} {D D2 : Addr} {x y : V} {os : List O} (h1 : H D = some (.lst [.str (rowT os), x])) (h2 : H D2 = some (.lst [.str (rowT os), y])) (ox : RowA K H x os) (oy : RowA K H y os) (hd : ∀ o ∈ os, PaOk o) : Dp K H (.ref D) (.list [.str (rowT os), rowD os]) ∧ Dp K H (.ref D2) (.list [.str (rowT os), rowD os]) ∧ (PyData.list [.str (rowT os), rowD os]).depth < 40 :=
  ⟨.lst (SqL.of h1) (.cons (.str _) (.cons ox.dp .nil)), .lst (SqL.of h2) (.cons (.str _) (.cons oy.dp .nil)), by
    have := depth_row (n := 20) fun o ho => (hd o ho).2.1
    simp only [PyData.depth, PyData.depthAll, rowD]; omega⟩
theorem ok_law  {aZERO : Addr} {aONE : Addr} {aVowError : Addr} {aParseError : Addr} (T : Txt K mg  aZERO aONE aVowError aParseError) {f f1 f2 f3 f4 f5 f6 f7 f8 f9 f10 : Addr} {fd fd1 fd2 fd3 fd4 fd5 fd6 fd7 fd8 fd9 fd10 : FuncData} (F : Fun K "law" "law" slaw f fd)
    (C__law_bag : Cal P w K mg base 1 "_law_bag" ["_law_script"] (spBag K) f1 fd1) (C__law_pull : Cal P w K mg base 1 "_law_pull" ["_law_bag_here", "_law_sides"] spPull f2 fd2)
    (C__law_same : Cal P w K mg base 40 "_law_same" ["_law_found", "_law_due"] (spSame K 40) f3 fd3) (C__law_ordinal : Cal P w K mg base 12 "_law_ordinal" ["_law_bag_here", "_law_deep"] (spOrdToC K 10) f4 fd4)
    (C__law_row : Cal P w K mg base 13 "_law_row" ["_law_bag_here", "_law_many_z"] (spRowC K) f5 fd5) (C__law_ordinal_text : Cal P w K mg base 21 "_law_ordinal_text" ["_law_here"] (spTxt K 20) f6 fd6)
    (C__law_great_ordinals : Cal P w K mg base 2 "_law_great_ordinals" [] (spGreat K) f7 fd7)
    (C_format_ordinal : Cal P w K mg base 60 "format_ordinal" ["ordinal"] (spTxt K 20) f8 fd8) (C_parse_ordinal : Cal P w K mg base 122 "parse_ordinal" ["text"] (spParO K) f9 fd9)
    {g1 g2 : List Value → List Value → List Value} (KB_parse_ordinal : KBinds K fd9 ["text"] ["text"] g1 (fun vs zs => vs ++ zs))
    {f11 : Addr} {fd11 : FuncData} (C_format_row : Cal P w K mg base 61 "format_row" ["row"] (spRowT K 20) f10 fd10) (KB_format_row : KBinds K fd10 ["row"] ["row"] g2 (fun vs zs => vs ++ zs))
    (C_parse_row : Cal P w K mg base 123 "parse_row" ["levels", "text"] (spParR K) f11 fd11) (KB_parse_row : KBinds K fd11 ["levels", "text"] ["text", "levels"] swapG swapG) :
    FnOk P w K mg base CX0 126 f fd ["_law_script"] (spLaw K) := by
  refine F.ok sclaw (fun vs H Q E h => ?_) (fun cdv A outer s H vs Q E hr h => ?_)
  · obtain ⟨_, _, rfl, _⟩ := h; rfl
  obtain ⟨a, ns, rfl, hS, hl, q⟩ := h
  refine ⟨_, (pss_cons (ps_set (i := 1) sclaw.nd rfl (Or.inl rfl) (pe_call C__law_bag.G (hr.mono (by omega)) (by rfl) C__law_bag.m C__law_bag.kp C__law_bag.b .nil pass0 (pa_cons (pv 0) pa_nil)))
  (pss_cons (ps_for PassesOwn.never rfl (pi_range1 (by rfl) T.z_range (pa_cons pe_int pa_nil)) (pg_name (i := 2) sclaw.nd rfl (Or.inl rfl))
   (pss_cons (ps_set (i := 3) sclaw.nd rfl (Or.inl rfl) (pe_call C__law_ordinal.G (hr.mono (by omega)) (by rfl) C__law_ordinal.m C__law_ordinal.kp C__law_ordinal.b .nil pass0 (pa_cons (pv 1) (pa_cons (pe_call C__law_pull.G (hr.mono (by omega)) (by rfl) C__law_pull.m C__law_pull.kp C__law_pull.b .nil pass0 (pa_cons (pv 1) (pa_cons pe_int pa_nil))) pa_nil))))
  (pss_cons (ps_set (i := 4) sclaw.nd rfl (Or.inl rfl) (pe_call C__law_ordinal_text.G (hr.mono (by omega)) (by rfl) C__law_ordinal_text.m C__law_ordinal_text.kp C__law_ordinal_text.b .nil pass0 (pa_cons (pv 3) pa_nil)))
  (pss_cons (ps_if (pt_not (pt_val (pe_call C__law_same.G (hr.mono (by omega)) (by rfl) C__law_same.m C__law_same.kp C__law_same.b .nil pass0 (pa_cons (pe_lst (pa_cons (pe_call C_format_ordinal.G (hr.mono (by omega)) (by rfl) C_format_ordinal.m C_format_ordinal.kp C_format_ordinal.b .nil pass0 (pa_cons (pv 3) pa_nil)) (pa_cons (pe_call C_parse_ordinal.G (hr.mono (by omega)) (by rfl) C_parse_ordinal.m C_parse_ordinal.kp C_parse_ordinal.b .nil pass0 (pa_cons (pv 4) pa_nil)) pa_nil))) (pa_cons (pe_lst (pa_cons (pv 4) (pa_cons (pv 3) pa_nil))) pa_nil))))) (pss_one (ps_ret pe_bl)) pss_nil)
  (pss_cons (ps_set (i := 5) sclaw.nd rfl (Or.inl rfl) (pe_op op_add pe_int (pe_call C__law_pull.G (hr.mono (by omega)) (by rfl) C__law_pull.m C__law_pull.kp C__law_pull.b .nil pass0 (pa_cons (pv 1) (pa_cons pe_int pa_nil)))))
  (pss_cons (ps_set (i := 6) sclaw.nd rfl (Or.inl rfl) (pe_call C__law_row.G (hr.mono (by omega)) (by rfl) C__law_row.m C__law_row.kp C__law_row.b .nil pass0 (pa_cons (pv 1) (pa_cons (pv 5) pa_nil))))
  (pss_cons (ps_set (i := 4) sclaw.nd rfl (Or.inl rfl) (pe_join pe_str (pe_lc (own := [("_law_one_z", 7)]) (g := gName 7) (tt := tYes) rfl sclaw.nd (pi_tup (pv 6)) (blkOk_by (own := [("_law_one_z", 7)]) (N := ["_law_script", "_law_bag_here", "_law_turn", "_law_here", "_law_text_z", "_law_many_z", "_law_place_z", "_law_one_z"]) (sc := defScope slaw) (by decide +kernel)) (fun _ _ _ _ _ => (pg_name (i := 7) sclaw.nd rfl (Or.inl rfl))) (fun _ _ _ _ _ => pts_nil) (fun _ _ _ _ _ => (pe_call C__law_ordinal_text.G (hr.mono (by omega)) (by rfl) C__law_ordinal_text.m C__law_ordinal_text.kp C__law_ordinal_text.b .nil pass0 (pa_cons (pv 7) pa_nil))))))
  (pss_one (ps_if (pt_not (pt_val (pe_call C__law_same.G (hr.mono (by omega)) (by rfl) C__law_same.m C__law_same.kp C__law_same.b .nil pass0 (pa_cons (pe_lst (pa_cons (pe_callK0 C_format_row.G (hr.mono (by omega)) (by rfl) C_format_row.m C_format_row.kp KB_format_row pass0 (pk_cons (pv 6) pk_nil)) (pa_cons (pe_callK0 C_parse_row.G (hr.mono (by omega)) (by rfl) C_parse_row.m C_parse_row.kp KB_parse_row pass0 (pk_cons (pv 4) (pk_cons (pv 5) pk_nil))) pa_nil))) (pa_cons (pe_lst (pa_cons (pv 4) (pa_cons (pv 6) pa_nil))) pa_nil))))) (pss_one (ps_ret pe_bl)) pss_nil)))))))))
  (pss_cons (ps_for PassesOwn.never rfl (pi_list (pe_call0 C__law_great_ordinals.G (hr.mono (by omega)) (by rfl) C__law_great_ordinals.m C__law_great_ordinals.kp C__law_great_ordinals.b .nil pass0)) (pg_name (i := 3) sclaw.nd rfl (Or.inl rfl))
   (pss_cons (ps_set (i := 4) sclaw.nd rfl (Or.inl rfl) (pe_call C__law_ordinal_text.G (hr.mono (by omega)) (by rfl) C__law_ordinal_text.m C__law_ordinal_text.kp C__law_ordinal_text.b .nil pass0 (pa_cons (pv 3) pa_nil)))
  (pss_one (ps_if (pt_not (pt_val (pe_call C__law_same.G (hr.mono (by omega)) (by rfl) C__law_same.m C__law_same.kp C__law_same.b .nil pass0 (pa_cons (pe_lst (pa_cons (pe_call C_format_ordinal.G (hr.mono (by omega)) (by rfl) C_format_ordinal.m C_format_ordinal.kp C_format_ordinal.b .nil pass0 (pa_cons (pv 3) pa_nil)) (pa_cons (pe_call C_parse_ordinal.G (hr.mono (by omega)) (by rfl) C_parse_ordinal.m C_parse_ordinal.kp C_parse_ordinal.b .nil pass0 (pa_cons (pv 4) pa_nil)) pa_nil))) (pa_cons (pe_lst (pa_cons (pv 4) (pa_cons (pv 3) pa_nil))) pa_nil))))) (pss_one (ps_ret pe_bl)) pss_nil))))
  (pss_one (ps_ret (pe_call C__law_same.G (hr.mono (by omega)) (by rfl) C__law_same.m C__law_same.kp C__law_same.b .nil pass0 (pa_cons (pe_lst (pa_cons (pe_call C_format_ordinal.G (hr.mono (by omega)) (by rfl) C_format_ordinal.m C_format_ordinal.kp C_format_ordinal.b .nil pass0 (pa_cons (pe_tup pa_nil) pa_nil)) (pa_cons (pe_callK0 C_parse_ordinal.G (hr.mono (by omega)) (by rfl) C_parse_ordinal.m C_parse_ordinal.kp KB_parse_ordinal pass0 (pk_cons pe_str pk_nil)) pa_nil))) (pa_cons (pe_lst (pa_cons pe_str (pa_cons (pe_tup pa_nil) pa_nil))) pa_nil)))))))), ?_⟩
  refine ⟨_, rfl, a, ns, rfl, hS, hl, fun l b H1 nb s1 B1 => ?_⟩
  refine ⟨8, rfl, by decide, by decide, ?_⟩
  refine for_range (lo := 0) (n := 8) (fun i σ H' => ∃ u2 u3 u4 u5 u6 u7, σ = [some (.ref a), some (.ref b), u2, u3, u4, u5, u6, u7] ∧ Bag l H' b) ⟨_, _, _, _, _, _, rfl, B1⟩ (fun i σ H2 hi h => ?_) (fun σ H2 h => ?_)
  · obtain ⟨u2, u3, u4, u5, u6, u7, rfl, B2⟩ := h
    refine ⟨_, rfl, _, rfl, l, b, 4, rfl, by decide, by decide, B2, fun r H3 r0 r1 k3 B3 => use_ordC r0 (by omega) B3 fun o v H4 h1 h2 h3 h4 ov k4 B4 => ?_⟩
    have po : PaOk o := ⟨h1, by omega, by omega, by omega, by omega⟩
    obtain ⟨t1, t2, t3, t4, t5, t6⟩ := po.tx
    refine ⟨_, rfl, v, o, rfl, ov, t1, t2, t3, t4, t5, t6, fun H5 s5 => ?_⟩
    refine ⟨_, rfl, v, o, rfl, ov.same s5, t1, t2, t3, t4, t5, t6, fun H6 s6 => ⟨_, rfl, o, rfl, po, fun v7 H7 s7 o7 => ⟨(by show 2 ≤ sizeLine; decide), fun D nD => ⟨_, rfl, _, rfl, (by show 2 ≤ sizeLine; decide), fun D2 n2 => ?_⟩⟩⟩⟩
    have z1 := same_new (o := .lst [.str (O.txt o), v7]) nD
    have z2 := same_new (o := .lst [.str (O.txt o), v]) n2
    have ov := ((((ov.same s5).same s6).same s7).same z1).same z2
    obtain ⟨e1, e2, e3⟩ := two_same (z2 _ _ upd_same) upd_same ((o7.same z1).same z2) ov po.2.1
    refine ⟨_, _, _, rfl, e1, e2, e3, fun H8 s8 => ⟨_, rfl, iteF ?_⟩⟩
    have B8 := B4.same (((((s5.trans s6).trans s7).trans z1).trans z2).trans s8)
    clear ov o7 z1 z2 nD n2 B2 B3 B4
    refine ⟨_, rfl, l, b, 3, rfl, by decide, by decide, B8, fun r H9 r0 r1 k9 B9 => ⟨_, _, rfl, rfl, ?_⟩⟩
    dsimp only
    generalize he : (1 : Int) + r = m_
    obtain ⟨m, rfl⟩ : ∃ m : Nat, m_ = (m : Int) := ⟨m_.toNat, by omega⟩
    have hm1 : 1 ≤ m := by omega
    have hm2 : m ≤ 3 := by omega
    clear he
    refine ⟨_, rfl, _, rfl, l, b, m, rfl, hm2, B9, fun v os H10 rv lo go st hb k10 B10 => ?_⟩
    subst lo
    have pos := pa_row go hb
    have txs : ∀ o ∈ os, TxOk 20 o := fun o ho => (pos o ho).tx
    obtain ⟨ax, xs, rfl, tx, px⟩ := id rv
    have lx : xs.length = os.length := paired_len px
    refine ⟨⟨_, rfl⟩, _, rfl, ax, rfl, ⟨_, tx.sq⟩, fun D nD => ?_⟩
    refine lc_tup (K := K) (a := ax) (xs := xs) (fun i H' => Same H10 H' ∧ H' D = some (.lst (((os.map O.txt).take i).map V.str))) ⟨same_new nD, upd_same⟩ (fun i H' _ h => (tx.same h.1).sq) (fun i v H' hv h => ?_) (fun H' h => ?_)
    · obtain ⟨sm, eD⟩ := h
      have hi : i < xs.length := (List.getElem?_eq_some_iff.mp hv).1
      obtain ⟨o, ho, oa⟩ := paired_get px hv
      obtain ⟨h1, h2, h3, h4, h5, h6⟩ := txs o (List.mem_of_getElem? ho)
      have hte : (os.map O.txt)[i]? = some (O.txt o) := by rw [List.getElem?_map, ho]; rfl
      refine ⟨rfl, _, rfl, v, o, rfl, oa.same sm, h1, h2, h3, h4, h5, h6, fun H2 s2 => ⟨_, s2 _ _ eD, by rw [List.length_map, List.length_take]; exact small1000 (by omega), same_mut (sm.trans s2) nD, ?_⟩⟩
      rw [upd_same, List.take_add_one, hte, List.map_append]
      rfl
    obtain ⟨sm, eD⟩ := h
    rw [show xs.length = (os.map O.txt).length from by rw [List.length_map]; exact lx, List.take_length] at eD
    refine ⟨_, D, os.map O.txt, rfl, rfl, .inl (SqL.of eD), row_sum txs hm2, ?_⟩
    rw [← row_join]
    have rv := rv.same sm
    have B11 := B10.same sm
    refine ⟨_, rfl, _, os, rfl, rv, txs, hm2, fun H12 s12 => ⟨_, rfl, _, rfl, os, rfl, (fun z => by subst z; exact absurd hm1 (by decide)), hm2, pos, st, fun v13 H13 s13 r13 => ⟨(by show 2 ≤ sizeLine; decide), fun D3 n3 => ⟨_, rfl, _, rfl, (by show 2 ≤ sizeLine; decide), fun D4 n4 => ?_⟩⟩⟩⟩
    have z1 := same_new (o := .lst [.str (rowT os), v13]) n3
    have z2 := same_new (o := .lst [.str (rowT os), .ref ax]) n4
    obtain ⟨e1, e2, e3⟩ := two_rows (z2 _ _ upd_same) upd_same ((r13.same z1).same z2) ((((rv.same s12).same s13).same z1).same z2) pos
    refine ⟨_, _, _, rfl, e1, e2, e3, fun H14 s14 => ⟨_, rfl, iteF ?_⟩⟩
    exact ⟨_, _, _, _, _, _, rfl, B11.same ((((s12.trans s13).trans z1).trans z2).trans s14)⟩
  obtain ⟨u2, u3, u4, u5, u6, u7, rfl, B2⟩ := h
  -- the great ones
  refine ⟨rfl, fun D x y H4 s4 hD ox oy => ⟨D, rfl, ⟨_, SqL.of hD⟩, ?_⟩⟩
  refine for_list (xs := [x, y]) (fun j σ H' => ∃ u3 u4, σ = [some (.ref a), some (.ref b), u2, u3, u4, u5, u6, u7] ∧ Same H4 H') ⟨_, _, rfl, Same.refl H4⟩ (fun j σ H' _ h => by obtain ⟨_, _, _, s⟩ := h; exact SqL.of (s _ _ hD)) (fun j v σ H5 hv h => ?_) (fun σ H5 h => ?_)
  · obtain ⟨u3, u4, rfl, s5⟩ := h
    obtain ⟨o, ov, po⟩ : ∃ o : O, OA K H4 v o ∧ PaOk o := by
      have := List.mem_of_getElem? hv
      simp only [List.mem_cons, List.not_mem_nil, or_false] at this
      rcases this with h | h <;> subst h
      · exact ⟨_, ox, pa_wide⟩
      · exact ⟨_, oy, pa_deep⟩
    have ov := ov.same s5
    obtain ⟨t1, t2, t3, t4, t5, t6⟩ := po.tx
    refine ⟨_, rfl, v, o, rfl, ov, t1, t2, t3, t4, t5, t6, fun H6 s6 => ?_⟩
    refine ⟨_, rfl, v, o, rfl, ov.same s6, t1, t2, t3, t4, t5, t6, fun H7 s7 => ⟨_, rfl, o, rfl, po, fun v8 H8 s8 o8 => ⟨(by show 2 ≤ sizeLine; decide), fun D1 nD => ⟨_, rfl, _, rfl, (by show 2 ≤ sizeLine; decide), fun D2 n2 => ?_⟩⟩⟩⟩
    have z1 := same_new (o := .lst [.str (O.txt o), v8]) nD
    have z2 := same_new (o := .lst [.str (O.txt o), v]) n2
    have ov := ((((ov.same s6).same s7).same s8).same z1).same z2
    obtain ⟨e1, e2, e3⟩ := two_same (z2 _ _ upd_same) upd_same ((o8.same z1).same z2) ov po.2.1
    refine ⟨_, _, _, rfl, e1, e2, e3, fun H9 s9 => ⟨_, rfl, iteF ?_⟩⟩
    exact ⟨_, _, rfl, (((((s5.trans s6).trans s7).trans s8).trans z1).trans z2).trans s9⟩
  obtain ⟨u3, u4, rfl, s5⟩ := h
  have pz : PaOk .z := ⟨rfl, by decide, by decide, by decide, by decide⟩
  refine ⟨(by show 0 ≤ sizeLine; decide), fun p1 n1 => ?_⟩
  have z0 := same_new (o := .tup []) n1
  have oz : OA K (upd H5 p1 (.tup [])) (.ref p1) .z := OA.nil (.of upd_same)
  generalize upd H5 p1 (.tup []) = H6 at *
  obtain ⟨t1, t2, t3, t4, t5, t6⟩ := pz.tx
  refine ⟨_, .z, rfl, oz, t1, t2, t3, t4, t5, t6, fun H7 s7 => ⟨.z, rfl, pz, fun v8 H8 s8 o8 => ⟨(by show 2 ≤ sizeLine; decide), fun D1 n2 => ⟨(by show 0 ≤ sizeLine; decide), fun p3 n3 => ⟨(by show 2 ≤ sizeLine; decide), fun D2 n4 => ?_⟩⟩⟩⟩⟩
  have z1 := same_new (o := .lst [.str (O.txt .z), v8]) n2
  have z2 := same_new (o := .tup []) n3
  have o3 : OA K (upd (upd H8 D1 (.lst [.str (O.txt .z), v8])) p3 (.tup [])) (.ref p3) .z := OA.nil (.of upd_same)
  have z3 := same_new (o := .lst [.str (O.txt .z), .ref p3]) n4
  obtain ⟨e1, e2, e3⟩ := two_same (z3 _ _ (z2 _ _ upd_same)) upd_same (((o8.same z1).same z2).same z3) (o3.same z3) (by decide)
  exact ⟨_, _, _, rfl, e1, e2, e3, fun H9 s9 => q H9⟩
theorem main  {aZERO : Addr} {aONE : Addr} {aVowError : Addr} {aParseError : Addr} (T : Txt K mg  aZERO aONE aVowError aParseError) {f_is_ordinal : Addr} {fd_is_ordinal : FuncData} (F_is_ordinal : Fun K "is_ordinal" "is_ordinal" sis_ordinal f_is_ordinal fd_is_ordinal) (b_is_ordinal : Binds K fd_is_ordinal ["value"] []) (m_is_ordinal : mg "is_ordinal" = some (.ref f_is_ordinal))
    {f__is_term : Addr} {fd__is_term : FuncData} (F__is_term : Fun K "_is_term" "_is_term" s_is_term f__is_term fd__is_term) (b__is_term : Binds K fd__is_term ["value"] []) (m__is_term : mg "_is_term" = some (.ref f__is_term))
    {f__is_count : Addr} {fd__is_count : FuncData} (F__is_count : Fun K "_is_count" "_is_count" s_is_count f__is_count fd__is_count) (b__is_count : Binds K fd__is_count ["value"] []) (m__is_count : mg "_is_count" = some (.ref f__is_count))
    {f_natural : Addr} {fd_natural : FuncData} (F_natural : Fun K "natural" "natural" snatural f_natural fd_natural) (b_natural : Binds K fd_natural ["number"] []) (m_natural : mg "natural" = some (.ref f_natural))
    {f_end_of : Addr} {fd_end_of : FuncData} (F_end_of : Fun K "end_of" "end_of" send_of f_end_of fd_end_of) (b_end_of : Binds K fd_end_of ["ordinal"] []) (m_end_of : mg "end_of" = some (.ref f_end_of))
    {f_is_row : Addr} {fd_is_row : FuncData} (F_is_row : Fun K "is_row" "is_row" sis_row f_is_row fd_is_row) (b_is_row : Binds K fd_is_row ["levels", "value"] []) (m_is_row : mg "is_row" = some (.ref f_is_row))
    {f_format_ordinal : Addr} {fd_format_ordinal : FuncData} (F_format_ordinal : Fun K "format_ordinal" "format_ordinal" sformat_ordinal f_format_ordinal fd_format_ordinal) (b_format_ordinal : Binds K fd_format_ordinal ["ordinal"] []) (m_format_ordinal : mg "format_ordinal" = some (.ref f_format_ordinal))
    {f__term_text : Addr} {fd__term_text : FuncData} (F__term_text : Fun K "_term_text" "_term_text" s_term_text f__term_text fd__term_text) (b__term_text : Binds K fd__term_text ["exponent", "count"] []) (m__term_text : mg "_term_text" = some (.ref f__term_text))
    {f__power_text : Addr} {fd__power_text : FuncData} (F__power_text : Fun K "_power_text" "_power_text" s_power_text f__power_text fd__power_text) (b__power_text : Binds K fd__power_text ["exponent"] []) (m__power_text : mg "_power_text" = some (.ref f__power_text))
    {f_format_row : Addr} {fd_format_row : FuncData} (F_format_row : Fun K "format_row" "format_row" sformat_row f_format_row fd_format_row) (b_format_row : Binds K fd_format_row ["row"] []) (m_format_row : mg "format_row" = some (.ref f_format_row))
    {f_parse_ordinal : Addr} {fd_parse_ordinal : FuncData} (F_parse_ordinal : Fun K "parse_ordinal" "parse_ordinal" sparse_ordinal f_parse_ordinal fd_parse_ordinal) (b_parse_ordinal : Binds K fd_parse_ordinal ["text"] []) (m_parse_ordinal : mg "parse_ordinal" = some (.ref f_parse_ordinal))
    {f__terms_at : Addr} {fd__terms_at : FuncData} (F__terms_at : Fun K "_terms_at" "_terms_at" s_terms_at f__terms_at fd__terms_at) (b__terms_at : Binds K fd__terms_at ["text", "at"] []) (m__terms_at : mg "_terms_at" = some (.ref f__terms_at))
    {f__term_at : Addr} {fd__term_at : FuncData} (F__term_at : Fun K "_term_at" "_term_at" s_term_at f__term_at fd__term_at) (b__term_at : Binds K fd__term_at ["text", "at"] []) (m__term_at : mg "_term_at" = some (.ref f__term_at))
    {f__exponent_at : Addr} {fd__exponent_at : FuncData} (F__exponent_at : Fun K "_exponent_at" "_exponent_at" s_exponent_at f__exponent_at fd__exponent_at) (b__exponent_at : Binds K fd__exponent_at ["text", "at"] []) (m__exponent_at : mg "_exponent_at" = some (.ref f__exponent_at))
    {f__number_at : Addr} {fd__number_at : FuncData} (F__number_at : Fun K "_number_at" "_number_at" s_number_at f__number_at fd__number_at) (b__number_at : Binds K fd__number_at ["text", "at"] []) (m__number_at : mg "_number_at" = some (.ref f__number_at))
    {f_parse_row : Addr} {fd_parse_row : FuncData} (F_parse_row : Fun K "parse_row" "parse_row" sparse_row f_parse_row fd_parse_row) (b_parse_row : Binds K fd_parse_row ["levels", "text"] []) (m_parse_row : mg "parse_row" = some (.ref f_parse_row))
    {f__law_bag : Addr} {fd__law_bag : FuncData} (F__law_bag : Fun K "_law_bag" "_law_bag" s_law_bag f__law_bag fd__law_bag) (b__law_bag : Binds K fd__law_bag ["_law_script"] []) (m__law_bag : mg "_law_bag" = some (.ref f__law_bag))
    {f__law_pull : Addr} {fd__law_pull : FuncData} (F__law_pull : Fun K "_law_pull" "_law_pull" s_law_pull f__law_pull fd__law_pull) (b__law_pull : Binds K fd__law_pull ["_law_bag_here", "_law_sides"] []) (m__law_pull : mg "_law_pull" = some (.ref f__law_pull))
    {f__law_same : Addr} {fd__law_same : FuncData} (F__law_same : Fun K "_law_same" "_law_same" s_law_same f__law_same fd__law_same) (b__law_same : Binds K fd__law_same ["_law_found", "_law_due"] []) (m__law_same : mg "_law_same" = some (.ref f__law_same))
    {f__law_num : Addr} {fd__law_num : FuncData} (F__law_num : Fun K "_law_num" "_law_num" s_law_num f__law_num fd__law_num) (b__law_num : Binds K fd__law_num ["_law_many_z"] []) (m__law_num : mg "_law_num" = some (.ref f__law_num))
    {f__law_ordinal : Addr} {fd__law_ordinal : FuncData} (F__law_ordinal : Fun K "_law_ordinal" "_law_ordinal" s_law_ordinal f__law_ordinal fd__law_ordinal) (b__law_ordinal : Binds K fd__law_ordinal ["_law_bag_here", "_law_deep"] []) (m__law_ordinal : mg "_law_ordinal" = some (.ref f__law_ordinal))
    {f__law_sum : Addr} {fd__law_sum : FuncData} (F__law_sum : Fun K "_law_sum" "_law_sum" s_law_sum f__law_sum fd__law_sum) (b__law_sum : Binds K fd__law_sum ["_law_here", "_law_there"] []) (m__law_sum : mg "_law_sum" = some (.ref f__law_sum))
    {f__law_raise : Addr} {fd__law_raise : FuncData} (F__law_raise : Fun K "_law_raise" "_law_raise" s_law_raise f__law_raise fd__law_raise) (b__law_raise : Binds K fd__law_raise ["_law_here", "_law_last"] []) (m__law_raise : mg "_law_raise" = some (.ref f__law_raise))
    {f__law_row : Addr} {fd__law_row : FuncData} (F__law_row : Fun K "_law_row" "_law_row" s_law_row f__law_row fd__law_row) (b__law_row : Binds K fd__law_row ["_law_bag_here", "_law_many_z"] []) (m__law_row : mg "_law_row" = some (.ref f__law_row))
    {f__law_ordinal_text : Addr} {fd__law_ordinal_text : FuncData} (F__law_ordinal_text : Fun K "_law_ordinal_text" "_law_ordinal_text" s_law_ordinal_text f__law_ordinal_text fd__law_ordinal_text) (b__law_ordinal_text : Binds K fd__law_ordinal_text ["_law_here"] []) (m__law_ordinal_text : mg "_law_ordinal_text" = some (.ref f__law_ordinal_text))
    {f__law_great_ordinals : Addr} {fd__law_great_ordinals : FuncData} (F__law_great_ordinals : Fun K "_law_great_ordinals" "_law_great_ordinals" s_law_great_ordinals f__law_great_ordinals fd__law_great_ordinals) (b__law_great_ordinals : Binds K fd__law_great_ordinals [] []) (m__law_great_ordinals : mg "_law_great_ordinals" = some (.ref f__law_great_ordinals))
    {f_law : Addr} {fd_law : FuncData} (F_law : Fun K "law" "law" slaw f_law fd_law) (b_law : Binds K fd_law ["_law_script"] []) (m_law : mg "law" = some (.ref f_law))
    {f_omega_power : Addr} {fd_omega_power : FuncData} (F_omega_power : FunD K "omega_power" "omega_power" (defArgs somega_power) (defBody somega_power) (defScope somega_power) [] [("times", .int 1)] f_omega_power fd_omega_power) (m_omega_power : mg "omega_power" = some (.ref f_omega_power)) : FnOk P w K mg base CX0 126 f_law fd_law ["_law_script"] (spLaw K) := by
  have C1 : Cal P w K mg base 1 "_law_pull" ["_law_bag_here", "_law_sides"] spPull _ _ := ⟨ok_pull T F__law_pull, m__law_pull, F__law_pull.kp, b__law_pull⟩
  have C2 : Cal P w K mg base 1 "_law_num" ["_law_many_z"] (spNum K) _ _ := ⟨ok_num T F__law_num, m__law_num, F__law_num.kp, b__law_num⟩
  have C3 : Cal P w K mg base 1 "_is_count" ["value"] (spCnt K) _ _ := ⟨ok_cnt T F__is_count, m__is_count, F__is_count.kp, b__is_count⟩
  have C4 : Cal P w K mg base 121 "is_ordinal" ["value"] (spIsOrd K 60) _ _ := ⟨isord_all T F_is_ordinal b_is_ordinal m_is_ordinal F__is_term b__is_term m__is_term C3 60 (Nat.le_refl _), m_is_ordinal, F_is_ordinal.kp, b_is_ordinal⟩
  have C5 : Cal P w K mg base 1 "_law_sum" ["_law_here", "_law_there"] (spPlus K) _ _ := ⟨ok_lsum T F__law_sum, m__law_sum, F__law_sum.kp, b__law_sum⟩
  have C6 : Cal P w K mg base 12 "_law_ordinal" ["_law_bag_here", "_law_deep"] (spOrdToC K 10) _ _ := ⟨fn_someC fun d hd => fn_mono (ordC_all T F__law_ordinal b__law_ordinal m__law_ordinal C1 C2 d hd) (by omega), m__law_ordinal, F__law_ordinal.kp, b__law_ordinal⟩
  have C7 : Cal P w K mg base 2 "_law_raise" ["_law_here", "_law_last"] (spO2 K O.raisedO) _ _ := ⟨ok_lraise T F__law_raise C5, m__law_raise, F__law_raise.kp, b__law_raise⟩
  have C8 : Cal P w K mg base 60 "format_ordinal" ["ordinal"] (spTxt K 20) _ _ := ⟨fmt_all T F_format_ordinal b_format_ordinal m_format_ordinal F__term_text b__term_text m__term_text F__power_text b__power_text m__power_text 20, m_format_ordinal, F_format_ordinal.kp, b_format_ordinal⟩
  have C9 : Cal P w K mg base 61 "format_row" ["row"] (spRowT K 20) _ _ := ⟨ok_format_row T F_format_row C8, m_format_row, F_format_row.kp, b_format_row⟩
  have CN := nat_ofPower T F_natural b_natural m_natural F_omega_power m_omega_power (P := P) (w := w) (base := base)
  have CT : Cal P w K mg base 62 "_terms_at" ["text", "at"] (spTermsAt K 20) _ _ := ⟨terms_all T F__terms_at b__terms_at m__terms_at F__term_at b__term_at m__term_at F__exponent_at b__exponent_at m__exponent_at F__number_at b__number_at m__number_at CN 20, m__terms_at, F__terms_at.kp, b__terms_at⟩
  have CP : Cal P w K mg base 122 "parse_ordinal" ["text"] (spParO K) _ _ := ⟨ok_parse_ordinal T F_parse_ordinal CT C4 C8, m_parse_ordinal, F_parse_ordinal.kp, b_parse_ordinal⟩
  have CE : Cal P w K mg base 1 "end_of" ["ordinal"] (spEndD K) _ _ := ⟨ok_end_ofD T F_end_of, m_end_of, F_end_of.kp, b_end_of⟩
  have CR : Cal P w K mg base 122 "is_row" ["levels", "value"] (spIsRow K) _ _ := ⟨ok_isrow T F_is_row C4 CE, m_is_row, F_is_row.kp, b_is_row⟩
  exact ok_law T F_law ⟨ok_bag T F__law_bag, m__law_bag, F__law_bag.kp, b__law_bag⟩ C1
    ⟨same_all T F__law_same b__law_same m__law_same 40, m__law_same, F__law_same.kp, b__law_same⟩ C6
    ⟨ok_rowC T F__law_row C1 C6 C7, m__law_row, F__law_row.kp, b__law_row⟩
    ⟨ltext_all T F__law_ordinal_text b__law_ordinal_text m__law_ordinal_text C2 20, m__law_ordinal_text, F__law_ordinal_text.kp, b__law_ordinal_text⟩
    ⟨ok_great T F__law_great_ordinals C2, m__law_great_ordinals, F__law_great_ordinals.kp, b__law_great_ordinals⟩ C8 CP
    (kb_of F_parse_ordinal (fun us ws => us ++ ws) (fun vs zs => vs ++ zs) (fun r1 r2 => r1.append r2) fun _ _ _ _ _ _ us ws hl => by
      match us, ws, hl with
      | [], [_], _ => rfl
      | [_], [], _ => rfl
      | [], [], h => cases h
      | [], _ :: _ :: _, h => cases h
      | [_], _ :: _, h => cases h
      | _ :: _ :: _, _, h => cases h)
    C9
    (kb_of F_format_row (fun us ws => us ++ ws) (fun vs zs => vs ++ zs) (fun r1 r2 => r1.append r2) fun _ _ _ _ _ _ us ws hl => by
      match us, ws, hl with
      | [], [_], _ => rfl
      | [_], [], _ => rfl
      | [], [], h => cases h
      | [], _ :: _ :: _, h => cases h
      | [_], _ :: _, h => cases h
      | _ :: _ :: _, _, h => cases h)
    ⟨ok_parse_row T F_parse_row CP CR, m_parse_row, F_parse_row.kp, b_parse_row⟩
    (kb_of F_parse_row swapG swapG swap_rel fun _ _ _ _ _ _ us ws hl => by
      match us, ws, hl with
      | [], [_, _], _ => rfl
      | [], [], h => cases h
      | [], [_], h => cases h
      | [], _ :: _ :: _ :: _, h => cases h
      | _ :: _, _, h => cases h)
end
end Vw

namespace Vw
open PySem PySem.W PyProof.Rows L2
theorem all_mk {l : PySem.W.OpenLaw} {w : World} {K : PySem.W.Frag} {h : Heap} {mg : Str → Option Value} {fa : Addr} (X : K.In h) (G : h.Ns mainGlobals mg) (hfa : mg "law" = some (.ref fa))
    {aVowError : Addr} (ac_VowError : PySem.W.nsIn K mainGlobals "VowError" = some (some (.ref aVowError)))
    {aParseError : Addr} (ac_ParseError : PySem.W.nsIn K mainGlobals "ParseError" = some (some (.ref aParseError)))
    {f_is_ordinal : Addr} {od_is_ordinal an_is_ordinal : Option Addr} {sl_is_ordinal : Array (Option Value)} {oc_is_ordinal kV_is_ordinal dc_is_ordinal pm_is_ordinal cd_is_ordinal ct_is_ordinal : Value}
    (a_is_ordinal : PySem.W.nsIn K mainGlobals "is_ordinal" = some (some (.ref f_is_ordinal))) (l_is_ordinal : K.lookup f_is_ordinal = some ⟨oc_is_ordinal, od_is_ordinal, .func (PySem.W.fnOf "is_ordinal" "is_ordinal" (defArgs sis_ordinal) (defBody sis_ordinal) (defScope sis_ordinal) .none kV_is_ordinal dc_is_ordinal pm_is_ordinal an_is_ordinal cd_is_ordinal ct_is_ordinal), sl_is_ordinal⟩) (c_is_ordinal : PySem.W.codeIn K cd_is_ordinal "is_ordinal" = true) (k_is_ordinal : PySem.W.keepIn K (.ref f_is_ordinal) = true)
    {f__is_term : Addr} {od__is_term an__is_term : Option Addr} {sl__is_term : Array (Option Value)} {oc__is_term kV__is_term dc__is_term pm__is_term cd__is_term ct__is_term : Value}
    (a__is_term : PySem.W.nsIn K mainGlobals "_is_term" = some (some (.ref f__is_term))) (l__is_term : K.lookup f__is_term = some ⟨oc__is_term, od__is_term, .func (PySem.W.fnOf "_is_term" "_is_term" (defArgs s_is_term) (defBody s_is_term) (defScope s_is_term) .none kV__is_term dc__is_term pm__is_term an__is_term cd__is_term ct__is_term), sl__is_term⟩) (c__is_term : PySem.W.codeIn K cd__is_term "_is_term" = true) (k__is_term : PySem.W.keepIn K (.ref f__is_term) = true)
    {f__is_count : Addr} {od__is_count an__is_count : Option Addr} {sl__is_count : Array (Option Value)} {oc__is_count kV__is_count dc__is_count pm__is_count cd__is_count ct__is_count : Value}
    (a__is_count : PySem.W.nsIn K mainGlobals "_is_count" = some (some (.ref f__is_count))) (l__is_count : K.lookup f__is_count = some ⟨oc__is_count, od__is_count, .func (PySem.W.fnOf "_is_count" "_is_count" (defArgs s_is_count) (defBody s_is_count) (defScope s_is_count) .none kV__is_count dc__is_count pm__is_count an__is_count cd__is_count ct__is_count), sl__is_count⟩) (c__is_count : PySem.W.codeIn K cd__is_count "_is_count" = true) (k__is_count : PySem.W.keepIn K (.ref f__is_count) = true)
    {f_natural : Addr} {od_natural an_natural : Option Addr} {sl_natural : Array (Option Value)} {oc_natural kV_natural dc_natural pm_natural cd_natural ct_natural : Value}
    (a_natural : PySem.W.nsIn K mainGlobals "natural" = some (some (.ref f_natural))) (l_natural : K.lookup f_natural = some ⟨oc_natural, od_natural, .func (PySem.W.fnOf "natural" "natural" (defArgs snatural) (defBody snatural) (defScope snatural) .none kV_natural dc_natural pm_natural an_natural cd_natural ct_natural), sl_natural⟩) (c_natural : PySem.W.codeIn K cd_natural "natural" = true) (k_natural : PySem.W.keepIn K (.ref f_natural) = true)
    {f_end_of : Addr} {od_end_of an_end_of : Option Addr} {sl_end_of : Array (Option Value)} {oc_end_of kV_end_of dc_end_of pm_end_of cd_end_of ct_end_of : Value}
    (a_end_of : PySem.W.nsIn K mainGlobals "end_of" = some (some (.ref f_end_of))) (l_end_of : K.lookup f_end_of = some ⟨oc_end_of, od_end_of, .func (PySem.W.fnOf "end_of" "end_of" (defArgs send_of) (defBody send_of) (defScope send_of) .none kV_end_of dc_end_of pm_end_of an_end_of cd_end_of ct_end_of), sl_end_of⟩) (c_end_of : PySem.W.codeIn K cd_end_of "end_of" = true) (k_end_of : PySem.W.keepIn K (.ref f_end_of) = true)
    {f_is_row : Addr} {od_is_row an_is_row : Option Addr} {sl_is_row : Array (Option Value)} {oc_is_row kV_is_row dc_is_row pm_is_row cd_is_row ct_is_row : Value}
    (a_is_row : PySem.W.nsIn K mainGlobals "is_row" = some (some (.ref f_is_row))) (l_is_row : K.lookup f_is_row = some ⟨oc_is_row, od_is_row, .func (PySem.W.fnOf "is_row" "is_row" (defArgs sis_row) (defBody sis_row) (defScope sis_row) .none kV_is_row dc_is_row pm_is_row an_is_row cd_is_row ct_is_row), sl_is_row⟩) (c_is_row : PySem.W.codeIn K cd_is_row "is_row" = true) (k_is_row : PySem.W.keepIn K (.ref f_is_row) = true)
    {f_format_ordinal : Addr} {od_format_ordinal an_format_ordinal : Option Addr} {sl_format_ordinal : Array (Option Value)} {oc_format_ordinal kV_format_ordinal dc_format_ordinal pm_format_ordinal cd_format_ordinal ct_format_ordinal : Value}
    (a_format_ordinal : PySem.W.nsIn K mainGlobals "format_ordinal" = some (some (.ref f_format_ordinal))) (l_format_ordinal : K.lookup f_format_ordinal = some ⟨oc_format_ordinal, od_format_ordinal, .func (PySem.W.fnOf "format_ordinal" "format_ordinal" (defArgs sformat_ordinal) (defBody sformat_ordinal) (defScope sformat_ordinal) .none kV_format_ordinal dc_format_ordinal pm_format_ordinal an_format_ordinal cd_format_ordinal ct_format_ordinal), sl_format_ordinal⟩) (c_format_ordinal : PySem.W.codeIn K cd_format_ordinal "format_ordinal" = true) (k_format_ordinal : PySem.W.keepIn K (.ref f_format_ordinal) = true)
    {f__term_text : Addr} {od__term_text an__term_text : Option Addr} {sl__term_text : Array (Option Value)} {oc__term_text kV__term_text dc__term_text pm__term_text cd__term_text ct__term_text : Value}
    (a__term_text : PySem.W.nsIn K mainGlobals "_term_text" = some (some (.ref f__term_text))) (l__term_text : K.lookup f__term_text = some ⟨oc__term_text, od__term_text, .func (PySem.W.fnOf "_term_text" "_term_text" (defArgs s_term_text) (defBody s_term_text) (defScope s_term_text) .none kV__term_text dc__term_text pm__term_text an__term_text cd__term_text ct__term_text), sl__term_text⟩) (c__term_text : PySem.W.codeIn K cd__term_text "_term_text" = true) (k__term_text : PySem.W.keepIn K (.ref f__term_text) = true)
    {f__power_text : Addr} {od__power_text an__power_text : Option Addr} {sl__power_text : Array (Option Value)} {oc__power_text kV__power_text dc__power_text pm__power_text cd__power_text ct__power_text : Value}
    (a__power_text : PySem.W.nsIn K mainGlobals "_power_text" = some (some (.ref f__power_text))) (l__power_text : K.lookup f__power_text = some ⟨oc__power_text, od__power_text, .func (PySem.W.fnOf "_power_text" "_power_text" (defArgs s_power_text) (defBody s_power_text) (defScope s_power_text) .none kV__power_text dc__power_text pm__power_text an__power_text cd__power_text ct__power_text), sl__power_text⟩) (c__power_text : PySem.W.codeIn K cd__power_text "_power_text" = true) (k__power_text : PySem.W.keepIn K (.ref f__power_text) = true)
    {f_format_row : Addr} {od_format_row an_format_row : Option Addr} {sl_format_row : Array (Option Value)} {oc_format_row kV_format_row dc_format_row pm_format_row cd_format_row ct_format_row : Value}
    (a_format_row : PySem.W.nsIn K mainGlobals "format_row" = some (some (.ref f_format_row))) (l_format_row : K.lookup f_format_row = some ⟨oc_format_row, od_format_row, .func (PySem.W.fnOf "format_row" "format_row" (defArgs sformat_row) (defBody sformat_row) (defScope sformat_row) .none kV_format_row dc_format_row pm_format_row an_format_row cd_format_row ct_format_row), sl_format_row⟩) (c_format_row : PySem.W.codeIn K cd_format_row "format_row" = true) (k_format_row : PySem.W.keepIn K (.ref f_format_row) = true)
    {f_parse_ordinal : Addr} {od_parse_ordinal an_parse_ordinal : Option Addr} {sl_parse_ordinal : Array (Option Value)} {oc_parse_ordinal kV_parse_ordinal dc_parse_ordinal pm_parse_ordinal cd_parse_ordinal ct_parse_ordinal : Value}
    (a_parse_ordinal : PySem.W.nsIn K mainGlobals "parse_ordinal" = some (some (.ref f_parse_ordinal))) (l_parse_ordinal : K.lookup f_parse_ordinal = some ⟨oc_parse_ordinal, od_parse_ordinal, .func (PySem.W.fnOf "parse_ordinal" "parse_ordinal" (defArgs sparse_ordinal) (defBody sparse_ordinal) (defScope sparse_ordinal) .none kV_parse_ordinal dc_parse_ordinal pm_parse_ordinal an_parse_ordinal cd_parse_ordinal ct_parse_ordinal), sl_parse_ordinal⟩) (c_parse_ordinal : PySem.W.codeIn K cd_parse_ordinal "parse_ordinal" = true) (k_parse_ordinal : PySem.W.keepIn K (.ref f_parse_ordinal) = true)
    {f__terms_at : Addr} {od__terms_at an__terms_at : Option Addr} {sl__terms_at : Array (Option Value)} {oc__terms_at kV__terms_at dc__terms_at pm__terms_at cd__terms_at ct__terms_at : Value}
    (a__terms_at : PySem.W.nsIn K mainGlobals "_terms_at" = some (some (.ref f__terms_at))) (l__terms_at : K.lookup f__terms_at = some ⟨oc__terms_at, od__terms_at, .func (PySem.W.fnOf "_terms_at" "_terms_at" (defArgs s_terms_at) (defBody s_terms_at) (defScope s_terms_at) .none kV__terms_at dc__terms_at pm__terms_at an__terms_at cd__terms_at ct__terms_at), sl__terms_at⟩) (c__terms_at : PySem.W.codeIn K cd__terms_at "_terms_at" = true) (k__terms_at : PySem.W.keepIn K (.ref f__terms_at) = true)
    {f__term_at : Addr} {od__term_at an__term_at : Option Addr} {sl__term_at : Array (Option Value)} {oc__term_at kV__term_at dc__term_at pm__term_at cd__term_at ct__term_at : Value}
    (a__term_at : PySem.W.nsIn K mainGlobals "_term_at" = some (some (.ref f__term_at))) (l__term_at : K.lookup f__term_at = some ⟨oc__term_at, od__term_at, .func (PySem.W.fnOf "_term_at" "_term_at" (defArgs s_term_at) (defBody s_term_at) (defScope s_term_at) .none kV__term_at dc__term_at pm__term_at an__term_at cd__term_at ct__term_at), sl__term_at⟩) (c__term_at : PySem.W.codeIn K cd__term_at "_term_at" = true) (k__term_at : PySem.W.keepIn K (.ref f__term_at) = true)
    {f__exponent_at : Addr} {od__exponent_at an__exponent_at : Option Addr} {sl__exponent_at : Array (Option Value)} {oc__exponent_at kV__exponent_at dc__exponent_at pm__exponent_at cd__exponent_at ct__exponent_at : Value}
    (a__exponent_at : PySem.W.nsIn K mainGlobals "_exponent_at" = some (some (.ref f__exponent_at))) (l__exponent_at : K.lookup f__exponent_at = some ⟨oc__exponent_at, od__exponent_at, .func (PySem.W.fnOf "_exponent_at" "_exponent_at" (defArgs s_exponent_at) (defBody s_exponent_at) (defScope s_exponent_at) .none kV__exponent_at dc__exponent_at pm__exponent_at an__exponent_at cd__exponent_at ct__exponent_at), sl__exponent_at⟩) (c__exponent_at : PySem.W.codeIn K cd__exponent_at "_exponent_at" = true) (k__exponent_at : PySem.W.keepIn K (.ref f__exponent_at) = true)
    {f__number_at : Addr} {od__number_at an__number_at : Option Addr} {sl__number_at : Array (Option Value)} {oc__number_at kV__number_at dc__number_at pm__number_at cd__number_at ct__number_at : Value}
    (a__number_at : PySem.W.nsIn K mainGlobals "_number_at" = some (some (.ref f__number_at))) (l__number_at : K.lookup f__number_at = some ⟨oc__number_at, od__number_at, .func (PySem.W.fnOf "_number_at" "_number_at" (defArgs s_number_at) (defBody s_number_at) (defScope s_number_at) .none kV__number_at dc__number_at pm__number_at an__number_at cd__number_at ct__number_at), sl__number_at⟩) (c__number_at : PySem.W.codeIn K cd__number_at "_number_at" = true) (k__number_at : PySem.W.keepIn K (.ref f__number_at) = true)
    {f_parse_row : Addr} {od_parse_row an_parse_row : Option Addr} {sl_parse_row : Array (Option Value)} {oc_parse_row kV_parse_row dc_parse_row pm_parse_row cd_parse_row ct_parse_row : Value}
    (a_parse_row : PySem.W.nsIn K mainGlobals "parse_row" = some (some (.ref f_parse_row))) (l_parse_row : K.lookup f_parse_row = some ⟨oc_parse_row, od_parse_row, .func (PySem.W.fnOf "parse_row" "parse_row" (defArgs sparse_row) (defBody sparse_row) (defScope sparse_row) .none kV_parse_row dc_parse_row pm_parse_row an_parse_row cd_parse_row ct_parse_row), sl_parse_row⟩) (c_parse_row : PySem.W.codeIn K cd_parse_row "parse_row" = true) (k_parse_row : PySem.W.keepIn K (.ref f_parse_row) = true)
    {f__law_bag : Addr} {od__law_bag an__law_bag : Option Addr} {sl__law_bag : Array (Option Value)} {oc__law_bag kV__law_bag dc__law_bag pm__law_bag cd__law_bag ct__law_bag : Value}
    (a__law_bag : PySem.W.nsIn K mainGlobals "_law_bag" = some (some (.ref f__law_bag))) (l__law_bag : K.lookup f__law_bag = some ⟨oc__law_bag, od__law_bag, .func (PySem.W.fnOf "_law_bag" "_law_bag" (defArgs s_law_bag) (defBody s_law_bag) (defScope s_law_bag) .none kV__law_bag dc__law_bag pm__law_bag an__law_bag cd__law_bag ct__law_bag), sl__law_bag⟩) (c__law_bag : PySem.W.codeIn K cd__law_bag "_law_bag" = true) (k__law_bag : PySem.W.keepIn K (.ref f__law_bag) = true)
    {f__law_pull : Addr} {od__law_pull an__law_pull : Option Addr} {sl__law_pull : Array (Option Value)} {oc__law_pull kV__law_pull dc__law_pull pm__law_pull cd__law_pull ct__law_pull : Value}
    (a__law_pull : PySem.W.nsIn K mainGlobals "_law_pull" = some (some (.ref f__law_pull))) (l__law_pull : K.lookup f__law_pull = some ⟨oc__law_pull, od__law_pull, .func (PySem.W.fnOf "_law_pull" "_law_pull" (defArgs s_law_pull) (defBody s_law_pull) (defScope s_law_pull) .none kV__law_pull dc__law_pull pm__law_pull an__law_pull cd__law_pull ct__law_pull), sl__law_pull⟩) (c__law_pull : PySem.W.codeIn K cd__law_pull "_law_pull" = true) (k__law_pull : PySem.W.keepIn K (.ref f__law_pull) = true)
    {f__law_same : Addr} {od__law_same an__law_same : Option Addr} {sl__law_same : Array (Option Value)} {oc__law_same kV__law_same dc__law_same pm__law_same cd__law_same ct__law_same : Value}
    (a__law_same : PySem.W.nsIn K mainGlobals "_law_same" = some (some (.ref f__law_same))) (l__law_same : K.lookup f__law_same = some ⟨oc__law_same, od__law_same, .func (PySem.W.fnOf "_law_same" "_law_same" (defArgs s_law_same) (defBody s_law_same) (defScope s_law_same) .none kV__law_same dc__law_same pm__law_same an__law_same cd__law_same ct__law_same), sl__law_same⟩) (c__law_same : PySem.W.codeIn K cd__law_same "_law_same" = true) (k__law_same : PySem.W.keepIn K (.ref f__law_same) = true)
    {f__law_num : Addr} {od__law_num an__law_num : Option Addr} {sl__law_num : Array (Option Value)} {oc__law_num kV__law_num dc__law_num pm__law_num cd__law_num ct__law_num : Value}
    (a__law_num : PySem.W.nsIn K mainGlobals "_law_num" = some (some (.ref f__law_num))) (l__law_num : K.lookup f__law_num = some ⟨oc__law_num, od__law_num, .func (PySem.W.fnOf "_law_num" "_law_num" (defArgs s_law_num) (defBody s_law_num) (defScope s_law_num) .none kV__law_num dc__law_num pm__law_num an__law_num cd__law_num ct__law_num), sl__law_num⟩) (c__law_num : PySem.W.codeIn K cd__law_num "_law_num" = true) (k__law_num : PySem.W.keepIn K (.ref f__law_num) = true)
    {f__law_ordinal : Addr} {od__law_ordinal an__law_ordinal : Option Addr} {sl__law_ordinal : Array (Option Value)} {oc__law_ordinal kV__law_ordinal dc__law_ordinal pm__law_ordinal cd__law_ordinal ct__law_ordinal : Value}
    (a__law_ordinal : PySem.W.nsIn K mainGlobals "_law_ordinal" = some (some (.ref f__law_ordinal))) (l__law_ordinal : K.lookup f__law_ordinal = some ⟨oc__law_ordinal, od__law_ordinal, .func (PySem.W.fnOf "_law_ordinal" "_law_ordinal" (defArgs s_law_ordinal) (defBody s_law_ordinal) (defScope s_law_ordinal) .none kV__law_ordinal dc__law_ordinal pm__law_ordinal an__law_ordinal cd__law_ordinal ct__law_ordinal), sl__law_ordinal⟩) (c__law_ordinal : PySem.W.codeIn K cd__law_ordinal "_law_ordinal" = true) (k__law_ordinal : PySem.W.keepIn K (.ref f__law_ordinal) = true)
    {f__law_sum : Addr} {od__law_sum an__law_sum : Option Addr} {sl__law_sum : Array (Option Value)} {oc__law_sum kV__law_sum dc__law_sum pm__law_sum cd__law_sum ct__law_sum : Value}
    (a__law_sum : PySem.W.nsIn K mainGlobals "_law_sum" = some (some (.ref f__law_sum))) (l__law_sum : K.lookup f__law_sum = some ⟨oc__law_sum, od__law_sum, .func (PySem.W.fnOf "_law_sum" "_law_sum" (defArgs s_law_sum) (defBody s_law_sum) (defScope s_law_sum) .none kV__law_sum dc__law_sum pm__law_sum an__law_sum cd__law_sum ct__law_sum), sl__law_sum⟩) (c__law_sum : PySem.W.codeIn K cd__law_sum "_law_sum" = true) (k__law_sum : PySem.W.keepIn K (.ref f__law_sum) = true)
    {f__law_raise : Addr} {od__law_raise an__law_raise : Option Addr} {sl__law_raise : Array (Option Value)} {oc__law_raise kV__law_raise dc__law_raise pm__law_raise cd__law_raise ct__law_raise : Value}
    (a__law_raise : PySem.W.nsIn K mainGlobals "_law_raise" = some (some (.ref f__law_raise))) (l__law_raise : K.lookup f__law_raise = some ⟨oc__law_raise, od__law_raise, .func (PySem.W.fnOf "_law_raise" "_law_raise" (defArgs s_law_raise) (defBody s_law_raise) (defScope s_law_raise) .none kV__law_raise dc__law_raise pm__law_raise an__law_raise cd__law_raise ct__law_raise), sl__law_raise⟩) (c__law_raise : PySem.W.codeIn K cd__law_raise "_law_raise" = true) (k__law_raise : PySem.W.keepIn K (.ref f__law_raise) = true)
    {f__law_row : Addr} {od__law_row an__law_row : Option Addr} {sl__law_row : Array (Option Value)} {oc__law_row kV__law_row dc__law_row pm__law_row cd__law_row ct__law_row : Value}
    (a__law_row : PySem.W.nsIn K mainGlobals "_law_row" = some (some (.ref f__law_row))) (l__law_row : K.lookup f__law_row = some ⟨oc__law_row, od__law_row, .func (PySem.W.fnOf "_law_row" "_law_row" (defArgs s_law_row) (defBody s_law_row) (defScope s_law_row) .none kV__law_row dc__law_row pm__law_row an__law_row cd__law_row ct__law_row), sl__law_row⟩) (c__law_row : PySem.W.codeIn K cd__law_row "_law_row" = true) (k__law_row : PySem.W.keepIn K (.ref f__law_row) = true)
    {f__law_ordinal_text : Addr} {od__law_ordinal_text an__law_ordinal_text : Option Addr} {sl__law_ordinal_text : Array (Option Value)} {oc__law_ordinal_text kV__law_ordinal_text dc__law_ordinal_text pm__law_ordinal_text cd__law_ordinal_text ct__law_ordinal_text : Value}
    (a__law_ordinal_text : PySem.W.nsIn K mainGlobals "_law_ordinal_text" = some (some (.ref f__law_ordinal_text))) (l__law_ordinal_text : K.lookup f__law_ordinal_text = some ⟨oc__law_ordinal_text, od__law_ordinal_text, .func (PySem.W.fnOf "_law_ordinal_text" "_law_ordinal_text" (defArgs s_law_ordinal_text) (defBody s_law_ordinal_text) (defScope s_law_ordinal_text) .none kV__law_ordinal_text dc__law_ordinal_text pm__law_ordinal_text an__law_ordinal_text cd__law_ordinal_text ct__law_ordinal_text), sl__law_ordinal_text⟩) (c__law_ordinal_text : PySem.W.codeIn K cd__law_ordinal_text "_law_ordinal_text" = true) (k__law_ordinal_text : PySem.W.keepIn K (.ref f__law_ordinal_text) = true)
    {f__law_great_ordinals : Addr} {od__law_great_ordinals an__law_great_ordinals : Option Addr} {sl__law_great_ordinals : Array (Option Value)} {oc__law_great_ordinals kV__law_great_ordinals dc__law_great_ordinals pm__law_great_ordinals cd__law_great_ordinals ct__law_great_ordinals : Value}
    (a__law_great_ordinals : PySem.W.nsIn K mainGlobals "_law_great_ordinals" = some (some (.ref f__law_great_ordinals))) (l__law_great_ordinals : K.lookup f__law_great_ordinals = some ⟨oc__law_great_ordinals, od__law_great_ordinals, .func (PySem.W.fnOf "_law_great_ordinals" "_law_great_ordinals" (defArgs s_law_great_ordinals) (defBody s_law_great_ordinals) (defScope s_law_great_ordinals) .none kV__law_great_ordinals dc__law_great_ordinals pm__law_great_ordinals an__law_great_ordinals cd__law_great_ordinals ct__law_great_ordinals), sl__law_great_ordinals⟩) (c__law_great_ordinals : PySem.W.codeIn K cd__law_great_ordinals "_law_great_ordinals" = true) (k__law_great_ordinals : PySem.W.keepIn K (.ref f__law_great_ordinals) = true)
    {f_law : Addr} {od_law an_law : Option Addr} {sl_law : Array (Option Value)} {oc_law kV_law dc_law pm_law cd_law ct_law : Value}
    (a_law : PySem.W.nsIn K mainGlobals "law" = some (some (.ref f_law))) (l_law : K.lookup f_law = some ⟨oc_law, od_law, .func (PySem.W.fnOf "law" "law" (defArgs slaw) (defBody slaw) (defScope slaw) .none kV_law dc_law pm_law an_law cd_law ct_law), sl_law⟩) (c_law : PySem.W.codeIn K cd_law "law" = true) (k_law : PySem.W.keepIn K (.ref f_law) = true)
    {f_omega_power D_omega_power : Addr} {od_omega_power an_omega_power : Option Addr} {sl_omega_power : Array (Option Value)} {oc_omega_power dc_omega_power pm_omega_power cd_omega_power ct_omega_power : Value} {tk_omega_power : Tok}
    (a_omega_power : PySem.W.nsIn K mainGlobals "omega_power" = some (some (.ref f_omega_power))) (l_omega_power : K.lookup f_omega_power = some ⟨oc_omega_power, od_omega_power, .func (PySem.W.fnOf "omega_power" "omega_power" (defArgs somega_power) (defBody somega_power) (defScope somega_power) .none (.ref D_omega_power) dc_omega_power pm_omega_power an_omega_power cd_omega_power ct_omega_power), sl_omega_power⟩) (c_omega_power : PySem.W.codeIn K cd_omega_power "omega_power" = true) (k_omega_power : PySem.W.keepIn K (.ref f_omega_power) = true) (w_omega_power : PySem.W.nsIn K D_omega_power "times" = some (some (.int 1 tk_omega_power)))
    (z_len : PySem.W.nsIn K mainGlobals "len" = some none)
    (z_range : PySem.W.nsIn K mainGlobals "range" = some none)
    (z_enumerate : PySem.W.nsIn K mainGlobals "enumerate" = some none)
    (z_isinstance : PySem.W.nsIn K mainGlobals "isinstance" = some none)
    (z_int : PySem.W.nsIn K mainGlobals "int" = some none)
    (z_list : PySem.W.nsIn K mainGlobals "list" = some none)
    (z_tuple : PySem.W.nsIn K mainGlobals "tuple" = some none)
    (z_str : PySem.W.nsIn K mainGlobals "str" = some none)
    (z_bool : PySem.W.nsIn K mainGlobals "bool" = some none)
    (z_all : PySem.W.nsIn K mainGlobals "all" = some none)
    (z_sorted : PySem.W.nsIn K mainGlobals "sorted" = some none)
    (z_ValueError : PySem.W.nsIn K mainGlobals "ValueError" = some none)
    {aZERO : Addr} (ac_ZERO : PySem.W.nsIn K mainGlobals "ZERO" = some (some (.ref aZERO)))
    {oz1 : Option Addr} {nz1 : Nat} {sz1 : Array (Option Value)} (lz1 : K.lookup aZERO = some ⟨.type "tuple", oz1, .seq #[] nz1, sz1⟩)
    {aONE : Addr} (ac_ONE : PySem.W.nsIn K mainGlobals "ONE" = some (some (.ref aONE)))
    {p1 q1 : Addr} {tk1 : Tok} {o1 o2 o3 : Option Addr} {n1 n2 n3 : Nat} {sl1 sl2 sl3 : Array (Option Value)} (lo1 : K.lookup aONE = some ⟨.type "tuple", o1, .seq #[.ref p1] n1, sl1⟩) (lo2 : K.lookup p1 = some ⟨.type "tuple", o2, .seq #[.ref q1, .int 1 tk1] n2, sl2⟩) (lo3 : K.lookup q1 = some ⟨.type "tuple", o3, .seq #[] n3, sl3⟩)
    {tk_MOST_DIGITS : Tok} (ac__MOST_DIGITS : PySem.W.nsIn K mainGlobals "_MOST_DIGITS" = some (some (.int 30 tk_MOST_DIGITS))) :
    ∃ fd : FuncData, (∀ (s : Shared) (v : Value), BindsTo s fd ⟨[v], []⟩ [("_law_script", v)]) ∧ ∀ base : Heap, K.In base → base.Ns mainGlobals mg → FnOk l.prog w K mg base CX0 126 fa fd ["_law_script"] (spLaw K) := by
  have e := hfa.symm.trans (PySem.W.mg_of X G a_law)
  cases e
  have F_is_ordinal := fun_mk (st := sis_ordinal) l_is_ordinal c_is_ordinal k_is_ordinal
  have b_is_ordinal := F_is_ordinal.binds (ps := ["value"]) fun _ _ _ _ _ _ us hl => match us, hl with | [_], _ => rfl
  have m_is_ordinal := PySem.W.mg_of X G a_is_ordinal
  have F__is_term := fun_mk (st := s_is_term) l__is_term c__is_term k__is_term
  have b__is_term := F__is_term.binds (ps := ["value"]) fun _ _ _ _ _ _ us hl => match us, hl with | [_], _ => rfl
  have m__is_term := PySem.W.mg_of X G a__is_term
  have F__is_count := fun_mk (st := s_is_count) l__is_count c__is_count k__is_count
  have b__is_count := F__is_count.binds (ps := ["value"]) fun _ _ _ _ _ _ us hl => match us, hl with | [_], _ => rfl
  have m__is_count := PySem.W.mg_of X G a__is_count
  have F_natural := fun_mk (st := snatural) l_natural c_natural k_natural
  have b_natural := F_natural.binds (ps := ["number"]) fun _ _ _ _ _ _ us hl => match us, hl with | [_], _ => rfl
  have m_natural := PySem.W.mg_of X G a_natural
  have F_end_of := fun_mk (st := send_of) l_end_of c_end_of k_end_of
  have b_end_of := F_end_of.binds (ps := ["ordinal"]) fun _ _ _ _ _ _ us hl => match us, hl with | [_], _ => rfl
  have m_end_of := PySem.W.mg_of X G a_end_of
  have F_is_row := fun_mk (st := sis_row) l_is_row c_is_row k_is_row
  have b_is_row := F_is_row.binds (ps := ["levels", "value"]) fun _ _ _ _ _ _ us hl => match us, hl with | [_, _], _ => rfl
  have m_is_row := PySem.W.mg_of X G a_is_row
  have F_format_ordinal := fun_mk (st := sformat_ordinal) l_format_ordinal c_format_ordinal k_format_ordinal
  have b_format_ordinal := F_format_ordinal.binds (ps := ["ordinal"]) fun _ _ _ _ _ _ us hl => match us, hl with | [_], _ => rfl
  have m_format_ordinal := PySem.W.mg_of X G a_format_ordinal
  have F__term_text := fun_mk (st := s_term_text) l__term_text c__term_text k__term_text
  have b__term_text := F__term_text.binds (ps := ["exponent", "count"]) fun _ _ _ _ _ _ us hl => match us, hl with | [_, _], _ => rfl
  have m__term_text := PySem.W.mg_of X G a__term_text
  have F__power_text := fun_mk (st := s_power_text) l__power_text c__power_text k__power_text
  have b__power_text := F__power_text.binds (ps := ["exponent"]) fun _ _ _ _ _ _ us hl => match us, hl with | [_], _ => rfl
  have m__power_text := PySem.W.mg_of X G a__power_text
  have F_format_row := fun_mk (st := sformat_row) l_format_row c_format_row k_format_row
  have b_format_row := F_format_row.binds (ps := ["row"]) fun _ _ _ _ _ _ us hl => match us, hl with | [_], _ => rfl
  have m_format_row := PySem.W.mg_of X G a_format_row
  have F_parse_ordinal := fun_mk (st := sparse_ordinal) l_parse_ordinal c_parse_ordinal k_parse_ordinal
  have b_parse_ordinal := F_parse_ordinal.binds (ps := ["text"]) fun _ _ _ _ _ _ us hl => match us, hl with | [_], _ => rfl
  have m_parse_ordinal := PySem.W.mg_of X G a_parse_ordinal
  have F__terms_at := fun_mk (st := s_terms_at) l__terms_at c__terms_at k__terms_at
  have b__terms_at := F__terms_at.binds (ps := ["text", "at"]) fun _ _ _ _ _ _ us hl => match us, hl with | [_, _], _ => rfl
  have m__terms_at := PySem.W.mg_of X G a__terms_at
  have F__term_at := fun_mk (st := s_term_at) l__term_at c__term_at k__term_at
  have b__term_at := F__term_at.binds (ps := ["text", "at"]) fun _ _ _ _ _ _ us hl => match us, hl with | [_, _], _ => rfl
  have m__term_at := PySem.W.mg_of X G a__term_at
  have F__exponent_at := fun_mk (st := s_exponent_at) l__exponent_at c__exponent_at k__exponent_at
  have b__exponent_at := F__exponent_at.binds (ps := ["text", "at"]) fun _ _ _ _ _ _ us hl => match us, hl with | [_, _], _ => rfl
  have m__exponent_at := PySem.W.mg_of X G a__exponent_at
  have F__number_at := fun_mk (st := s_number_at) l__number_at c__number_at k__number_at
  have b__number_at := F__number_at.binds (ps := ["text", "at"]) fun _ _ _ _ _ _ us hl => match us, hl with | [_, _], _ => rfl
  have m__number_at := PySem.W.mg_of X G a__number_at
  have F_parse_row := fun_mk (st := sparse_row) l_parse_row c_parse_row k_parse_row
  have b_parse_row := F_parse_row.binds (ps := ["levels", "text"]) fun _ _ _ _ _ _ us hl => match us, hl with | [_, _], _ => rfl
  have m_parse_row := PySem.W.mg_of X G a_parse_row
  have F__law_bag := fun_mk (st := s_law_bag) l__law_bag c__law_bag k__law_bag
  have b__law_bag := F__law_bag.binds (ps := ["_law_script"]) fun _ _ _ _ _ _ us hl => match us, hl with | [_], _ => rfl
  have m__law_bag := PySem.W.mg_of X G a__law_bag
  have F__law_pull := fun_mk (st := s_law_pull) l__law_pull c__law_pull k__law_pull
  have b__law_pull := F__law_pull.binds (ps := ["_law_bag_here", "_law_sides"]) fun _ _ _ _ _ _ us hl => match us, hl with | [_, _], _ => rfl
  have m__law_pull := PySem.W.mg_of X G a__law_pull
  have F__law_same := fun_mk (st := s_law_same) l__law_same c__law_same k__law_same
  have b__law_same := F__law_same.binds (ps := ["_law_found", "_law_due"]) fun _ _ _ _ _ _ us hl => match us, hl with | [_, _], _ => rfl
  have m__law_same := PySem.W.mg_of X G a__law_same
  have F__law_num := fun_mk (st := s_law_num) l__law_num c__law_num k__law_num
  have b__law_num := F__law_num.binds (ps := ["_law_many_z"]) fun _ _ _ _ _ _ us hl => match us, hl with | [_], _ => rfl
  have m__law_num := PySem.W.mg_of X G a__law_num
  have F__law_ordinal := fun_mk (st := s_law_ordinal) l__law_ordinal c__law_ordinal k__law_ordinal
  have b__law_ordinal := F__law_ordinal.binds (ps := ["_law_bag_here", "_law_deep"]) fun _ _ _ _ _ _ us hl => match us, hl with | [_, _], _ => rfl
  have m__law_ordinal := PySem.W.mg_of X G a__law_ordinal
  have F__law_sum := fun_mk (st := s_law_sum) l__law_sum c__law_sum k__law_sum
  have b__law_sum := F__law_sum.binds (ps := ["_law_here", "_law_there"]) fun _ _ _ _ _ _ us hl => match us, hl with | [_, _], _ => rfl
  have m__law_sum := PySem.W.mg_of X G a__law_sum
  have F__law_raise := fun_mk (st := s_law_raise) l__law_raise c__law_raise k__law_raise
  have b__law_raise := F__law_raise.binds (ps := ["_law_here", "_law_last"]) fun _ _ _ _ _ _ us hl => match us, hl with | [_, _], _ => rfl
  have m__law_raise := PySem.W.mg_of X G a__law_raise
  have F__law_row := fun_mk (st := s_law_row) l__law_row c__law_row k__law_row
  have b__law_row := F__law_row.binds (ps := ["_law_bag_here", "_law_many_z"]) fun _ _ _ _ _ _ us hl => match us, hl with | [_, _], _ => rfl
  have m__law_row := PySem.W.mg_of X G a__law_row
  have F__law_ordinal_text := fun_mk (st := s_law_ordinal_text) l__law_ordinal_text c__law_ordinal_text k__law_ordinal_text
  have b__law_ordinal_text := F__law_ordinal_text.binds (ps := ["_law_here"]) fun _ _ _ _ _ _ us hl => match us, hl with | [_], _ => rfl
  have m__law_ordinal_text := PySem.W.mg_of X G a__law_ordinal_text
  have F__law_great_ordinals := fun_mk (st := s_law_great_ordinals) l__law_great_ordinals c__law_great_ordinals k__law_great_ordinals
  have b__law_great_ordinals := F__law_great_ordinals.binds (ps := []) fun _ _ _ _ _ _ us hl => match us, hl with | [], _ => rfl
  have m__law_great_ordinals := PySem.W.mg_of X G a__law_great_ordinals
  have F_law := fun_mk (st := slaw) l_law c_law k_law
  have b_law := F_law.binds (ps := ["_law_script"]) fun _ _ _ _ _ _ us hl => match us, hl with | [_], _ => rfl
  have m_law := PySem.W.mg_of X G a_law
  have F_omega_power : FunD K "omega_power" "omega_power" (defArgs somega_power) (defBody somega_power) (defScope somega_power) [] [("times", .int 1)] f_omega_power _ := ⟨⟨_, _, _, _, _, _, _, _, _, _, rfl, l_omega_power, c_omega_power, .inl ⟨rfl, rfl⟩, .inr ⟨D_omega_power, rfl, fun q hq => by rw [List.mem_singleton.mp hq]; exact ⟨_, w_omega_power, ⟨_, rfl⟩⟩⟩⟩, k_omega_power⟩
  have m_omega_power := PySem.W.mg_of X G a_omega_power
  have y_len := PySem.W.mg_none_of X G z_len
  have y_range := PySem.W.mg_none_of X G z_range
  have y_enumerate := PySem.W.mg_none_of X G z_enumerate
  have y_isinstance := PySem.W.mg_none_of X G z_isinstance
  have y_int := PySem.W.mg_none_of X G z_int
  have y_list := PySem.W.mg_none_of X G z_list
  have y_tuple := PySem.W.mg_none_of X G z_tuple
  have y_str := PySem.W.mg_none_of X G z_str
  have y_bool := PySem.W.mg_none_of X G z_bool
  have y_all := PySem.W.mg_none_of X G z_all
  have y_sorted := PySem.W.mg_none_of X G z_sorted
  have y_ValueError := PySem.W.mg_none_of X G z_ValueError
  have T : Txt K mg aZERO aONE aVowError aParseError := ⟨PySem.W.mg_of X G ac_VowError, PySem.W.mg_of X G ac_ParseError, y_len, y_range, y_enumerate, y_isinstance, y_int, y_list, y_tuple, y_str, y_bool, y_all, y_sorted, y_ValueError, PySem.W.mg_of X G ac_ZERO, ⟨_, _, _, lz1, rfl, rfl, by decide, .nil⟩, PySem.W.mg_of X G ac_ONE, one_mk lo1 lo2 lo3, ⟨_, PySem.W.mg_of X G ac__MOST_DIGITS⟩⟩
  exact ⟨PySem.W.fnOf "law" "law" (defArgs slaw) (defBody slaw) (defScope slaw) .none kV_law dc_law pm_law an_law cd_law ct_law, fun s v => .of_eq rfl, fun base _ _ => main T F_is_ordinal b_is_ordinal m_is_ordinal F__is_term b__is_term m__is_term F__is_count b__is_count m__is_count F_natural b_natural m_natural F_end_of b_end_of m_end_of F_is_row b_is_row m_is_row F_format_ordinal b_format_ordinal m_format_ordinal F__term_text b__term_text m__term_text F__power_text b__power_text m__power_text F_format_row b_format_row m_format_row F_parse_ordinal b_parse_ordinal m_parse_ordinal F__terms_at b__terms_at m__terms_at F__term_at b__term_at m__term_at F__exponent_at b__exponent_at m__exponent_at F__number_at b__number_at m__number_at F_parse_row b_parse_row m_parse_row F__law_bag b__law_bag m__law_bag F__law_pull b__law_pull m__law_pull F__law_same b__law_same m__law_same F__law_num b__law_num m__law_num F__law_ordinal b__law_ordinal m__law_ordinal F__law_sum b__law_sum m__law_sum F__law_raise b__law_raise m__law_raise F__law_row b__law_row m__law_row F__law_ordinal_text b__law_ordinal_text m__law_ordinal_text F__law_great_ordinals b__law_great_ordinals m__law_great_ordinals F_law b_law m_law F_omega_power m_omega_power⟩
end Vw
open PySem PySem.W PyProof.Rows
set_option maxRecDepth 100000 in
set_option maxHeartbeats 0 in
theorem PySem.Challenge.cw_vowstair_k26_texts_of_ordinals_holds : PySem.Challenge.rw_vowstair_k26_texts_of_ordinals.Holds := by
  w_on; o_law; k_head; (case hw => w_witness2)
  k_fill
  refine L2.walk_of (l := PySem.Challenge.rw_vowstair_k26_texts_of_ordinals) (n := 63) (k := 126) (x := "_law_script") (CX := fun _ => L2.CX0) (sp := fun w => Vw.spLaw _) rfl (by decide) rfl ⟨rfl, by decide, by decide⟩ (fun w h Y => PySem.W.kIn_of Y) ?F (fun _ _ a ns hl _ hS => ⟨a, ns, rfl, hS, hl, fun _ => rfl⟩) (fun _ _ _ _ _ h => h)
  case F =>
    intro w mg fa h KX G hmg
    refine' Vw.all_mk KX G hmg ?ac_VowError ?ac_ParseError ?a_is_ordinal ?l_is_ordinal ?c_is_ordinal ?k_is_ordinal ?a__is_term ?l__is_term ?c__is_term ?k__is_term ?a__is_count ?l__is_count ?c__is_count ?k__is_count ?a_natural ?l_natural ?c_natural ?k_natural ?a_end_of ?l_end_of ?c_end_of ?k_end_of ?a_is_row ?l_is_row ?c_is_row ?k_is_row ?a_format_ordinal ?l_format_ordinal ?c_format_ordinal ?k_format_ordinal ?a__term_text ?l__term_text ?c__term_text ?k__term_text ?a__power_text ?l__power_text ?c__power_text ?k__power_text ?a_format_row ?l_format_row ?c_format_row ?k_format_row ?a_parse_ordinal ?l_parse_ordinal ?c_parse_ordinal ?k_parse_ordinal ?a__terms_at ?l__terms_at ?c__terms_at ?k__terms_at ?a__term_at ?l__term_at ?c__term_at ?k__term_at ?a__exponent_at ?l__exponent_at ?c__exponent_at ?k__exponent_at ?a__number_at ?l__number_at ?c__number_at ?k__number_at ?a_parse_row ?l_parse_row ?c_parse_row ?k_parse_row ?a__law_bag ?l__law_bag ?c__law_bag ?k__law_bag ?a__law_pull ?l__law_pull ?c__law_pull ?k__law_pull ?a__law_same ?l__law_same ?c__law_same ?k__law_same ?a__law_num ?l__law_num ?c__law_num ?k__law_num ?a__law_ordinal ?l__law_ordinal ?c__law_ordinal ?k__law_ordinal ?a__law_sum ?l__law_sum ?c__law_sum ?k__law_sum ?a__law_raise ?l__law_raise ?c__law_raise ?k__law_raise ?a__law_row ?l__law_row ?c__law_row ?k__law_row ?a__law_ordinal_text ?l__law_ordinal_text ?c__law_ordinal_text ?k__law_ordinal_text ?a__law_great_ordinals ?l__law_great_ordinals ?c__law_great_ordinals ?k__law_great_ordinals ?a_law ?l_law ?c_law ?k_law ?a_omega_power ?l_omega_power ?c_omega_power ?k_omega_power ?w_omega_power ?z_len ?z_range ?z_enumerate ?z_isinstance ?z_int ?z_list ?z_tuple ?z_str ?z_bool ?z_all ?z_sorted ?z_ValueError ?ac_ZERO ?lz1 ?ac_ONE ?lo1 ?lo2 ?lo3 ?ac__MOST_DIGITS
    (case ac_VowError => k_is)
    (case ac_ParseError => k_is)
    (case a_is_ordinal => k_is)
    (case l_is_ordinal => k_is)
    (case c_is_ordinal => k_is)
    (case k_is_ordinal => k_is)
    (case a__is_term => k_is)
    (case l__is_term => k_is)
    (case c__is_term => k_is)
    (case k__is_term => k_is)
    (case a__is_count => k_is)
    (case l__is_count => k_is)
    (case c__is_count => k_is)
    (case k__is_count => k_is)
    (case a_natural => k_is)
    (case l_natural => k_is)
    (case c_natural => k_is)
    (case k_natural => k_is)
    (case a_end_of => k_is)
    (case l_end_of => k_is)
    (case c_end_of => k_is)
    (case k_end_of => k_is)
    (case a_is_row => k_is)
    (case l_is_row => k_is)
    (case c_is_row => k_is)
    (case k_is_row => k_is)
    (case a_format_ordinal => k_is)
    (case l_format_ordinal => k_is)
    (case c_format_ordinal => k_is)
    (case k_format_ordinal => k_is)
    (case a__term_text => k_is)
    (case l__term_text => k_is)
    (case c__term_text => k_is)
    (case k__term_text => k_is)
    (case a__power_text => k_is)
    (case l__power_text => k_is)
    (case c__power_text => k_is)
    (case k__power_text => k_is)
    (case a_format_row => k_is)
    (case l_format_row => k_is)
    (case c_format_row => k_is)
    (case k_format_row => k_is)
    (case a_parse_ordinal => k_is)
    (case l_parse_ordinal => k_is)
    (case c_parse_ordinal => k_is)
    (case k_parse_ordinal => k_is)
    (case a__terms_at => k_is)
    (case l__terms_at => k_is)
    (case c__terms_at => k_is)
    (case k__terms_at => k_is)
    (case a__term_at => k_is)
    (case l__term_at => k_is)
    (case c__term_at => k_is)
    (case k__term_at => k_is)
    (case a__exponent_at => k_is)
    (case l__exponent_at => k_is)
    (case c__exponent_at => k_is)
    (case k__exponent_at => k_is)
    (case a__number_at => k_is)
    (case l__number_at => k_is)
    (case c__number_at => k_is)
    (case k__number_at => k_is)
    (case a_parse_row => k_is)
    (case l_parse_row => k_is)
    (case c_parse_row => k_is)
    (case k_parse_row => k_is)
    (case a__law_bag => k_is)
    (case l__law_bag => k_is)
    (case c__law_bag => k_is)
    (case k__law_bag => k_is)
    (case a__law_pull => k_is)
    (case l__law_pull => k_is)
    (case c__law_pull => k_is)
    (case k__law_pull => k_is)
    (case a__law_same => k_is)
    (case l__law_same => k_is)
    (case c__law_same => k_is)
    (case k__law_same => k_is)
    (case a__law_num => k_is)
    (case l__law_num => k_is)
    (case c__law_num => k_is)
    (case k__law_num => k_is)
    (case a__law_ordinal => k_is)
    (case l__law_ordinal => k_is)
    (case c__law_ordinal => k_is)
    (case k__law_ordinal => k_is)
    (case a__law_sum => k_is)
    (case l__law_sum => k_is)
    (case c__law_sum => k_is)
    (case k__law_sum => k_is)
    (case a__law_raise => k_is)
    (case l__law_raise => k_is)
    (case c__law_raise => k_is)
    (case k__law_raise => k_is)
    (case a__law_row => k_is)
    (case l__law_row => k_is)
    (case c__law_row => k_is)
    (case k__law_row => k_is)
    (case a__law_ordinal_text => k_is)
    (case l__law_ordinal_text => k_is)
    (case c__law_ordinal_text => k_is)
    (case k__law_ordinal_text => k_is)
    (case a__law_great_ordinals => k_is)
    (case l__law_great_ordinals => k_is)
    (case c__law_great_ordinals => k_is)
    (case k__law_great_ordinals => k_is)
    (case a_law => k_is)
    (case l_law => k_is)
    (case c_law => k_is)
    (case k_law => k_is)
    (case a_omega_power => k_is)
    (case l_omega_power => k_is)
    (case c_omega_power => k_is)
    (case k_omega_power => k_is)
    (case w_omega_power => k_is)
    (case z_len => k_is)
    (case z_range => k_is)
    (case z_enumerate => k_is)
    (case z_isinstance => k_is)
    (case z_int => k_is)
    (case z_list => k_is)
    (case z_tuple => k_is)
    (case z_str => k_is)
    (case z_bool => k_is)
    (case z_all => k_is)
    (case z_sorted => k_is)
    (case z_ValueError => k_is)
    (case ac_ZERO => k_is)
    (case lz1 => k_is)
    (case ac_ONE => k_is)
    (case lo1 => k_is)
    (case lo2 => k_is)
    (case lo3 => k_is)
    (case ac__MOST_DIGITS => k_is)



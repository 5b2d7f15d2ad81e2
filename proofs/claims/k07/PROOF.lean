import PyProof.Rows.All
import Wide.All
import OpenK.AllK
import Wide.FinOn
import KE.DataCmp
import KE.SortCalls
import HandS.ForList
import KE.SortData
import HandS.SortKw
import HandS.ForMost
import HandS.IsInst
import HandS.TupAny
import HandS.EndBits
import HandS.Wide
import HandS.Codes
import KE.GoesEnum
import KE.GoesMore
import PyProof.EnumMake
import PyProof.Draws
import HandS.Defaults
import KE.DataMinMax
import HandS.TupMul
import HandS.Style
import HandS.ExcInit
import HandS.ExcIs
import KE.KTypeName
import HandS.ForExc
import KE.KTryMore
import HandS.Text
import HandS.Walk
import HandS.ExcField
import HandS.HotCalls
import HandS.Lambda
import HandS.EndTab
import KE.KNest
import HandS.HeadWalk
import HandS.More
import PySem.Challenge.RW_vowstair_k07_rows_recognized
namespace Vw
inductive O where
  | z
  | add (e : O) (c : Int) (r : O)
  deriving DecidableEq
namespace O
def lt : O → O → Bool
  | z, z => false
  | z, add _ _ _ => true
  | add _ _ _, z => false
  | add e c r, add e' c' r' => if e = e' then (if c = c' then lt r r' else decide (c < c')) else lt e e'
theorem lt_irrefl : ∀ a : O, lt a a = false
  | z => rfl
  | add e c r => by simp [lt, lt_irrefl r]
theorem lt_trans : ∀ (a b c : O), lt a b = true → lt b c = true → lt a c = true
  | a, b, z, _, h2 => by cases b <;> simp [lt] at h2
  | a, z, add _ _ _, h1, _ => by cases a <;> simp [lt] at h1
  | z, add _ _ _, add _ _ _, _, _ => rfl
  | add e c r, add e' c' r', add e2 c2 r2, h1, h2 => by
    simp only [lt] at h1 h2 ⊢
    by_cases he : e = e'
    · subst he
      by_cases he2 : e = e2
      · subst he2
        simp only [if_true] at h1 h2 ⊢
        by_cases hc : c = c'
        · subst hc
          simp only [if_true] at h1
          by_cases hc2 : c = c2
          · subst hc2
            simp only [if_true] at h2 ⊢
            exact lt_trans r r' r2 h1 h2
          · rw [if_neg hc2] at h2 ⊢; exact h2
        · rw [if_neg hc] at h1
          have h1' := of_decide_eq_true h1
          by_cases hc2 : c' = c2
          · subst hc2; rw [if_neg hc]; exact h1
          · rw [if_neg hc2] at h2
            have h2' := of_decide_eq_true h2
            rw [if_neg (by omega)]; exact decide_eq_true (by omega)
      · rw [if_neg he2] at h2 ⊢; exact h2
    · rw [if_neg he] at h1
      by_cases he2 : e' = e2
      · subst he2; rw [if_neg he]; exact h1
      · rw [if_neg he2] at h2
        have h3 := lt_trans e e' e2 h1 h2
        by_cases he3 : e = e2
        · subst he3; rw [lt_irrefl] at h3; cases h3
        · rw [if_neg he3]; exact h3
theorem lt_asymm {a b : O} (h : lt a b = true) : lt b a = false := by
  cases q : lt b a with
  | false => rfl
  | true => have := lt_trans a b a h q; rw [lt_irrefl] at this; cases this
theorem lt_ne {a b : O} (h : lt a b = true) : a ≠ b := fun e => by subst e; rw [lt_irrefl] at h; cases h
theorem lt_total : ∀ (a b : O), a ≠ b → lt a b = true ∨ lt b a = true
  | z, z, h => absurd rfl h
  | z, add _ _ _, _ => .inl rfl
  | add _ _ _, z, _ => .inr rfl
  | add e c r, add e' c' r', h => by
    simp only [lt]
    by_cases he : e = e'
    · subst he
      simp only [if_true]
      by_cases hc : c = c'
      · subst hc
        simp only [if_true]
        exact lt_total r r' fun q => h (by rw [q])
      · rw [if_neg hc, if_neg (fun q => hc q.symm)]
        rcases Int.lt_or_gt_of_ne hc with q | q
        · exact .inl (decide_eq_true q)
        · exact .inr (decide_eq_true q)
    · rw [if_neg he, if_neg (fun q => he q.symm)]
      exact lt_total e e' he
theorem eq_of {a b : O} (h1 : lt a b = false) (h2 : lt b a = false) : a = b := by
  by_cases h : a = b
  · exact h
  · rcases lt_total a b h with q | q
    · rw [h1] at q; cases q
    · rw [h2] at q; cases q
theorem lt_of_ge {a b : O} (h : lt a b = false) (n : a ≠ b) : lt b a = true := by
  rcases lt_total a b n with q | q
  · rw [h] at q; cases q
  · exact q
/-- b ≤ a -/
theorem ge_trans {a b c : O} (h1 : lt a b = false) (h2 : lt b c = false) : lt a c = false := by
  cases q : lt a c with
  | false => rfl
  | true =>
    by_cases e : b = c
    · subst e; rw [h1] at q; cases q
    · have h3 := lt_of_ge h2 e
      have h4 := lt_trans _ _ _ q h3
      rw [h1] at h4; cases h4
theorem lt_ge {a b c : O} (h1 : lt a b = true) (h2 : lt c b = false) : lt a c = true := by
  by_cases e : c = b
  · subst e; exact h1
  · exact lt_trans _ _ _ h1 (lt_of_ge h2 e)
theorem ge_lt {a b c : O} (h1 : lt b a = false) (h2 : lt b c = true) : lt a c = true := by
  by_cases e : b = a
  · subst e; exact h2
  · exact lt_trans _ _ _ (lt_of_ge h1 e) h2

/-- the terms -/
def ts : O → List (O × Int)
  | z => []
  | add e c r => (e, c) :: ts r
def of : List (O × Int) → O
  | [] => z
  | (e, c) :: r => add e c (of r)
theorem of_ts : ∀ o : O, of (ts o) = o
  | z => rfl
  | add e c r => by show add e c (of (ts r)) = _; rw [of_ts r]
theorem ts_of : ∀ l : List (O × Int), ts (of l) = l
  | [] => rfl
  | (e, c) :: r => by show (e, c) :: ts (of r) = _; rw [ts_of r]
theorem ts_inj {a b : O} (h : ts a = ts b) : a = b := by rw [← of_ts a, ← of_ts b, h]

/-- the head's exponent is below e -/
def under (e : O) : O → Bool
  | z => true
  | add e' _ _ => lt e' e
/-- a right ordinal -/
def ok : O → Bool
  | z => true
  | add e c r => ok e && decide (1 ≤ c) && ok r && under e r
theorem ok_add {e : O} {c : Int} {r : O} : ok (add e c r) = true ↔ ok e = true ∧ 1 ≤ c ∧ ok r = true ∧ under e r = true := by
  simp [ok, Bool.and_eq_true, and_assoc]
/-- all exponents of an ordinal under e are below e -/
theorem under_all : ∀ {r : O} {e : O}, ok r = true → under e r = true → ∀ p ∈ ts r, lt p.1 e = true
  | z, _, _, _, p, hp => by cases hp
  | add e' c' r', e, h, hu, p, hp => by
    have h' := ok_add.mp h
    rcases List.mem_cons.mp hp with q | q
    · subst q; exact hu
    · exact lt_trans _ _ _ (under_all h'.2.2.1 h'.2.2.2 p q) hu

/-- the sum -/
def sum : O → O → O
  | a, z => a
  | z, b => b
  | add e c r, add e' c' r' => if lt e e' = true then add e' c' r' else if e = e' then add e (c + c') r' else add e c (sum r (add e' c' r'))
@[simp] theorem sum_z (a : O) : sum a z = a := by cases a <;> rfl
@[simp] theorem z_sum (b : O) : sum z b = b := by cases b <;> rfl
theorem sum_lt {e : O} {c : Int} {r : O} {e' : O} {c' : Int} {r' : O} (h : lt e e' = true) : sum (add e c r) (add e' c' r') = add e' c' r' := by
  show (if lt e e' = true then _ else _) = _; rw [if_pos h]
theorem sum_eq {e : O} {c : Int} {r : O} {c' : Int} {r' : O} : sum (add e c r) (add e c' r') = add e (c + c') r' := by
  show (if lt e e = true then _ else _) = _
  rw [lt_irrefl, if_neg Bool.false_ne_true, if_pos rfl]
theorem sum_gt {e : O} {c : Int} {r : O} {e' : O} {c' : Int} {r' : O} (h : lt e' e = true) : sum (add e c r) (add e' c' r') = add e c (sum r (add e' c' r')) := by
  show (if lt e e' = true then _ else _) = _
  rw [lt_asymm h, if_neg Bool.false_ne_true, if_neg (lt_ne h).symm]

/-- what the program's plus does -/
def plusP : O → O → O
  | a, z => a
  | a, add e c r => of ((ts a).filter (fun t => lt e t.1) ++ (e, (((ts a).filter fun t => decide (t.1 = e)).map fun t => t.2).sum + c) :: ts r)
/-- what the law's own sum does -/
def sumL : O → O → O
  | a, z => a
  | a, add e c r =>
    let left := (ts a).filter fun t => !lt t.1 e
    match left.getLast? with
    | some (e1, c1) => if e1 = e then of (left.dropLast ++ (e, c1 + c) :: ts r) else of (left ++ (e, c) :: ts r)
    | none => of (left ++ (e, c) :: ts r)
theorem filter_none {α : Type} {p : α → Bool} : ∀ {l : List α}, (∀ x ∈ l, p x = false) → l.filter p = []
  | [], _ => rfl
  | x :: r, h => by
    rw [List.filter_cons, h x List.mem_cons_self, if_neg Bool.false_ne_true]
    exact filter_none fun y hy => h y (List.mem_cons_of_mem _ hy)
theorem plusP_sum : ∀ (a b : O), ok a = true → plusP a b = sum a b
  | a, z, _ => by cases a <;> rfl
  | z, add e c r, _ => by show of ([] ++ (e, 0 + c) :: ts r) = _; simp [of, of_ts]
  | add e1 c1 r1, add e c r, h => by
    have h' := ok_add.mp h
    have ih := plusP_sum r1 (add e c r) h'.2.2.1
    have hall := under_all h'.2.2.1 h'.2.2.2
    by_cases q : e1 = e
    · subst q
      rw [sum_eq]
      have f1 : (ts r1).filter (fun t => lt e1 t.1) = [] := filter_none fun x hx => lt_asymm (hall x hx)
      have f2 : (ts r1).filter (fun t => decide (t.1 = e1)) = [] := filter_none fun x hx => decide_eq_false (lt_ne (hall x hx))
      show of ((ts (add e1 c1 r1)).filter _ ++ _) = _
      simp only [ts, List.filter_cons, lt_irrefl, f1, f2, decide_true, if_true]
      simp [of, of_ts]
    · rcases lt_total e1 e q with k | k
      · rw [sum_lt k]
        have f1 : (ts (add e1 c1 r1)).filter (fun t => lt e t.1) = [] := filter_none fun x hx => by
          rcases List.mem_cons.mp hx with y | y
          · subst y; exact lt_asymm k
          · exact lt_asymm (lt_trans _ _ _ (hall x y) k)
        have f2 : (ts (add e1 c1 r1)).filter (fun t => decide (t.1 = e)) = [] := filter_none fun x hx => by
          rcases List.mem_cons.mp hx with y | y
          · subst y; exact decide_eq_false q
          · exact decide_eq_false (lt_ne (lt_trans _ _ _ (hall x y) k))
        show of ((ts (add e1 c1 r1)).filter _ ++ _) = _
        rw [f1, f2]
        simp [of, of_ts]
      · rw [sum_gt k, ← ih]
        show of ((ts (add e1 c1 r1)).filter _ ++ _) = add e1 c1 (of ((ts r1).filter _ ++ _))
        have d : decide (e1 = e) = false := decide_eq_false q
        simp only [ts, List.filter_cons, k, d, if_true]
        simp [of]
theorem sumL_sum : ∀ (a b : O), ok a = true → sumL a b = sum a b
  | a, z, _ => by cases a <;> rfl
  | z, add e c r, _ => by show of ([] ++ (e, c) :: ts r) = _; simp [of, of_ts]
  | add e1 c1 r1, add e c r, h => by
    have h' := ok_add.mp h
    have ih := sumL_sum r1 (add e c r) h'.2.2.1
    have hall := under_all h'.2.2.1 h'.2.2.2
    by_cases q : e1 = e
    · subst q
      rw [sum_eq]
      have f1 : (ts r1).filter (fun t => !lt t.1 e1) = [] := filter_none fun x hx => by rw [hall x hx]; rfl
      simp only [sumL, ts, List.filter_cons, lt_irrefl, f1, Bool.not_false, if_true]
      simp [of, of_ts]
    · rcases lt_total e1 e q with k | k
      · rw [sum_lt k]
        have f1 : (ts r1).filter (fun t => !lt t.1 e) = [] := filter_none fun x hx => by rw [lt_trans _ _ _ (hall x hx) k]; rfl
        simp only [sumL, ts, List.filter_cons, k, f1]
        simp [of, of_ts]
      · rw [sum_gt k, ← ih]
        have k2 := lt_asymm k
        simp only [sumL, ts, List.filter_cons, k2, Bool.not_false, if_true]
        cases hl : (ts r1).filter (fun t => !lt t.1 e) with
        | nil => simp [of, q]
        | cons x l =>
          rw [List.getLast?_cons_cons]
          cases hg : (x :: l).getLast? with
          | none => simp at hg
          | some p =>
            obtain ⟨e2, c2⟩ := p
            simp only
            by_cases q2 : e2 = e
            · rw [if_pos q2, if_pos q2, List.dropLast_cons_cons]; rfl
            · rw [if_neg q2, if_neg q2]; rfl
theorem ok_under_sum : ∀ (a b e : O), under e a = true → under e b = true → under e (sum a b) = true
  | a, z, e, h, _ => by rw [sum_z]; exact h
  | z, b, e, _, h => by rw [z_sum]; exact h
  | add e1 c1 r1, add e2 c2 r2, e, h1, h2 => by
    by_cases q : e1 = e2
    · subst q; rw [sum_eq]; exact h1
    · rcases lt_total e1 e2 q with k | k
      · rw [sum_lt k]; exact h2
      · rw [sum_gt k]; exact h1
theorem ok_sum : ∀ (a b : O), ok a = true → ok b = true → ok (sum a b) = true
  | a, z, h, _ => by rw [sum_z]; exact h
  | z, b, _, h => by rw [z_sum]; exact h
  | add e1 c1 r1, add e2 c2 r2, h1, h2 => by
    have g1 := ok_add.mp h1
    have g2 := ok_add.mp h2
    by_cases q : e1 = e2
    · subst q; rw [sum_eq]; exact ok_add.mpr ⟨g1.1, by omega, g2.2.2.1, g2.2.2.2⟩
    · rcases lt_total e1 e2 q with k | k
      · rw [sum_lt k]; exact h2
      · rw [sum_gt k]; exact ok_add.mpr ⟨g1.1, g1.2.1, ok_sum r1 _ g1.2.2.1 h2, ok_under_sum _ _ _ g1.2.2.2 k⟩
theorem lt_head {e : O} {c : Int} {r e' : O} {c' : Int} {r' : O} (h : lt e e' = true) : lt (add e c r) (add e' c' r') = true := by
  show (if e = e' then _ else _) = _; rw [if_neg (lt_ne h)]; exact h
theorem lt_cnt {e : O} {c : Int} {r : O} {c' : Int} {r' : O} (h : c < c') : lt (add e c r) (add e c' r') = true := by
  show (if e = e then (if c = c' then _ else _) else _) = _
  rw [if_pos rfl, if_neg (by omega)]; exact decide_eq_true h
theorem lt_rest {e : O} {c : Int} {r r' : O} : lt (add e c r) (add e c r') = lt r r' := by
  show (if e = e then (if c = c then _ else _) else _) = _
  rw [if_pos rfl, if_pos rfl]
theorem nil_lt {a : O} (h : a ≠ z) : lt z a = true := by cases a <;> first | rfl | exact absurd rfl h
theorem not_lt_nil (a : O) : lt a z = false := by cases a <;> rfl
theorem sum_add_ne (a e : O) (c : Int) (r : O) : sum a (add e c r) ≠ z := by
  cases a with
  | z => rw [z_sum]; intro h; cases h
  | add e1 c1 r1 =>
    show (if _ then _ else if _ then _ else _) ≠ _
    split
    · intro h; cases h
    · split <;> (intro h; cases h)
/-- strictly ascending in the second part -/
theorem sum_mono : ∀ (a b c : O), ok a = true → ok b = true → ok c = true → lt b c = true → lt (sum a b) (sum a c) = true
  | z, b, c, _, _, _, h => by rw [z_sum, z_sum]; exact h
  | a, b, z, _, _, _, h => by rw [not_lt_nil] at h; cases h
  | add e1 c1 r1, z, add e3 c3 r3, ha, _, hc, _ => by
    have g1 := ok_add.mp ha
    have g3 := ok_add.mp hc
    rw [sum_z]
    by_cases q : e1 = e3
    · subst q; rw [sum_eq]; exact lt_cnt (by omega)
    · rcases lt_total e1 e3 q with k | k
      · rw [sum_lt k]; exact lt_head k
      · rw [sum_gt k, lt_rest]
        have := sum_mono r1 z (add e3 c3 r3) g1.2.2.1 rfl hc rfl
        rw [sum_z] at this
        exact this
  | add e1 c1 r1, add e2 c2 r2, add e3 c3 r3, ha, hb, hc, h => by
    have g1 := ok_add.mp ha
    have g2 := ok_add.mp hb
    have g3 := ok_add.mp hc
    by_cases q : e1 = e2
    · subst q
      rw [sum_eq]
      by_cases q3 : e1 = e3
      · subst q3
        rw [sum_eq]
        simp only [lt, if_true] at h ⊢
        by_cases x : c2 = c3
        · subst x; simpa using h
        · rw [if_neg x] at h
          rw [if_neg (by omega)]
          exact decide_eq_true (by have := of_decide_eq_true h; omega)
      · have k : lt e1 e3 = true := by simpa [lt, q3] using h
        rw [sum_lt k]; exact lt_head k
    · rcases lt_total e1 e2 q with k | k
      · rw [sum_lt k]
        have k3 : lt e1 e3 = true := by
          by_cases q3 : e2 = e3
          · subst q3; exact k
          · exact lt_trans _ _ _ k (by simpa [lt, q3] using h)
        rw [sum_lt k3]; exact h
      · rw [sum_gt k]
        by_cases q3 : e1 = e3
        · subst q3; rw [sum_eq]; exact lt_cnt (by omega)
        · rcases lt_total e1 e3 q3 with k3 | k3
          · rw [sum_lt k3]; exact lt_head k3
          · rw [sum_gt k3, lt_rest]
            exact sum_mono r1 _ _ g1.2.2.1 hb hc h
theorem sum_mono_iff {a b c : O} (ha : ok a = true) (hb : ok b = true) (hc : ok c = true) : lt (sum a b) (sum a c) = lt b c := by
  cases q : lt b c with
  | true => exact sum_mono a b c ha hb hc q
  | false =>
    by_cases e : c = b
    · subst e; exact lt_irrefl _
    · have k := lt_of_ge q (fun x => e x.symm)
      exact lt_asymm (sum_mono a c b ha hc hb k)
/-- at least the first part -/
theorem sum_ge_left {a b : O} (ha : ok a = true) (hb : ok b = true) : lt (sum a b) a = false := by
  by_cases e : b = z
  · subst e; rw [sum_z]; exact lt_irrefl _
  · have := sum_mono a z b ha rfl hb (nil_lt e)
    rw [sum_z] at this
    exact lt_asymm this
/-- at least the second part -/
theorem sum_ge_right : ∀ (a b : O), ok a = true → ok b = true → lt (sum a b) b = false
  | a, z, _, _ => not_lt_nil _
  | z, b, _, _ => by rw [z_sum]; exact lt_irrefl _
  | add e1 c1 r1, add e2 c2 r2, ha, hb => by
    have g1 := ok_add.mp ha
    by_cases q : e1 = e2
    · subst q; rw [sum_eq]; exact lt_asymm (lt_cnt (by omega))
    · rcases lt_total e1 e2 q with k | k
      · rw [sum_lt k]; exact lt_irrefl _
      · rw [sum_gt k]; exact lt_asymm (lt_head k)
theorem sum_assoc : ∀ (a b c : O), ok a = true → ok b = true → ok c = true → sum (sum a b) c = sum a (sum b c)
  | a, b, z, _, _, _ => by rw [sum_z, sum_z]
  | a, z, add _ _ _, _, _, _ => by rw [sum_z, z_sum]
  | z, add _ _ _, add _ _ _, _, _, _ => by rw [z_sum, z_sum]
  | add e1 c1 r1, add e2 c2 r2, add e3 c3 r3, ha, hb, hc => by
    have g1 := ok_add.mp ha
    have g2 := ok_add.mp hb
    by_cases q23 : e2 = e3
    · subst q23
      rw [sum_eq]
      by_cases q : e1 = e2
      · subst q; rw [sum_eq, sum_eq, sum_eq, Int.add_assoc]
      · rcases lt_total e1 e2 q with k | k
        · rw [sum_lt k, sum_lt k, sum_eq]
        · rw [sum_gt k, sum_gt k, sum_gt k, sum_assoc r1 _ _ g1.2.2.1 hb hc, sum_eq]
    · rcases lt_total e2 e3 q23 with k23 | k23
      · rw [sum_lt k23]
        by_cases q : e1 = e2
        · subst q; rw [sum_eq, sum_lt k23, sum_lt k23]
        · rcases lt_total e1 e2 q with k | k
          · rw [sum_lt k, sum_lt k23, sum_lt (lt_trans _ _ _ k k23)]
          · rw [sum_gt k]
            by_cases q3 : e1 = e3
            · subst q3; rw [sum_eq, sum_eq]
            · rcases lt_total e1 e3 q3 with k3 | k3
              · rw [sum_lt k3, sum_lt k3]
              · rw [sum_gt k3, sum_gt k3, sum_assoc r1 _ _ g1.2.2.1 hb hc, sum_lt k23]
      · rw [sum_gt k23]
        by_cases q : e1 = e2
        · subst q; rw [sum_eq, sum_gt k23, sum_eq]
        · rcases lt_total e1 e2 q with k | k
          · rw [sum_lt k, sum_lt k, sum_gt k23]
          · rw [sum_gt k, sum_gt (lt_trans _ _ _ k23 k), sum_gt k, sum_assoc r1 _ _ g1.2.2.1 hb hc, sum_gt k23]
def one : O := add z 1 z
/-- nothing between an ordinal and the next one -/
theorem lt_succ_iff : ∀ (a b : O), ok a = true → ok b = true → lt a b = true → lt b (sum a one) = false
  | z, b, _, hb, h => by
    rw [z_sum]
    cases b with
    | z => cases h
    | add e c r =>
      have g := ok_add.mp hb
      show (if e = z then (if c = 1 then lt r z else decide (c < 1)) else lt e z) = false
      rw [not_lt_nil, not_lt_nil]
      split
      · split
        · rfl
        · exact decide_eq_false (by omega)
      · rfl
  | add e c r, z, _, _, h => by cases h
  | add e c r, add e' c' r', ha, hb, h => by
    have g := ok_add.mp ha
    have g' := ok_add.mp hb
    by_cases qz : e = z
    · subst qz
      show lt _ (sum (add z c r) (add z 1 z)) = false
      rw [sum_eq]
      have hr : r = z := by
        cases r with
        | z => rfl
        | add x y w => have := g.2.2.2; rw [show under z (add x y w) = lt x z from rfl, not_lt_nil] at this; cases this
      subst hr
      by_cases q : z = e'
      · subst q
        have hc : c < c' ∨ (c = c' ∧ lt z r' = true) := by
          simp only [lt, if_true] at h
          by_cases x : c = c'
          · rw [if_pos x] at h; exact .inr ⟨x, h⟩
          · rw [if_neg x] at h; exact .inl (of_decide_eq_true h)
        rcases hc with x | ⟨x, y⟩
        · by_cases x2 : c + 1 = c'
          · rw [x2, lt_rest, not_lt_nil]
          · exact lt_asymm (lt_cnt (by omega))
        · have hr' : r' = z := by
            cases r' with
            | z => rfl
            | add x2 y2 w2 => have := g'.2.2.2; rw [show under z (add x2 y2 w2) = lt x2 z from rfl, not_lt_nil] at this; cases this
          rw [hr'] at y; cases y
      · exact lt_asymm (lt_head (nil_lt (fun x => q x.symm)))
    · have k : lt z e = true := nil_lt qz
      show lt _ (sum (add e c r) (add z 1 z)) = false
      rw [sum_gt k]
      by_cases q : e = e'
      · subst q
        by_cases x : c = c'
        · subst x
          rw [lt_rest] at h ⊢
          exact lt_succ_iff r r' g.2.2.1 g'.2.2.1 h
        · simp only [lt, if_true] at h
          rw [if_neg x] at h
          exact lt_asymm (lt_cnt (of_decide_eq_true h))
      · have : lt e e' = true := by simpa [lt, q] using h
        exact lt_asymm (lt_head this)
theorem ok_one : ok one = true := by decide
theorem lt_succ {a : O} (h : ok a = true) : lt a (sum a one) = true := by
  have := sum_mono a z one h rfl ok_one rfl
  rw [sum_z] at this
  exact this
end O
end Vw

set_option Elab.async false
set_option linter.all false
set_option maxRecDepth 100000
namespace Vw
open PySem PySem.W PyProof.Rows L2
namespace O
def toDs : O → List PyData
  | z => []
  | add e c r => .tuple [.tuple (toDs e), .int c] :: toDs r
def toD (o : O) : PyData := .tuple (toDs o)
def dp : O → Nat
  | z => 0
  | add e _ r => max (dp e + 2) (dp r)
theorem depth_toDs : ∀ o : O, PyData.depthAll (toDs o) = dp o
  | z => by simp [toDs, dp, PyData.depthAll]
  | add e c r => by
    have h1 := depth_toDs e
    have h2 := depth_toDs r
    simp only [toDs, dp, PyData.depthAll, PyData.depth, h1, h2]
    omega
theorem depth_toD (o : O) : (toD o).depth = dp o + 1 := by simp only [toD, PyData.depth, depth_toDs]
theorem lay_toDs : ∀ o : O, PyData.canLayAll0 (toDs o) = true
  | z => by simp [toDs, PyData.canLayAll0]
  | add e c r => by simp [toDs, PyData.canLayAll0, PyData.canLay0, lay_toDs e, lay_toDs r]
theorem lay_toD (o : O) : (toD o).canLay0 = true := by simp only [toD, PyData.canLay0, lay_toDs]
theorem shaped_toD {o : O} (h : dp o ≤ 60) : SeqAt.shaped (toD o) = true := by
  unfold SeqAt.shaped
  rw [lay_toD, depth_toD]
  simp; omega
theorem alike_toDs : ∀ a b : O, alikeAll (toDs a) (toDs b) = true
  | z, _ => by simp [toDs, alikeAll]
  | add _ _ _, z => by simp [toDs, alikeAll]
  | add e c r, add e' c' r' => by simp [toDs, alikeAll, alike, alike_toDs e e', alike_toDs r r']
theorem alike_toD (a b : O) : alike (toD a) (toD b) = true := by simp only [toD, alike, alike_toDs]
theorem eqv_toDs : ∀ a b : O, PyData.eqvAll (toDs a) (toDs b) = decide (a = b)
  | z, z => by simp [toDs, PyData.eqvAll]
  | z, add _ _ _ => by simp [toDs, PyData.eqvAll]
  | add _ _ _, z => by simp [toDs, PyData.eqvAll]
  | add e c r, add e' c' r' => by
    simp only [toDs, PyData.eqvAll, PyData.eqv, eqv_toDs e e', eqv_toDs r r']
    by_cases h1 : e = e' <;> by_cases h2 : c = c' <;> by_cases h3 : r = r' <;> simp [h1, h2, h3]
theorem eqv_toD (a b : O) : PyData.eqv (toD a) (toD b) = decide (a = b) := by simp only [toD, PyData.eqv, eqv_toDs]
/-- a term -/
def tD (p : O × Int) : PyData := .tuple [toD p.1, .int p.2]
theorem toDs_ts : ∀ o : O, toDs o = (ts o).map tD
  | z => rfl
  | add e c r => by show _ :: toDs r = _ :: _; rw [toDs_ts r]; rfl
theorem lt_toDs : ∀ a b : O, PyProof.Rows.lexLt itemOrd (keyToksAll (toDs a)) (keyToksAll (toDs b)) = lt a b
  | z, z => lex_irrefl _
  | z, add e c r => by
    simp only [toDs, toks_all_cons]
    simp only [keyToksAll]
    rw [lex_diff (O := itemOrd) (by simp)]
    rfl
  | add e c r, z => by
    simp only [toDs, toks_all_cons]
    simp only [keyToksAll]
    rw [lex_diff (O := itemOrd) (by simp)]
    rfl
  | add e c r, add e' c' r' => by
    have al : alike (.tuple [.tuple (toDs e), .int c]) (.tuple [.tuple (toDs e'), .int c']) = true := by simp [alikeAll, alike, alike_toDs e e']
    have ev : PyData.eqv (.tuple [.tuple (toDs e), .int c]) (.tuple [.tuple (toDs e'), .int c']) = decide (e = e' ∧ c = c') := by
      simp only [PyData.eqvAll, PyData.eqv, eqv_toDs e e']
      by_cases h1 : e = e' <;> by_cases h2 : c = c' <;> simp [h1, h2]
    simp only [toDs, lt]
    by_cases h1 : e = e'
    · by_cases h2 : c = c'
      · rw [dataLt_all_yes al (by rw [ev]; simp [h1, h2]), lt_toDs r r', if_pos h1, if_pos h2]
      · rw [dataLt_all_no al (by rw [ev]; simp [h1, h2]), if_pos h1, if_neg h2, dataLt_tuple, dataLt_all_yes (by simp [alike, alike_toDs e e']) (by subst h1; simp [PyData.eqv, eqv_toDs]), dataLt_all_no (by simp [alike]) (by simp [PyData.eqv, h2]), dataLt_int]
    · rw [dataLt_all_no al (by rw [ev]; simp [h1]), if_neg h1, dataLt_tuple, dataLt_all_no (by simp [alike, alike_toDs e e']) (by simp only [PyData.eqv, eqv_toDs e e']; simp [h1]), dataLt_tuple, lt_toDs e e']
theorem lt_toD (a b : O) : dataLt (toD a) (toD b) = lt a b := by rw [toD, toD, dataLt_tuple, lt_toDs]
end O
/-! ### < > <= >= of data -/
section
variable {X : Cx}
@[irreducible] def rCmp (g : PyData → PyData → Bool) (K : PySem.W.Frag) : R2 := fun x y H Q => ∃ d e, Dp K H x d ∧ Dp K H y e ∧ alike d e = true ∧ d ≠ .none ∧ d.depth ≤ 64 ∧ Q (.bl (g d e)) H
theorem op_ltD (hu : X.A.units + 64 < cLine) : OpR X (compareOp .Lt) (rCmp (fun d e => dataLt d e) X.K) := by
  intro pins s σ H x y v u Q I rx ry h
  unfold rCmp at h
  obtain ⟨d, e, hd, he, al, hn, hz, q⟩ := h
  obtain ⟨as, r1⟩ := Dp.reads I d x v hd rx
  obtain ⟨bs, r2⟩ := Dp.reads I e y u he ry
  exact lt_data r1 r2 al hn (by have := Nat.min_le_left d.depth e.depth; omega) ⟨.bl _, H, I, rfl, q⟩
theorem op_gtD (hu : X.A.units + 64 < cLine) : OpR X (compareOp .Gt) (rCmp (fun d e => dataLt e d) X.K) := by
  intro pins s σ H x y v u Q I rx ry h
  unfold rCmp at h
  obtain ⟨d, e, hd, he, al, hn, hz, q⟩ := h
  obtain ⟨as, r1⟩ := Dp.reads I d x v hd rx
  obtain ⟨bs, r2⟩ := Dp.reads I e y u he ry
  exact gt_data r1 r2 al hn (by have := Nat.min_le_left d.depth e.depth; omega) ⟨.bl _, H, I, rfl, q⟩
theorem op_leD (hu : X.A.units + 64 < cLine) : OpR X (compareOp .LtE) (rCmp (fun d e => !dataLt e d) X.K) := by
  intro pins s σ H x y v u Q I rx ry h
  unfold rCmp at h
  obtain ⟨d, e, hd, he, al, hn, hz, q⟩ := h
  obtain ⟨as, r1⟩ := Dp.reads I d x v hd rx
  obtain ⟨bs, r2⟩ := Dp.reads I e y u he ry
  exact le_data r1 r2 al hn (by have := Nat.min_le_left d.depth e.depth; omega) ⟨.bl _, H, I, rfl, q⟩
theorem op_geD (hu : X.A.units + 64 < cLine) : OpR X (compareOp .GtE) (rCmp (fun d e => !dataLt d e) X.K) := by
  intro pins s σ H x y v u Q I rx ry h
  unfold rCmp at h
  obtain ⟨d, e, hd, he, al, hn, hz, q⟩ := h
  obtain ⟨as, r1⟩ := Dp.reads I d x v hd rx
  obtain ⟨bs, r2⟩ := Dp.reads I e y u he ry
  exact ge_data r1 r2 al hn (by have := Nat.min_le_left d.depth e.depth; omega) ⟨.bl _, H, I, rfl, q⟩
end
end Vw

set_option Elab.async false
set_option linter.all false
set_option maxRecDepth 100000
namespace Vw
open PySem PySem.W PySem.SeqAt PyProof.Rows
section
variable {prog : Program} {w : World} {A : Around} {E : Value → Shared → Prop} {s : Shared}
theorem call_tuple_lt {Q : Value → Shared → Prop} {l b : Addr} {items items2 : Array Value} {e r : Nat → Bool} (hl : s.heap.IsTuple l items) (hb : s.heap.IsTuple b items2)
    (he : ∀ j (h1 : j < items.size) (h2 : j < items2.size), EqAt A.in1 s items[j] items2[j] (e j)) (hr : ∀ j (h1 : j < items.size) (h2 : j < items2.size), e j = false → RcLt A.in1 s items[j] items2[j] (r j))
    (h : Q (.bool (firstLt e r (decide (items.size < items2.size)) (List.range (min items.size items2.size)))) s) : wpAny (model prog w) A (call (.builtin "tuple.__lt__") [.ref l, .ref b]) Q E s := by
  obtain ⟨⟨cls, dd, data, sl⟩, ho, hc, n, hd⟩ := id hl
  obtain ⟨⟨cls2, dd2, data2, sl2⟩, ho2, hc2, n2, hd2⟩ := id hb
  simp only at hc hd hc2 hd2
  subst hc hd hc2 hd2
  exact call_meets F.slot_tuple_lt ⟨_, ho, rfl⟩ F.entry_tuple_lt (F.args_tuple_lt_2 _ _) (SeqAt.tuple_ltAt l b items items2 n n2 dd dd2 sl sl2 e r) ⟨ho, ho2, he, hr, h⟩
/-- two tuples by tuple's own less-than -/
theorem oneLt_tups {xs ys : List PyData} {a b : Value} {as bs : List Addr} {Q : Bool → Shared → Prop} (ra : Reads s.heap a (.tuple xs) as) (rb : Reads s.heap b (.tuple ys) bs) (h : alike (.tuple xs) (.tuple ys) = true)
    (hu : A.units + min (PyData.tuple xs).depth (PyData.tuple ys).depth < cLine) (hq : Q (dataLt (.tuple xs) (.tuple ys)) s) : wpAny (model prog w) A (oneLt' true a b) Q E s := by
  have hal : alikeAll xs ys = true := by simpa [alike] using h
  cases ra with
  | @tuple l o vs n _ as₁ h1 h2 h3 h4 =>
    cases rb with
    | @tuple l' o' vs' n' _ bs₁ k1 k2 k3 k4 =>
      have n1 : vs.size = xs.length := by simpa using ReadsAll.length _ _ _ h4
      have n2 : vs'.size = ys.length := by simpa using ReadsAll.length _ _ _ k4
      rw [dataLt_tuple, ← firstLt_toks xs ys hal, ← n1, ← n2] at hq
      rw [oneLt'_eq]
      simp only [if_true]
      refine wpAny_bind (wpAny_cRoomFor (room_here hu) ?_)
      refine wpAny_bind (wpAny_callSpecialIfBound?_slot (T := "tuple") ⟨_, h1, h2⟩ F.slot_tuple_lt (call_tuple_lt (e := pairEq xs ys) (r := fun j => dataLt (xs.getD j .none) (ys.getD j .none)) ⟨_, h1, h2, _, h3⟩ ⟨_, k1, k2, _, k3⟩ (fun j j1 j2 => ?_) (fun j j1 j2 hj => ?_) ?_))
      · have := eqAt_alikeAll xs ys A.in1 s vs.toList vs'.toList _ _ h4 k4 hal (room_in hu) j (by simpa using j1) (by simpa using j2)
        simpa using this
      · have := rcLt_alikeAll xs ys A.in1 s vs.toList vs'.toList _ _ h4 k4 hal (room_in hu) j (by simpa using j1) (by simpa using j2) hj
        simpa using this
      · exact wpAny_truthy_bool hq
theorem keyLt'_general (x y : Value) : keyLt' general' x y = oneLt' false x y := rfl
/-- a tuple with an item -/
def fullT : PyData → Bool
  | .tuple (_ :: _) => true
  | _ => false
theorem fullT_no {d : PyData} (h : d = .tuple []) : fullT d = false := by subst h; rfl
theorem fullT_yes {xs : List PyData} (h : ¬ PyData.tuple xs = .tuple []) : fullT (.tuple xs) = true := by
  cases xs with
  | nil => exact absurd rfl h
  | cons _ _ => rfl
/-- the first items -/
theorem firsts_any : ∀ {vs : List Value} {ds : List PyData}, EachIs (fun v d => ∃ as, Reads s.heap v d as) vs ds → (∀ d ∈ ds, ∃ xs, d = .tuple xs) →
    ∃ fs : List (Option Value), fs.map (·.isSome) = ds.map fullT ∧ ∀ (Q : List (Option Value) → Shared → Prop), Q fs s → wpAny (model prog w) A (vs.mapM firstOfTuple') Q E s
  | _, _, .nil, _ => ⟨[], rfl, fun Q q => by rw [List.mapM_nil]; exact wpAny_pure q⟩
  | _, _, .cons (a := v) (b := d) ⟨as, r⟩ t, ht => by
    obtain ⟨fs, h1, h2⟩ := firsts_any t fun d hd => ht d (List.mem_cons_of_mem _ hd)
    obtain ⟨xs, rfl⟩ := ht d (List.mem_cons_self ..)
    cases r with
    | @tuple a o vs n _ _ ho hc hd hr =>
      have hn : vs.size = xs.length := by simpa using ReadsAll.length _ _ _ hr
      refine ⟨vs[0]? :: fs, ?_, fun Q q => ?_⟩
      · rw [List.map_cons, List.map_cons, h1]
        congr 1
        cases xs with
        | nil =>
          have : vs.size = 0 := by simpa using hn
          simp [this, fullT]
        | cons x r =>
          have : 0 < vs.size := by simp at hn; omega
          simp [this, fullT]
      · rw [List.mapM_cons]
        refine wpAny_bind ?_
        rw [kas_first_eq]
        refine wpAny_bind (Looks.here (show Looks (model prog w) s.heap (typeOf (.ref a)) o.cls from (Looks.ld ho).andThen .now) ?_)
        rw [hc, if_neg (by first | decide | simp)]
        refine wpAny_bind (listItems_at ho hd (wpAny_pure ?_))
        exact wpAny_bind (h2 _ (wpAny_pure q))
/-- the kind of tuples of which some are empty -/
theorem kind_tups {vs : List Value} {ds : List PyData} (e : EachIs (fun v d => ∃ as, Reads s.heap v d as) vs ds) (ht : ∀ d ∈ ds, ∃ xs, d = .tuple xs) (hx : .tuple [] ∈ ds) :
    ∃ kd, (kd = oneType' ∨ kd = general') ∧ ∀ (E : Value → Shared → Prop) (Q : SortKind → Shared → Prop), Q kd s → wpAny (model prog w) A (keyKind' vs.toArray) Q E s := by
  have hall : ∀ fs : List (Option Value), fs.map (·.isSome) = ds.map fullT → ¬ (fs.toArray.all (·.isSome)) = true := fun fs hf hh => by
    simp only [List.all_toArray] at hh
    have h2 : (fs.map (·.isSome)).all id = true := by rw [List.all_map]; exact hh
    rw [hf, List.all_map, List.all_eq_true] at h2
    have := h2 _ hx
    simp [fullT] at this
  cases ds with
  | nil => cases hx
  | cons d₀ ds₀ =>
    have hsp : ∀ fs : List (Option Value), fs.map (·.isSome) = (d₀ :: ds₀).map fullT → (fs.toArray[0]?.bind id).isSome = fullT d₀ := fun fs hf => by
      cases fs with
      | nil => simp at hf
      | cons f r =>
        rw [List.map_cons, List.map_cons] at hf
        have := (List.cons.inj hf).1
        simpa using this
    by_cases h0 : d₀ = .tuple []
    · refine ⟨oneType', .inl rfl, fun E Q q => ?_⟩
      obtain ⟨fs, h1, h2⟩ := firsts_any (prog := prog) (w := w) (A := A) (E := E) (s := s) e ht
      rw [keyKind'_eq, List.mapM_toArray, map_eq_pure_bind]
      refine wpAny_bind (wpAny_bind (h2 _ (wpAny_pure ?_)))
      rw [if_neg (hall fs h1), if_neg (by rw [hsp fs h1, fullT_no h0]; exact Bool.false_ne_true)]
      rw [oneTypeOnly'_eq, List.mapM_toArray, map_eq_pure_bind]
      refine wpAny_bind (wpAny_bind (wpAny_bind (kas_mapM (r := Value.type "tuple") _ (fun v hv Q' hq => ?_) (wpAny_pure ?_))))
      · obtain ⟨d, hd, as, r⟩ := e.left v hv
        obtain ⟨xs, rfl⟩ := ht d hd
        exact (looks_reads r).here hq
      · have hne : vs ≠ [] := by rintro rfl; cases e
        obtain ⟨v0, vr, rfl⟩ : ∃ v0 vr, vs = v0 :: vr := by
          cases vs with
          | nil => exact absurd rfl hne
          | cons v0 vr => exact ⟨v0, vr, rfl⟩
        have hall3 : ((List.map (fun _ => Value.type "tuple") (v0 :: vr)).toArray.all fun x => x == Value.type "tuple") = true := by
          simp only [List.all_toArray, List.all_map, List.all_eq_true]
          intro _ _
          exact beq_self_eq_true _
        have h00 : (List.map (fun _ => Value.type "tuple") (v0 :: vr)).toArray[0]? = some (Value.type "tuple") := by simp
        rw [h00]
        simp only [hall3, if_true]
        exact wpAny_pure (wpAny_pure q)
    · refine ⟨general', .inr rfl, fun E Q q => ?_⟩
      obtain ⟨fs, h1, h2⟩ := firsts_any (prog := prog) (w := w) (A := A) (E := E) (s := s) e ht
      rw [keyKind'_eq, List.mapM_toArray, map_eq_pure_bind]
      refine wpAny_bind (wpAny_bind (h2 _ (wpAny_pure ?_)))
      rw [if_neg (hall fs h1), if_pos (by rw [hsp fs h1]; obtain ⟨xs, rfl⟩ := ht d₀ (List.mem_cons_self ..); exact fullT_yes h0)]
      exact wpAny_pure q
/-- tuples that are alike can be sorted, also where some are empty -/
theorem SortsAt.tups {vs : List Value} {ds : List PyData} (e : EachIs (fun v d => ∃ as, Reads s.heap v d as) vs ds) (hal : AllAlike ds) (ht : ∀ d ∈ ds, ∃ xs, d = .tuple xs) (hu : ∀ d, d ∈ ds → A.units + d.depth < cLine) : SortsAt prog w A s (dataKind s.heap ds) vs := by
  by_cases hx : .tuple [] ∈ ds
  · have room : ∀ {d d' : PyData}, d ∈ ds → A.units + min d.depth d'.depth < cLine := fun {d d'} hd => Nat.lt_of_le_of_lt (Nat.add_le_add_left (Nat.min_le_left _ _) _) (hu d hd)
    refine ⟨fun v hv => ?_, ?_⟩
    · obtain ⟨d, hd, as, r⟩ := e.left v hv
      exact ⟨_, dataKind_some hal hd r⟩
    · obtain ⟨kd, hk, h2⟩ := kind_tups (prog := prog) (w := w) (A := A) (s := s) e ht hx
      refine ⟨kd, ?_, fun _ E Q q => h2 E Q q⟩
      intro E x y a b Q ha hb hq
      obtain ⟨d, as, hd, ra, rfl⟩ := dataKind_inv ha
      obtain ⟨d', as', hd', rb, rfl⟩ := dataKind_inv hb
      have hdd := hal d hd d' hd'
      have hroom := room (d' := d') hd
      obtain ⟨x1, rfl⟩ := ht d hd
      obtain ⟨x2, rfl⟩ := ht d' hd'
      rcases hk with rfl | rfl
      · rw [keyLt'_oneType]
        exact oneLt_tups ra rb hdd hroom hq
      · rw [keyLt'_general]
        exact oneLt_alike (fun z => absurd z Bool.false_ne_true) ra rb hdd (fun z => by cases z) hroom hq
  · exact SortsAt.data e hal (.inl fun d hd => by
      obtain ⟨xs, rfl⟩ := ht d hd
      cases xs with
      | nil => exact absurd hd hx
      | cons x r => exact ⟨x, r, rfl⟩) hu
end
end Vw

set_option Elab.async false
set_option linter.all false
set_option maxRecDepth 100000
namespace Vw
open PySem PySem.W PyProof.Rows L2
/-! ### heaps -/
/-- all but the object at b stay -/
def Kp (b : Addr) (H H' : Hp) : Prop := ∀ a o, a ≠ b → H a = some o → H' a = some o
theorem Kp.refl {b : Addr} (H : Hp) : Kp b H H := fun _ _ _ h => h
theorem Kp.trans {b : Addr} {H H1 H2 : Hp} (x : Kp b H H1) (y : Kp b H1 H2) : Kp b H H2 := fun a o n h => y a o n (x a o n h)
theorem same_kp {b : Addr} {H H' : Hp} (x : Same H H') : Kp b H H' := fun a o _ h => x a o h
theorem Kp.upd {b : Addr} {H : Hp} {o : HO} : Kp b H (upd H b o) := fun a u n h => by rw [upd_ne n]; exact h
theorem same_new {H : Hp} {p : Addr} {o : HO} (h : H p = none) : Same H (upd H p o) := fun b u q => by rw [upd_ne (ne_of_none q h)]; exact q
/-- an object that H did not know may change -/
theorem same_mut {H H' : Hp} {p : Addr} {o : HO} (x : Same H H') (h : H p = none) : Same H (upd H' p o) := fun b u q => by rw [upd_ne (ne_of_none q h)]; exact x b u q
theorem kp_mut {b : Addr} {H H' : Hp} {p : Addr} {o : HO} (x : Kp b H H') (h : H p = none) : Kp b H (upd H' p o) := fun a u n q => by rw [upd_ne (ne_of_none q h)]; exact x a u n q
/-- all tuples stay -/
def Tp (H H' : Hp) : Prop := ∀ a xs, H a = some (.tup xs) → H' a = some (.tup xs)
theorem Tp.refl (H : Hp) : Tp H H := fun _ _ h => h
theorem Tp.trans {H H1 H2 : Hp} (x : Tp H H1) (y : Tp H1 H2) : Tp H H2 := fun a o h => y a o (x a o h)
theorem same_tp {H H' : Hp} (x : Same H H') : Tp H H' := fun a xs h => x a _ h
theorem Kp.tp {b : Addr} {H H' : Hp} {ys : List V} (x : Kp b H H') (hb : H b = some (.lst ys)) : Tp H H' := fun a xs h => x a _ (ne_of h hb (fun z => by cases z)) h
theorem tp_new {H : Hp} {p : Addr} {o : HO} (h : H p = none) : Tp H (upd H p o) := same_tp (same_new h)
theorem tp_lst {H : Hp} {p : Addr} {ys : List V} {o : HO} (h : H p = some (.lst ys)) : Tp H (upd H p o) := fun a xs q => by rw [upd_ne (ne_of q h (fun z => by cases z))]; exact q

/-! ### ordinals in the heap -/
def KT (K : PySem.W.Frag) (a : Addr) (xs : List V) : Prop := ∃ (o : Obj) (its : Array Value) (n : Nat), K.lookup a = some o ∧ o.cls = .type "tuple" ∧ o.data = .seq its n ∧ its.size ≤ sizeLine ∧ Vals xs its.toList
def TT (K : PySem.W.Frag) (H : Hp) (a : Addr) (xs : List V) : Prop := H a = some (.tup xs) ∨ KT K a xs
section
variable {K : PySem.W.Frag} {H H' : Hp}
theorem TT.tp {a : Addr} {xs : List V} (t : Tp H H') (h : TT K H a xs) : TT K H' a xs := h.imp (t a xs) id
theorem TT.sq {a : Addr} {xs : List V} (h : TT K H a xs) : SqT K H a xs := by
  rcases h with h | h
  · exact .inl (.inl h)
  · exact .inr h
theorem TT.of {a : Addr} {xs : List V} (h : H a = some (.tup xs)) : TT K H a xs := .inl h
theorem TT.ty {a : Addr} {xs : List V} (h : TT K H a xs) : TyX K H (.ref a) (.type "tuple") := by
  rcases h with h | ⟨o, its, n, h1, h2, _⟩
  · exact .base (.tup h)
  · exact .kTuple h1 h2
def TsA (K : PySem.W.Frag) (H : Hp) : List V → O → Prop
  | vs, .z => vs = []
  | vs, .add e c r => ∃ p q ws vr, vs = .ref p :: vr ∧ TT K H p [.ref q, .int c] ∧ TT K H q ws ∧ TsA K H ws e ∧ TsA K H vr r
def OA (K : PySem.W.Frag) (H : Hp) (v : V) (o : O) : Prop := ∃ a vs, v = .ref a ∧ TT K H a vs ∧ TsA K H vs o
/-- a term -/
def TmA (K : PySem.W.Frag) (H : Hp) (v : V) (t : O × Int) : Prop := ∃ p q, v = .ref p ∧ TT K H p [.ref q, .int t.2] ∧ OA K H (.ref q) t.1
theorem TsA.tp (t : Tp H H') : ∀ {o : O} {vs : List V}, TsA K H vs o → TsA K H' vs o
  | .z, _, h => h
  | .add e c r, _, h => by
    obtain ⟨p, q, ws, vr, rfl, h1, h2, h3, h4⟩ := h
    exact ⟨p, q, ws, vr, rfl, h1.tp t, h2.tp t, TsA.tp t h3, TsA.tp t h4⟩
theorem OA.tp {v : V} {o : O} (t : Tp H H') (h : OA K H v o) : OA K H' v o := by
  obtain ⟨a, vs, rfl, h1, h2⟩ := h
  exact ⟨a, vs, rfl, h1.tp t, h2.tp t⟩
theorem TmA.tp {v : V} {x : O × Int} (t : Tp H H') (h : TmA K H v x) : TmA K H' v x := by
  obtain ⟨p, q, rfl, h1, h2⟩ := h
  exact ⟨p, q, rfl, h1.tp t, h2.tp t⟩
theorem TsA.pair : ∀ {o : O} {vs : List V}, TsA K H vs o → Paired (TmA K H) vs (O.ts o)
  | .z, _, h => by cases h; exact .nil
  | .add e c r, _, h => by
    obtain ⟨p, q, ws, vr, rfl, h1, h2, h3, h4⟩ := h
    exact .cons ⟨p, q, rfl, h1, q, ws, rfl, h2, h3⟩ (TsA.pair h4)
theorem TsA.of : ∀ {l : List (O × Int)} {vs : List V}, Paired (TmA K H) vs l → TsA K H vs (O.of l)
  | _, _, .nil => rfl
  | _, _, .cons (b := (e, c)) ⟨p, q, h0, h1, q', ws, h2, h3, h4⟩ t => by
    cases h0
    cases h2
    exact ⟨p, q, ws, _, rfl, h1, h3, h4, TsA.of t⟩
theorem OA.of {a : Addr} {vs : List V} {l : List (O × Int)} (h : TT K H a vs) (p : Paired (TmA K H) vs l) : OA K H (.ref a) (O.of l) := ⟨a, vs, rfl, h, .of p⟩
theorem paired_mono {α β : Type} {F G : α → β → Prop} (h : ∀ a b, F a b → G a b) : ∀ {xs : List α} {ys : List β}, Paired F xs ys → Paired G xs ys
  | _, _, .nil => .nil
  | _, _, .cons a t => .cons (h _ _ a) (paired_mono h t)
theorem paired_app {α β : Type} {F : α → β → Prop} : ∀ {xs xs2 : List α} {ys ys2 : List β}, Paired F xs ys → Paired F xs2 ys2 → Paired F (xs ++ xs2) (ys ++ ys2)
  | _, _, _, _, .nil, t => t
  | _, _, _, _, .cons a t, u => .cons a (paired_app t u)
theorem paired_get {α β : Type} {F : α → β → Prop} : ∀ {xs : List α} {ys : List β} {i : Nat} {x : α}, Paired F xs ys → xs[i]? = some x → ∃ y, ys[i]? = some y ∧ F x y
  | _, _, _, _, .nil, h => by simp at h
  | _, _, 0, _, .cons a t, h => by
    simp at h; subst h
    exact ⟨_, rfl, a⟩
  | _, _, i + 1, _, .cons a t, h => by
    obtain ⟨y, h1, h2⟩ := paired_get (i := i) t (by simpa using h)
    exact ⟨y, by simpa using h1, h2⟩
theorem paired_get' {α β : Type} {F : α → β → Prop} : ∀ {xs : List α} {ys : List β} {i : Nat} {y : β}, Paired F xs ys → ys[i]? = some y → ∃ x, xs[i]? = some x ∧ F x y
  | _, _, _, _, .nil, h => by simp at h
  | _, _, 0, _, .cons a t, h => by
    simp at h; subst h
    exact ⟨_, rfl, a⟩
  | _, _, i + 1, _, .cons a t, h => by
    obtain ⟨y, h1, h2⟩ := paired_get' (i := i) t (by simpa using h)
    exact ⟨y, by simpa using h1, h2⟩
theorem paired_len {α β : Type} {F : α → β → Prop} : ∀ {xs : List α} {ys : List β}, Paired F xs ys → xs.length = ys.length
  | _, _, .nil => rfl
  | _, _, .cons _ t => congrArg Nat.succ (paired_len t)
theorem paired_take {α β : Type} {F : α → β → Prop} : ∀ {xs : List α} {ys : List β} (n : Nat), Paired F xs ys → Paired F (xs.take n) (ys.take n)
  | _, _, 0, _ => .nil
  | _, _, _ + 1, .nil => .nil
  | _, _, n + 1, .cons a t => .cons a (paired_take n t)
theorem paired_drop {α β : Type} {F : α → β → Prop} : ∀ {xs : List α} {ys : List β} (n : Nat), Paired F xs ys → Paired F (xs.drop n) (ys.drop n)
  | _, _, 0, h => h
  | _, _, _ + 1, .nil => .nil
  | _, _, n + 1, .cons a t => paired_drop n t
theorem paired_filter {α β : Type} {F : α → β → Prop} (f : α → Bool) (g : β → Bool) (h : ∀ a b, F a b → f a = g b) : ∀ {xs : List α} {ys : List β}, Paired F xs ys → Paired F (xs.filter f) (ys.filter g)
  | _, _, .nil => .nil
  | _, _, .cons (a := a) (b := b) x t => by
    rw [List.filter_cons, List.filter_cons, h a b x]
    cases g b with
    | true => exact .cons x (paired_filter f g h t)
    | false => exact paired_filter f g h t
mutual
theorem TsA.dp : ∀ {o : O} {vs : List V}, TsA K H vs o → DpAll K H vs (O.toDs o)
  | .z, _, h => by cases h; exact .nil
  | .add e c r, _, h => by
    obtain ⟨p, q, ws, vr, rfl, h1, h2, h3, h4⟩ := h
    exact .cons (.tup h1.sq (.cons (.tup h2.sq (TsA.dp h3)) (.cons (.int c) .nil))) (TsA.dp h4)
end
theorem OA.dp {v : V} {o : O} (h : OA K H v o) : Dp K H v (O.toD o) := by
  obtain ⟨a, vs, rfl, h1, h2⟩ := h
  exact .tup h1.sq h2.dp
theorem OA.ref {v : V} {o : O} (h : OA K H v o) : ∃ a, v = .ref a := by
  obtain ⟨a, vs, rfl, _⟩ := h
  exact ⟨a, rfl⟩
theorem OA.nil {a : Addr} (h : TT K H a []) : OA K H (.ref a) .z := ⟨a, [], rfl, h, rfl⟩
/-! ### what the comparisons ask -/
variable {x y : V} {a b : O} {Q : VK}
theorem rd_lt (ha : OA K H x a) (hb : OA K H y b) (h : O.dp a ≤ 60) (q : Q (.bl (O.lt a b)) H) : rCmp (fun d e => dataLt d e) K x y H Q := by
  unfold rCmp
  exact ⟨_, _, ha.dp, hb.dp, O.alike_toD a b, (fun z => by cases z), by rw [O.depth_toD]; omega, by show Q (.bl (dataLt _ _)) H; rw [O.lt_toD]; exact q⟩
theorem rd_gt (ha : OA K H x a) (hb : OA K H y b) (h : O.dp a ≤ 60) (q : Q (.bl (O.lt b a)) H) : rCmp (fun d e => dataLt e d) K x y H Q := by
  unfold rCmp
  exact ⟨_, _, ha.dp, hb.dp, O.alike_toD a b, (fun z => by cases z), by rw [O.depth_toD]; omega, by show Q (.bl (dataLt _ _)) H; rw [O.lt_toD]; exact q⟩
theorem rd_le (ha : OA K H x a) (hb : OA K H y b) (h : O.dp a ≤ 60) (q : Q (.bl (!O.lt b a)) H) : rCmp (fun d e => !dataLt e d) K x y H Q := by
  unfold rCmp
  exact ⟨_, _, ha.dp, hb.dp, O.alike_toD a b, (fun z => by cases z), by rw [O.depth_toD]; omega, by show Q (.bl (!dataLt _ _)) H; rw [O.lt_toD]; exact q⟩
theorem rd_ge (ha : OA K H x a) (hb : OA K H y b) (h : O.dp a ≤ 60) (q : Q (.bl (!O.lt a b)) H) : rCmp (fun d e => !dataLt d e) K x y H Q := by
  unfold rCmp
  exact ⟨_, _, ha.dp, hb.dp, O.alike_toD a b, (fun z => by cases z), by rw [O.depth_toD]; omega, by show Q (.bl (!dataLt _ _)) H; rw [O.lt_toD]; exact q⟩
@[irreducible] def rEqO (K : PySem.W.Frag) : R2 := rEqD K
@[irreducible] def rNeO (K : PySem.W.Frag) : R2 := rNeD K
theorem rd_eq (ha : OA K H x a) (hb : OA K H y b) (h : O.dp a ≤ 60) (h2 : O.dp b ≤ 60) (q : Q (.bl (decide (a = b))) H) : rEqO K x y H Q := by
  unfold rEqO
  exact ⟨_, _, ha.dp, hb.dp, O.shaped_toD h, O.shaped_toD h2, by rw [O.eqv_toD]; exact q⟩
theorem rd_ne (ha : OA K H x a) (hb : OA K H y b) (h : O.dp a ≤ 60) (h2 : O.dp b ≤ 60) (q : Q (.bl (!decide (a = b))) H) : rNeO K x y H Q := by
  unfold rNeO
  exact ⟨_, _, ha.dp, hb.dp, O.shaped_toD h, O.shaped_toD h2, by rw [O.eqv_toD]; exact q⟩
end
theorem op_eqO {X : Cx} (hu : X.A.units + 64 < cLine) : OpR X (compareOp .Eq) (rEqO X.K) := by unfold rEqO; exact op_eqD hu
theorem op_neO {X : Cx} (hu : X.A.units + 64 < cLine) : OpR X (compareOp .NotEq) (rNeO X.K) := by unfold rNeO; exact op_neD hu
/-! ### sorted(.., reverse=True) of ordinals -/
def rSortedO (K : PySem.W.Frag) : List V → List V → Hp → VK → Prop := fun vs zs H Q => ∃ (a : Addr) (xs : List V) (os : List O), vs = [V.ref a] ∧ zs = [.bl true] ∧ SqL K H a xs ∧ Paired (OA K H) xs os ∧ (∀ o ∈ os, O.dp o ≤ 60) ∧
  ∀ (ys : List V) (os' : List O) (p : Addr), Paired (OA K H) ys os' → os'.Perm os → os'.Pairwise (fun a b => O.lt a b = false) → H p = none → Q (.ref p) (upd H p (.lst ys))
theorem dataLe_toD (a b : O) : dataLe true O.toD a b = !O.lt a b := by
  show sortLe (listOrd itemOrd) true (fun b => keyToks (O.toD b)) a b = _
  rw [← O.lt_toD]
  rfl
section
variable {X : Cx}
theorem each_of {R : Value → O → Prop} {F : V → O → Prop} (h : ∀ x u o, F x o → RelV x u → R u o) : ∀ {xs : List V} {os : List O} {us : List Value}, Paired F xs os → Vals xs us → EachIs R us os
  | _, _, _, .nil, .nil => .nil
  | _, _, _, .cons a t, .cons b u => .cons (h _ _ _ a b) (each_of h t u)
theorem each_back {F : V → O → Prop} : ∀ {us : List Value} {os : List O}, EachIs (fun u o => ∃ x, RelV x u ∧ F x o) us os → ∃ ys, Vals ys us ∧ Paired F ys os
  | _, _, .nil => ⟨[], .nil, .nil⟩
  | _, _, .cons ⟨x, a, b⟩ t => by
    obtain ⟨ys, h1, h2⟩ := each_back t
    exact ⟨x :: ys, .cons a h1, .cons b h2⟩
theorem cr_sortedO (hu : X.A.units + 64 < cLine) : CallRK X (.builtin "sorted") [Str.ofString "reverse"] (rSortedO X.K) := by
  intro pins s σ H vs zs us ws Q I r rz h
  obtain ⟨a, xs, os, rfl, rfl, hs, hp, hd, q⟩ := h
  obtain rfl := Vals.ref1 r
  obtain ⟨w1, rfl, e1⟩ := vals1 rz
  obtain rfl : w1 = Value.bool true := e1
  obtain ⟨its, rv, hl, hz⟩ := I.list hs
  have e0 : EachIs (fun u o => ∃ x, RelV x u ∧ OA X.K H x o) its os := each_of (fun x u o a b => ⟨x, b, a⟩) hp rv
  have er : EachIs (fun v o => ∃ as, Reads s.heap v (O.toD o) as) its os := e0.mono fun u o ⟨x, rx, ox⟩ => Dp.reads I _ _ _ ox.dp rx
  have er' : EachIs (fun v o => ∃ as, Reads (sortingHeap (copyHeap s.heap its) (s.heap.objs.size + 1) its) v (O.toD o) as) its os := er.mono fun _ _ ⟨as, r⟩ => ⟨as, PyProof.Rows.Reads.keeps (fun _ _ => sorting_copy_old) r⟩
  have hal : AllAlike (os.map O.toD) := AllAlike.of O.alike_toD
  refine sorted_rev_vals (b := true) hl.isList (SortsAt.tups (s := { s with heap := sortingHeap (copyHeap s.heap its) (s.heap.objs.size + 1) its }) (each_map (R := fun v d => ∃ as, Reads (sortingHeap (copyHeap s.heap its) (s.heap.objs.size + 1) its) v d as) O.toD er') hal (fun d hd => ?_) (fun d hm => ?_)) (by rw [← rv.length]; exact hz) ?_
  · obtain ⟨o, _, rfl⟩ := List.mem_map.mp hd
    exact ⟨_, rfl⟩
  · obtain ⟨o, ho, rfl⟩ := List.mem_map.mp hm
    rw [O.depth_toD]
    have := hd o ho
    show X.A.units + 1 + 1 + _ < _
    omega
  · have e2 := sortVals_data (h' := sortingHeap (copyHeap s.heap its) (s.heap.objs.size + 1) its) (enc := O.toD) true e0 er' hal
    obtain ⟨ys, v1, v2⟩ := each_back e2
    obtain ⟨ep, he'⟩ := PyProof.Rows.sortedAll_at s.heap its (sortVals (dataKind (sortingHeap (copyHeap s.heap its) (s.heap.objs.size + 1) its) (os.map O.toD)) true its its).toArray
    have hlen : ys.length ≤ sizeLine := by
      rw [paired_len v2, (List.mergeSort_perm os _).length_eq, ← paired_len hp]
      exact hz
    refine ⟨.ref _, upd H (s.heap.objs.size + 1) (.lst ys), I.laid (t' := s.toks) (fun _ _ => PyProof.Rows.sortedAll_old) (Nat.le_succ _) ⟨hlen, _, ep, v1, he'⟩, rfl, q _ _ _ v2 (List.mergeSort_perm os _) ?_ (I.hok.fresh (Nat.le_succ _))⟩
    refine (List.pairwise_mergeSort (le := dataLe true O.toD) (fun a b c h1 h2 => ?_) (fun a b => ?_) os).imp fun {a b} h => ?_
    · rw [dataLe_toD] at h1 h2 ⊢
      simp only [Bool.not_eq_true'] at h1 h2 ⊢
      exact O.ge_trans h1 h2
    · rw [dataLe_toD, dataLe_toD]
      by_cases e : a = b
      · subst e; rw [O.lt_irrefl]; rfl
      · rcases O.lt_total a b e with k | k
        · rw [k, O.lt_asymm k]; rfl
        · rw [k, O.lt_asymm k]; rfl
    · rw [dataLe_toD] at h
      simpa using h
end
/-! ### f(k = v, ..) -/
section
variable {X : Cx} {CX : CXT} {k : Nat} {f : Addr} {fd : FuncData} {ps ks : List Str} {sp : Sp} {E : XK} {x : Str} {p pos : Pos} {kws : List Keyword} {tk : TA} {g : List Value → List Value → List Value} {gV : List V → List V → List V}
theorem pe_callK0 (F : FnOk X.prog X.w X.K X.mg X.base CX k f fd ps sp) (hr : Room k X.A) (hg : Gl X x) (hm : X.mg x = some (.ref f)) (hk : PySem.W.keepIn X.K (.ref f) = true) (hb : KBinds X.K fd ps ks g gV) (hx : Passes CX X E)
    (hkw : PK X kws tk) (hall : (backToKw pos (keywordEach kws X.env)).all (·.1.isSome) = true := by rfl) (hks : (backToKw pos (keywordEach kws X.env)).filterMap (·.1) = ks := by rfl)
    (hdb : (x == ("__debug__" : Str)) = false := by decide)
    (hpl : ((backTo pos (starEach [] X.env)).any (·.1) || (backToKw pos (keywordEach kws X.env)).any (·.1.isNone)) = false := by rfl) :
    PE X (.Call (.Name x p) [] kws pos) (tCallK sp gV E tNil tk) := by
  refine ⟨fun pins s σ H Q I h => ?_⟩
  refine wpAny_Call_Name_kw (ld_glob I hg hm ?_ hdb)
  refine PySem.W.callWith_KW0 (h₀ := X.base) I.ok.mod.kin hk hall ?_ hpl
  refine thn (hkw.run pos pins s σ H _ I h) fun ws s2 ⟨zs, H2, I2, rz, q2⟩ => ⟨I2.kIn, ?_⟩
  rw [hks]
  exact run_fnk (us := []) (vs := []) F hr hb hx I2 .nil rz q2
end
/-! ### a def that keeps its promise, as it is called -/
structure Cal (P : Program) (w : World) (K : PySem.W.Frag) (mg : Str → Option Value) (base : Heap) (k : Nat) (x : Str) (ps : List Str) (sp : Sp) (f : Addr) (fd : FuncData) : Prop where
  G : FnOk P w K mg base CX0 k f fd ps sp
  m : mg x = some (.ref f)
  kp : PySem.W.keepIn K (.ref f) = true
  b : Binds K fd ps []
end Vw

set_option Elab.async false
set_option linter.all false
set_option maxRecDepth 100000
namespace Vw
open PySem PySem.W PyProof.Rows L2
namespace O
def num (n : Int) : O := if 0 < n then add z n z else z
theorem ok_num (n : Int) : ok (num n) = true := by
  unfold num
  split
  · exact ok_add.mpr ⟨rfl, by omega, rfl, rfl⟩
  · rfl
theorem dp_num (n : Int) : dp (num n) ≤ 2 := by
  unfold num
  split
  · show max (0 + 2) 0 ≤ 2; omega
  · show 0 ≤ 2; omega
theorem len_num (n : Int) : (ts (num n)).length ≤ 1 := by
  unfold num
  split
  · exact Nat.le_refl _
  · exact Nat.zero_le _
def lastE (l : List (O × Int)) : Option O := l.getLast?.map (·.1)
theorem under_of {e : O} : ∀ {l : List (O × Int)}, l ≠ [] → under e (of l) = (match l with | [] => true | t :: _ => lt t.1 e)
  | [], h => absurd rfl h
  | t :: _, _ => rfl
theorem ok_snoc : ∀ (l : List (O × Int)) (p : O) (c : Int), ok (of l) = true → ok p = true → 1 ≤ c → (∀ t, l.getLast? = some t → lt p t.1 = true) → ok (of (l ++ [(p, c)])) = true
  | [], p, c, _, hp, hc, _ => ok_add.mpr ⟨hp, hc, rfl, rfl⟩
  | [t], p, c, h, hp, hc, hl => by
    have g := ok_add.mp h
    exact ok_add.mpr ⟨g.1, g.2.1, ok_add.mpr ⟨hp, hc, rfl, rfl⟩, hl t rfl⟩
  | t :: u :: r, p, c, h, hp, hc, hl => by
    have g := ok_add.mp h
    refine ok_add.mpr ⟨g.1, g.2.1, ok_snoc (u :: r) p c g.2.2.1 hp hc (fun x hx => hl x (by rw [List.getLast?_cons_cons]; exact hx)), g.2.2.2⟩
theorem dp_of : ∀ (l : List (O × Int)) (n : Nat), (∀ t ∈ l, dp t.1 + 2 ≤ n) → dp (of l) ≤ n
  | [], n, _ => Nat.zero_le _
  | t :: r, n, h => by
    have h1 := h t List.mem_cons_self
    have h2 := dp_of r n fun x hx => h x (List.mem_cons_of_mem _ hx)
    show max (dp t.1 + 2) (dp (of r)) ≤ n
    omega
/-- the greatest number of terms, however deep -/
def wd : O → Nat
  | z => 0
  | add e c r => max (wd e) (max ((ts r).length + 1) (wd r))
theorem len_wd : ∀ a : O, (ts a).length ≤ wd a
  | z => Nat.le_refl _
  | add e c r => by show (ts r).length + 1 ≤ max (wd e) (max ((ts r).length + 1) (wd r)); omega
theorem wd_mem : ∀ {o : O} {t : O × Int}, t ∈ ts o → wd t.1 ≤ wd o
  | z, t, h => by cases h
  | add e c r, t, h => by
    rcases List.mem_cons.mp h with q | q
    · subst q; show wd e ≤ max (wd e) (max _ (wd r)); omega
    · have := wd_mem q; show _ ≤ max (wd e) (max _ (wd r)); omega
theorem wd_of : ∀ (l : List (O × Int)) (n : Nat), l.length ≤ n → (∀ t ∈ l, wd t.1 ≤ n) → wd (of l) ≤ n
  | [], n, _, _ => Nat.zero_le _
  | t :: r, n, hl, h => by
    have h1 := h t List.mem_cons_self
    have hl : r.length + 1 ≤ n := hl
    have h2 := wd_of r n (by omega) fun x hx => h x (List.mem_cons_of_mem _ hx)
    show max (wd t.1) (max ((ts (of r)).length + 1) (wd (of r))) ≤ n
    rw [ts_of]
    omega
theorem wd_num (n : Int) : wd (num n) ≤ 1 := by
  unfold num
  split
  · exact Nat.le_refl _
  · exact Nat.zero_le _
theorem dp_mem : ∀ {o : O} {t : O × Int}, t ∈ ts o → dp t.1 + 2 ≤ dp o
  | z, t, h => by cases h
  | add e c r, t, h => by
    rcases List.mem_cons.mp h with q | q
    · subst q; show dp e + 2 ≤ max (dp e + 2) (dp r); omega
    · have := dp_mem q; show _ ≤ max (dp e + 2) (dp r); omega
theorem ok_mem : ∀ {o : O} {t : O × Int}, ok o = true → t ∈ ts o → ok t.1 = true ∧ 1 ≤ t.2
  | z, t, _, h => by cases h
  | add e c r, t, hk, h => by
    have g := ok_add.mp hk
    rcases List.mem_cons.mp h with q | q
    · subst q; exact ⟨g.1, g.2.1⟩
    · exact ok_mem g.2.2.1 q
theorem dp_sum : ∀ (a b : O), dp (sum a b) ≤ max (dp a) (dp b)
  | a, z => by rw [sum_z]; omega
  | z, b => by rw [z_sum]; omega
  | add e1 c1 r1, add e2 c2 r2 => by
    by_cases q : e1 = e2
    · subst q; rw [sum_eq]; show max (dp e1 + 2) (dp r2) ≤ max (max _ _) (max _ _); omega
    · rcases lt_total e1 e2 q with k | k
      · rw [sum_lt k]; omega
      · rw [sum_gt k]
        have := dp_sum r1 (add e2 c2 r2)
        show max (dp e1 + 2) (dp (sum r1 (add e2 c2 r2))) ≤ max (max (dp e1 + 2) (dp r1)) _
        omega
theorem len_sum : ∀ (a b : O), (ts (sum a b)).length ≤ (ts a).length + (ts b).length
  | a, z => by rw [sum_z]; omega
  | z, b => by rw [z_sum]; omega
  | add e1 c1 r1, add e2 c2 r2 => by
    by_cases q : e1 = e2
    · subst q; rw [sum_eq]; simp only [ts, List.length_cons]; omega
    · rcases lt_total e1 e2 q with k | k
      · rw [sum_lt k]; omega
      · rw [sum_gt k]
        have := len_sum r1 (add e2 c2 r2)
        simp only [ts, List.length_cons] at this ⊢
        omega
end O
/-! ### data by kind -/
def tyN : PyData → String
  | .none => "NoneType"
  | .bool _ => "bool"
  | .int _ => "int"
  | .str _ => "str"
  | .list _ => "list"
  | .tuple _ => "tuple"
  | .dict _ => "dict"
section
variable {K : PySem.W.Frag} {H H' : Hp}
theorem dp_ty {x : V} {d : PyData} (h : Dp K H x d) : TyX K H x (.type (tyN d)) := by
  cases h with
  | non => exact .base .non
  | bl b => exact .base (.bl b)
  | int i => exact .base (.int i)
  | str s => exact .base (.str s)
  | lst hs _ =>
    rcases hs with (h | ⟨o, h⟩) | ⟨o, its, n, h1, h2, _⟩
    · exact .base (.lst h)
    · exact .base (.frz h)
    · exact .kList h1 h2
  | tup hs _ =>
    rcases hs with (h | ⟨o, h⟩) | ⟨o, its, n, h1, h2, _⟩
    · exact .base (.tup h)
    · exact .fTuple h
    · exact .kTuple h1 h2
def isinN (n T : String) : Bool := n == T || (n == "bool" && T == "int")
def isin (d : PyData) (T : String) : Bool := isinN (tyN d) T
theorem kits {T : String} (h0 : kitB "NoneType" T = some (isinN "NoneType" T)) (h1 : kitB "bool" T = some (isinN "bool" T)) (h2 : kitB "int" T = some (isinN "int" T)) (h3 : kitB "str" T = some (isinN "str" T)) (h4 : kitB "list" T = some (isinN "list" T)) (h5 : kitB "tuple" T = some (isinN "tuple" T)) :
    ∀ d : PyData, (∀ kv, d ≠ .dict kv) → kitOne K (.type (tyN d)) (.type T) = some (isin d T)
  | .none, _ => kit_ty h0
  | .bool _, _ => kit_ty h1
  | .int _, _ => kit_ty h2
  | .str _, _ => kit_ty h3
  | .list _, _ => kit_ty h4
  | .tuple _, _ => kit_ty h5
  | .dict kv, h => absurd rfl (h kv)
theorem kit_list (d : PyData) (hd : ∀ kv, d ≠ .dict kv) : kitOne K (.type (tyN d)) (.type "list") = some (isin d "list") := kits (by decide +kernel) (by decide +kernel) (by decide +kernel) (by decide +kernel) (by decide +kernel) (by decide +kernel) d hd
theorem kit_tuple (d : PyData) (hd : ∀ kv, d ≠ .dict kv) : kitOne K (.type (tyN d)) (.type "tuple") = some (isin d "tuple") := kits (by decide +kernel) (by decide +kernel) (by decide +kernel) (by decide +kernel) (by decide +kernel) (by decide +kernel) d hd
theorem kit_bool (d : PyData) (hd : ∀ kv, d ≠ .dict kv) : kitOne K (.type (tyN d)) (.type "bool") = some (isin d "bool") := kits (by decide +kernel) (by decide +kernel) (by decide +kernel) (by decide +kernel) (by decide +kernel) (by decide +kernel) d hd
theorem kit_int (d : PyData) (hd : ∀ kv, d ≠ .dict kv) : kitOne K (.type (tyN d)) (.type "int") = some (isin d "int") := kits (by decide +kernel) (by decide +kernel) (by decide +kernel) (by decide +kernel) (by decide +kernel) (by decide +kernel) d hd
theorem kit_str (d : PyData) (hd : ∀ kv, d ≠ .dict kv) : kitOne K (.type (tyN d)) (.type "str") = some (isin d "str") := kits (by decide +kernel) (by decide +kernel) (by decide +kernel) (by decide +kernel) (by decide +kernel) (by decide +kernel) d hd
theorem dp_nodict {x : V} {d : PyData} (h : Dp K H x d) : ∀ kv, d ≠ .dict kv := fun kv e => by subst e; cases h
@[irreducible] def rIsD (K : PySem.W.Frag) : List V → Hp → VK → Prop := rIsi K
@[irreducible] def rIsDT (K : PySem.W.Frag) : List V → Hp → VK → Prop := rIsiT K
theorem call_isD {X : Cx} : CallR X (.builtin "isinstance") (rIsD X.K) := by unfold rIsD; exact call_isi
theorem call_isDT {X : Cx} : CallR X (.builtin "isinstance") (rIsDT X.K) := by unfold rIsDT; exact call_isiT
variable {Q : VK} {x : V} {d : PyData}
theorem rd_list (h : Dp K H x d) (q : Q (.bl (isin d "list")) H) : rIsD K [x, .ty "list"] H Q := by unfold rIsD; exact ⟨x, _, _, _, _, rfl, .ty _, dp_ty h, kit_list d (dp_nodict h), q⟩
theorem rd_tuple (h : Dp K H x d) (q : Q (.bl (isin d "tuple")) H) : rIsD K [x, .ty "tuple"] H Q := by unfold rIsD; exact ⟨x, _, _, _, _, rfl, .ty _, dp_ty h, kit_tuple d (dp_nodict h), q⟩
theorem rd_bool (h : Dp K H x d) (q : Q (.bl (isin d "bool")) H) : rIsD K [x, .ty "bool"] H Q := by unfold rIsD; exact ⟨x, _, _, _, _, rfl, .ty _, dp_ty h, kit_bool d (dp_nodict h), q⟩
theorem rd_int (h : Dp K H x d) (q : Q (.bl (isin d "int")) H) : rIsD K [x, .ty "int"] H Q := by unfold rIsD; exact ⟨x, _, _, _, _, rfl, .ty _, dp_ty h, kit_int d (dp_nodict h), q⟩
theorem rd_str (h : Dp K H x d) (q : Q (.bl (isin d "str")) H) : rIsD K [x, .ty "str"] H Q := by unfold rIsD; exact ⟨x, _, _, _, _, rfl, .ty _, dp_ty h, kit_str d (dp_nodict h), q⟩
def isLT : PyData → Bool
  | .list _ => true
  | .tuple _ => true
  | _ => false
theorem rd_lt2 {tp : Addr} (h : Dp K H x d) (ht : H tp = some (.tup [.ty "list", .ty "tuple"])) (q : Q (.bl (isLT d)) H) : rIsDT K [x, .ref tp] H Q := by
  unfold rIsDT
  refine ⟨x, tp, _, _, [.type "list", .type "tuple"], isLT d, rfl, ht, .cons (.ty _) (.cons (.ty _) .nil), dp_ty h, ?_, q⟩
  refine kitAny_cons (kit_list d (dp_nodict h)) (fun e => kitAny_cons (kit_tuple d (dp_nodict h)) (fun e2 => ?_) fun e2 => ?_) fun e => ?_
  · rw [kitAny_nil]
    cases d <;> first | rfl | (revert e e2; show _ = false → _ = false → _; decide +revert) | exact absurd e (by show ¬ (isinN "list" "list" = false); decide) | exact absurd e2 (by show ¬ (isinN "tuple" "tuple" = false); decide)
  · cases d <;> first | rfl | exact absurd e2 (by show ¬ (isinN "NoneType" "tuple" = true); decide) | exact absurd e2 (by show ¬ (isinN "bool" "tuple" = true); decide) | exact absurd e2 (by show ¬ (isinN "int" "tuple" = true); decide) | exact absurd e2 (by show ¬ (isinN "str" "tuple" = true); decide) | exact absurd e2 (by show ¬ (isinN "dict" "tuple" = true); decide)
  · cases d <;> first | rfl | exact absurd e (by show ¬ (isinN "NoneType" "list" = true); decide) | exact absurd e (by show ¬ (isinN "bool" "list" = true); decide) | exact absurd e (by show ¬ (isinN "int" "list" = true); decide) | exact absurd e (by show ¬ (isinN "str" "list" = true); decide) | exact absurd e (by show ¬ (isinN "dict" "list" = true); decide)
theorem same_sqt {a : Addr} {xs : List V} (e : Same H H') (h : SqT K H a xs) : SqT K H' a xs := by
  rcases h with (h | ⟨o, h⟩) | h
  · exact .inl (.inl (e _ _ h))
  · exact .inl (.inr ⟨o, e _ _ h⟩)
  · exact .inr h
mutual
theorem dp_same (e : Same H H') : ∀ {d : PyData} {v : V}, Dp K H v d → Dp K H' v d
  | _, _, .non => .non
  | _, _, .bl b => .bl b
  | _, _, .int i => .int i
  | _, _, .str x => .str x
  | _, _, .lst h t => .lst (e.seq h) (dpall_same e t)
  | _, _, .tup h t => .tup (same_sqt e h) (dpall_same e t)
theorem dpall_same (e : Same H H') : ∀ {ds : List PyData} {vs : List V}, DpAll K H vs ds → DpAll K H' vs ds
  | _, _, .nil => .nil
  | _, _, .cons h t => .cons (dp_same e h) (dpall_same e t)
end
theorem dpall_len : ∀ {ds : List PyData} {vs : List V}, DpAll K H vs ds → vs.length = ds.length
  | _, _, .nil => rfl
  | _, _, .cons h t => congrArg Nat.succ (dpall_len t)
theorem dpall_get : ∀ {ds : List PyData} {vs : List V} {i : Nat} {v : V}, DpAll K H vs ds → vs[i]? = some v → ∃ d, ds[i]? = some d ∧ Dp K H v d
  | _, _, _, _, .nil, h => by simp at h
  | _, _, 0, _, .cons a t, h => by
    simp at h; subst h
    exact ⟨_, rfl, a⟩
  | _, _, i + 1, _, .cons a t, h => by
    obtain ⟨y, h1, h2⟩ := dpall_get (i := i) t (by simpa using h)
    exact ⟨y, by simpa using h1, h2⟩
theorem depth_get : ∀ {ds : List PyData} {i : Nat} {d : PyData}, ds[i]? = some d → d.depth ≤ PyData.depthAll ds
  | [], _, _, h => by simp at h
  | x :: r, 0, d, h => by
    simp at h; subst h
    simp only [PyData.depthAll]; omega
  | x :: r, i + 1, d, h => by
    have := depth_get (ds := r) (i := i) (by simpa using h)
    simp only [PyData.depthAll]; omega
theorem atI_ex {xs : List V} {i : Int} (h0 : 0 ≤ i) (h : i < (xs.length : Int)) : ∃ v, xs[i.toNat]? = some v ∧ atI xs i = some v := by
  obtain ⟨j, rfl⟩ := Int.eq_ofNat_of_zero_le h0
  have hj : j < xs.length := by omega
  exact ⟨xs[j], List.getElem?_eq_getElem hj, atI_nat (List.getElem?_eq_getElem hj)⟩
end
/-! ### len, with the bound that the model keeps -/
@[irreducible] def rLenB (K : PySem.W.Frag) : List V → Hp → VK → Prop := fun vs H Q => ∃ p ys, vs = [.ref p] ∧ (SqL K H p ys ∨ SqT K H p ys) ∧ (ys.length ≤ sizeLine → Q (.int (ys.length : Nat)) H)
theorem call_lenB {X : Cx} : CallR X (.builtin "len") (rLenB X.K) := by
  intro pins s σ H xs us Q I r h
  unfold rLenB at h
  obtain ⟨p, ys, rfl, hs, q⟩ := h
  have hz : ys.length ≤ sizeLine := by
    rcases hs with hs | hs
    · obtain ⟨_, _, _, z⟩ := I.list hs; exact z
    · obtain ⟨_, _, _, z⟩ := I.tuple hs; exact z
  exact call_len_seq pins s σ H _ us Q I r ⟨p, ys, rfl, hs, q hz⟩
theorem rd_len {K : PySem.W.Frag} {H : Hp} {Q : VK} {p : Addr} {ys : List V} (h : SqL K H p ys ∨ SqT K H p ys) (q : ys.length ≤ sizeLine → Q (.int (ys.length : Nat)) H) : rLenB K [.ref p] H Q := by
  unfold rLenB
  exact ⟨p, ys, rfl, h, q⟩
theorem line62 {n : Nat} (h : n ≤ sizeLine) : -(2 ^ 62) ≤ (n : Int) ∧ (n : Int) < 2 ^ 62 := by
  have : sizeLine ≤ 2 ^ 40 := by decide
  omega
/-! ### the bag of numbers -/
def Bag (l : Addr) (H : Hp) (b : Addr) : Prop := ∃ (ns : List Int) (i g s k : Int), l ≠ b ∧ H b = some (.lst [.ref l, .int i, .int g, .int s, .int k]) ∧ H l = some (.lst (ns.map V.int)) ∧ ns.length ≤ 63 ∧ 0 ≤ i ∧ 0 ≤ s ∧ s < 2147483647
theorem Bag.same {l : Addr} {H H' : Hp} {b : Addr} (x : Same H H') (h : Bag l H b) : Bag l H' b := by
  obtain ⟨ns, i, g, s, k, h1, h2, h3, h4⟩ := h
  exact ⟨ns, i, g, s, k, h1, x _ _ h2, x _ _ h3, h4⟩
theorem Bag.tp {l : Addr} {H H' : Hp} {b : Addr} (h : Bag l H b) (x : Kp b H H') : Tp H H' := by
  obtain ⟨ns, i, g, s, k, h1, h2, h3, h4⟩ := h
  exact x.tp h2
theorem Bag.ne {l : Addr} {H : Hp} {b p : Addr} (h : Bag l H b) (hp : H p = none) : p ≠ b := by
  obtain ⟨ns, i, g, s, k, h1, h2, h3, h4⟩ := h
  exact (ne_of_none h2 hp).symm
theorem Bag.nl {l : Addr} {H : Hp} {b p : Addr} (h : Bag l H b) (hp : H p = none) : p ≠ l := by
  obtain ⟨ns, i, g, s, k, h1, h2, h3, h4⟩ := h
  exact (ne_of_none h3 hp).symm
theorem Bag.mut {l : Addr} {H : Hp} {b p : Addr} {o : HO} (h : Bag l H b) (h1 : p ≠ b) (h2 : p ≠ l) : Bag l (upd H p o) b := by
  obtain ⟨ns, i, g, s, k, e1, e2, e3, e4⟩ := h
  exact ⟨ns, i, g, s, k, e1, by rw [upd_ne h1.symm]; exact e2, by rw [upd_ne h2.symm]; exact e3, e4⟩
def spBag (K : PySem.W.Frag) : Sp := fun vs H Q _ => ∃ (a : Addr) (ns : List Int), vs = [.ref a] ∧ SqL K H a (ns.map V.int) ∧ ns.length ≤ 63 ∧ ∀ (l b : Addr) (H' : Hp), H b = none → Same H H' → Bag l H' b → Q (.ref b) H'
/-- one number of the bag, below n -/
def spPull : Sp := fun vs H Q _ => ∃ (l b : Addr) (n : Int), vs = [.ref b, .int n] ∧ 1 ≤ n ∧ n < 2 ^ 100 ∧ Bag l H b ∧ ∀ (r : Int) (H' : Hp), 0 ≤ r → r < n → Kp b H H' → Bag l H' b → Q (.int r) H'
/-- one of some -/
def spOf (K : PySem.W.Frag) : Sp := fun vs H Q _ => ∃ (l b a : Addr) (xs : List V), vs = [.ref b, .ref a] ∧ Bag l H b ∧ ((a ≠ b ∧ H a = some (.lst xs)) ∨ TT K H a xs) ∧ xs ≠ [] ∧ ∀ (x : V) (H' : Hp), x ∈ xs → Kp b H H' → Bag l H' b → Q x H'
def spNum (K : PySem.W.Frag) : Sp := fun vs H Q _ => ∃ n : Int, vs = [.int n] ∧ ∀ (v : V) (H' : Hp), Same H H' → OA K H' v (O.num n) → Q v H'
/-- equal data are the same -/
def spSame (K : PySem.W.Frag) (n : Nat) : Sp := fun vs H Q _ => ∃ (x y : V) (d : PyData), vs = [x, y] ∧ Dp K H x d ∧ Dp K H y d ∧ d.depth < n ∧ ∀ H', Same H H' → Q (.bl true) H'
/-- a drawn ordinal -/
def spOrd (K : PySem.W.Frag) (d : Nat) : Sp := fun vs H Q _ => ∃ (l b : Addr), vs = [.ref b, .int (d : Int)] ∧ Bag l H b ∧ ∀ (o : O) (v : V) (H' : Hp), O.ok o = true → O.dp o ≤ 2 * d + 2 → O.wd o ≤ 3 → OA K H' v o → Kp b H H' → Bag l H' b → Q v H'
theorem cut_map (ns : List Int) (lo hi : Option Int) : ∃ ms : List Int, cutV (ns.map V.int) lo hi = ms.map V.int ∧ ms.length ≤ ns.length := by
  refine ⟨(ns.drop (HT.sIx (ns.map V.int).length 0 lo)).take (HT.sIx (ns.map V.int).length (ns.map V.int).length hi - HT.sIx (ns.map V.int).length 0 lo), ?_, ?_⟩
  · unfold cutV
    rw [List.map_take, List.map_drop]
  · rw [List.length_take, List.length_drop]; omega
/-- a def that keeps its promise, as it is called -/
theorem none_left {P : Program} {w : World} {K : PySem.W.Frag} {mg : Str → Option Value} {base : Heap} {f : Addr} {fd : FuncData} {ps : List Str} {sp : Sp} (no : ∀ vs H Q E, ¬ sp vs H Q E) : FnOk P w K mg base CX0 0 f fd ps sp :=
  ⟨fun vs H Q E h => absurd h (no vs H Q E), fun A outer s H args us vs Q E _ _ _ _ h => absurd h (no vs H Q E)⟩
/-- if, what holds behind the test said once -/
def tIfBy (c : L2.TT) (t u : TS) : TS := fun D σ H => ∃ A B : Hp → Prop, (c σ H fun b H1 => if b = true then A H1 else B H1) ∧ (∀ H1, A H1 → t D σ H1) ∧ ∀ H1, B H1 → u D σ H1
theorem ps_ifBy {X : Cx} {c : Expr} {a b : List Stmt} {tc : L2.TT} {t u : TS} {pos : Pos} (hc : PT X c tc) (ha : PSs X a t) (hb : PSs X b u) : PS X (.If c a b pos) (tIfBy tc t u) := by
  refine ⟨fun pins s σ H D I h => ?_⟩
  obtain ⟨A, B, h, h1, h2⟩ := h
  refine wpAny_If (thn (hc.run pins s σ H _ I h) fun d s1 ⟨H1, I1, q1⟩ => ?_)
  cases d with
  | true =>
    rw [if_pos rfl] at q1
    exact ha.run pins s1 σ H1 D I1 (h1 _ q1)
  | false =>
    rw [if_neg Bool.false_ne_true] at q1
    exact hb.run pins s1 σ H1 D I1 (h2 _ q1)
theorem eqv_nil (l : List PyData) : PyData.eqv (.list l) (.list []) = l.isEmpty := by
  cases l <;> simp [PyData.eqv, PyData.eqvAll]
theorem lay_terms : ∀ l : List (O × Int), PyData.canLayAll0 (l.map O.tD) = true
  | [] => by simp [PyData.canLayAll0]
  | t :: r => by simp [PyData.canLayAll0, O.tD, PyData.canLay0, O.lay_toD, lay_terms r]
theorem depth_terms (n : Nat) : ∀ l : List (O × Int), (∀ t ∈ l, O.dp t.1 + 2 ≤ n) → PyData.depthAll (l.map O.tD) ≤ n
  | [], _ => by simp [PyData.depthAll]
  | t :: r, h => by
    have h1 := h t List.mem_cons_self
    have h2 := depth_terms n r fun x hx => h x (List.mem_cons_of_mem _ hx)
    simp only [List.map_cons, PyData.depthAll, O.tD, PyData.depth, O.depth_toD]
    omega
theorem shaped_terms {l : List (O × Int)} (h : ∀ t ∈ l, O.dp t.1 ≤ 50) : SeqAt.shaped (.list (l.map O.tD)) = true := by
  have := depth_terms 52 l fun t ht => by have := h t ht; omega
  unfold SeqAt.shaped
  rw [show (PyData.list (l.map O.tD)).canLay0 = true by simp [PyData.canLay0, lay_terms], show (PyData.list (l.map O.tD)).depth = PyData.depthAll (l.map O.tD) + 1 by simp [PyData.depth], Bool.true_and, decide_eq_true_eq]
  omega
theorem shaped_nil : SeqAt.shaped (.list []) = true := by unfold SeqAt.shaped; simp [PyData.canLay0, PyData.canLayAll0, PyData.depth, PyData.depthAll]
section
variable {K : PySem.W.Frag} {H : Hp}
theorem TmA.dp {v : V} {t : O × Int} (h : TmA K H v t) : Dp K H v (O.tD t) := by
  obtain ⟨p, q, rfl, h1, h2⟩ := h
  exact .tup h1.sq (.cons h2.dp (.cons (.int _) .nil))
theorem terms_dp : ∀ {xs : List V} {l : List (O × Int)}, Paired (TmA K H) xs l → DpAll K H xs (l.map O.tD)
  | _, _, .nil => .nil
  | _, _, .cons a t => .cons a.dp (terms_dp t)
/-- a list of terms against the empty one -/
theorem rd_eqNil {x y : V} {p p2 : Addr} {xs : List V} {l : List (O × Int)} {Q : VK} (h1 : SqL K H p xs) (h2 : Paired (TmA K H) xs l) (h3 : SqL K H p2 []) (hd : ∀ t ∈ l, O.dp t.1 ≤ 50) (q : Q (.bl l.isEmpty) H) : rEqO K (.ref p) (.ref p2) H Q := by
  unfold rEqO
  refine ⟨_, _, .lst h1 (terms_dp h2), .lst h3 .nil, shaped_terms hd, shaped_nil, ?_⟩
  rw [eqv_nil]
  cases l <;> exact q
theorem rd_neNil {x y : V} {p p2 : Addr} {xs : List V} {l : List (O × Int)} {Q : VK} (h1 : SqL K H p xs) (h2 : Paired (TmA K H) xs l) (h3 : SqL K H p2 []) (hd : ∀ t ∈ l, O.dp t.1 ≤ 50) (q : Q (.bl (!l.isEmpty)) H) : rNeO K (.ref p) (.ref p2) H Q := by
  unfold rNeO
  refine ⟨_, _, .lst h1 (terms_dp h2), .lst h3 .nil, shaped_terms hd, shaped_nil, ?_⟩
  rw [eqv_nil]
  cases l <;> exact q
theorem paired_tp {H' : Hp} (t : Tp H H') {xs : List V} {os : List O} (h : Paired (OA K H) xs os) : Paired (OA K H') xs os := paired_mono (fun _ _ a => a.tp t) h
theorem terms_tp {H' : Hp} (t : Tp H H') {xs : List V} {l : List (O × Int)} (h : Paired (TmA K H) xs l) : Paired (TmA K H') xs l := paired_mono (fun _ _ a => a.tp t) h
theorem TmA.new {p q : Addr} {c : Int} {e : O} (h : OA K H (.ref q) e) (hp : H p = some (.tup [.ref q, .int c])) : TmA K H (.ref p) (e, c) := ⟨p, q, rfl, .of hp, h⟩
end
/-! ### tuples joined, cut -/
section
variable {K : PySem.W.Frag} {H : Hp} {Q : VK}
@[irreducible] def rCatO (K : PySem.W.Frag) : R2 := rCatA K
theorem op_catO {X : Cx} : OpR X (binaryOp .Add) (rCatO X.K) := by unfold rCatO; exact op_catA
theorem rd_cat {a b : Addr} {xs ys : List V} (ha : TT K H a xs) (hb : TT K H b ys) (hz : xs.length + ys.length ≤ 100000) (q : ∀ (p : Addr) (H' : Hp), Same H H' → TT K H' p (xs ++ ys) → Q (.ref p) H') : rCatO K (.ref a) (.ref b) H Q := by
  unfold rCatO
  refine ⟨a, b, xs, ys, rfl, rfl, ha.sq, hb.sq, Nat.le_trans hz (by decide), fun e => q b H (Same.refl H) (by rw [e]; exact hb), fun _ e => q a H (Same.refl H) (by rw [e, List.append_nil]; exact ha), fun _ _ p np => q p _ (same_new np) (.of upd_same)⟩
@[irreducible] def rSlO (K : PySem.W.Frag) : V → Option Int → Option Int → Hp → VK → Prop := rSlA K
theorem sl_tupO {X : Cx} : SlR X (rSlO X.K) := by unfold rSlO; exact sl_tupA
theorem cut_from {α : Type} (xs : List V) (k : Nat) : cutV xs (some (k : Int)) none = xs.drop k := by
  unfold cutV
  rw [HT.sIx_nat, HT.sIx_none]
  rcases Nat.le_total k xs.length with h | h
  · rw [Nat.min_eq_left h, List.take_of_length_le (by rw [List.length_drop]; omega)]
  · rw [Nat.min_eq_right h, List.drop_of_length_le (Nat.le_refl _), List.drop_of_length_le h]; simp
theorem cut_to {α : Type} (xs : List V) (k : Nat) : cutV xs none (some (k : Int)) = xs.take k := by
  unfold cutV
  rw [HT.sIx_nat, HT.sIx_none, List.drop_zero, Nat.sub_zero]
  rcases Nat.le_total k xs.length with h | h
  · rw [Nat.min_eq_left h]
  · rw [Nat.min_eq_right h, List.take_of_length_le h, List.take_of_length_le (Nat.le_refl _)]
theorem rd_sl {a : Addr} {xs : List V} {lo hi : Option Int} (ha : TT K H a xs) (q : ∀ (p : Addr) (H' : Hp), Same H H' → TT K H' p (cutV xs lo hi) → Q (.ref p) H') : rSlO K (.ref a) lo hi H Q := by
  unfold rSlO
  refine ⟨a, xs, rfl, ha.sq, fun e => q a H (Same.refl H) ?_, fun _ p np => q p _ (same_new np) (.of upd_same)⟩
  have : cutV xs lo hi = xs := by
    unfold cutV
    rw [e.1, e.2, List.drop_zero, Nat.sub_zero, List.take_length]
  rw [this]; exact ha
theorem rd_from {a : Addr} {xs : List V} (k : Nat) (ha : TT K H a xs) (q : ∀ (p : Addr) (H' : Hp), Same H H' → TT K H' p (xs.drop k) → Q (.ref p) H') : rSlO K (.ref a) (some (k : Int)) none H Q := rd_sl ha fun p H' s t => q p H' s (by rw [cut_from (α := Nat)] at t; exact t)
theorem rd_to {a : Addr} {xs : List V} (k : Nat) (ha : TT K H a xs) (q : ∀ (p : Addr) (H' : Hp), Same H H' → TT K H' p (xs.take k) → Q (.ref p) H') : rSlO K (.ref a) none (some (k : Int)) H Q := rd_sl ha fun p H' s t => q p H' s (by rw [cut_to (α := Nat)] at t; exact t)
theorem take_filter {α : Type} (l : List α) (f : α → Bool) (i : Nat) (t : α) (h : l[i]? = some t) : (l.take (i + 1)).filter f = (l.take i).filter f ++ (if f t = true then [t] else []) := by
  rw [List.take_add_one, h, List.filter_append]
  congr 1
  show [t].filter f = _
  rw [List.filter_cons]
  split <;> rfl
theorem OA.tt {a : Addr} {o : O} (h : OA K H (.ref a) o) : ∃ vs, TT K H a vs ∧ Paired (TmA K H) vs (O.ts o) := by
  obtain ⟨a', vs, e, h1, h2⟩ := h
  cases e
  exact ⟨vs, h1, h2.pair⟩
theorem TmA.un {v : V} {t : O × Int} (h : TmA K H v t) : ∃ p q, v = .ref p ∧ TT K H p [.ref q, .int t.2] ∧ OA K H (.ref q) t.1 := h
theorem Same.tt {H' : Hp} {a : Addr} {xs : List V} (s : Same H H') (h : TT K H a xs) : TT K H' a xs := h.tp (same_tp s)
theorem OA.same {H' : Hp} {v : V} {o : O} (h : OA K H v o) (s : Same H H') : OA K H' v o := h.tp (same_tp s)
theorem TT.same {H' : Hp} {a : Addr} {xs : List V} (h : TT K H a xs) (s : Same H H') : TT K H' a xs := h.tp (same_tp s)
theorem TmA.same {H' : Hp} {v : V} {t : O × Int} (h : TmA K H v t) (s : Same H H') : TmA K H' v t := h.tp (same_tp s)
theorem terms_same {H' : Hp} {xs : List V} {l : List (O × Int)} (h : Paired (TmA K H) xs l) (s : Same H H') : Paired (TmA K H') xs l := paired_mono (fun _ _ a => a.same s) h
end
/-- the program's sum -/
def spPlus (K : PySem.W.Frag) : Sp := fun vs H Q _ => ∃ (x y : V) (a b : O), vs = [x, y] ∧ OA K H x a ∧ OA K H y b ∧ O.ok a = true ∧ O.dp a ≤ 50 ∧ O.dp b ≤ 50 ∧ (O.ts a).length ≤ 1000 ∧ (O.ts b).length ≤ 1000 ∧ ∀ (v : V) (H' : Hp), Same H H' → OA K H' v (O.sum a b) → Q v H'
/-- a function of one ordinal -/
def spO1 (K : PySem.W.Frag) (g : O → O) : Sp := fun vs H Q _ => ∃ (x : V) (a : O), vs = [x] ∧ OA K H x a ∧ O.ok a = true ∧ O.dp a ≤ 50 ∧ (O.ts a).length ≤ 1000 ∧ ∀ (v : V) (H' : Hp), Same H H' → OA K H' v (g a) → Q v H'
def endO (o : O) : O := match (O.ts o).getLast? with
  | some t => t.1
  | none => .z
theorem endO_last {o : O} {t : O × Int} (h : (O.ts o).getLast? = some t) : endO o = t.1 := by
  unfold endO
  rw [h]
theorem last_ex {o : O} (h : o ≠ .z) : ∃ t, (O.ts o).getLast? = some t := by
  cases o with
  | z => exact absurd rfl h
  | add e c r =>
    cases q : (O.ts (.add e c r)).getLast? with
    | some t => exact ⟨t, rfl⟩
    | none => exact absurd (List.getLast?_eq_none_iff.mp q) (by intro z; cases z)
section
variable {K : PySem.W.Frag} {H : Hp} {Q : VK}
/-- the last term -/
theorem last_term {xs : List V} {l : List (O × Int)} {t : O × Int} (h : Paired (TmA K H) xs l) (ht : l.getLast? = some t) : ∃ p q, atI xs (-1) = some (.ref p) ∧ TT K H p [.ref q, .int t.2] ∧ OA K H (.ref q) t.1 ∧ xs ≠ [] := by
  obtain ⟨v, hv, vt⟩ : ∃ v, xs.getLast? = some v ∧ TmA K H v t := by
    rw [List.getLast?_eq_getElem?] at ht
    obtain ⟨v, h1, h2⟩ := paired_get' h ht
    rw [← paired_len h] at h1
    exact ⟨v, by rw [List.getLast?_eq_getElem?]; exact h1, h2⟩
  obtain ⟨p, q, rfl, g1, g2⟩ := vt
  have hn : xs ≠ [] := fun z => by rw [z] at hv; cases hv
  refine ⟨p, q, ?_, g1, g2, hn⟩
  have : xs = xs.dropLast ++ [.ref p] := by
    rw [List.getLast?_eq_some_getLast hn] at hv
    have := Option.some.inj hv
    rw [← this, List.dropLast_concat_getLast]
  rw [this]; exact atI_last _ _
theorem cut_m1 {α : Type} (xs : List V) : cutV xs none (some (-1)) = xs.dropLast := by
  unfold cutV
  rw [HT.sIx_none, List.drop_zero, Nat.sub_zero]
  have : HT.sIx xs.length xs.length (some (-1)) = xs.length - 1 := by
    show (if (-1 : Int) < 0 then ((-1 : Int) + (xs.length : Int)).toNat else min (-1 : Int).toNat xs.length) = _
    rw [if_pos (by decide)]
    omega
  rw [this, List.dropLast_eq_take]
theorem paired_dropLast {α β : Type} {F : α → β → Prop} {xs : List α} {ys : List β} (h : Paired F xs ys) : Paired F xs.dropLast ys.dropLast := by
  rw [List.dropLast_eq_take, List.dropLast_eq_take, paired_len h]
  exact paired_take _ h
end
/-! ### levels, alternatives -/
section
variable {P : Program} {w : World} {K : PySem.W.Frag} {mg : Str → Option Value} {base : Heap} {f : Addr} {fd : FuncData} {ps : List Str} {k k' : Nat} {x : Str} {sp sp' : Sp}
theorem fn_mono (G : FnOk P w K mg base CX0 k f fd ps sp) (h : k ≤ k') : FnOk P w K mg base CX0 k' f fd ps sp :=
  ⟨G.len, fun A outer s H args us vs Q E a b c e h' => G.run A outer s H args us vs Q E (a.mono h) b c e h'⟩
theorem fn_some {ι : Type} {p : ι → Prop} {sps : ι → Sp} (G : ∀ i, p i → FnOk P w K mg base CX0 k f fd ps (sps i)) : FnOk P w K mg base CX0 k f fd ps (fun vs H Q E => ∃ i, p i ∧ sps i vs H Q E) :=
  ⟨fun vs H Q E ⟨i, hi, h⟩ => (G i hi).len vs H Q E h, fun A outer s H args us vs Q E a b c e ⟨i, hi, h⟩ => (G i hi).run A outer s H args us vs Q E a b c e h⟩
/-- drawn ordinals up to m deep -/
def spOrdTo (K : PySem.W.Frag) (m : Nat) : Sp := fun vs H Q E => ∃ d, d ≤ m ∧ spOrd K d vs H Q E
theorem kb_of {qual : Str} {st : Stmt} {ks : List Str} (F : Fun K x qual st f fd) (g : List Value → List Value → List Value) (gV : List V → List V → List V)
    (rel : ∀ {vs : List V} {us : List Value} {zs : List V} {ws : List Value}, Vals vs us → Vals zs ws → Vals (gV vs zs) (g us ws))
    (h : ∀ (kV doc pm : Value) (an : Option Addr) (cdv ct : Value) (us ws : List Value), (g us ws).length = ps.length → bindArgs (PySem.W.fnOf x qual (defArgs st) (defBody st) (defScope st) .none kV doc pm an cdv ct) ⟨us, ks.zip ws⟩ = pure (ps.zip (g us ws))) : KBinds K fd ps ks g gV := by
  obtain ⟨oc, od, kV, doc, pm, an, cdv, ct, osl, rfl, lk, hcd⟩ := F.ex
  exact ⟨fun s us ws _ hl => .of_eq (h kV doc pm an cdv ct us ws hl), rel⟩
/-- f(b=.., a=..) of a def f(a, b) -/
def swapG {α : Type} : List α → List α → List α
  | [], [a, b] => [b, a]
  | _, _ => []
theorem swap_rel {vs : List V} {us : List Value} {zs : List V} {ws : List Value} (h1 : Vals vs us) (h2 : Vals zs ws) : Vals (swapG vs zs) (swapG us ws) := by
  cases h1 with
  | cons _ _ => exact .nil
  | nil =>
    cases h2 with
    | nil => exact .nil
    | cons a t => cases t with
      | nil => exact .nil
      | cons b u => cases u with
        | nil => exact .cons b (.cons a .nil)
        | cons _ _ => exact .nil
end
end Vw

set_option Elab.async false
set_option linter.all false
set_option maxRecDepth 100000
/-! for i, x in enumerate(t), t a tuple: the layer's own enumerate is for lists -/
namespace PySem
open Sem (wp)
open AutoSeq1 (wpAny_loadPart')
theorem enumT_new (t : Addr) (its : Array Value) (n : Nat) (dd : Option Addr) (sl : Array (Option Value)) :
    Meets (Builtin.«enumerate.__new__» ⟨[.type "enumerate", .ref t], []⟩) (fun _ R s => s.heap.get? t = some { cls := .type "tuple", dict := dd, data := .seq its n, slots := sl } ∧
      R (.ok (.ret (.ref (s.heap.push { cls := .type "tuple_iterator", data := .fields #[.ref t, .int 0 0] }).objs.size)))
        { s with heap := (s.heap.push { cls := .type "tuple_iterator", data := .fields #[.ref t, .int 0 0] }).push { cls := .type "enumerate", data := .fields #[.none, .bool false, .ref s.heap.objs.size, rawInt 0, .none, .none] } }) :=
  .of_wp fun prog w A R s h => by
    obtain ⟨hp, g, d, tk, os⟩ := s
    obtain ⟨ht, h⟩ := h
    have hs1 := sub_enumerate
    have hT : Heap.IsTuple (Shared.heap ⟨hp, g, d, tk, os⟩) t its := ⟨_, ht, rfl, n, rfl⟩
    wp_walk using wpAny_loadPart' ht
    refine wpAny_stack_any fun st => wpAny_pure ?_
    split
    · rename_i c _ _ _ _ _
      cases (c == Value.type "enumerate") <;> (wp_walk using wpAny_loadPart' ht, wpAny_pyIter_tuple hT; exact ⟨_, rfl, h⟩)
    · wp_walk using wpAny_loadPart' ht, wpAny_pyIter_tuple hT
      exact ⟨_, rfl, h⟩
theorem enumT_call {prog : Program} {w : World} {A : Around} {E : Value → Shared → Prop} {s : Shared} {t : Addr} {its : Array Value} {Q : Value → Shared → Prop} (ht : s.heap.IsTuple t its)
    (h : ∀ h', IsEnum h' (s.heap.objs.size + 1) s.heap.objs.size 0 .none → h'.IsTupleIter s.heap.objs.size t 0 → (∀ b o, s.heap.get? b = some o → h'.get? b = some o) → Q (.ref (s.heap.objs.size + 1)) { s with heap := h' }) :
    wpAny (model prog w) A (call (.type "enumerate") [.ref t]) Q E s := by
  obtain ⟨⟨c, dct, dt, sl⟩, hl, hc, n, hd⟩ := ht
  obtain rfl : c = .type "tuple" := hc
  obtain rfl : dt = .seq its n := hd
  refine callType_new F.called_enumerate (by decide) (F.typeCall_enumerate_1 _) (F.newCall_enumerate_1 _) (fun obj => F.args_object_init_2 obj _) F.entry_enumerate_new (enumT_new t its n dct sl) ⟨hl, ?_⟩
  have hz : (s.heap.push { cls := .type "tuple_iterator", data := .fields #[.ref t, .int 0 0] }).objs.size = s.heap.objs.size + 1 := Heap.size_push ..
  have he : IsEnum ((s.heap.push { cls := .type "tuple_iterator", data := .fields #[.ref t, .int 0 0] }).push { cls := .type "enumerate", data := .fields #[.none, .bool false, .ref s.heap.objs.size, rawInt 0, .none, .none] }) (s.heap.objs.size + 1) s.heap.objs.size 0 .none := by
    have q := Heap.get?_push_size (s.heap.push { cls := .type "tuple_iterator", data := .fields #[.ref t, .int 0 0] }) (o := { cls := .type "enumerate", data := .fields #[.none, .bool false, .ref s.heap.objs.size, rawInt 0, .none, .none] }) rfl
    rw [hz] at q
    exact q
  show _ ∧ _
  rw [hz]
  exact ⟨⟨_, he, rfl⟩, h _ he ⟨_, Heap.get?_push_of_some _ (Heap.get?_push_size _ rfl), rfl, rfl⟩ fun b o x => Heap.get?_push_of_some _ (Heap.get?_push_of_some _ x)⟩
end PySem
namespace Vw
open PySem PySem.W PyProof.Rows L2
/-- the tuple at a, each item in a new pair -/
def IteT (K : PySem.W.Frag) (a : Addr) : It :=
  ⟨fun i H => ∃ (xs : List V) (x : V), SqT K H a xs ∧ xs[i]? = some x, fun i H v H' => ∃ T x, v = .ref T ∧ H T = none ∧ H' = upd H T (.tup [.int (i : Nat), x]) ∧ ∀ xs, SqT K H a xs → xs[i]? = some x, fun i H => ∃ xs : List V, SqT K H a xs ∧ xs.length ≤ i⟩
theorem turn_enumT {P : Program} {w : World} {K : PySem.W.Frag} {elts : List Expr} {kk : Nat} {tpos : Pos} (a e it : Addr) (hea : e ≠ a) (hia : a ≠ it) (hei : e ≠ it) :
    Turn P w K (.Tuple elts kk tpos) (IteT K a) [e, it] e (fun i h => (∃ old, IsEnum h e it ((i : Nat) : Int) old) ∧ h.IsTupleIter it a i) where
  mem := List.mem_cons_self
  obj := fun i h st b hb => by
    obtain ⟨⟨old, he⟩, o, ho, hc, hd⟩ := st
    rcases List.mem_cons.mp hb with rfl | hb
    · exact ⟨_, he, fun v q => nomatch q⟩
    · rw [List.mem_singleton.mp hb]
      exact ⟨o, ho, fun v q => by rw [hd] at q; cases q⟩
  keep := fun i h h' st k => ⟨st.1.imp fun old he => k e List.mem_cons_self _ he, st.2.at fun o q => k it (List.mem_cons_of_mem _ (List.mem_singleton.mpr rfl)) o q⟩
  item := by
    intro X hP hw hK hc i pins s σ H E I hf st hg
    subst hP hw hK
    obtain ⟨⟨old, he⟩, hit⟩ := st
    obtain ⟨xs, x, hq, hx⟩ := hg
    obtain ⟨its, rv, p, hz⟩ := I.tuple hq
    have pT : s.heap.IsTuple a its.toArray := p
    have hel : e < s.heap.objs.size := Heap.lt_size he
    have hil : it < s.heap.objs.size := by obtain ⟨_, q, _⟩ := hit; exact Heap.lt_size q
    have hi : i < its.toArray.size := by
      have h1 := (List.getElem?_eq_some_iff.mp hx).1
      have h2 := rv.length
      rw [List.size_toArray]; omega
    refine wpAny_pyNext_enum_itemD (Draws.tuple (prog := X.prog) (w := X.w) (A := X.A.in1) (I.ok.hd hc) it a hia its.toArray) he ⟨hit, pT⟩ hi hei (by simp [hei, hea]) fun u h' tk hu ho hst hT hsz hk => ?_
    have hu' : its[i]? = some u := by simpa using hu
    obtain ⟨u2, hu2, ru⟩ := rv.get hx
    rw [hu'] at hu2
    obtain rfl : u = u2 := Option.some.inj hu2
    refine ⟨_, rfl, wpAny_letOwnedTupleGo_enum (s := { s with heap := h', toks := tk + 1 }) ho fun h'' he' sb => ?_⟩
    have hT2 : h''.get? s.heap.objs.size = some { cls := .type "tuple", data := .seq #[.int i tk, u] } := (sb.2 _ (Nat.ne_of_gt hel)).trans hT
    have new : ObjOk X.prog X.w (upd H s.heap.objs.size (.tup [.int (i : Nat), x])) h'' s.heap.objs.size (.tup [.int (i : Nat), x]) :=
      ⟨by show 2 ≤ sizeLine; decide, [.int i tk, u], .cons ⟨_, rfl⟩ (.cons ru .nil), ⟨_, hT2, rfl, _, rfl⟩⟩
    have I1 : Inv X pins σ (upd H s.heap.objs.size (.tup [.int (i : Nat), x])) { s with heap := h'', toks := tk + 1 } :=
      I.turnedNew (ch := [e, it]) (fun b ob hb q => (sb.2 b (fun z => hb (by simp [z]))).trans (hk b ob (fun z => hb (by simp [z])) (fun z => hb (by simp [z])) q)) hf (Nat.le_refl _) new
    refine ⟨.ref s.heap.objs.size, _, I1, rfl, ⟨_, x, rfl, I.hok.fresh (Nat.le_refl _), rfl, fun ys hy => by rw [I.tuple_inj hy hq]; exact hx⟩, ⟨⟨u, ?_⟩, hst.1.at fun o q => (sb.2 it (Ne.symm hei)).trans q⟩, fun b hb => ?_⟩
    · have e1 : ((i + 1 : Nat) : Int) = (i : Int) + 1 := by omega
      rw [e1]; exact he'
    · have hb' : b < s.heap.objs.size := by
        rcases List.mem_cons.mp hb with rfl | hb
        · exact hel
        · rw [List.mem_singleton.mp hb]; exact hil
      rw [upd_ne (Nat.ne_of_lt hb')]
      exact (hf b hb).1
  done := by
    intro X hP hw hK hc i pins s σ H E I hf st hg
    subst hP hw hK
    obtain ⟨⟨old, he⟩, hit⟩ := st
    obtain ⟨xs, hq, hx⟩ := hg
    obtain ⟨its, rv, p, hz⟩ := I.tuple hq
    have pT : s.heap.IsTuple a its.toArray := p
    obtain ⟨f0, f1, f2, f3, f4, f5⟩ := hf it (List.mem_cons_of_mem _ (List.mem_singleton.mpr rfl))
    have hT : s.TypeIs (.ref e) "enumerate" := ⟨_, he, rfl⟩
    have hl : its.toArray.size ≤ i := by rw [List.size_toArray]; have := rv.length; omega
    -- past the end as at the end
    have D : Draws X.prog X.w X.A.in1 it [it, a] i (fun _ _ => False) (fun j h => j = i ∧ h.IsTupleIter it a i ∧ h.IsTuple a its.toArray) :=
      { live := fun _ _ st => let ⟨o, ho, _⟩ := st.2.1; ⟨o, ho⟩
        frame := fun _ _ _ st hk => ⟨st.1, st.2.1.at fun o e => hk it (by simp) o e, st.2.2.at fun o e => hk a (by simp) o e⟩
        item := fun j s Q E hj st _ => absurd st.1 (Nat.ne_of_lt hj)
        done := fun s Q E st hE => wpAny_nextOf_tuple_end (I.ok.hd hc) st.2.1 st.2.2 (by simpa using hl) hE }
    exact wpAny_pyNext_enum_endD D he ⟨rfl, hit, pT⟩ fun h' eb => ⟨rfl, I.turned (t' := s.toks) (fun b o hb q => eb b o hb q) f0 f1 f3 f4 f5⟩
  self := fun A i s Q E st h => let ⟨⟨_, he⟩, _⟩ := st; wpAny_pyIter_enum he h
def iEnumT (K : PySem.W.Frag) (ta : L2.TA) : TI := fun σ H R => ta σ H fun vs H1 => ∃ a xs, vs = [.ref a] ∧ SqT K H1 a xs ∧ R (IteT K a) H1
theorem pi_enumT {X : Cx} {e : Expr} {ta : L2.TA} {p pos tpos : Pos} {elts : List Expr} {kk : Nat} (hg : Gl X "enumerate") (hm : X.mg "enumerate" = none) (ha : PA X [e] ta) (hs : starEach [e] X.env = [(false, eval e X.env)] := by rfl) :
    PI X (.Tuple elts kk tpos) (.Call (.Name "enumerate" p) [e] [] pos) (iEnumT X.K ta) := by
  refine ⟨fun pins s σ H R I h => ?_⟩
  refine Call_ (ld_blt I hg hm boot_enumerate (PyProof.Rows.callWith_type1 (thn (ha.run pos pins s σ H _ I h) fun us s1 ⟨vs, H1, I1, r1, q1⟩ => ?_) hs rfl))
  obtain ⟨a, xs, rfl, hq, q⟩ := q1
  obtain rfl := Vals.ref1 r1
  obtain ⟨its, rv, p', hz⟩ := I1.tuple hq
  have pT : s1.heap.IsTuple a its.toArray := p'
  have hal : a < s1.heap.objs.size := by obtain ⟨_, q, _⟩ := pT; exact Heap.lt_size q
  refine enumT_call pT fun h' he hit hk => wpAny_pyIter_enum he ?_
  have I2 : Inv X pins σ H1 { s1 with heap := h' } := I1.kept (t' := s1.toks) hk
  refine ⟨s1.heap.objs.size + 1, [s1.heap.objs.size + 1, s1.heap.objs.size], _, _, H1, rfl, I2, turn_enumT a (s1.heap.objs.size + 1) s1.heap.objs.size (fun z => by rw [← z] at hal; exact absurd hal (Nat.not_lt.mpr (Nat.le_succ _))) (Nat.ne_of_lt hal) (Nat.succ_ne_self _), ⟨⟨.none, he⟩, hit⟩, fun b hb => ?_, q⟩
  have hle : s1.heap.objs.size ≤ b := by
    rcases List.mem_cons.mp hb with z | z
    · rw [z]; exact Nat.le_add_right _ _
    · rw [List.mem_singleton.mp z]; exact Nat.le_refl _
  exact I1.fpOk hle (I1.hok.fresh hle)
theorem for_enumT {K : PySem.W.Frag} {a : Addr} {xs : List V} {g : L2.TG} {tb : L2.TS} {D : Ends} {σ : L2.St} {H : Hp} (Pv : Nat → L2.St → Hp → Prop) (h0 : Pv 0 σ H) (hl : ∀ i σ H, i ≤ xs.length → Pv i σ H → SqT K H a xs)
    (hs : ∀ i x T σ H, xs[i]? = some x → Pv i σ H → H T = none → g (.ref T) σ (upd H T (.tup [.int (i : Nat), x])) fun σ2 H2 => tb { D with nx := Pv (i + 1), ct := Pv (i + 1), bk := D.nx } σ2 H2) (hd : ∀ σ H, Pv xs.length σ H → D.nx σ H) :
    ∃ W : Nat → Nat → L2.St → Hp → Prop, (∃ m, W 0 m σ H) ∧ ∀ i m σ H, W i m σ H →
      ((IteT K a).stop i H ∧ D.nx σ H) ∨ ((IteT K a).go i H ∧ ∃ N : L2.St → Hp → Prop, (∀ σ' H', N σ' H' → ∃ m', m' < m ∧ W (i + 1) m' σ' H') ∧ ∀ x H', (IteT K a).yld i H x H' → g x σ H' fun σ2 H2 => tb { D with nx := N, ct := N, bk := D.nx } σ2 H2) := by
  refine ⟨fun i m σ H => m = xs.length - i ∧ i ≤ xs.length ∧ Pv i σ H, ⟨xs.length, by simp, Nat.zero_le _, h0⟩, ?_⟩
  rintro i m σ H ⟨rfl, hi, p⟩
  have q := hl i σ H hi p
  by_cases hlt : i < xs.length
  · refine .inr ⟨⟨xs, xs[i], q, List.getElem?_eq_getElem hlt⟩, Pv (i + 1), fun σ' H' p' => ⟨xs.length - (i + 1), by omega, rfl, hlt, p'⟩, fun v H' y => ?_⟩
    obtain ⟨T, x, rfl, nT, rfl, hx⟩ := y
    exact hs i x T σ H (hx xs q) p nT
  · obtain rfl : i = xs.length := by omega
    exact .inl ⟨⟨xs, q, Nat.le_refl _⟩, hd σ H p⟩
end Vw

set_option Elab.async false
set_option linter.all false
set_option maxRecDepth 100000
namespace Vw
open PySem PySem.W PyProof.Rows L2
namespace O
theorem toDs_inj : ∀ {a b : O}, toDs a = toDs b → a = b
  | z, z, _ => rfl
  | z, add _ _ _, h => by cases h
  | add _ _ _, z, h => by cases h
  | add e c r, add e' c' r', h => by
    simp only [toDs, List.cons.injEq, PyData.tuple.injEq, PyData.int.injEq, and_true] at h
    rw [toDs_inj h.1.1, h.1.2, toDs_inj h.2]
theorem toD_inj {a b : O} (h : toD a = toD b) : a = b := by
  unfold toD at h
  exact toDs_inj (PyData.tuple.inj h)
/-- neighbours descend -/
theorem ok_desc : ∀ {o : O} {i : Nat} {t u : O × Int}, ok o = true → (ts o)[i]? = some t → (ts o)[i + 1]? = some u → lt u.1 t.1 = true
  | z, i, t, u, _, h, _ => by simp [ts] at h
  | add e c r, 0, t, u, hk, h1, h2 => by
    have g := ok_add.mp hk
    have e1 : (e, c) = t := by simpa [ts] using h1
    subst e1
    cases r with
    | z => simp [ts] at h2
    | add e' c' r' =>
      have e2 : (e', c') = u := by simpa [ts] using h2
      subst e2
      exact g.2.2.2
  | add e c r, i + 1, t, u, hk, h1, h2 => ok_desc (o := r) (i := i) (ok_add.mp hk).2.2.1 (by simpa [ts] using h1) (by simpa [ts] using h2)
end O
def IsOrd (d : PyData) : Prop := ∃ o : O, O.toD o = d ∧ O.ok o = true
def IsTerm (d : PyData) : Prop := ∃ (e : O) (c : Int), d = O.tD (e, c) ∧ O.ok e = true ∧ 1 ≤ c
noncomputable def isOrdB (d : PyData) : Bool := open Classical in decide (IsOrd d)
noncomputable def isTermB (d : PyData) : Bool := open Classical in decide (IsTerm d)
def isCntB : PyData → Bool
  | .int n => decide (1 ≤ n)
  | _ => false
open Classical in
theorem isOrd_t {d : PyData} (h : IsOrd d) : isOrdB d = true := by unfold isOrdB; exact decide_eq_true h
open Classical in
theorem isOrd_f {d : PyData} (h : ¬ IsOrd d) : isOrdB d = false := by unfold isOrdB; exact decide_eq_false h
open Classical in
theorem isOrd_of {d : PyData} (h : isOrdB d = true) : IsOrd d := by unfold isOrdB at h; exact of_decide_eq_true h
open Classical in
theorem isTerm_t {d : PyData} (h : IsTerm d) : isTermB d = true := by unfold isTermB; exact decide_eq_true h
open Classical in
theorem isTerm_f {d : PyData} (h : ¬ IsTerm d) : isTermB d = false := by unfold isTermB; exact decide_eq_false h
open Classical in
theorem isTerm_of {d : PyData} (h : isTermB d = true) : IsTerm d := by unfold isTermB at h; exact of_decide_eq_true h
theorem isTerm_no {d : PyData} (h : isTermB d = false) : ¬ IsTerm d := fun z => by rw [isTerm_t z] at h; cases h
theorem isOrd_toD {o : O} (h : O.ok o = true) : isOrdB (O.toD o) = true := isOrd_t ⟨o, rfl, h⟩
theorem isTerm_two (a b : PyData) : isTermB (.tuple [a, b]) = (isCntB b && isOrdB a) := by
  cases h : isCntB b && isOrdB a with
  | true =>
    rw [Bool.and_eq_true] at h
    obtain ⟨o, rfl, ho⟩ := isOrd_of h.2
    cases b with
    | int n => exact isTerm_t ⟨o, n, rfl, ho, of_decide_eq_true h.1⟩
    | _ => cases h.1
  | false =>
    refine isTerm_f fun ⟨e, c, h1, h2, h3⟩ => ?_
    have h4 : a = O.toD e ∧ b = .int c := by simpa [O.tD] using h1
    rw [h4.1, h4.2, isOrd_toD h2, show isCntB (.int c) = true from decide_eq_true h3] at h
    cases h
theorem isTerm_other {d : PyData} (h : ∀ a b, d ≠ .tuple [a, b]) : isTermB d = false := isTerm_f fun ⟨e, c, h1, _⟩ => h _ _ h1
theorem isOrd_other {d : PyData} (h : ∀ ds, d ≠ .tuple ds) : isOrdB d = false := isOrd_f fun ⟨o, h1, _⟩ => h _ h1.symm
/-- the first i terms are right -/
def Pref (ds : List PyData) (l : List (O × Int)) (i : Nat) : Prop := ds.take i = l.map O.tD ∧ O.ok (O.of l) = true ∧ l.length = i
theorem pref_nil (ds : List PyData) : Pref ds [] 0 := ⟨rfl, rfl, rfl⟩
theorem pref_at {ds : List PyData} {l : List (O × Int)} {i j : Nat} (h : Pref ds l i) (hj : j < i) : ∃ t, l[j]? = some t ∧ ds[j]? = some (O.tD t) := by
  obtain ⟨h1, _, h3⟩ := h
  have hl : j < l.length := by omega
  refine ⟨l[j], List.getElem?_eq_getElem hl, ?_⟩
  have : (ds.take i)[j]? = some (O.tD l[j]) := by rw [h1, List.getElem?_map, List.getElem?_eq_getElem hl]; rfl
  rw [List.getElem?_take] at this
  rw [if_pos hj] at this
  exact this
theorem pref_last {ds : List PyData} {l : List (O × Int)} {i : Nat} (h : Pref ds l (i + 1)) : ∃ t, l.getLast? = some t ∧ ds[i]? = some (O.tD t) := by
  obtain ⟨t, h1, h2⟩ := pref_at h (Nat.lt_succ_self i)
  refine ⟨t, ?_, h2⟩
  rw [List.getLast?_eq_getElem?, h.2.2]
  exact h1
theorem pref_step {ds : List PyData} {l : List (O × Int)} {i : Nat} {e : O} {c : Int} (h : Pref ds l i) (hd : ds[i]? = some (O.tD (e, c))) (he : O.ok e = true) (hc : 1 ≤ c) (hl : ∀ t, l.getLast? = some t → O.lt e t.1 = true) : Pref ds (l ++ [(e, c)]) (i + 1) := by
  obtain ⟨h1, h2, h3⟩ := h
  refine ⟨?_, O.ok_snoc l e c h2 he hc hl, by rw [List.length_append, h3]; rfl⟩
  rw [List.take_add_one, hd, h1, List.map_append]
  rfl
theorem ord_term {ds : List PyData} (h : IsOrd (.tuple ds)) {i : Nat} {d : PyData} (hd : ds[i]? = some d) : IsTerm d := by
  obtain ⟨o, h1, h2⟩ := h
  have h3 : O.toDs o = ds := PyData.tuple.inj h1
  rw [← h3, O.toDs_ts, List.getElem?_map] at hd
  obtain ⟨t, ht, rfl⟩ := Option.map_eq_some_iff.mp hd
  have := O.ok_mem h2 (List.mem_of_getElem? ht)
  exact ⟨t.1, t.2, rfl, this.1, this.2⟩
theorem bad_term {ds : List PyData} {i : Nat} {d : PyData} (hd : ds[i]? = some d) (h : ¬ IsTerm d) : isOrdB (.tuple ds) = false := isOrd_f fun z => h (ord_term z hd)
theorem tD_inj {a b : O × Int} (h : O.tD a = O.tD b) : a = b := by
  obtain ⟨e, c⟩ := a
  obtain ⟨e', c'⟩ := b
  have : O.toD e = O.toD e' ∧ c = c' := by simpa [O.tD] using h
  rw [O.toD_inj this.1, this.2]
theorem bad_order {ds : List PyData} {i : Nat} {t u : O × Int} (h1 : ds[i]? = some (O.tD t)) (h2 : ds[i + 1]? = some (O.tD u)) (h : O.lt u.1 t.1 = false) : isOrdB (.tuple ds) = false := isOrd_f fun ⟨o, e1, e2⟩ => by
  have h3 : O.toDs o = ds := PyData.tuple.inj e1
  rw [← h3, O.toDs_ts, List.getElem?_map] at h1 h2
  obtain ⟨t', ht, a1⟩ := Option.map_eq_some_iff.mp h1
  obtain ⟨u', hu, a2⟩ := Option.map_eq_some_iff.mp h2
  have := O.ok_desc e2 ht hu
  rw [tD_inj a1, tD_inj a2, h] at this
  cases this
theorem pref_end {ds : List PyData} {l : List (O × Int)} (h : Pref ds l ds.length) : isOrdB (.tuple ds) = true := by
  obtain ⟨h1, h2, h3⟩ := h
  rw [List.take_length] at h1
  refine isOrd_t ⟨O.of l, ?_, h2⟩
  unfold O.toD
  rw [O.toDs_ts, O.ts_of, h1]
/-! ### comparisons of data that are ordinals -/
section
variable {K : PySem.W.Frag} {H : Hp} {x y : V} {a b : O} {Q : VK}
theorem rd_ltD (ha : Dp K H x (O.toD a)) (hb : Dp K H y (O.toD b)) (h : O.dp a ≤ 60) (q : Q (.bl (O.lt a b)) H) : rCmp (fun d e => dataLt d e) K x y H Q := by
  unfold rCmp
  exact ⟨_, _, ha, hb, O.alike_toD a b, (fun z => by cases z), by rw [O.depth_toD]; omega, by show Q (.bl (dataLt _ _)) H; rw [O.lt_toD]; exact q⟩
theorem rd_gtD (ha : Dp K H x (O.toD a)) (hb : Dp K H y (O.toD b)) (h : O.dp a ≤ 60) (q : Q (.bl (O.lt b a)) H) : rCmp (fun d e => dataLt e d) K x y H Q := by
  unfold rCmp
  exact ⟨_, _, ha, hb, O.alike_toD a b, (fun z => by cases z), by rw [O.depth_toD]; omega, by show Q (.bl (dataLt _ _)) H; rw [O.lt_toD]; exact q⟩
theorem rd_leD (ha : Dp K H x (O.toD a)) (hb : Dp K H y (O.toD b)) (h : O.dp a ≤ 60) (q : Q (.bl (!O.lt b a)) H) : rCmp (fun d e => !dataLt e d) K x y H Q := by
  unfold rCmp
  exact ⟨_, _, ha, hb, O.alike_toD a b, (fun z => by cases z), by rw [O.depth_toD]; omega, by show Q (.bl (!dataLt _ _)) H; rw [O.lt_toD]; exact q⟩
theorem rd_geD (ha : Dp K H x (O.toD a)) (hb : Dp K H y (O.toD b)) (h : O.dp a ≤ 60) (q : Q (.bl (!O.lt a b)) H) : rCmp (fun d e => !dataLt d e) K x y H Q := by
  unfold rCmp
  exact ⟨_, _, ha, hb, O.alike_toD a b, (fun z => by cases z), by rw [O.depth_toD]; omega, by show Q (.bl (!dataLt _ _)) H; rw [O.lt_toD]; exact q⟩
/-- a tuple of data -/
theorem dp_tup {ds : List PyData} (h : Dp K H x (.tuple ds)) : ∃ p xs, x = .ref p ∧ SqT K H p xs ∧ DpAll K H xs ds := by
  cases h with
  | tup h1 h2 => exact ⟨_, _, rfl, h1, h2⟩
theorem dp_list {ds : List PyData} (h : Dp K H x (.list ds)) : ∃ p xs, x = .ref p ∧ SqL K H p xs ∧ DpAll K H xs ds := by
  cases h with
  | lst h1 h2 => exact ⟨_, _, rfl, h1, h2⟩
/-- a pair -/
theorem dp_two {a b : PyData} (h : Dp K H x (.tuple [a, b])) : ∃ p u v, x = .ref p ∧ SqT K H p [u, v] ∧ Dp K H u a ∧ Dp K H v b := by
  obtain ⟨p, xs, rfl, h1, h2⟩ := dp_tup h
  cases h2 with
  | cons g1 t => cases t with
    | cons g2 t2 =>
      cases t2
      exact ⟨p, _, _, rfl, h1, g1, g2⟩
end
theorem depth_tD (t : O × Int) : (O.tD t).depth = O.dp t.1 + 2 := by
  unfold O.tD
  simp only [PyData.depth, PyData.depthAll, O.depth_toD]; omega
def spCnt (K : PySem.W.Frag) : Sp := fun vs H Q _ => ∃ (x : V) (d : PyData), vs = [x] ∧ Dp K H x d ∧ ∀ H', Same H H' → Q (.bl (isCntB d)) H'
def spIsOrd (K : PySem.W.Frag) (n : Nat) : Sp := fun vs H Q _ => ∃ (x : V) (d : PyData), vs = [x] ∧ Dp K H x d ∧ d.depth < n ∧ ∀ H', Same H H' → Q (.bl (isOrdB d)) H'
def spIsTerm (K : PySem.W.Frag) (n : Nat) : Sp := fun vs H Q _ => ∃ (x : V) (d : PyData), vs = [x] ∧ Dp K H x d ∧ d.depth < n ∧ ∀ H', Same H H' → Q (.bl (isTermB d)) H'
end Vw

set_option Elab.async false
set_option linter.all false
set_option maxRecDepth 100000
namespace Vw
open PySem PySem.W PyProof.Rows L2
namespace O
theorem endO_z : endO z = z := rfl
theorem endO_one (e : O) (c : Int) : endO (add e c z) = e := rfl
theorem endO_add (e : O) (c : Int) {r : O} (h : r ≠ z) : endO (add e c r) = endO r := by
  cases r with
  | z => exact absurd rfl h
  | add e2 c2 r2 =>
    unfold endO
    show (match ((e, c) :: (e2, c2) :: ts r2).getLast? with | some t => t.1 | none => z) = _
    rw [List.getLast?_cons_cons]
    rfl
/-- the power e, once -/
def pw (e : O) : O := add e 1 z
theorem ok_pw {e : O} (h : ok e = true) : ok (pw e) = true := ok_add.mpr ⟨h, Int.le_refl _, rfl, rfl⟩
theorem end_sum (e : O) (c : Int) : ∀ a : O, endO (sum a (add e c z)) = e
  | z => by rw [z_sum]; rfl
  | add e1 c1 r1 => by
    by_cases q : e1 = e
    · subst q; rw [sum_eq]; rfl
    · rcases lt_total e1 e q with k | k
      · rw [sum_lt k]; rfl
      · rw [sum_gt k, endO_add _ _ (sum_add_ne r1 e c z)]
        exact end_sum e c r1
/-- all exponents are at least the end -/
theorem end_le : ∀ {a : O} {t : O × Int}, ok a = true → t ∈ ts a → lt t.1 (endO a) = false
  | z, t, _, h => by cases h
  | add e c z, t, _, h => by
    rcases List.mem_cons.mp h with q | q
    · subst q; exact lt_irrefl _
    · cases q
  | add e c (add e2 c2 r2), t, hk, h => by
    have g := ok_add.mp hk
    rw [endO_add _ _ (by intro q; cases q)]
    rcases List.mem_cons.mp h with q | q
    · subst q
      have h1 := end_le (a := add e2 c2 r2) (t := (e2, c2)) g.2.2.1 List.mem_cons_self
      exact ge_trans (b := e2) (lt_asymm g.2.2.2) h1
    · exact end_le g.2.2.1 q
theorem end_mem : ∀ {a : O}, a ≠ z → ∃ c, (endO a, c) ∈ ts a
  | z, h => absurd rfl h
  | add e c z, _ => ⟨c, List.mem_cons_self⟩
  | add e c (add e2 c2 r2), _ => by
    obtain ⟨c', h⟩ := end_mem (a := add e2 c2 r2) (by intro q; cases q)
    rw [endO_add _ _ (by intro q; cases q)]
    exact ⟨c', List.mem_cons_of_mem _ h⟩
theorem ok_end : ∀ {a : O}, ok a = true → ok (endO a) = true := fun {a} h => by
  by_cases q : a = z
  · subst q; rfl
  · obtain ⟨c, hc⟩ := end_mem q
    exact (ok_mem h hc).1
theorem dp_end (a : O) : dp (endO a) ≤ dp a := by
  by_cases q : a = z
  · subst q; exact Nat.le_refl _
  · obtain ⟨c, hc⟩ := end_mem q
    have := dp_mem hc
    show dp (endO a, c).1 ≤ _
    omega
/-- the least ordinal at least a whose end is at least e -/
def raisedO (a e : O) : O := if lt (endO a) e = true then sum a (pw e) else a
theorem ok_raised {a e : O} (h : ok a = true) (h2 : ok e = true) : ok (raisedO a e) = true := by
  unfold raisedO
  split
  · exact ok_sum _ _ h (ok_pw h2)
  · exact h
theorem dp_raised (a e : O) : dp (raisedO a e) ≤ max (dp a) (dp e + 2) := by
  unfold raisedO
  split
  · have := dp_sum a (pw e)
    have h2 : dp (pw e) = max (dp e + 2) 0 := rfl
    omega
  · omega
theorem len_raised (a e : O) : (ts (raisedO a e)).length ≤ (ts a).length + 1 := by
  unfold raisedO
  split
  · exact len_sum a (pw e)
  · omega
theorem end_raised (a e : O) : lt (endO (raisedO a e)) e = false := by
  unfold raisedO
  split
  · rw [pw, end_sum]; exact lt_irrefl _
  · rename_i h; exact Bool.eq_false_iff.mpr h
theorem raised_ge {a e : O} (h : ok a = true) (h2 : ok e = true) : lt (raisedO a e) a = false := by
  unfold raisedO
  split
  · exact sum_ge_left h (ok_pw h2)
  · exact lt_irrefl _
/-- what has an end of at least e and something before it is at least the power -/
theorem pw_le {x e : O} (hx : ok x = true) (he : lt z e = true) (h : lt (endO x) e = false) : lt x (pw e) = false := by
  cases x with
  | z => rw [endO_z, he] at h; cases h
  | add e2 c2 r2 =>
    have g := ok_add.mp hx
    have h1 := end_le hx (t := (e2, c2)) List.mem_cons_self
    have h2 : lt e2 e = false := ge_trans h1 h
    show (if e2 = e then (if c2 = 1 then lt r2 z else decide (c2 < 1)) else lt e2 e) = false
    split
    · split
      · exact not_lt_nil _
      · exact decide_eq_false (by omega)
    · exact h2
/-- no ordinal between would do -/
theorem raised_least : ∀ {a x e : O}, ok a = true → ok x = true → lt (endO a) e = true → lt x a = false → lt (endO x) e = false → lt x (sum a (pw e)) = false
  | z, x, e, _, hx, h1, _, h3 => by rw [z_sum]; exact pw_le hx h1 h3
  | add e1 c1 r1, x, e, ha, hx, h1, h2, h3 => by
    have ga := ok_add.mp ha
    have ez : lt z e = true := by
      by_cases q : e = z
      · subst q; rw [not_lt_nil] at h1; cases h1
      · exact nil_lt q
    cases x with
    | z => cases h2
    | add e2 c2 r2 =>
      have gx := ok_add.mp hx
      have e2e : lt e2 e = false := ge_trans (end_le hx (t := (e2, c2)) List.mem_cons_self) h3
      by_cases q : e1 = e
      · subst q
        have hr1 : r1 ≠ z := fun z1 => by subst z1; rw [endO_one, lt_irrefl] at h1; cases h1
        show lt _ (sum (add e1 c1 r1) (add e1 1 z)) = false
        rw [sum_eq]
        by_cases q2 : e2 = e1
        · subst q2
          have hr2 : r2 = z := by
            cases r2 with
            | z => rfl
            | add e5 c5 r5 =>
              have h5 := end_le hx (t := (e5, c5)) (List.mem_cons_of_mem _ List.mem_cons_self)
              have := ge_trans h5 h3
              rw [show lt e5 e2 = true from gx.2.2.2] at this
              cases this
          subst hr2
          have hc : ¬ c2 ≤ c1 := fun hc => by
            have : lt (add e2 c2 z) (add e2 c1 r1) = true := by
              by_cases hcc : c2 = c1
              · subst hcc; rw [lt_rest]; exact nil_lt hr1
              · exact lt_cnt (by omega)
            rw [h2] at this; cases this
          by_cases hcc : c2 = c1 + 1
          · subst hcc; rw [lt_irrefl]
          · exact lt_asymm (lt_cnt (by omega))
        · exact lt_asymm (lt_head (lt_of_ge e2e q2))
      · rcases lt_total e1 e q with k | k
        · show lt _ (sum (add e1 c1 r1) (add e 1 z)) = false
          rw [sum_lt k]
          exact pw_le hx ez h3
        · have hr1 : r1 ≠ z := fun z1 => by subst z1; rw [endO_one, lt_asymm k] at h1; cases h1
          rw [endO_add _ _ hr1] at h1
          show lt _ (sum (add e1 c1 r1) (add e 1 z)) = false
          rw [sum_gt k]
          by_cases q2 : e2 = e1
          · subst q2
            by_cases hcc : c2 = c1
            · subst hcc
              rw [lt_rest] at h2 ⊢
              have hr2 : r2 ≠ z := fun z2 => by
                subst z2
                rw [nil_lt hr1] at h2; cases h2
              rw [endO_add _ _ hr2] at h3
              exact raised_least ga.2.2.1 gx.2.2.1 h1 h2 h3
            · by_cases hc : c2 < c1
              · rw [lt_cnt hc] at h2; cases h2
              · exact lt_asymm (lt_cnt (by omega))
          · have h5 : lt e2 e1 = false := by
              cases h6 : lt e2 e1 with
              | false => rfl
              | true => rw [lt_head h6] at h2; cases h2
            exact lt_asymm (lt_head (lt_of_ge h5 q2))
/-- the terms at least e -/
def keep (e a : O) : O := of ((ts a).filter fun t => !lt t.1 e)
theorem keep_add (e e1 : O) (c1 : Int) (r1 : O) : keep e (add e1 c1 r1) = if lt e1 e = true then keep e r1 else add e1 c1 (keep e r1) := by
  unfold keep
  show of (((e1, c1) :: ts r1).filter _) = _
  rw [List.filter_cons]
  cases lt e1 e <;> rfl
theorem keep_none {e : O} : ∀ {r : O}, (∀ t ∈ ts r, lt t.1 e = true) → keep e r = z
  | r, h => by
    unfold keep
    rw [filter_none fun x hx => by rw [h x hx]; rfl]
    rfl
theorem ts_keep (e a : O) : ts (keep e a) = (ts a).filter fun t => !lt t.1 e := ts_of _
theorem under_keep {x e : O} : ∀ {a : O}, ok a = true → under x a = true → under x (keep e a) = true
  | z, _, _ => rfl
  | add e1 c1 r1, h, hu => by
    have g := ok_add.mp h
    rw [keep_add]
    split
    · refine under_keep g.2.2.1 ?_
      cases r1 with
      | z => rfl
      | add e2 c2 r2 => exact lt_trans _ _ _ g.2.2.2 hu
    · exact hu
theorem ok_keep {e : O} : ∀ {a : O}, ok a = true → ok (keep e a) = true
  | z, _ => rfl
  | add e1 c1 r1, h => by
    have g := ok_add.mp h
    rw [keep_add]
    split
    · exact ok_keep g.2.2.1
    · exact ok_add.mpr ⟨g.1, g.2.1, ok_keep g.2.2.1, under_keep g.2.2.1 g.2.2.2⟩
theorem dp_keep (e : O) : ∀ a : O, dp (keep e a) ≤ dp a
  | z => Nat.le_refl _
  | add e1 c1 r1 => by
    have := dp_keep e r1
    rw [keep_add]
    split
    · show _ ≤ max _ _; omega
    · show max _ _ ≤ max _ _; omega
theorem len_keep (e a : O) : (ts (keep e a)).length ≤ (ts a).length := by
  rw [ts_keep]; exact List.length_filter_le _ _
/-- the sum forgets the terms below -/
theorem sum_keep {e : O} {c : Int} {r : O} : ∀ {a : O}, ok a = true → sum (keep e a) (add e c r) = sum a (add e c r)
  | z, _ => rfl
  | add e1 c1 r1, h => by
    have g := ok_add.mp h
    rw [keep_add]
    by_cases k : lt e1 e = true
    · rw [if_pos k, sum_lt k, sum_keep g.2.2.1]
      have : ∀ t ∈ ts r1, lt t.1 e = true := fun t ht => lt_trans _ _ _ (under_all g.2.2.1 g.2.2.2 t ht) k
      rw [← sum_keep g.2.2.1, keep_none this, z_sum]
    · rw [if_neg k]
      by_cases q : e1 = e
      · subst q; rw [sum_eq, sum_eq]
      · have k2 : lt e e1 = true := lt_of_ge (Bool.eq_false_iff.mpr k) q
        rw [sum_gt k2, sum_gt k2, sum_keep g.2.2.1]
theorem keep_all {e : O} : ∀ {a : O}, (∀ t ∈ ts a, lt t.1 e = false) → keep e a = a
  | z, _ => rfl
  | add e1 c1 r1, h => by
    rw [keep_add, h (e1, c1) List.mem_cons_self, if_neg Bool.false_ne_true, keep_all fun t ht => h t (List.mem_cons_of_mem _ ht)]
/-- what the law's own raising does -/
theorem raised_law {a e : O} (ha : ok a = true) : (if e = z ∨ (keep e a = a ∧ a ≠ z) then a else sum (keep e a) (pw e)) = raisedO a e := by
  unfold raisedO
  by_cases he : e = z
  · rw [if_pos (.inl he)]
    subst he
    rw [not_lt_nil, if_neg Bool.false_ne_true]
  · by_cases hz : a = z
    · subst hz
      rw [if_neg (fun h => h.elim he fun h => h.2 rfl), endO_z, if_pos (nil_lt he)]
      rfl
    · cases k : lt (endO a) e with
      | false =>
        have : keep e a = a := keep_all fun t ht => ge_trans (end_le ha ht) k
        rw [if_pos (.inr ⟨this, hz⟩), if_neg Bool.false_ne_true]
      | true =>
        have : keep e a ≠ a := fun h => by
          obtain ⟨c, hc⟩ := end_mem hz
          have hc2 : (endO a, c) ∈ (ts a).filter fun t => !lt t.1 e := by rw [← ts_keep, h]; exact hc
          have := (List.mem_filter.mp hc2).2
          rw [show lt (endO a, c).1 e = true from k] at this
          cases this
        rw [if_neg (fun h => h.elim he fun h => this h.1), if_pos rfl]
        exact sum_keep ha
/-- the first terms -/
theorem ok_take : ∀ (a : O) (k : Nat), ok a = true → ok (of ((ts a).take k)) = true
  | _, 0, _ => rfl
  | z, _ + 1, _ => rfl
  | add e c r, k + 1, h => by
    have g := ok_add.mp h
    refine ok_add.mpr ⟨g.1, g.2.1, ok_take r k g.2.2.1, ?_⟩
    cases r with
    | z => cases k <;> rfl
    | add e2 c2 r2 => cases k with
      | zero => rfl
      | succ k => exact g.2.2.2
theorem dp_take (a : O) (k : Nat) : dp (of ((ts a).take k)) ≤ dp a := dp_of _ _ fun t ht => dp_mem (List.mem_of_mem_take ht)
theorem len_take (a : O) (k : Nat) : (ts (of ((ts a).take k))).length ≤ (ts a).length := by
  rw [ts_of, List.length_take]; omega
/-- so many times the power -/
def pwN (e : O) (n : Int) : O := if n = 0 then z else add e n z
end O
def spPow (K : PySem.W.Frag) : Sp := fun vs H Q _ => ∃ (x : V) (e : O) (n : Int), vs = [x, .int n] ∧ OA K H x e ∧ ∀ (v : V) (H' : Hp), Same H H' → OA K H' v (O.pwN e n) → Q v H'
/-- a function of two ordinals -/
def spO2 (K : PySem.W.Frag) (g : O → O → O) : Sp := fun vs H Q _ => ∃ (x y : V) (a b : O), vs = [x, y] ∧ OA K H x a ∧ OA K H y b ∧ O.ok a = true ∧ O.ok b = true ∧ O.dp a ≤ 46 ∧ O.dp b ≤ 46 ∧ (O.ts a).length ≤ 900 ∧ (O.ts b).length ≤ 900 ∧ ∀ (v : V) (H' : Hp), Same H H' → OA K H' v (g a b) → Q v H'
end Vw

set_option Elab.async false
set_option linter.all false
set_option maxRecDepth 100000
namespace Vw
open PySem PySem.W PyProof.Rows L2
namespace O
/-- what makes b when it is added to a -/
def gap : O → O → O
  | z, b => b
  | add _ _ _, z => z
  | add e c r, add e' c' r' => if e = e' then (if c = c' then gap r r' else add e' (c' - c) r') else add e' c' r'
theorem ok_gap : ∀ {a b : O}, ok a = true → ok b = true → lt a b = true → ok (gap a b) = true
  | z, b, _, hb, _ => by cases b <;> exact hb
  | add _ _ _, z, _, _, _ => rfl
  | add e c r, add e' c' r', ha, hb, h => by
    have ga := ok_add.mp ha
    have gb := ok_add.mp hb
    unfold gap
    simp only [lt] at h
    split
    · rename_i he; rw [if_pos he] at h
      split
      · rename_i hc; rw [if_pos hc] at h
        exact ok_gap ga.2.2.1 gb.2.2.1 h
      · rename_i hc; rw [if_neg hc] at h
        have := of_decide_eq_true h
        exact ok_add.mpr ⟨gb.1, by omega, gb.2.2.1, gb.2.2.2⟩
    · exact hb
theorem gap_ne : ∀ {a b : O}, lt a b = true → gap a b ≠ z
  | z, b, h => by cases b <;> first | (cases h; done) | (intro q; cases q)
  | add e c r, z, h => by cases h
  | add e c r, add e' c' r', h => by
    unfold gap
    simp only [lt] at h
    split
    · rename_i he; rw [if_pos he] at h
      split
      · rename_i hc; rw [if_pos hc] at h
        exact gap_ne h
      · intro q; cases q
    · intro q; cases q
/-- the exponents of the gap are exponents of b -/
theorem gap_exp : ∀ {a b : O} {t : O × Int}, t ∈ ts (gap a b) → ∃ c, (t.1, c) ∈ ts b
  | z, b, t, h => ⟨t.2, by cases b <;> exact h⟩
  | add e c r, z, t, h => by cases h
  | add e c r, add e' c' r', t, h => by
    unfold gap at h
    split at h
    · split at h
      · obtain ⟨c2, h2⟩ := gap_exp h
        exact ⟨c2, List.mem_cons_of_mem _ h2⟩
      · rcases List.mem_cons.mp h with q | q
        · subst q; exact ⟨c', List.mem_cons_self⟩
        · exact ⟨t.2, List.mem_cons_of_mem _ q⟩
    · exact ⟨t.2, h⟩
theorem sum_gap : ∀ {a b : O}, ok a = true → ok b = true → lt a b = true → sum a (gap a b) = b
  | z, b, _, _, _ => by cases b <;> (unfold gap; rw [z_sum])
  | add _ _ _, z, _, _, h => by cases h
  | add e c r, add e' c' r', ha, hb, h => by
    have ga := ok_add.mp ha
    have gb := ok_add.mp hb
    unfold gap
    simp only [lt] at h
    split
    · rename_i he; rw [if_pos he] at h
      subst he
      split
      · rename_i hc; rw [if_pos hc] at h
        subst hc
        have ih := sum_gap ga.2.2.1 gb.2.2.1 h
        have hne := gap_ne h
        cases hg : gap r r' with
        | z => exact absurd hg hne
        | add e2 c2 r2 =>
          rw [hg] at ih
          obtain ⟨c5, h5⟩ := gap_exp (a := r) (b := r') (t := (e2, c2)) (by rw [hg]; exact List.mem_cons_self)
          have := under_all gb.2.2.1 gb.2.2.2 _ h5
          rw [sum_gt this, ih]
      · rename_i hc; rw [if_neg hc] at h
        rw [sum_eq]
        congr 1
        omega
    · rename_i he; rw [if_neg he] at h
      rw [sum_lt h]
theorem dp_gap (a b : O) : dp (gap a b) ≤ dp b := by
  rw [← of_ts (gap a b)]
  refine dp_of _ _ fun t ht => ?_
  obtain ⟨c, h⟩ := gap_exp ht
  exact dp_mem (t := (t.1, c)) h
theorem len_gap : ∀ a b : O, (ts (gap a b)).length ≤ (ts b).length
  | z, b => by cases b <;> exact Nat.le_refl _
  | add _ _ _, z => Nat.zero_le _
  | add e c r, add e' c' r' => by
    unfold gap
    split
    · split
      · have := len_gap r r'; show _ ≤ (ts r').length + 1; omega
      · exact Nat.le_refl _
    · exact Nat.le_refl _
/-- the exponent of the first term -/
def headE : O → O
  | z => z
  | add e _ _ => e
theorem dp_headE (a : O) : dp (headE a) ≤ dp a := by
  cases a with
  | z => exact Nat.le_refl _
  | add e c r => show dp e ≤ max (dp e + 2) (dp r); omega
theorem ok_headE {a : O} (h : ok a = true) : ok (headE a) = true := by
  cases a with
  | z => rfl
  | add e c r => exact (ok_add.mp h).1
theorem len_headE {a : O} : (ts (headE a)).length ≤ wd a := by
  cases a with
  | z => exact Nat.zero_le _
  | add e c r =>
    have := len_wd e
    show (ts e).length ≤ max (wd e) (max ((ts r).length + 1) (wd r)); omega
def maxO (a b : O) : O := if lt a b = true then b else a
theorem maxO_ge1 (a b : O) : lt (maxO a b) a = false := by
  unfold maxO; split
  · rename_i h; exact lt_asymm h
  · exact lt_irrefl _
theorem maxO_ge2 (a b : O) : lt (maxO a b) b = false := by
  unfold maxO; split
  · exact lt_irrefl _
  · rename_i h; exact Bool.eq_false_iff.mpr h
theorem maxO_or (a b : O) : maxO a b = a ∨ maxO a b = b := by unfold maxO; split <;> simp
theorem maxO_le {a b c : O} (h1 : lt c a = false) (h2 : lt c b = false) : lt c (maxO a b) = false := by
  rcases maxO_or a b with h | h <;> rw [h] <;> assumption
/-- the least ordinal above the ends of all from a on, before b -/
def endLim (a b : O) : O := maxO (sum (endO a) one) (if gap a b = pw (headE (gap a b)) then headE (gap a b) else sum (headE (gap a b)) one)
theorem succ_ne (a : O) : sum a one ≠ z := sum_add_ne _ _ _ _
theorem succ_le {a b : O} (ha : ok a = true) (hb : ok b = true) (h : lt a b = true) : lt b (sum a one) = false := lt_succ_iff a b ha hb h
theorem lt_of_succ {a b : O} (ha : ok a = true) (h : lt b (sum a one) = false) : lt a b = true := lt_ge (lt_succ ha) h
theorem pw_lt {e x : O} (h : lt e (headE x) = true) : lt (pw e) x = true := by
  cases x with
  | z => rw [show headE z = z from rfl, not_lt_nil] at h; cases h
  | add e2 c2 r2 => exact lt_head h
theorem lt_pw {e x : O} (hx : x ≠ z) (h : lt (headE x) e = true) : lt x (pw e) = true := by
  cases x with
  | z => exact absurd rfl hx
  | add e2 c2 r2 => exact lt_head h
theorem pw_head {x : O} (hx : ok x = true) (hz : x ≠ z) : lt x (pw (headE x)) = false := by
  cases x with
  | z => exact absurd rfl hz
  | add e c r =>
    have g := ok_add.mp hx
    show lt (add e c r) (add e 1 z) = false
    by_cases hc : c = 1
    · subst hc; rw [lt_rest]; exact not_lt_nil _
    · exact lt_asymm (lt_cnt (by omega))
section
variable {a b : O} (ha : ok a = true) (hb : ok b = true) (h : lt a b = true)
include ha hb h
theorem lim_gt : lt (endO a) (endLim a b) = true := lt_of_succ (ok_end ha) (maxO_ge1 _ _)
theorem lim_ne : endLim a b ≠ z := fun q => by
  have := lim_gt ha hb h
  rw [q, not_lt_nil] at this; cases this
/-- the raised one is not before b -/
theorem lim_raised : lt (raisedO a (endLim a b)) b = false := by
  unfold raisedO
  rw [if_pos (lim_gt ha hb h)]
  have hg := ok_gap ha hb h
  have e := sum_gap ha hb h
  have hF : ok (endLim a b) = true := by
    unfold endLim
    rcases maxO_or (sum (endO a) one) (if gap a b = pw (headE (gap a b)) then headE (gap a b) else sum (headE (gap a b)) one) with q | q <;> rw [q]
    · exact ok_sum _ _ (ok_end ha) ok_one
    · split
      · exact ok_headE hg
      · exact ok_sum _ _ (ok_headE hg) ok_one
  have key : lt (pw (endLim a b)) (gap a b) = false := by
    have h2 := maxO_ge2 (sum (endO a) one) (if gap a b = pw (headE (gap a b)) then headE (gap a b) else sum (headE (gap a b)) one)
    have h2 : lt (endLim a b) (if gap a b = pw (headE (gap a b)) then headE (gap a b) else sum (headE (gap a b)) one) = false := h2
    split at h2
    · rename_i hp
      rw [hp]
      have hh : headE (pw (headE (gap a b))) = headE (gap a b) := rfl
      by_cases q : endLim a b = headE (gap a b)
      · rw [q]; exact lt_irrefl _
      · exact lt_asymm (lt_head (lt_of_ge h2 q))
    · exact lt_asymm (lt_pw (gap_ne h) (lt_of_succ (ok_headE hg) h2))
  have m := sum_mono_iff ha (ok_pw hF) hg
  rw [e] at m
  rw [m]; exact key
/-- the least such -/
theorem lim_least {e : O} (he : ok e = true) (hz : e ≠ z) (hr : lt (raisedO a e) b = false) : lt e (endLim a b) = false := by
  have hg := ok_gap ha hb h
  have es := sum_gap ha hb h
  unfold raisedO at hr
  split at hr
  · rename_i h1
    have m := sum_mono_iff ha (ok_pw he) hg
    rw [es, hr] at m
    have m : lt (pw e) (gap a b) = false := m.symm
    refine maxO_le (succ_le (ok_end ha) he h1) ?_
    have h3 : lt e (headE (gap a b)) = false := by
      cases q : lt e (headE (gap a b)) with
      | false => rfl
      | true => rw [pw_lt q] at m; cases m
    split
    · exact h3
    · rename_i hp
      refine succ_le (ok_headE hg) he (lt_of_ge h3 fun q => hp ?_)
      subst q
      exact eq_of (pw_head hg (gap_ne h)) m
  · rw [h] at hr; cases hr
/-- it is among the exponents of b, their successors, and 1 -/
theorem lim_some : endLim a b = one ∨ (∃ c, (endLim a b, c) ∈ ts b) ∨ ∃ e c, (e, c) ∈ ts b ∧ endLim a b = sum e one := by
  have hg := ok_gap ha hb h
  have hne := gap_ne h
  obtain ⟨c0, h0⟩ : ∃ c, (headE (gap a b), c) ∈ ts b := by
    cases q : gap a b with
    | z => exact absurd q hne
    | add e c r => exact gap_exp (a := a) (t := (e, c)) (by rw [q]; exact List.mem_cons_self)
  rcases maxO_or (sum (endO a) one) (if gap a b = pw (headE (gap a b)) then headE (gap a b) else sum (headE (gap a b)) one) with q | q
  · have q : endLim a b = sum (endO a) one := q
    by_cases hz : a = z
    · subst hz; left; rw [q]; rfl
    · right
      by_cases h5 : lt (endO a) (headE (gap a b)) = true
      · -- then the successor of the end is at most the head
        have h6 := succ_le (ok_end ha) (ok_headE hg) h5
        have h7 := maxO_ge2 (sum (endO a) one) (if gap a b = pw (headE (gap a b)) then headE (gap a b) else sum (headE (gap a b)) one)
        have h7 : lt (endLim a b) (if gap a b = pw (headE (gap a b)) then headE (gap a b) else sum (headE (gap a b)) one) = false := h7
        rw [q] at h7
        split at h7
        · have := eq_of h6 h7
          left
          refine ⟨c0, ?_⟩
          rw [q, ← this]; exact h0
        · have := lt_of_succ (ok_headE hg) h7
          rw [h6] at this; cases this
      · right
        have h5 := Bool.eq_false_iff.mpr h5
        -- the end of a stays an exponent of b
        obtain ⟨c, hc⟩ : ∃ c, (endO a, c) ∈ ts b := by
          rw [← sum_gap ha hb h]
          cases q2 : gap a b with
          | z => exact absurd q2 hne
          | add e2 c2 r2 =>
            rw [q2] at h5
            obtain ⟨c1, m1⟩ := end_mem hz
            by_cases q3 : endO a = e2
            · clear q h5 hg hne h0 q2
              have : ∀ x : O, ∃ c, (e2, c) ∈ ts (sum x (add e2 c2 r2)) := fun x => by
                induction x with
                | z => exact ⟨c2, by rw [z_sum]; exact List.mem_cons_self⟩
                | add e c r _ ih =>
                  by_cases k : e = e2
                  · subst k; rw [sum_eq]; exact ⟨_, List.mem_cons_self⟩
                  · rcases lt_total e e2 k with k | k
                    · rw [sum_lt k]; exact ⟨_, List.mem_cons_self⟩
                    · rw [sum_gt k]
                      obtain ⟨c', h'⟩ := ih
                      exact ⟨c', List.mem_cons_of_mem _ h'⟩
              rw [q3]; exact this a
            · have k : lt e2 (endO a) = true := lt_of_ge h5 q3
              have : ∀ x : O, ok x = true → (endO a, c1) ∈ ts x → (endO a, c1) ∈ ts (sum x (add e2 c2 r2)) := fun x hx hm => by
                induction x with
                | z => cases hm
                | add e c r _ ih =>
                  have gx := ok_add.mp hx
                  have k2 : lt e2 e = true := by
                    rcases List.mem_cons.mp hm with k3 | k3
                    · cases k3; exact k
                    · exact lt_trans _ _ _ k (under_all gx.2.2.1 gx.2.2.2 _ k3)
                  rw [sum_gt k2]
                  rcases List.mem_cons.mp hm with k3 | k3
                  · rw [k3]; exact List.mem_cons_self
                  · exact List.mem_cons_of_mem _ (ih gx.2.2.1 k3)
              exact ⟨c1, this a ha m1⟩
        exact ⟨_, _, hc, q⟩
  · have q : endLim a b = (if gap a b = pw (headE (gap a b)) then headE (gap a b) else sum (headE (gap a b)) one) := q
    right
    split at q
    · left; exact ⟨c0, by rw [q]; exact h0⟩
    · right; exact ⟨_, _, h0, q⟩
/-- none from a on before b ends so -/
theorem lim_above {x : O} (hx : ok x = true) (h1 : lt x a = false) (h2 : lt x b = true) : lt (endO x) (endLim a b) = true := by
  cases q : lt (endO x) (endLim a b) with
  | true => rfl
  | false =>
    have h3 := raised_least ha hx (lim_gt ha hb h) h1 q
    have h4 := lim_raised ha hb h
    unfold raisedO at h4
    rw [if_pos (lim_gt ha hb h)] at h4
    rw [ge_trans h3 h4] at h2; cases h2
end
end O
end Vw

set_option Elab.async false
set_option linter.all false
set_option maxRecDepth 100000
namespace Vw
open PySem PySem.W PyProof.Rows L2
/-! ### max(a, b), min(list) of ordinals -/
theorem O.alikeAll (os : List O) : AlikeAll (os.map O.toD) :=
  ⟨fun x hx y hy => by
    obtain ⟨a, _, rfl⟩ := List.mem_map.mp hx
    obtain ⟨b, _, rfl⟩ := List.mem_map.mp hy
    exact O.alike_toD a b, fun x hx e => by
    obtain ⟨a, _, rfl⟩ := List.mem_map.mp hx
    cases e⟩
theorem O.depthAll {n : Nat} : ∀ {os : List O}, (∀ o ∈ os, O.dp o ≤ n) → PyData.depthAll (os.map O.toD) ≤ n + 1
  | [], _ => Nat.zero_le _
  | o :: r, h => by
    have h1 := h o List.mem_cons_self
    have h2 := O.depthAll (os := r) fun x hx => h x (List.mem_cons_of_mem _ hx)
    show max (O.toD o).depth (PyData.depthAll (r.map O.toD)) ≤ n + 1
    rw [O.depth_toD]
    omega
section
variable {prog : Program} {w : World} {A : Around} {E : Value → Shared → Prop} {s : Shared}
theorem max_two_data {u v : Value} {d e : PyData} {as bs : List Addr} {Q : Value → Shared → Prop} (hh : A.handled = none) (r1 : Reads s.heap u d as) (r2 : Reads s.heap v e bs) (ha : AlikeAll [d, e]) (hu : A.units + 1 + PyData.depthAll [d, e] < cLine)
    (h : ∀ h' tk, (∀ b o, s.heap.get? b = some o → h'.get? b = some o) → Q (if dataLt d e = true then v else u) { s with heap := h', toks := tk }) : wpAny (model prog w) A (call (.builtin "max") [u, v]) Q E s := by
  have hname : (toString "max" ++ toString ".loop" : String) = "max.loop" := by decide
  refine call_function_tree F.kind_max F.plain_max F.entry_max (F.args_max2 _ _) ?_
  show wpAny _ A.in1 (Builtin.Builtins.bindParams "max" ["key", "default"] 0 ⟨[], []⟩ >>= _) _ _ s
  refine wpAny_bind (wpAny_of_eq (show Builtin.Builtins.bindParams "max" ["key", "default"] 0 ⟨[], []⟩ = pure [none, none] from rfl) ?_)
  show wpAny _ A.in1 (newTuple [u, v] >>= _) _ _ s
  refine wpAny_bind (wpAny_newObj_type ?_)
  have hT : (s.heap.push { cls := .type "tuple", data := .seq #[u, v] }).IsTuple s.heap.objs.size #[u, v] := ⟨_, Heap.get?_push_size _ rfl, rfl, 0, rfl⟩
  have hold : ∀ b o, s.heap.get? b = some o → (s.heap.push { cls := .type "tuple", data := .seq #[u, v] }).get? b = some o := fun b o e => Heap.get?_push_of_some _ e
  have hr : ReadsAll (s.heap.push { cls := .type "tuple", data := .seq #[u, v] }) (#[u, v] : Array Value).toList [d, e] (as ++ (bs ++ [])) := .cons (reads_keeps hold r1) (.cons (reads_keeps hold r2) .nil)
  refine wpAny_bind (iter_tupleW (A := A.in1) (s := { s with heap := s.heap.push { cls := .type "tuple", data := .seq #[u, v] } }) hh hT fun s₂ es W st hfp hw hk => ?_)
  refine wpAny_bind (wpAny_newObj_type ?_)
  have hSf : s₂.heap.objs.size ∉ [(s.heap.push { cls := .type "tuple", data := .seq #[u, v] }).objs.size, s.heap.objs.size] := fun hm => Nat.lt_irrefl _ (hfp _ hm)
  have hcmp := cmpIn_gt (prog := prog) (w := w) (A := A.in1) (s := { s with heap := s.heap.push { cls := .type "tuple", data := .seq #[u, v] } }) (vs := #[u, v]) hr ha (by show A.units + 1 + _ < _; exact hu)
  rw [hname]
  refine wpAny_pure ⟨plainId_quiet F.plain_max_loop _, codeAny_max_loop_firstH W (s.heap.push { cls := .type "tuple", data := .seq #[u, v] }) hw _ hcmp s₂.heap.objs.size hSf (fresh_in hk) _ (show 0 < 2 by decide) (fun b o e => Heap.get?_push_of_some _ (hk b o e)) (W.frame 0 s₂ _ s₂.toks st (Nat.le_refl _) fun b _ o e => Heap.get?_push_of_some _ e) (Heap.get?_push_size _ rfl) fun x s' hP hm => ?_⟩
  have hm := Moved.drop_new (tk := s₂.toks) hm (Nat.le_refl _)
  obtain ⟨h', tk, rfl, hk'⟩ := moved_old es rfl hm
  have q := h h' tk fun b o e => hk' b o (hold b o e)
  have hv : x = if dataLt d e = true then v else u := by
    have hP' : (#[u, v] : Array Value)[argBest (fun i j => dataLt ([d, e].getD j .none) ([d, e].getD i .none)) 1]? = some x := hP
    have hb : argBest (fun i j => dataLt ([d, e].getD j .none) ([d, e].getD i .none)) 1 = if dataLt d e = true then 1 else 0 := rfl
    rw [hb] at hP'
    by_cases g : dataLt d e = true
    · rw [if_pos g] at hP' ⊢; exact (Option.some.inj hP').symm
    · rw [if_neg g] at hP' ⊢; exact (Option.some.inj hP').symm
  rw [hv]; exact q
theorem min_list_at {l : Addr} {vs : Array Value} {x : PyData} {xs : List PyData} {as : List Addr} {Q : Value → Shared → Prop} (hh : A.handled = none) (hl : s.heap.IsList l vs) (hr : ReadsAll s.heap vs.toList (x :: xs) as) (ha : AlikeAll (x :: xs)) (hu : A.units + 1 + PyData.depthAll (x :: xs) < cLine)
    (h : ∀ (i : Nat) v h' tk, vs[i]? = some v → (x :: xs).getD i .none = minD x xs → (∀ b o, s.heap.get? b = some o → h'.get? b = some o) → Q v { s with heap := h', toks := tk }) :
    wpAny (model prog w) A (call (.builtin "min") [.ref l]) Q E s := by
  have hn : vs.size = xs.length + 1 := readsAll_len hr
  refine call_min_walkH (iter_listW (A := A.in1) hh hl fun s₂ e W st hfp hw hk => ?_)
  refine ⟨_, _, _, _, _, _, _, s.heap, _, rfl, W, st, hfp, by omega, hw, hk, cmpIn_lt (A := A.in1) hr ha (by show A.units + 1 + _ < _; exact hu), fun v s' hP m => ?_⟩
  obtain ⟨h', tk, rfl, hk'⟩ := moved_old e rfl m
  have e1 : vs.size - 1 = xs.length := by omega
  have e2 := (argBest_fold dataLt PyData.none x xs xs.length (Nat.le_refl _)).2
  rw [List.take_length] at e2
  refine h _ v h' tk hP ?_ hk'
  rw [e1]
  exact e2
end
def minO (x : O) (xs : List O) : O := xs.foldl (fun a y => if O.lt y a = true then y else a) x
theorem minD_toD (x : O) : ∀ xs : List O, minD (O.toD x) (xs.map O.toD) = O.toD (minO x xs) := fun xs => by
  unfold minD minO
  induction xs generalizing x with
  | nil => rfl
  | cons y ys ih =>
    rw [List.map_cons, List.foldl_cons, List.foldl_cons, O.lt_toD, ← ih]
    congr 1
    split <;> rfl
theorem minO_le : ∀ (xs : List O) (x : O), O.lt x (minO x xs) = false ∧ ∀ y ∈ xs, O.lt y (minO x xs) = false
  | [], x => ⟨O.lt_irrefl _, fun y h => by cases h⟩
  | y :: ys, x => by
    have ih := minO_le ys (if O.lt y x = true then y else x)
    have e : minO x (y :: ys) = minO (if O.lt y x = true then y else x) ys := rfl
    rw [e]
    by_cases g : O.lt y x = true
    · rw [if_pos g] at ih ⊢
      refine ⟨O.ge_trans (O.lt_asymm g) ih.1, fun z hz => ?_⟩
      rcases List.mem_cons.mp hz with h | h
      · subst h; exact ih.1
      · exact ih.2 z h
    · rw [if_neg g] at ih ⊢
      refine ⟨ih.1, fun z hz => ?_⟩
      rcases List.mem_cons.mp hz with h | h
      · subst h; exact O.ge_trans (Bool.eq_false_iff.mpr g) ih.1
      · exact ih.2 z h
theorem vals_at : ∀ {xs : List V} {us : List Value} {i : Nat} {u : Value}, Vals xs us → us[i]? = some u → ∃ x, xs[i]? = some x ∧ RelV x u
  | _, _, _, _, .nil, h => by simp at h
  | _, _, 0, _, .cons a t, h => by
    simp at h; subst h
    exact ⟨_, rfl, a⟩
  | _, _, i + 1, _, .cons a t, h => by
    obtain ⟨x, h1, h2⟩ := vals_at (i := i) t (by simpa using h)
    exact ⟨x, by simpa using h1, h2⟩
theorem dpAll_of {K : PySem.W.Frag} {H : Hp} : ∀ {xs : List V} {os : List O}, Paired (OA K H) xs os → DpAll K H xs (os.map O.toD)
  | _, _, .nil => .nil
  | _, _, .cons a t => .cons a.dp (dpAll_of t)
@[irreducible] def rMaxO (K : PySem.W.Frag) : List V → Hp → VK → Prop := fun vs H Q => ∃ (x y : V) (a b : O), vs = [x, y] ∧ OA K H x a ∧ OA K H y b ∧ O.dp a ≤ 60 ∧ O.dp b ≤ 60 ∧ Q (if O.lt a b = true then y else x) H
@[irreducible] def rMinO (K : PySem.W.Frag) : List V → Hp → VK → Prop := fun vs H Q => ∃ (l : Addr) (xs : List V) (os : List O), vs = [.ref l] ∧ SqL K H l xs ∧ Paired (OA K H) xs os ∧ os ≠ [] ∧ (∀ o ∈ os, O.dp o ≤ 60) ∧ ∀ (v : V) (m : O), m ∈ os → OA K H v m → (∀ o ∈ os, O.lt o m = false) → Q v H
section
variable {X : Cx}
theorem cr_maxO (hc : X.calm = true) (hu : X.A.units + 64 < cLine) : CallR X (.builtin "max") (rMaxO X.K) := by
  intro pins s σ H vs us Q I r h
  unfold rMaxO at h
  obtain ⟨x, y, a, b, rfl, hx, hy, da, db, q⟩ := h
  obtain ⟨u, v, rfl, rx, ry⟩ := vals2 r
  obtain ⟨as, r1⟩ := Dp.reads I _ x u hx.dp rx
  obtain ⟨bs, r2⟩ := Dp.reads I _ y v hy.dp ry
  have hd := O.depthAll (n := 60) (os := [a, b]) fun o ho => by
    simp only [List.mem_cons, List.not_mem_nil, or_false] at ho
    rcases ho with h | h <;> subst h <;> assumption
  have hd : PyData.depthAll [O.toD a, O.toD b] ≤ 61 := hd
  refine max_two_data (I.ok.hd hc) r1 r2 (O.alikeAll [a, b]) (by omega) fun h' tk hk => ⟨_, H, I.kept hk, ?_, q⟩
  rw [O.lt_toD]
  split <;> assumption
theorem cr_minO (hc : X.calm = true) (hu : X.A.units + 64 < cLine) : CallR X (.builtin "min") (rMinO X.K) := by
  intro pins s σ H vs us Q I r h
  unfold rMinO at h
  obtain ⟨l, xs, os, rfl, hs, hp, hne, hd, q⟩ := h
  obtain rfl := Vals.ref1 r
  obtain ⟨its, rv, hl, hz⟩ := I.list hs
  obtain ⟨as, ra⟩ := Dp.readsAll I _ _ _ (dpAll_of hp) rv
  have hdd := O.depthAll hd
  cases os with
  | nil => exact absurd rfl hne
  | cons o os =>
    refine min_list_at (I.ok.hd hc) hl.isList ra (O.alikeAll (o :: os)) (by show X.A.units + 1 + PyData.depthAll ((o :: os).map O.toD) < cLine; omega) fun i v h' tk hv hm hk => ?_
    rw [minD_toD] at hm
    have hv : its[i]? = some v := by simpa using hv
    obtain ⟨y, hy, ry⟩ := vals_at rv hv
    obtain ⟨m, hm2, om⟩ := paired_get hp hy
    have e : ((o :: os).map O.toD).getD i .none = O.toD m := by
      rw [List.getD_eq_getElem?_getD, List.getElem?_map, hm2]; rfl
    have e : O.toD o :: os.map O.toD = (o :: os).map O.toD := rfl
    rw [e, List.getD_eq_getElem?_getD, List.getElem?_map, hm2] at hm
    have hm : m = minO o os := O.toD_inj hm
    have hle := minO_le os o
    refine ⟨y, H, I.kept hk, ry, q y m (List.mem_of_getElem? hm2) om fun z hz => ?_⟩
    rw [hm]
    rcases List.mem_cons.mp hz with h | h
    · subst h; exact hle.1
    · exact hle.2 z h
end
section
variable {K : PySem.W.Frag} {H : Hp} {Q : VK}
theorem rd_max {x y : V} {a b : O} (hx : OA K H x a) (hy : OA K H y b) (da : O.dp a ≤ 60) (db : O.dp b ≤ 60) (q : ∀ v, OA K H v (O.maxO a b) → Q v H) : rMaxO K [x, y] H Q := by
  unfold rMaxO
  refine ⟨x, y, a, b, rfl, hx, hy, da, db, q _ ?_⟩
  unfold O.maxO
  split <;> assumption
theorem rd_min {l : Addr} {xs : List V} {os : List O} (hs : SqL K H l xs) (hp : Paired (OA K H) xs os) (hd : ∀ o ∈ os, O.dp o ≤ 60) (hn : os ≠ []) (q : ∀ v m, m ∈ os → OA K H v m → (∀ o ∈ os, O.lt o m = false) → Q v H) : rMinO K [.ref l] H Q := by
  unfold rMinO
  exact ⟨l, xs, os, rfl, hs, hp, hn, hd, q⟩
end
end Vw

set_option Elab.async false
set_option linter.all false
set_option maxRecDepth 100000
namespace Vw
open PySem PySem.W PyProof.Rows L2
namespace O
theorem drop_cons {a : O} {i : Nat} {t : O × Int} (h : (ts a)[i]? = some t) : of ((ts a).drop i) = add t.1 t.2 (of ((ts a).drop (i + 1))) := by
  obtain ⟨hi, e⟩ := List.getElem?_eq_some_iff.mp h
  rw [List.drop_eq_getElem_cons hi, e]
  rfl
theorem drop_nil {a : O} {i : Nat} (h : (ts a)[i]? = none) : of ((ts a).drop i) = z := by
  rw [List.drop_eq_nil_iff.mpr (List.getElem?_eq_none_iff.mp h)]
  rfl
/-- what the walk over equal terms keeps -/
def GapAt (a b : O) (i : Nat) : Prop := gap a b = gap (of ((ts a).drop i)) (of ((ts b).drop i)) ∧ lt (of ((ts a).drop i)) (of ((ts b).drop i)) = true
theorem GapAt.zero {a b : O} (h : lt a b = true) : GapAt a b 0 := by
  unfold GapAt
  rw [List.drop_zero, List.drop_zero, of_ts, of_ts]
  exact ⟨rfl, h⟩
theorem GapAt.other {a b : O} {i : Nat} {t : O × Int} (g : GapAt a b i) (h : (ts a)[i]? = some t) : ∃ t', (ts b)[i]? = some t' := by
  cases q : (ts b)[i]? with
  | some t' => exact ⟨t', rfl⟩
  | none =>
    have := g.2
    rw [drop_nil q, not_lt_nil] at this
    cases this
theorem GapAt.next {a b : O} {i : Nat} {t : O × Int} (g : GapAt a b i) (h : (ts a)[i]? = some t) (h2 : (ts b)[i]? = some t) : GapAt a b (i + 1) := by
  obtain ⟨g1, g2⟩ := g
  rw [drop_cons h, drop_cons h2] at g1 g2
  rw [lt_rest] at g2
  refine ⟨g1.trans ?_, g2⟩
  show (if t.1 = t.1 then (if t.2 = t.2 then _ else _) else _) = _
  rw [if_pos rfl, if_pos rfl]
theorem GapAt.short {a b : O} {i : Nat} (g : GapAt a b i) (h : (ts a)[i]? = none) : gap a b = of ((ts b).drop i) := by
  obtain ⟨g1, _⟩ := g
  rw [g1, drop_nil h]
  cases of ((ts b).drop i) <;> rfl
theorem GapAt.count {a b : O} {i : Nat} {t t' : O × Int} (g : GapAt a b i) (h : (ts a)[i]? = some t) (h2 : (ts b)[i]? = some t') (n : t ≠ t') (e : t.1 = t'.1) : gap a b = of ((t'.1, t'.2 - t.2) :: (ts b).drop (i + 1)) := by
  obtain ⟨g1, _⟩ := g
  rw [g1, drop_cons h, drop_cons h2]
  show (if t.1 = t'.1 then (if t.2 = t'.2 then _ else _) else _) = _
  rw [if_pos e, if_neg fun e2 => n (Prod.ext e e2)]
  rfl
theorem GapAt.exp {a b : O} {i : Nat} {t t' : O × Int} (g : GapAt a b i) (h : (ts a)[i]? = some t) (h2 : (ts b)[i]? = some t') (e : t.1 ≠ t'.1) : gap a b = of ((ts b).drop i) := by
  obtain ⟨g1, _⟩ := g
  rw [g1, drop_cons h, drop_cons h2]
  show (if t.1 = t'.1 then (if t.2 = t'.2 then _ else _) else _) = _
  rw [if_neg e]
theorem sum_exp : ∀ {a b : O} {t : O × Int}, t ∈ ts (sum a b) → (∃ c, (t.1, c) ∈ ts a) ∨ ∃ c, (t.1, c) ∈ ts b
  | a, z, t, h => by rw [sum_z] at h; exact .inl ⟨t.2, h⟩
  | z, b, t, h => by rw [z_sum] at h; exact .inr ⟨t.2, h⟩
  | add e c r, add e' c' r', t, h => by
    by_cases q : e = e'
    · subst q
      rw [sum_eq] at h
      rcases List.mem_cons.mp h with k | k
      · subst k; exact .inl ⟨c, List.mem_cons_self⟩
      · exact .inr ⟨t.2, List.mem_cons_of_mem _ k⟩
    · rcases lt_total e e' q with k | k
      · rw [sum_lt k] at h; exact .inr ⟨t.2, h⟩
      · rw [sum_gt k] at h
        rcases List.mem_cons.mp h with k2 | k2
        · subst k2; exact .inl ⟨c, List.mem_cons_self⟩
        · rcases sum_exp k2 with ⟨c2, h2⟩ | h2
          · exact .inl ⟨c2, List.mem_cons_of_mem _ h2⟩
          · exact .inr h2
theorem wd_sum (a b : O) : wd (sum a b) ≤ wd a + wd b := by
  rw [← of_ts (sum a b)]
  refine wd_of _ _ ?_ fun t ht => ?_
  · have := len_sum a b
    have := len_wd a
    have := len_wd b
    omega
  · rcases sum_exp ht with ⟨c, h⟩ | ⟨c, h⟩
    · have : wd t.1 ≤ wd a := wd_mem (t := (t.1, c)) h
      omega
    · have : wd t.1 ≤ wd b := wd_mem (t := (t.1, c)) h
      omega
theorem wd_pw (e : O) : wd (pw e) ≤ wd e + 1 := by
  show max (wd e) (max (0 + 1) 0) ≤ _
  omega
theorem wd_raised (a e : O) : wd (raisedO a e) ≤ wd a + wd e + 1 := by
  unfold raisedO
  split
  · have := wd_sum a (pw e)
    have := wd_pw e
    omega
  · omega
theorem wd_take (a : O) (k : Nat) : wd (of ((ts a).take k)) ≤ wd a := by
  refine wd_of _ _ ?_ fun t ht => wd_mem (List.mem_of_mem_take ht)
  have := len_wd a
  rw [List.length_take]; omega
theorem wd_end (a : O) : wd (endO a) ≤ wd a := by
  by_cases q : a = z
  · subst q; exact Nat.le_refl _
  · obtain ⟨c, hc⟩ := end_mem q
    exact wd_mem hc
theorem dp_max (a b : O) : dp (maxO a b) ≤ max (dp a) (dp b) := by
  rcases maxO_or a b with h | h <;> rw [h] <;> omega
theorem wd_max (a b : O) : wd (maxO a b) ≤ max (wd a) (wd b) := by
  rcases maxO_or a b with h | h <;> rw [h] <;> omega
theorem wd_headE (a : O) : wd (headE a) ≤ wd a := by
  cases a with
  | z => exact Nat.le_refl _
  | add e c r => show wd e ≤ max (wd e) _; omega
theorem wd_gap (a b : O) : wd (gap a b) ≤ wd b := by
  rw [← of_ts (gap a b)]
  refine wd_of _ _ ?_ fun t ht => ?_
  · have := len_gap a b
    have := len_wd b
    omega
  · obtain ⟨c, h⟩ := gap_exp ht
    exact wd_mem (t := (t.1, c)) h
theorem dp_lim (a b : O) : dp (endLim a b) ≤ max (max (dp a) (dp b)) 2 := by
  unfold endLim
  have h1 := dp_max (sum (endO a) one) (if gap a b = pw (headE (gap a b)) then headE (gap a b) else sum (headE (gap a b)) one)
  have h2 := dp_sum (endO a) one
  have h3 := dp_end a
  have h4 : dp one = 2 := by decide
  have h5 := dp_headE (gap a b)
  have h6 := dp_gap a b
  have h7 := dp_sum (headE (gap a b)) one
  by_cases hp : gap a b = pw (headE (gap a b))
  · rw [if_pos hp] at h1 ⊢; omega
  · rw [if_neg hp] at h1 ⊢; omega
theorem wd_lim (a b : O) : wd (endLim a b) ≤ wd a + wd b + 1 := by
  unfold endLim
  have h1 := wd_max (sum (endO a) one) (if gap a b = pw (headE (gap a b)) then headE (gap a b) else sum (headE (gap a b)) one)
  have h2 := wd_sum (endO a) one
  have h3 := wd_end a
  have h4 : wd one = 1 := by decide
  have h5 := wd_headE (gap a b)
  have h6 := wd_gap a b
  have h7 := wd_sum (headE (gap a b)) one
  by_cases hp : gap a b = pw (headE (gap a b))
  · rw [if_pos hp] at h1 ⊢; omega
  · rw [if_neg hp] at h1 ⊢; omega
end O
theorem eqv_tD (s t : O × Int) : PyData.eqv (O.tD s) (O.tD t) = decide (s = t) := by
  obtain ⟨a, c⟩ := s
  obtain ⟨b, d⟩ := t
  unfold O.tD
  simp only [PyData.eqv, PyData.eqvAll, O.eqv_toD, Bool.and_true, Prod.mk.injEq, Bool.decide_and]
  rfl
theorem shaped_tD {t : O × Int} (h : O.dp t.1 ≤ 50) : SeqAt.shaped (O.tD t) = true := by
  have h1 := O.lay_toD t.1
  have h2 := O.depth_toD t.1
  unfold SeqAt.shaped O.tD
  simp only [PyData.canLay0, PyData.canLayAll0, PyData.depth, PyData.depthAll, h1, h2, Bool.and_true, Bool.true_and, decide_eq_true_eq]
  omega
theorem rd_eqT {K : PySem.W.Frag} {H : Hp} {x y : V} {s t : O × Int} {Q : VK} (ha : TmA K H x s) (hb : TmA K H y t) (h : O.dp s.1 ≤ 50) (h2 : O.dp t.1 ≤ 50) (q : Q (.bl (decide (s = t))) H) : rEqO K x y H Q := by
  unfold rEqO
  exact ⟨_, _, ha.dp, hb.dp, shaped_tD h, shaped_tD h2, by rw [eqv_tD]; exact q⟩
/-- a function of one ordinal and a greater one -/
def spLim (K : PySem.W.Frag) (g : O → O → O) : Sp := fun vs H Q _ => ∃ (x y : V) (a b : O), vs = [x, y] ∧ OA K H x a ∧ OA K H y b ∧ O.ok a = true ∧ O.ok b = true ∧ O.lt a b = true ∧ O.dp a ≤ 40 ∧ O.dp b ≤ 40 ∧ O.wd a ≤ 400 ∧ O.wd b ≤ 400 ∧ ∀ (v : V) (H' : Hp), Same H H' → OA K H' v (g a b) → Q v H'
end Vw

set_option Elab.async false
set_option linter.all false
set_option maxRecDepth 100000
namespace Vw
open PySem PySem.W PyProof.Rows L2
/-! ### rows -/
def RowA (K : PySem.W.Frag) (H : Hp) (v : V) (os : List O) : Prop := ∃ a xs, v = .ref a ∧ TT K H a xs ∧ Paired (OA K H) xs os
def rowD (os : List O) : PyData := .tuple (os.map O.toD)
theorem eqvAll_toD : ∀ os ps : List O, PyData.eqvAll (os.map O.toD) (ps.map O.toD) = decide (os = ps)
  | [], [] => by simp [PyData.eqvAll]
  | [], p :: ps => by simp [PyData.eqvAll]
  | o :: os, [] => by simp [PyData.eqvAll]
  | o :: os, p :: ps => by
    simp only [List.map_cons, PyData.eqvAll, eqvAll_toD os ps, O.eqv_toD, List.cons.injEq, Bool.decide_and]
theorem eqv_rowD (os ps : List O) : PyData.eqv (rowD os) (rowD ps) = decide (os = ps) := by
  unfold rowD
  simp only [PyData.eqv, eqvAll_toD]
theorem lay_all : ∀ os : List O, PyData.canLayAll0 (os.map O.toD) = true
  | [] => rfl
  | o :: os => by simp only [List.map_cons, PyData.canLayAll0, O.lay_toD, lay_all os, Bool.and_self]
theorem shaped_rowD {os : List O} (h : ∀ o ∈ os, O.dp o ≤ 50) : SeqAt.shaped (rowD os) = true := by
  have h1 := lay_all os
  have h2 := O.depthAll h
  unfold SeqAt.shaped rowD
  rw [Bool.and_eq_true, decide_eq_true_eq]
  refine ⟨by simp only [PyData.canLay0, h1], ?_⟩
  have : (PyData.tuple (os.map O.toD)).depth = PyData.depthAll (os.map O.toD) + 1 := by simp only [PyData.depth]
  omega
/-- what the ordinals of a drawn row are -/
def Good (os : List O) : Prop := ∀ o ∈ os, O.ok o = true ∧ O.dp o ≤ 14 ∧ O.wd o ≤ 12
theorem Good.dp {os : List O} (h : Good os) : ∀ o ∈ os, O.dp o ≤ 50 := fun o ho => by have := (h o ho).2.1; omega
theorem Good.take {os : List O} (h : Good os) (k : Nat) : Good (os.take k) := fun o ho => h o (List.mem_of_mem_take ho)
theorem Good.app {os ps : List O} (h : Good os) (h2 : Good ps) : Good (os ++ ps) := fun o ho => (List.mem_append.mp ho).elim (h o) (h2 o)
section
variable {K : PySem.W.Frag} {H H' : Hp} {v x y : V} {os ps : List O} {Q : VK}
theorem RowA.tp (t : Tp H H') (h : RowA K H v os) : RowA K H' v os := by
  obtain ⟨a, xs, rfl, h1, h2⟩ := h
  exact ⟨a, xs, rfl, h1.tp t, paired_tp t h2⟩
theorem RowA.same (h : RowA K H v os) (s : Same H H') : RowA K H' v os := h.tp (same_tp s)
theorem RowA.dp (h : RowA K H v os) : Dp K H v (rowD os) := by
  obtain ⟨a, xs, rfl, h1, h2⟩ := h
  exact .tup h1.sq (dpAll_of h2)
theorem RowA.of {a : Addr} {xs : List V} (h : TT K H a xs) (p : Paired (OA K H) xs os) : RowA K H (.ref a) os := ⟨a, xs, rfl, h, p⟩
theorem rd_eqRow (hx : RowA K H x os) (hy : RowA K H y ps) (g : Good os) (g2 : Good ps) (q : Q (.bl (decide (os = ps))) H) : rEqO K x y H Q := by
  unfold rEqO
  exact ⟨_, _, hx.dp, hy.dp, shaped_rowD g.dp, shaped_rowD g2.dp, by rw [eqv_rowD]; exact q⟩
theorem rd_eqNilO {p p2 : Addr} {xs : List V} (h1 : SqL K H p xs) (h2 : Paired (OA K H) xs os) (h3 : SqL K H p2 []) (g : Good os) (q : Q (.bl os.isEmpty) H) : rEqO K (.ref p) (.ref p2) H Q := by
  unfold rEqO
  refine ⟨_, _, .lst h1 (dpAll_of h2), .lst h3 .nil, ?_, shaped_nil, ?_⟩
  · have e1 := lay_all os
    have e2 := O.depthAll g.dp
    unfold SeqAt.shaped
    rw [Bool.and_eq_true, decide_eq_true_eq]
    refine ⟨by simp only [PyData.canLay0, e1], ?_⟩
    have : (PyData.list (os.map O.toD)).depth = PyData.depthAll (os.map O.toD) + 1 := by simp only [PyData.depth]
    omega
  · rw [eqv_nil]
    cases os <;> exact q
end
/-- what is_below says -/
def below (k : Nat) (os ps : List O) : Bool := decide (os.take k = ps.take k) && O.lt (ps.getD k .z) (os.getD k .z)
theorem below_trans {k : Nat} {os ps qs : List O} (h1 : below k os ps = true) (h2 : below k ps qs = true) : below k os qs = true := by
  unfold below at *
  rw [Bool.and_eq_true, decide_eq_true_eq] at *
  exact ⟨h1.1.trans h2.1, O.lt_trans _ _ _ h2.2 h1.2⟩
theorem below_low {k j : Nat} {os ps qs : List O} (h1 : below k os ps = true) (hj : j < k) : below j os qs = below j ps qs := by
  unfold below at *
  rw [Bool.and_eq_true, decide_eq_true_eq] at h1
  have e1 : os.take j = ps.take j := by
    have := congrArg (List.take j) h1.1
    rw [List.take_take, List.take_take, Nat.min_eq_left (by omega)] at this
    exact this
  have e2 : os.getD j .z = ps.getD j .z := by
    have := congrArg (fun l => l[j]?) h1.1
    simp only [List.getElem?_take, if_pos hj] at this
    rw [List.getD_eq_getElem?_getD, List.getD_eq_getElem?_getD, this]
  rw [e1, e2]
@[irreducible] def spBelow (K : PySem.W.Frag) : Sp := fun vs H Q _ => ∃ (x y : V) (os ps : List O) (k m : Nat), vs = [.int (k : Nat), x, y] ∧ RowA K H x os ∧ RowA K H y ps ∧ Good os ∧ Good ps ∧ os.length = m ∧ ps.length = m ∧ k < m ∧ ∀ H', Same H H' → Q (.bl (below k os ps)) H'
/-- each ordinal but the first is at most the end of the one before -/
def Steps (os : List O) : Prop := ∀ i o p, os[i]? = some o → os[i + 1]? = some p → O.lt (endO o) p = false
theorem steps_nil : Steps [] := fun i o p h => by cases h
theorem steps_one (o : O) : Steps [o] := fun i o p h h2 => by
  cases i <;> cases h2
theorem steps_cons {o p : O} {os : List O} (h : O.lt (endO o) p = false) (hs : Steps (p :: os)) : Steps (o :: p :: os) := fun i a b h1 h2 => by
  cases i with
  | zero =>
    cases h1
    cases h2
    exact h
  | succ i => exact hs i a b h1 h2
/-- a row of m ordinals is drawn -/
def spRow (K : PySem.W.Frag) : Sp := fun vs H Q _ => ∃ (l b : Addr) (m : Nat), vs = [.ref b, .int (m : Nat)] ∧ m ≤ 3 ∧ Bag l H b ∧ ∀ (v : V) (os : List O) (H' : Hp), RowA K H' v os → os.length = m → Good os → Steps os → Kp b H H' → Bag l H' b → Q v H'
/-- some answer: yes or no -/
def spSome (K : PySem.W.Frag) : Sp := fun vs H Q _ => ∃ (x : V) (os : List O) (m : Nat), vs = [.int (m : Nat), x] ∧ RowA K H x os ∧ Good os ∧ os.length = m ∧ m ≤ 3 ∧ ∀ (r : Bool) (H' : Hp), Same H H' → Q (.bl r) H'
end Vw

set_option Elab.async false
set_option linter.all false
set_option maxRecDepth 100000
set_option maxHeartbeats 4000000
namespace Vw
open PySem PySem.Spec PySem.W PyProof.Rows L2
/-! ### tuple * int, once or oftener -/
theorem tuple_mulW1 (l : Addr) (items : Array Value) (n : Nat) (dd : Option Addr) (sl : Array (Option Value)) (u : Tok) :
    Meets (Builtin.«tuple.__mul__» ⟨[.ref l, .int 1 u], []⟩) (fun _ R s => s.heap.get? l = some { cls := .type "tuple", dict := dd, data := .seq items n, slots := sl } ∧ R (.ok (.ret (Value.ref l))) s) :=
  .of_wp fun prog w A R s h => by
    obtain ⟨hp, g, d, tk, os⟩ := s
    obtain ⟨hl, h⟩ := h
    have f1 := AutoSeq1.idx_int
    have c0 : (decide ((1 : Int) < -(2 ^ 63)) || decide ((1 : Int) ≥ 2 ^ 63)) = false := by decide
    have c1 : (items.isEmpty || (1 : Int) == 1) = true := by simp
    wp_walk using wpAny_loadPart' hl
    repeat (first
      | (refine wpAny_ite_false (decide_eq_false (by rw [c0]; exact Bool.false_ne_true)) ?_; wp_walk using wpAny_loadPart' hl)
      | (refine wpAny_ite_true (decide_eq_true (by rw [c1])) ?_; wp_walk using wpAny_loadPart' hl))
    exact ⟨_, rfl, h⟩
@[irreducible] def rRepO (K : PySem.W.Frag) : R2 := fun x y H Q => ∃ l k xs, x = .ref l ∧ y = .int k ∧ TT K H l xs ∧ xs ≠ [] ∧ 1 ≤ k ∧ k ≤ 1000 ∧ xs.length ≤ 1000 ∧ ∀ p H', Same H H' → TT K H' p (List.replicate k.toNat xs).flatten → Q (.ref p) H'
theorem op_repO {X : Cx} : OpR X (binaryOp .Mult) (rRepO X.K) := by
  intro pins s σ H x y v u Q I rx ry h
  unfold rRepO at h
  obtain ⟨l, k, xs, rfl, rfl, hT, hne, h1, h2, hz, q⟩ := h
  by_cases h3 : k = 1
  · subst h3
    cases rx
    obtain ⟨t, rfl⟩ := ry
    obtain ⟨its, r, ⟨⟨cls, dd, data, sl⟩, ho, hc, n, hd⟩, hs⟩ := I.tuple hT.sq
    simp only at hc hd
    subst hc hd
    refine wpAny_binaryOp_repeat_ref (T := "tuple") (U := "int") (by decide) ⟨_, ho, rfl⟩ (fun s' => typeIs_int s' 1 t) noFill_tuple_mul F.fills_int_mul F.slot_int_rmul repeat_tuple F.slot_int_index.lookup
      (call_meets F.slot_int_rmul (typeIs_int s 1 t) F.entry_int_rmul (F.args_int_rmul_2 _ _) (int_rmul_tuple 1 t l its.toArray n dd sl)
        ⟨ho, rfl, ⟨_, ho, rfl⟩, call_meets F.slot_tuple_mul ⟨_, ho, rfl⟩ F.entry_tuple_mul (F.args_tuple_mul_2 _ _) (tuple_mulW1 l its.toArray n dd sl t) ⟨ho, ?_⟩⟩)
    have e : (List.replicate (1 : Int).toNat xs).flatten = xs := by simp
    rw [e] at q
    exact ⟨.ref l, H, I, rfl, q l H (Same.refl H) hT⟩
  · exact op_repT pins s σ H _ _ v u Q I rx ry ⟨l, k, xs, rfl, rfl, hT.sq, hne, by omega, h2, hz, fun p np => q p _ (same_new np) (.of upd_same)⟩
theorem rd_rep {K : PySem.W.Frag} {H : Hp} {Q : VK} {l : Addr} {x : V} {k : Int} (h : TT K H l [x]) (h1 : 1 ≤ k) (h2 : k ≤ 1000) (q : ∀ p H', Same H H' → TT K H' p (List.replicate k.toNat x) → Q (.ref p) H') : rRepO K (.ref l) (.int k) H Q := by
  unfold rRepO
  refine ⟨l, k, [x], rfl, rfl, h, by simp, h1, h2, (show 1 ≤ 1000 by decide), fun p H' s t => q p H' s ?_⟩
  have : (List.replicate k.toNat [x]).flatten = List.replicate k.toNat x := by simp
  rw [this] at t
  exact t
end Vw
namespace Vw
open PySem PySem.Spec PySem.W PyProof.Rows L2
def turnG {α : Type} : List α → List α → List α
  | [], [o, r, l] => [l, r, o]
  | _, _ => []
theorem turn_rel {vs : List V} {us : List Value} {zs : List V} {ws : List Value} (h1 : Vals vs us) (h2 : Vals zs ws) : Vals (turnG vs zs) (turnG us ws) := by
  cases h1 with
  | cons a t => exact .nil
  | nil =>
    cases h2 with
    | nil => exact .nil
    | cons a t => cases t with
      | nil => exact .nil
      | cons b t => cases t with
        | nil => exact .nil
        | cons c t => cases t with
          | nil => exact .cons c (.cons b (.cons a .nil))
          | cons d t => exact .nil
end Vw

set_option Elab.async false
set_option linter.all false
set_option maxRecDepth 100000
set_option maxHeartbeats 4000000
namespace Vw
open PySem PySem.Spec PySem.W PyProof.Rows L2
/-! ### tuple[::-1] -/
theorem adjust_rev (n : Nat) : Builtin.Slice.sliceAdjust none none (-1) (n : Int) = ((n : Int) - 1, -1) := by
  unfold Builtin.Slice.sliceAdjust
  simp
theorem places_rev (n : Nat) : Builtin.Slice.slicePlaces ((n : Int) - 1) (-1) (-1) = n := by
  unfold Builtin.Slice.slicePlaces
  have h1 : ¬ ((-1 : Int) > 0) := by omega
  simp only [h1, if_false]
  split <;> (try simp) <;> omega
theorem pick_rev (xs : List Value) : ((List.range xs.length).filterMap fun (m : Nat) => xs.toArray[(((xs.length : Nat) : Int) - 1 + (m : Int) * (-1)).toNat]?) = xs.reverse := by
  have e : ∀ k, k ≤ xs.length → ((List.range k).filterMap fun (m : Nat) => xs.toArray[(((xs.length : Nat) : Int) - 1 + (m : Int) * (-1)).toNat]?) = xs.reverse.take k := by
    intro k
    induction k with
    | zero => intro _; rfl
    | succ k ih =>
      intro hk
      rw [List.range_succ, List.filterMap_append, ih (by omega), List.take_add_one]
      congr 1
      have h1 : (((xs.length : Nat) : Int) - 1 + (k : Int) * (-1)).toNat = xs.length - 1 - k := by omega
      simp only [List.filterMap_cons, List.filterMap_nil]
      rw [h1, List.getElem?_reverse (by omega)]
      rw [List.getElem?_toArray]
      cases xs[xs.length - 1 - k]? <;> rfl
  have := e xs.length (Nat.le_refl _)
  rw [this, List.take_of_length_le (by rw [List.length_reverse]; exact Nat.le_refl _)]
section
variable {prog : Program} {w : World} {A : Around} {E : Value → Shared → Prop} {s : Shared}
theorem sliceApplied_rev {sl : Addr} {u : Tok} {n : Nat} {Q : Int × Int × Nat → Shared → Prop} (hs : s.heap.IsSliceOf sl .none .none (.int (-1) u))
    (h : Q ((n : Int) - 1, -1, n) s) : wpAny (model prog w) A (Builtin.Slice.sliceApplied (.ref sl) (pure (n : Int))) Q E s := by
  obtain ⟨os, hos, hcs, hds⟩ := id hs
  unfold Builtin.Slice.sliceApplied Builtin.Slice.sliceFields
  refine wpAny_bind (wpAny_bind (wpAny_field hos hds (x := .none) rfl (wpAny_bind (wpAny_field hos hds (x := .none) rfl (wpAny_bind (wpAny_field hos hds (x := .int (-1) u) rfl (wpAny_pure ?_)))))))
  refine wpAny_bind (PyProof.Rows.slicePart_int ?_)
  show wpAny _ _ (if ((-1 : Int) == 0) = true then _ else _) _ _ s
  rw [if_neg (by decide)]
  refine wpAny_bind (PyProof.Rows.slicePart_none (wpAny_bind (PyProof.Rows.slicePart_none (wpAny_bind (wpAny_pure ?_)))))
  show wpAny _ _ (match Builtin.Slice.sliceAdjust none none (-1) (n : Int) with | (lo, hi) => pure (lo, (-1 : Int), Builtin.Slice.slicePlaces lo hi (-1))) _ _ s
  rw [adjust_rev n]
  show wpAny _ _ (pure ((n : Int) - 1, (-1 : Int), Builtin.Slice.slicePlaces ((n : Int) - 1) (-1) (-1))) _ _ s
  rw [places_rev]
  exact wpAny_pure h
theorem getItem_tuple_rev {t sl : Addr} {items : List Value} {u : Tok} {Q : Value → Shared → Prop} (ht : IsTup s.heap t items.toArray) (hs : s.heap.IsSliceOf sl .none .none (.int (-1) u))
    (h : Q (.ref s.heap.objs.size) { s with heap := s.heap.push { cls := .type "tuple", data := .seq items.reverse.toArray } }) (hsz : items.length ≤ sizeLine) : wpAny (model prog w) A (getItem (.ref t) (.ref sl)) Q E s := by
  have htake : sizeOk (.seq items.reverse.toArray) := by
    show items.reverse.toArray.size ≤ sizeLine
    rw [List.size_toArray, List.length_reverse]; exact hsz
  obtain ⟨os, hos, hcs, hds⟩ := id hs
  have hTs : s.TypeIs (.ref sl) "slice" := ⟨os, hos, hcs⟩
  unfold getItem
  try with_reducible refine wpAny_holding ?_
  first | refine wpAny_bind (wpAny_pure ?_) | skip
  refine wpAny_bind (wpAny_sequenceKey ht.typeIs (by decide) ?_)
  refine wpAny_bind (wpAny_callSpecial?_slot (name := Str.ofString "__getitem__") ht.typeIs PyProof.Rows.slot_tuple_getitem
    (wpAny_call_entry PyProof.Rows.slot_tuple_getitem ht.typeIs PyProof.Rows.entry_tuple_getitem ?_ (PyProof.Rows.args_tuple_getitem _ _)))
  show wpAny _ _ (Builtin.Tuple.tupleItemsOf (.ref t) >>= _) _ _ s
  refine wpAny_bind (PyProof.Rows.tupleItemsOf_ ht ?_)
  refine wpAny_bind (wpAny_typeOf hTs ?_)
  rw [if_pos (by decide)]
  refine wpAny_bind (sliceApplied_rev (n := items.toArray.size) hs ?_)
  have hno : ¬ ((((items.toArray.size : Nat) : Int) - 1 == 0 && (-1 : Int) == 1 && items.toArray.size == items.toArray.size) = true) := by simp
  show wpAny _ _ (if ((((items.toArray.size : Nat) : Int) - 1 == 0 && (-1 : Int) == 1 && items.toArray.size == items.toArray.size) = true) then _ else _) _ _ s
  rw [if_neg hno]
  have hp : ((List.range items.toArray.size).filterMap fun (k : Nat) => items.toArray[(((items.toArray.size : Nat) : Int) - 1 + (k : Int) * (-1)).toNat]?).toArray = items.reverse.toArray := by
    rw [List.size_toArray]
    exact congrArg List.toArray (pick_rev items)
  rw [hp]
  first
    | exact wpAny_bind (m := Builtin.Tuple.tupleExact _) (wpAny_newObj_type (wpAny_pure ⟨_, rfl, wpAny_pure h⟩) htake)
    | exact wpAny_bind (m := Builtin.Tuple.tupleExact _) (wpAny_newObj_type (wpAny_bind (wpAny_pure (wpAny_pure ⟨_, rfl, wpAny_pure h⟩))) htake)
    | exact wpAny_bind (wpAny_bind (m := Builtin.Tuple.tupleExact _) (wpAny_newObj_type (wpAny_pure (wpAny_pure ⟨_, rfl, wpAny_pure h⟩)) htake))
    | exact wpAny_bind (wpAny_bind (m := Builtin.Tuple.tupleExact _) (wpAny_newObj_type (wpAny_pure ⟨_, rfl, wpAny_pure h⟩) htake))
end
section
variable {X : Cx}
def tRevT (K : PySem.W.Frag) (te : TE) : TE := fun σ H Q => te σ H fun x H1 => ∃ a xs, x = .ref a ∧ TT K H1 a xs ∧ ∀ p H', Same H1 H' → TT K H' p xs.reverse → Q (.ref p) H'
theorem pe_revT {e : Expr} {te : TE} {k : Nat} {p1 p2 p3 pos : Pos} (he : PE X e te) : PE X (.Subscript e (.Slice none none (some (.UnaryOp .USub (.Constant (.int 1) k p1) p2)) p3) pos) (tRevT X.K te) := by
  refine ⟨fun pins s σ H Q I h => ?_⟩
  refine Subscript_ (thn (he.run pins s σ H _ I h) fun v s1 ⟨x, H1, I1, r1, q1⟩ => ?_)
  obtain ⟨a, xs, ex, hx, q⟩ := q1
  subst ex
  cases r1
  have hst : PO X (some (.UnaryOp .USub (.Constant (.int 1) k p1) p2)) (tPart (tUn (rU fun i => .int (-i)) (tC (.int 1)))) := po_some (pe_un un_neg pe_int)
  refine wpAny_Slice (thn (po_none.run pins s1 σ H1 (fun o H2 => o = none ∧ H2 = H1) I1 ⟨rfl, rfl⟩) fun vl s2 ⟨l, H2, I2, pl, el, e2⟩ => ?_)
  subst el e2
  refine thn (po_none.run pins s2 σ H2 (fun o H3 => o = none ∧ H3 = H2) I2 ⟨rfl, rfl⟩) fun vu s3 ⟨u, H3, I3, pu, eu, e3⟩ => ?_
  subst eu e3
  refine thn (hst.run pins s3 σ H3 (fun o H4 => o = some (-1) ∧ H4 = H3) I3 ⟨1, rfl, -1, rfl, rfl, rfl⟩) fun vs s4 ⟨o, H4, I4, ps, eo, e4⟩ => ?_
  subst eo e4
  have I5 : Inv X pins σ H4 { s4 with heap := s4.heap.push { cls := .type "slice", data := .fields #[vl, vu, vs] } } := I4.kept (t' := s4.toks) fun b ob q => Heap.get?_push_of_some _ q
  obtain ⟨its, r, ht, hz⟩ := I5.tuple hx.sq
  cases pl
  cases pu
  cases ps
  show wpAny (model X.prog X.w) X.A (subscriptTail e (.Slice none none (some (.UnaryOp .USub (.Constant (.int 1) k p1) p2)) p3) (.ref a) (.ref s4.heap.objs.size)) (EP X pins σ Q) X.xe _
  refine tail_any (ops := [.ref a, .ref s4.heap.objs.size]) ht.typeIs (PyProof.Rows.slot_tuple_getitem.lookup) ?_ (by with_unfolding_all rfl)
  refine getItem_tuple_rev ht (Heap.IsSliceOf.new _ _ _ _) ?_ (by rw [← r.length]; exact hz)
  have np := I5.hok.fresh (Nat.le_refl (({ s4 with heap := s4.heap.push { cls := .type "slice", data := .fields #[.none, .none, .int (-1) _] } } : Shared).heap.objs.size))
  refine ⟨.ref _, _, I5.laid (t' := s4.toks) (o := .tup xs.reverse) (fun b ob q => Heap.get?_push_of_some _ q) (Nat.le_refl _) ?_, rfl, q _ _ (same_new np) (.of upd_same)⟩
  exact ⟨by rw [List.length_reverse]; exact hz, _, r.reverse, IsTup.new _ _⟩
end
end Vw

set_option Elab.async false
set_option linter.all false
set_option maxRecDepth 100000
namespace Vw
open PySem PySem.W PyProof.Rows L2
/-! ### data of bounded depth -/
def EltD (K : PySem.W.Frag) (H : Hp) (n : Nat) (v : V) : Prop := ∃ d, Dp K H v d ∧ d.depth ≤ n
section
variable {K : PySem.W.Frag} {H H' : Hp} {n m : Nat} {v : V}
theorem EltD.same (s : Same H H') (h : EltD K H n v) : EltD K H' n v := by
  obtain ⟨d, h1, h2⟩ := h
  exact ⟨d, dp_same s h1, h2⟩
theorem EltD.mono (h : EltD K H n v) (l : n ≤ m) : EltD K H m v := by
  obtain ⟨d, h1, h2⟩ := h
  exact ⟨d, h1, Nat.le_trans h2 l⟩
theorem EltD.int (i : Int) : EltD K H n (.int i) := ⟨_, .int i, by simp only [PyData.depth]; omega⟩
theorem EltD.bl (b : Bool) : EltD K H n (.bl b) := ⟨_, .bl b, by simp only [PyData.depth]; omega⟩
theorem EltD.str (x : Str) : EltD K H n (.str x) := ⟨_, .str x, by simp only [PyData.depth]; omega⟩
theorem EltD.non : EltD K H n .non := ⟨_, .non, by simp only [PyData.depth]; omega⟩
theorem EltD.ord {o : O} (h : OA K H v o) (l : O.dp o + 1 ≤ n) : EltD K H n v := ⟨_, h.dp, by rw [O.depth_toD]; exact l⟩
theorem EltD.term {t : O × Int} (h : TmA K H v t) (l : O.dp t.1 + 2 ≤ n) : EltD K H n v := ⟨_, h.dp, by rw [depth_tD]; exact l⟩
theorem elts_all : ∀ {xs : List V}, (∀ v ∈ xs, EltD K H n v) → ∃ ds, DpAll K H xs ds ∧ PyData.depthAll ds ≤ n
  | [], _ => ⟨[], .nil, Nat.zero_le _⟩
  | x :: xs, h => by
    obtain ⟨d, h1, h2⟩ := h x List.mem_cons_self
    obtain ⟨ds, h3, h4⟩ := elts_all (xs := xs) fun v hv => h v (List.mem_cons_of_mem _ hv)
    exact ⟨d :: ds, .cons h1 h3, by show max d.depth (PyData.depthAll ds) ≤ n; omega⟩
theorem EltD.tup {p : Addr} {xs : List V} (h : TT K H p xs) (hx : ∀ v ∈ xs, EltD K H n v) : EltD K H (n + 1) (.ref p) := by
  obtain ⟨ds, h1, h2⟩ := elts_all hx
  exact ⟨.tuple ds, .tup h.sq h1, by simp only [PyData.depth]; omega⟩
theorem EltD.lst {p : Addr} {xs : List V} (h : SqL K H p xs) (hx : ∀ v ∈ xs, EltD K H n v) : EltD K H (n + 1) (.ref p) := by
  obtain ⟨ds, h1, h2⟩ := elts_all hx
  exact ⟨.list ds, .lst h h1, by simp only [PyData.depth]; omega⟩
theorem elts_terms {xs : List V} {l : List (O × Int)} (h : Paired (TmA K H) xs l) (hl : ∀ t ∈ l, O.dp t.1 + 2 ≤ n) : ∀ v ∈ xs, EltD K H n v := fun v hv => by
  obtain ⟨i, hi, e⟩ := List.getElem_of_mem hv
  obtain ⟨t, ht, tv⟩ := paired_get h (List.getElem?_eq_some_iff.mpr ⟨hi, e⟩)
  exact .term tv (hl t (List.mem_of_getElem? ht))
end
/-- data of tuples alone: it stands as long as tuples do -/
def EltT (K : PySem.W.Frag) (H : Hp) (n : Nat) (v : V) : Prop := ∃ d, d.depth ≤ n ∧ ∀ H', Tp H H' → Dp K H' v d
/-- data that stands as long as all but b stays -/
def EltB (K : PySem.W.Frag) (H : Hp) (b : Addr) (n : Nat) (v : V) : Prop := ∃ d, d.depth ≤ n ∧ ∀ H', Kp b H H' → Dp K H' v d
section
variable {K : PySem.W.Frag} {H H' : Hp} {n m : Nat} {v : V} {b l : Addr}
theorem EltT.tp (h : EltT K H n v) (t : Tp H H') : EltT K H' n v := by
  obtain ⟨d, h1, h2⟩ := h
  exact ⟨d, h1, fun H2 t2 => h2 H2 (t.trans t2)⟩
theorem EltT.same (s : Same H H') (h : EltT K H n v) : EltT K H' n v := h.tp (same_tp s)
theorem EltT.mono (h : EltT K H n v) (l : n ≤ m) : EltT K H m v := by
  obtain ⟨d, h1, h2⟩ := h
  exact ⟨d, Nat.le_trans h1 l, h2⟩
theorem EltT.int (i : Int) : EltT K H n (.int i) := ⟨.int i, by simp only [PyData.depth]; omega, fun _ _ => .int i⟩
theorem EltT.bl (b : Bool) : EltT K H n (.bl b) := ⟨.bool b, by simp only [PyData.depth]; omega, fun _ _ => .bl b⟩
theorem EltT.str (x : Str) : EltT K H n (.str x) := ⟨.str x, by simp only [PyData.depth]; omega, fun _ _ => .str x⟩
theorem EltT.non : EltT K H n .non := ⟨.none, by simp only [PyData.depth]; omega, fun _ _ => .non⟩
theorem EltT.ord {o : O} (h : OA K H v o) (l : O.dp o + 1 ≤ n) : EltT K H n v := ⟨_, by rw [O.depth_toD]; exact l, fun _ t => (h.tp t).dp⟩
theorem EltT.term {t : O × Int} (h : TmA K H v t) (l : O.dp t.1 + 2 ≤ n) : EltT K H n v := ⟨_, by rw [depth_tD]; exact l, fun _ x => (h.tp x).dp⟩
theorem eltT_all : ∀ {xs : List V}, (∀ v ∈ xs, EltT K H n v) → ∃ ds, PyData.depthAll ds ≤ n ∧ ∀ H', Tp H H' → DpAll K H' xs ds
  | [], _ => ⟨[], Nat.zero_le _, fun _ _ => .nil⟩
  | x :: xs, h => by
    obtain ⟨d, h1, h2⟩ := h x List.mem_cons_self
    obtain ⟨ds, h3, h4⟩ := eltT_all (xs := xs) fun v hv => h v (List.mem_cons_of_mem _ hv)
    exact ⟨d :: ds, by show max d.depth (PyData.depthAll ds) ≤ n; omega, fun H' t => .cons (h2 H' t) (h4 H' t)⟩
theorem eltB_all : ∀ {xs : List V}, (∀ v ∈ xs, EltB K H b n v) → ∃ ds, PyData.depthAll ds ≤ n ∧ ∀ H', Kp b H H' → DpAll K H' xs ds
  | [], _ => ⟨[], Nat.zero_le _, fun _ _ => .nil⟩
  | x :: xs, h => by
    obtain ⟨d, h1, h2⟩ := h x List.mem_cons_self
    obtain ⟨ds, h3, h4⟩ := eltB_all (xs := xs) fun v hv => h v (List.mem_cons_of_mem _ hv)
    exact ⟨d :: ds, by show max d.depth (PyData.depthAll ds) ≤ n; omega, fun H' t => .cons (h2 H' t) (h4 H' t)⟩
theorem EltT.tup {p : Addr} {xs : List V} (h : TT K H p xs) (hx : ∀ v ∈ xs, EltT K H n v) : EltT K H (n + 1) (.ref p) := by
  obtain ⟨ds, h1, h2⟩ := eltT_all hx
  exact ⟨.tuple ds, by simp only [PyData.depth]; omega, fun H' t => .tup (h.tp t).sq (h2 H' t)⟩
theorem eltT_terms {xs : List V} {l : List (O × Int)} (h : Paired (TmA K H) xs l) (hl : ∀ t ∈ l, O.dp t.1 + 2 ≤ n) : ∀ v ∈ xs, EltT K H n v := fun v hv => by
  obtain ⟨i, hi, e⟩ := List.getElem_of_mem hv
  obtain ⟨t, ht, tv⟩ := paired_get h (List.getElem?_eq_some_iff.mpr ⟨hi, e⟩)
  exact .term tv (hl t (List.mem_of_getElem? ht))
theorem Bag.tpK (B : Bag l H b) (k : Kp b H H') : Tp H H' := B.tp k
theorem EltT.toB (h : EltT K H n v) (B : Bag l H b) : EltB K H b n v := by
  obtain ⟨d, h1, h2⟩ := h
  exact ⟨d, h1, fun H' k => h2 H' (B.tp k)⟩
theorem EltB.kp {H' : Hp} (h : EltB K H b n v) (k : Kp b H H') : EltB K H' b n v := by
  obtain ⟨d, h1, h2⟩ := h
  exact ⟨d, h1, fun H2 k2 => h2 H2 (k.trans k2)⟩
theorem EltB.same (s : Same H H') (h : EltB K H b n v) : EltB K H' b n v := h.kp (same_kp s)
theorem EltB.mono (h : EltB K H b n v) (l : n ≤ m) : EltB K H b m v := by
  obtain ⟨d, h1, h2⟩ := h
  exact ⟨d, Nat.le_trans h1 l, h2⟩
theorem EltB.elt (h : EltB K H b n v) : EltD K H n v := by
  obtain ⟨d, h1, h2⟩ := h
  exact ⟨d, h2 H (Kp.refl H), h1⟩
theorem EltT.elt (h : EltT K H n v) : EltD K H n v := by
  obtain ⟨d, h1, h2⟩ := h
  exact ⟨d, h2 H (Tp.refl H), h1⟩
theorem EltB.tup {p : Addr} {xs : List V} (B : Bag l H b) (h : TT K H p xs) (hx : ∀ v ∈ xs, EltB K H b n v) : EltB K H b (n + 1) (.ref p) := by
  obtain ⟨ds, h1, h2⟩ := eltB_all hx
  exact ⟨.tuple ds, by simp only [PyData.depth]; omega, fun H' k => .tup (h.tp (B.tp k)).sq (h2 H' k)⟩
theorem EltB.lst {p : Addr} {xs : List V} (hb : p ≠ b) (h : H p = some (.lst xs)) (hx : ∀ v ∈ xs, EltB K H b n v) : EltB K H b (n + 1) (.ref p) := by
  obtain ⟨ds, h1, h2⟩ := eltB_all hx
  exact ⟨.list ds, by simp only [PyData.depth]; omega, fun H' k => .lst (SqL.of (k _ _ hb h)) (h2 H' k)⟩
end
/-- a bent ordinal: any data, not deep -/
def spBent (K : PySem.W.Frag) (n : Nat) : Sp := fun vs H Q _ => ∃ (l b : Addr) (x : V) (o : O), vs = [.ref b, x] ∧ Bag l H b ∧ OA K H x o ∧ O.dp o < n ∧ O.dp o ≤ 20 ∧ O.wd o ≤ 100 ∧ ∀ (v : V) (H' : Hp), EltB K H' b (O.dp o + 5) v → Kp b H H' → Bag l H' b → Q v H'
/-- a number from 0 on, as an ordinal -/
def spNat (K : PySem.W.Frag) : Sp := fun vs H Q _ => ∃ n : Int, vs = [.int n] ∧ 0 ≤ n ∧ ∀ (v : V) (H' : Hp), Same H H' → OA K H' v (O.num n) → Q v H'
theorem O.pwN_num {n : Int} (h : 0 ≤ n) : O.pwN .z n = O.num n := by
  unfold O.pwN O.num
  by_cases e : n = 0
  · subst e; rfl
  · rw [if_neg e, if_pos (by omega)]
/-- a def with keyword-only defaults, as it is called -/
structure CalK (P : Program) (w : World) (K : PySem.W.Frag) (mg : Str → Option Value) (base : Heap) (k : Nat) (x : Str) (ps : List Str) (sp : Sp) (f : Addr) (fd : FuncData) : Prop where
  G : FnOk P w K mg base CX0 k f fd ps sp
  m : mg x = some (.ref f)
  kp : PySem.W.keepIn K (.ref f) = true
theorem kb_ofD {K : PySem.W.Frag} {x qual : Str} {st : Stmt} {kws : List (Str × V)} {f : Addr} {fd : FuncData} {ps ks : List Str} (F : FunD K x qual (defArgs st) (defBody st) (defScope st) [] kws f fd) (g : List Value → List Value → List Value) (gV : List V → List V → List V)
    (rel : ∀ {vs : List V} {us : List Value} {zs : List V} {ws : List Value}, Vals vs us → Vals zs ws → Vals (gV vs zs) (g us ws)) (hk : kws ≠ [])
    (h : ∀ (D : Addr) (doc pm : Value) (an : Option Addr) (cdv ct : Value) (us ws : List Value), (g us ws).length = ps.length → bindArgs (PySem.W.fnOf x qual (defArgs st) (defBody st) (defScope st) .none (.ref D) doc pm an cdv ct) ⟨us, ks.zip ws⟩ = pure (ps.zip (g us ws))) : KBinds K fd ps ks g gV := by
  obtain ⟨oc, od, dV, kV, doc, pm, an, cdv, ct, osl, rfl, lk, hcd, hD, hK⟩ := F.ex
  rcases hD with ⟨_, rfl⟩ | ⟨e, _⟩
  · rcases hK with e | ⟨D, rfl, hq⟩
    · exact absurd e hk
    · exact ⟨fun s us ws _ hl => .of_eq (h D doc pm an cdv ct us ws hl), rel⟩
  · exact absurd rfl e
def oneG {α : Type} : List α → List α → List α
  | [a], [b] => [a, b]
  | _, _ => []
theorem one_rel {vs : List V} {us : List Value} {zs : List V} {ws : List Value} (h1 : Vals vs us) (h2 : Vals zs ws) : Vals (oneG vs zs) (oneG us ws) := by
  cases h1 with
  | nil => exact .nil
  | cons a t => cases t with
    | cons b t => exact .nil
    | nil => cases h2 with
      | nil => exact .nil
      | cons b t => cases t with
        | nil => exact .cons a (.cons b .nil)
        | cons c t => exact .nil
/-- the power one, once -/
def O.omega : O := O.add O.one 1 .z
/-! ### the great ordinals -/
def wideO : O := O.of ((List.range 12).map fun k => (O.num (11 - (k : Nat)), 1 + (k : Nat)))
def deepO : Nat → O
  | 0 => O.num 2
  | k + 1 => O.of [(deepO k, 2), (.z, 1)]
def spGreat (K : PySem.W.Frag) : Sp := fun vs H Q _ => vs = [] ∧ ∀ (D : Addr) (x y : V) (H' : Hp), Same H H' → H' D = some (.lst [x, y]) → OA K H' x wideO → OA K H' y (deepO 5) → Q (.ref D) H'
theorem ok_wide : O.ok wideO = true := by decide
theorem ok_deep : O.ok (deepO 5) = true := by decide
/-- the last term twice is no ordinal -/
theorem twice_no {o : O} {t : O × Int} (h : (O.ts o).getLast? = some t) : isOrdB (.tuple (O.toDs o ++ [O.tD t])) = false := by
  have hl : 0 < (O.ts o).length := by
    cases e : O.ts o with
    | nil => rw [e] at h; cases h
    | cons a b => exact Nat.succ_pos _
  have h1 : (O.toDs o ++ [O.tD t])[(O.ts o).length - 1]? = some (O.tD t) := by
    rw [List.getElem?_append_left (by rw [O.toDs_ts, List.length_map]; omega), O.toDs_ts, List.getElem?_map]
    rw [List.getLast?_eq_getElem?] at h
    rw [h]; rfl
  have h2 : (O.toDs o ++ [O.tD t])[(O.ts o).length - 1 + 1]? = some (O.tD t) := by
    rw [show (O.ts o).length - 1 + 1 = (O.toDs o).length from by rw [O.toDs_ts, List.length_map]; omega]
    simp
  exact bad_order h1 h2 (O.lt_irrefl _)
/-- turned round, it is none -/
theorem rev_no {ds : List PyData} {t u : O × Int} {r : List PyData} (h : ds = O.tD t :: O.tD u :: r) (hl : O.lt u.1 t.1 = false) : isOrdB (.tuple ds) = false := by
  subst h
  exact bad_order (i := 0) rfl rfl hl
end Vw

set_option Elab.async false
set_option linter.all false
set_option maxRecDepth 100000
namespace Vw
open PySem PySem.W PyProof.Rows L2
/-! ### which data are rows -/
/-- each ordinal is at most the end of the one ahead of it -/
def IsRow (m : Int) (d : PyData) : Prop := ∃ os : List O, rowD os = d ∧ (os.length : Int) = m ∧ (∀ o ∈ os, O.ok o = true) ∧ Steps os
noncomputable def isRowB (m : Int) (d : PyData) : Bool := open Classical in decide (IsRow m d)
open Classical in
theorem isRow_t {m : Int} {d : PyData} (h : IsRow m d) : isRowB m d = true := by unfold isRowB; exact decide_eq_true h
open Classical in
theorem isRow_f {m : Int} {d : PyData} (h : ¬ IsRow m d) : isRowB m d = false := by unfold isRowB; exact decide_eq_false h
theorem isRow_other {m : Int} {d : PyData} (h : ∀ ds, d ≠ .tuple ds) : isRowB m d = false := isRow_f fun ⟨os, h1, _⟩ => h _ h1.symm
theorem isRow_len {m : Int} {ds : List PyData} (h : (ds.length : Int) ≠ m) : isRowB m (.tuple ds) = false := isRow_f fun ⟨os, h1, h2, _⟩ => h (by
  have : os.map O.toD = ds := PyData.tuple.inj h1
  rw [← this, List.length_map]; exact h2)
/-- the first i ordinals are right -/
def RPref (ds : List PyData) (os : List O) (i : Nat) : Prop := ds.take i = os.map O.toD ∧ (∀ o ∈ os, O.ok o = true) ∧ Steps os ∧ os.length = i
theorem rpref_nil (ds : List PyData) : RPref ds [] 0 := by
  refine ⟨rfl, ?_, ?_, rfl⟩
  · intro o h; cases h
  · intro i o p h; simp at h
theorem rpref_at {ds : List PyData} {os : List O} {i j : Nat} (h : RPref ds os i) (hj : j < i) : ∃ o, os[j]? = some o ∧ ds[j]? = some (O.toD o) := by
  obtain ⟨h1, _, _, h3⟩ := h
  have hl : j < os.length := by omega
  refine ⟨os[j], List.getElem?_eq_getElem hl, ?_⟩
  have : (ds.take i)[j]? = some (O.toD os[j]) := by rw [h1, List.getElem?_map, List.getElem?_eq_getElem hl]; rfl
  rw [List.getElem?_take, if_pos hj] at this
  exact this
theorem rpref_step {ds : List PyData} {os : List O} {i : Nat} {p : O} (h : RPref ds os i) (hd : ds[i]? = some (O.toD p)) (hp : O.ok p = true) (hl : ∀ o, os[i - 1]? = some o → 0 < i → O.lt (endO o) p = false) : RPref ds (os ++ [p]) (i + 1) := by
  obtain ⟨h1, h2, h3, h4⟩ := h
  refine ⟨by rw [List.take_add_one, hd, h1, List.map_append]; rfl, fun o ho => ?_, fun j o q ho hq => ?_, by rw [List.length_append, h4]; rfl⟩
  · rcases List.mem_append.mp ho with h | h
    · exact h2 o h
    · rw [List.mem_singleton.mp h]; exact hp
  · have hj : j + 1 < i + 1 := by
      have := (List.getElem?_eq_some_iff.mp hq).1
      rw [List.length_append, h4] at this
      exact this
    rw [List.getElem?_append_left (by omega)] at ho
    by_cases e : j + 1 = i
    · have hi : i - 1 = j := by omega
      rw [List.getElem?_append_right (by omega), h4, e, Nat.sub_self] at hq
      have hq : p = q := by simpa using hq
      subst hq
      exact hl o (by rw [hi]; exact ho) (by omega)
    · rw [List.getElem?_append_left (by omega)] at hq
      exact h3 j o q ho hq
theorem rpref_end {ds : List PyData} {os : List O} (h : RPref ds os ds.length) : isRowB (ds.length : Nat) (.tuple ds) = true := by
  obtain ⟨h1, h2, h3, h4⟩ := h
  rw [List.take_length] at h1
  exact isRow_t ⟨os, by unfold rowD; rw [h1], by rw [h4], h2, h3⟩
theorem row_ord {m : Int} {ds : List PyData} {i : Nat} {d : PyData} (hd : ds[i]? = some d) (h : isOrdB d = false) : isRowB m (.tuple ds) = false := isRow_f fun ⟨os, h1, _, h2, _⟩ => by
  have h3 : os.map O.toD = ds := PyData.tuple.inj h1
  rw [← h3, List.getElem?_map] at hd
  obtain ⟨o, ho, rfl⟩ := Option.map_eq_some_iff.mp hd
  rw [isOrd_toD (h2 o (List.mem_of_getElem? ho))] at h
  cases h
theorem row_step {m : Int} {ds : List PyData} {i : Nat} {o p : O} (h1 : ds[i]? = some (O.toD o)) (h2 : ds[i + 1]? = some (O.toD p)) (h : O.lt (endO o) p = true) : isRowB m (.tuple ds) = false := isRow_f fun ⟨os, e1, _, _, e2⟩ => by
  have h3 : os.map O.toD = ds := PyData.tuple.inj e1
  rw [← h3, List.getElem?_map] at h1 h2
  obtain ⟨o', ho, a1⟩ := Option.map_eq_some_iff.mp h1
  obtain ⟨p', hp, a2⟩ := Option.map_eq_some_iff.mp h2
  have := e2 i o' p' ho hp
  rw [O.toD_inj a1, O.toD_inj a2, h] at this
  cases this
/-- an ordinal as data: its end asked of data -/
def spEndD (K : PySem.W.Frag) : Sp := fun vs H Q _ => ∃ (x : V) (a : O), vs = [x] ∧ Dp K H x (O.toD a) ∧ O.dp a ≤ 50 ∧ ∀ (v : V) (H' : Hp), Same H H' → Dp K H' v (O.toD (endO a)) → Q v H'
theorem rd_eqD {K : PySem.W.Frag} {H : Hp} {x y : V} {a b : O} {Q : VK} (ha : Dp K H x (O.toD a)) (hb : Dp K H y (O.toD b)) (h : O.dp a ≤ 60) (h2 : O.dp b ≤ 60) (q : Q (.bl (decide (a = b))) H) : rEqO K x y H Q := by
  unfold rEqO
  exact ⟨_, _, ha, hb, O.shaped_toD h, O.shaped_toD h2, by rw [O.eqv_toD]; exact q⟩
def spIsRow (K : PySem.W.Frag) : Sp := fun vs H Q _ => ∃ (m : Int) (x : V) (d : PyData), vs = [.int m, x] ∧ Dp K H x d ∧ d.depth ≤ 50 ∧ ∀ H', Same H H' → Q (.bl (isRowB m d)) H'
end Vw

set_option Elab.async false
set_option linter.all false
set_option maxRecDepth 100000
set_option maxHeartbeats 4000000
namespace Vw
open PySem PySem.W PySem.Calls PyProof.Rows Builtin Builtin.ObjectAttr Builtin.Getset_descriptor
theorem nameC_dga (d tp : Value) (C : Addr) : descrGetArgs ⟨[d, .ref C, tp], []⟩ = pure (d, some (.ref C), given tp) := by kernel_rfl
section
variable {prog : Program} {w : World} {A : Around} {E : Value → Shared → Prop} {s : Shared} {K : Frag} {R : Result → Shared → Prop} {C : Addr}
theorem nameC_get {tp v : Value} {o : Obj} (hC : s.heap.get? C = some o) (ho : o.cls = .type "type") (h2 : (o.slots[2]?).join = some v) (h : R (.ok (.ret v)) s) :
    codeAny (model prog w) A (.call (.builtin "getset_descriptor.__get__") ⟨[.builtin "type.__name__", .ref C, tp], []⟩) R s := by
  obtain ⟨hh, g, dr, t, os⟩ := s
  have L0 : Looks (model prog w) hh (typeOf (.ref C)) (.type "type") := by
    have z : Looks (model prog w) hh (typeOf (.ref C)) o.cls := (Looks.ld hC).andThen .now
    rw [ho] at z
    exact z
  have L1 : Looks (model prog w) hh (isSubtype (.type "type") (.type "type")) true := Looks.of_pure (by rw [isSubtype_type]; kernel_rfl)
  refine codeAny_call_builtin KF.slot_gs.plain KF.entry_gs (KF.slot_gs.check _ _ _ _ _ _ _ _ ktyn_type (KF.args_gs _ _ _) ?_)
  unfold Builtin.«getset_descriptor.__get__» descrGet
  rw [nameC_dga]
  refine wpAny_bind (wpAny_pure ?_)
  unfold descrGetter descrCheckInstance descrNameAndClass isInstance
  simp only [ktyn_owner]
  repeat lk
  refine ⟨Code.quiet_builtin _ (by decide +kernel), codeAny_builtin ktyn_entry ?_⟩
  unfold Builtin.«type.__name__» keptObject
  dsimp only
  refine wpAny_bind ?_
  unfold slotAt
  refine wpAny_bind (wpAny_loadPart_at hC (wpAny_pure ?_))
  rw [h2]
  exact wpAny_pure h
theorem nameC_attr {expr : Bool} {v : Value} {o : Obj} {Q : Value → Shared → Prop} (X : K.In s.heap) (hC : K.lookup C = some o) (ho : o.cls = .type "type") (h2 : (o.slots[2]?).join = some v) (hv : handedOut v = pure v) (hop : nsIn K cStatics "thirdparty.any" = some none)
    (e : findCls K (.ref C) (.type "type") "__name__" = some (.get (.builtin "getset_descriptor.__get__") (.builtin "type.__name__") (.ref C) (.type "type")))
    (h : Q v { s with toks := s.toks + 1 }) : wpAny (model prog w) A (getAttr (.ref C) "__name__" expr) Q E s := by
  have LO : Looks (model prog w) s.heap (opaqueClassAbove (.ref C)) none := looks_opaque X hop
  have L0 : Looks (model prog w) s.heap (typeOf (.ref C)) (.type "type") := by
    have z : Looks (model prog w) s.heap (typeOf (.ref C)) o.cls := (Looks.ld (X _ _ hC)).andThen .now
    rw [ho] at z
    exact z
  have hg : findIn K (.type "type") "__getattribute__" = some (some (.builtin "type.__getattribute__")) := type_tga
  refine cls_open X LO L0 hg (looks_hook X (r := none) (by rfl)) (by show subIn K _ _ = _; rfl) e ?_
  show wpAny _ _ (do ret (← holding [Value.builtin "type.__name__"] (call (.builtin "getset_descriptor.__get__") [.builtin "type.__name__", .ref C, .type "type"]))) _ _ _
  refine wpAny_bind (wpAny_holding (wpAny_call (nameC_get (s := { s with toks := s.toks + 1 }) (X _ _ hC) ho h2 ?_)))
  refine wpAny_pure ?_
  show wpAny _ _ (handedOut v) _ _ _
  rw [hv]
  exact wpAny_pure h
theorem classE_attr {x D : Addr} {ox : Obj} {expr : Bool} {Q : Value → Shared → Prop} (hga : findIn K (.ref D) "__getattribute__" = some (some (.builtin "BaseException.__getattribute__"))) (hgt : findIn K (.ref D) "__getattr__" = some none) (hsub : subIn K (.ref D) (.type "BaseException") = some true)
    (hdct : hasDictIn K D = true) (ha : findIn K (.ref D) "__class__" = some (some (.builtin "object.__class__")))
    (hn : specialIn K (.builtin "object.__class__") "__get__" = some (some (.builtin "getset_descriptor.__get__"))) (htk : takesIn K (.builtin "object.__class__") = some true) (hm : mroIn K D (.type "object") = some true)
    (X : K.In s.heap) (I : InstAt s.heap x ox D none) (h : Q (.ref D) { s with toks := s.toks + 1 }) : wpAny (model prog w) A (getAttr (.ref x) "__class__" expr) Q E s := by
  have hf : findObj K D none "__class__" = some (.bind (.builtin "getset_descriptor.__get__") (.builtin "object.__class__")) := findObj_dataN (by obtain ⟨cd, hc, _⟩ := any_some hdct; rw [hc]; rfl) ha hn htk
  obtain ⟨hp, g, d, t, os⟩ := s
  have L0 := I.type (M := model prog w)
  have L1 := looks_findIn (M := model prog w) X hga
  have L2 := looks_findIn (M := model prog w) X hgt
  have L3 := looks_find (M := model prog w) X I hf
  have sub : Looks (model prog w) hp (isInstance (.ref x) (.type "BaseException")) true := L0.andThen (looks_subIn X hsub)
  have hx0 : (expr && onTheHeap (Value.builtin "BaseException.__getattribute__")) = false := Bool.and_false _
  have hx2 : (Value.builtin "BaseException.__getattribute__" == Value.builtin "object.__getattribute__") = false := by decide +kernel
  have hx1 : (onTheHeap (Value.ref D) && Value.builtin "BaseException.__getattribute__" == Value.builtin "object.__getattribute__") = false := by rw [hx2]; rfl
  refine wpAny_bind (wpAny_mkText (wpAny_holding (wpAny_bind (L0.at (wpAny_bind (L1.at ?_))))))
  dsimp only
  rw [hx1, if_neg (by decide)]
  refine wpAny_bind ?_
  unfold hookBefore
  rw [if_pos (show onTheHeap (Value.ref D) = true from rfl)]
  refine L2.at ?_
  refine wpAny_bind (wpAny_attempt (wpAny_holding ?_))
  unfold callGetattribute
  rw [hx0, if_neg Bool.false_ne_true]
  unfold boundAndCalled
  rw [PySem.F.excAttr_ValueError.ga.bind (.ref x)]
  refine wpAny_bind (wpAny_pure ?_)
  show wpAny _ _ (call (.builtin "BaseException.__getattribute__") [.ref x, .str "__class__" t]) _ _ _
  refine wpAny_call (codeAny_call_builtin PySem.F.excAttr_ValueError.ga.plain PySem.F.entry_bexc_ga ?_)
  refine @check_slot (model prog w) _ _ ⟨hp, g, d, t + 1, os⟩ "BaseException.__getattribute__" "BaseException" "__getattribute__" (.ref x) [.str "__class__" t] [] _ (by decide +kernel) (by decide +kernel) sub (PySem.F.args_bexc_ga (.ref x) (.str "__class__" t)) ?_
  unfold Builtin.«object.__getattribute__»
  refine wpAny_bind (wpAny_of_eq (a := ((Value.ref x : Value), [Value.str "__class__" t])) (by first | rfl | (simp only [slotArgs]; rfl)) ?_)
  refine wpAny_bind (wpAny_pure (wpAny_bind (L0.at (wpAny_bind (L3.at ?_)))))
  show wpAny _ _ (holding [Value.builtin "object.__class__"] (call (.builtin "getset_descriptor.__get__") [.builtin "object.__class__", .ref x, .ref D]) >>= ret) _ _ _
  refine wpAny_bind (wpAny_holding (wpAny_call (class_get (s := ⟨hp, g, d, t + 1, os⟩) (ox := ox) (od := none) X I hm ?_)))
  refine wpAny_pure ?_
  show wpAny _ _ (handedOut (.ref D)) _ _ _
  rw [handedOut_of (v := .ref D) rfl]
  exact wpAny_pure h
end
end Vw

set_option Elab.async false
set_option linter.all false
set_option maxRecDepth 100000
set_option maxHeartbeats 4000000
namespace Vw
open PySem PySem.Spec PySem.W PyProof.Rows L2
/-- what the written part says of the name of the class at C -/
structure NmC (K : PySem.W.Frag) (C : Addr) (nm : Str) : Prop where
  o : ∃ (o : Obj) (t : Tok), K.lookup C = some o ∧ o.cls = .type "type" ∧ (o.slots[2]?).join = some (.str nm t)
  op : nsIn K cStatics "thirdparty.any" = some none
  e : findCls K (.ref C) (.type "type") "__name__" = some (.get (.builtin "getset_descriptor.__get__") (.builtin "type.__name__") (.ref C) (.type "type"))
/-- x.__class__.__name__, x an exception that is being made -/
def tClsN (K : PySem.W.Frag) (to : TE) : TE := fun σ H Q => to σ H fun x H1 => ∃ (a C : Addr) (nm : Str), x = .ref a ∧ H1 a = some (exo a C none) ∧ ExcC K C ∧ NmC K C nm ∧ Q (.str nm) H1
section
variable {X : Cx} {e : Expr} {es : List Expr} {te : TE} {p p1 p2 pos : Pos}
theorem pe_clsN (he : PE X e te) (hb1 : attributeBase e "__class__" X.env (eval e X.env) = eval e X.env := by rfl) (hb2 : attributeBase (.Attribute e "__class__" p1) "__name__" X.env (eval (.Attribute e "__class__" p1) X.env) = eval (.Attribute e "__class__" p1) X.env := by rfl) :
    PE X (.Attribute (.Attribute e "__class__" p1) "__name__" p2) (tClsN X.K te) := by
  refine ⟨fun pins s σ H Q I h => ?_⟩
  refine attr_of hb2 (attr_of hb1 (thn (he.run pins s σ H _ I h) fun u s1 ⟨x, H1, I1, rx, a, C, nm, ex, ea, c, n, q⟩ => ?_))
  subst ex
  obtain rfl : u = Value.ref a := rx
  obtain ⟨t1, ho⟩ := exo_at I1.hok ea
  refine classE_attr c.hg c.hk c.hs c.hd c.ha c.hn c.ht c.hm I1.kIn (ox := _) ⟨ho, rfl, rfl, trivial⟩ ?_
  obtain ⟨o, t, n1, n2, n3⟩ := n.o
  refine nameC_attr (I1.tok _).kIn n1 n2 n3 rfl n.op n.e ?_
  exact ⟨.str nm, H1, (I1.tok _).tok _, ⟨t, rfl⟩, q⟩
/-- C(), C's own __init__ keeping sp -/
theorem pmk_oex0 {CX : CXT} {x : Str} {C fI : Addr} {k : Nat} {fd : FuncData} {ps : List Str} {sp : Sp} (T : OexC X.K C) (iC : PySem.W.findIn X.K (.ref C) "__init__" = some (some (.ref fI))) (tI : PySem.W.typeIn X.K (.ref fI) = some (.type "function"))
    (F1 : FnOk X.prog X.w X.K X.mg X.base CX k fI fd ps sp) (hr : Room (k + 1) X.A) (hb : Binds X.K fd ps []) (hx : Passes CX X (fun _ _ _ => False)) (hg : Gl X x) (hm : X.mg x = some (.ref C))
    (hdb : (x == ("__debug__" : Str)) = false := by decide) :
    PMk X (.Call (.Name x p) [] [] pos) (tMkO C sp [] tNil) := by
  intro pins s σ H Q I h
  obtain ⟨nm, q, N, bs, bm, sn, sub, ab, col, dd, k0, k1, k2, k3, k5, hC, hbm⟩ := T.cls
  refine wpAny_Call_Name_kw (ld_glob I hg hm ?_ hdb)
  refine PySem.W.callWith_K0 I.kIn T.kC ?_
  show wpAny _ _ (call (.ref C) []) _ _ _
  obtain ⟨hp, g, dr, tk, os⟩ := s
  obtain ⟨hz, q1⟩ := h
  have hsz : hp.objs.size ≤ hp.objs.size + 1 := Nat.le_succ _
  have hn : H (hp.objs.size + 1) = none := I.hok.fresh hsz
  have hq := q1 (hp.objs.size + 1) hn
  have kk : ∀ b o, hp.get? b = some o → ((hp.push (PySem.W.kdv_tup [])).push (PySem.HandSPX.excO C hp.objs.size)).get? b = some o := fun b o e => Heap.get?_push_of_some _ (Heap.get?_push_of_some _ e)
  have hget : ((hp.push (PySem.W.kdv_tup [])).push (PySem.HandSPX.excO C hp.objs.size)).get? (hp.objs.size + 1) = some (PySem.HandSPX.excO C hp.objs.size) := by heap_get
  have I2 : Inv X pins σ (upd H (hp.objs.size + 1) (exo (hp.objs.size + 1) C none)) ⟨(hp.push (PySem.W.kdv_tup [])).push (PySem.HandSPX.excO C hp.objs.size), g, dr, tk, os⟩ :=
    I.laid (t' := tk) (a := hp.objs.size + 1) (o := exo (hp.objs.size + 1) C none) (h' := (hp.push (PySem.W.kdv_tup [])).push (PySem.HandSPX.excO C hp.objs.size)) kk hsz (exo_ok hget)
  have r2 : Vals [V.ref (hp.objs.size + 1)] [Value.ref (hp.objs.size + 1)] := .cons rfl .nil
  have hl : ([Value.ref (hp.objs.size + 1)] : List Value).length = ps.length := F1.len _ _ _ _ hq
  refine wpAny_call (PySem.HandSPX.call_own F.excBase_ValueError (fun Y => PySem.HandSPX.refsVE_contains Y bm hbm) (I.kIn _ _ hC) (PySem.W.looks_findIn I.kIn iC) (fun self => PySem.W.bind_fn I.kIn self tI) (by show 0 ≤ sizeLine; decide)
    (codeAny_mono (F1.run _ X.stack _ _ ⟨[Value.ref (hp.objs.size + 1)], []⟩ [Value.ref (hp.objs.size + 1)] _ _ (fun _ _ _ => False) (hr.make C [] []) (I2.env0.make C [] []) (hb _ [Value.ref (hp.objs.size + 1)] I2.kIn hl) r2 hq) fun r s' hq' => ?_))
  cases r with
  | error er => exact hx pins σ _ _ er s' I2 hq'
  | ok fl =>
    cases fl with
    | ret u =>
      obtain ⟨v, H2, os2, bare2, un2, hok2, rv, ev, d, fs, ea, ed, hd1, q2⟩ := hq'
      subst ev
      obtain ⟨h2, g2, d2, t2, os'⟩ := s'
      exact ⟨rv, mk_end (raises_own T.exC T.tyC) I hsz kk un2 hok2 os2 bare2 ea ed hd1 q2⟩
    | next => exact False.elim hq'
    | brk => exact False.elim hq'
    | cont => exact False.elim hq'
end
end Vw

set_option Elab.async false
set_option linter.all false
set_option maxRecDepth 100000
set_option maxHeartbeats 4000000
/-! except (x1, x2, x3) as n: after the library's rule for one name -/
namespace Vw
open PySem PySem.Spec PyProof.Rows L2
theorem flying_more {B h h' : Heap} {l : List Env} {a : Addr} {Z : Obj → Prop} (k : ∀ b o, h.get? b = some o → h'.get? b = some o) (x : HandSPX.FlyingZ B l a Z h) : HandSPX.FlyingZ B l a Z h' := by
  obtain ⟨f1, f2, f3, oe, vs, T, oT, ts, he, hz, hd, h1, hnT, hTe, hT, hdT, h3⟩ := x
  exact ⟨fun b ob q => k _ _ (f1 b ob q), f2, f3.of_keeps fun b o q _ => ⟨o, k b o q, rfl⟩, oe, vs, T, oT, ts, k _ _ he, hz, hd, h1, hnT, hTe, k _ _ hT, hdT, h3⟩
/-- what the clause wishes of an exception of the body -/
def wAs3 (K : PySem.W.Frag) (cs : List Value) (i : Nat) (ts : Addr → Value → Option Addr → TS) (Wout : WX) (D : Ends) : WX := fun cls d σ H =>
  ∃ b, PySem.W.exmAny K cls cs = some b ∧ (b = true → ∀ a, H a = none → ts a cls d { nx := fun σ' H' => D.nx (σ'.set i none) H', rt := D.rt, bk := fun σ' H' => D.bk (σ'.set i none) H', ct := fun σ' H' => D.ct (σ'.set i none) H' } (σ.set i (some (.ref a))) H) ∧
    (b = false → Wout cls d σ H)
section
variable {X : Cx} {x1 x2 x3 n : Str} {c1 c2 c3 : Value} {i kk : Nat} {body suite : List Stmt} {b₀ : Stmt} {p1 p2 p3 tpos pos pos' : Pos} {tb : WX → TS} {ts : Addr → Value → Option Addr → TS} {Wout : WX}
theorem ps_try_as3 (hs : X.stack = X.env :: X.outer) (hf : X.env.frame = some X.env.locals) (hN : X.N.Nodup) (hi : X.N[i]? = some n) (hln : X.env.kindOf n = some .local) (n1 : Names X x1 c1) (n2 : Names X x2 c2) (n3 : Names X x3 c3) (tk : Takes X Wout)
    (hb : ∀ (W : WX) (pn : List (Addr × Obj)) (xe : Value → Shared → Prop), Takes (X.tr pn xe) W → PassesOwn (model X.prog X.w) X.A X.env xe → PSs (X.tr pn xe) body (tb W))
    (hsu : ∀ (a : Addr) (oe : Obj) (cls : Value) (d : Option Addr) (pn : List (Addr × Obj)), Zc cls d oe → (∃ vs, oe.data = .fields vs) → PSs (X.suite a ((a, oe) :: pn)) (b₀ :: suite) (ts a cls d)) :
    PS X (.Try body [.ExceptHandler (some (.Tuple [.Name x1 p1, .Name x2 p2, .Name x3 p3] kk tpos)) (some n) (b₀ :: suite) pos'] [] [] pos) (fun D σ H => tb (wAs3 X.K [c1, c2, c3] i ts Wout D) D σ H) := by
  refine ⟨fun pins s σ H D I h => ?_⟩
  have ok := I.ok
  have hfr : X.A.frames = some (X.env :: X.outer) := by rw [ok.frames, hs]
  have hloc : Loc X.env.scope n := .inl hln
  refine wpAny_Try_except ?_
  refine wpAny_mono ((hb (wAs3 X.K [c1, c2, c3] i ts Wout D) (X.pn ++ pins) (fun e s₁ => wpAny (model X.prog X.w) X.A (noteFrame e X.env) (fun _ s₂ => wpAny (model X.prog X.w) X.A (setFlight e none) (fun _ s₃ =>
    wpAny (model X.prog X.w) X.A (handleBy e X.env [.ExceptHandler (some (.Tuple [.Name x1 p1, .Name x2 p2, .Name x3 p3] kk tpos)) (some n) (b₀ :: suite) pos']) (SP X pins D) X.xe s₃) X.xe s₂) X.xe s₁) (fun u s' xx => ?_) PassesOwn.looking).run [] s σ H D (I.toTry _) h) (fun f s1 hsp => ?_) (fun e s1 he => he)
  · obtain ⟨a, B, sI, pins', σ', H', cls, d, rfl, J', nb, up, sky, na, os, ag, b, hb1, hyes, hno⟩ := xx
    have J : Inv X pins σ' H' sI := J'.ofTry ok
    have sky' : Sky B (X.env :: X.outer) a (Zc cls d) X.env.locals s'.heap := by rw [← hs]; exact sky
    show wpAny (model X.prog X.w) X.A (noteFrame (.ref a) X.env) _ _ _
    refine Sky.land Zc.steady hfr hf sky' fun h3 fl3 up3 => ?_
    have J3 : Inv X pins σ' H' { s' with heap := h3 } := J.landed nb fl3.1 (up.trans up3) os ag
    obtain ⟨oe3, vs3, he3, hz3, hd3⟩ := fl3.there
    have nfr : a ∉ frs (X.env :: X.outer) := fun hm => by
      obtain ⟨_, o', e', hnf⟩ := fl3.2.2.1.mem hm
      rw [he3] at e'; cases e'
      exact hnf _ hd3
    have nL : a ≠ X.env.locals := fun z => nfr (List.mem_filterMap.mpr ⟨X.env, List.mem_cons_self, by rw [hf, z]⟩)
    have nF : a ∉ X.fs := fun hm => by
      obtain ⟨e, he, q⟩ := List.mem_filterMap.mp hm
      exact nfr (List.mem_filterMap.mpr ⟨e, List.mem_cons_of_mem _ he, q⟩)
    have S3 := J3.suite he3 hd3 na nL nF
    refine wpAny_handleBy_cons (codeAny_handlers_test ?_) (by intro q; cases q)
    have kp : ∀ b o, h3.get? b = some o → (h3.push { cls := .type "tuple", data := .seq [c1, c2, c3].toArray }).get? b = some o := fun _ _ z => Heap.get?_push_of_some _ z
    have LT : PySem.W.Looks (model X.prog X.w) h3 (typeOf (.ref a)) cls := fun A Q E s k q => wpAny_typeOf_ref (k _ _ he3) (by rw [hz3.1]; exact q)
    have LM := PySem.W.exm_tup3 (M := model X.prog X.w) (J3.kIn.keeps kp) (LT.keeps kp) (Heap.get?_push_size h3 rfl) hb1
    have test : ∀ {x : Str} {c : Value} {np : Pos} {Q : Value → Shared → Prop} {E : Value → Shared → Prop}, Names X x c → Q c { s' with heap := h3 } → wpAny (model X.prog X.w) (X.A.mark (some (.ref a))) (eval (.Name x np) X.env) Q E { s' with heap := h3 } := fun {x c np Q E} hc q => by
      obtain ⟨hg, hdbg, hm | ⟨hm, hv, hnn⟩⟩ := hc
      · exact ld_glob (X := X.suite a ((a, oe3) :: (X.pn ++ pins))) S3 hg hm q hdbg
      · exact ld_blt (X := X.suite a ((a, oe3) :: (X.pn ++ pins))) S3 hg hm hv q hnn hdbg
    have up3 := up3.trans (Heap.UpToSlots.of_keeps kp)
    have fl3 := flying_more kp fl3
    refine wpAny_Tuple (wpAny_items_cons (test n1 (wpAny_items_cons (test n2 (wpAny_items_cons (test n3 (wpAny_items_nil ⟨by size_fits, ?_⟩)))))))
    generalize h3.push { cls := .type "tuple", data := .seq [c1, c2, c3].toArray } = hT at *
    refine LM.here ?_
    cases b with
    | true =>
      refine codeAny_handlers_suite_as ?_
      refine HandSPX.lands_againZ fl3 fun h4 fl4 up4 => ?_
      have J4 : Inv X pins σ' H' { s' with heap := h4 } := J.landed nb fl4.1 ((up.trans up3).trans up4) os ag
      obtain ⟨oe4, vs4, he4, hz4, hd4⟩ := fl4.there
      have S4 := J4.suite he4 hd4 na nL nF
      refine store_ok (X := X.suite a ((a, oe4) :: (X.pn ++ pins))) (v := .ref a) S4 hN hi hloc rfl (fun s5 S5 => ?_) (.inr hln)
      refine wpAny_mono ((hsu a oe4 cls d (X.pn ++ pins) hz4 ⟨_, hd4⟩).run [] s5 _ H' _ S5 (hyes rfl a na)) (fun f s6 hsp => ?_) (fun _ _ z => False.elim z)
      have end_ : ∀ {σ6 : L2.St} {H6 : Hp} {Q : Shared → Prop}, Inv (X.suite a ((a, oe4) :: (X.pn ++ pins))) [] σ6 H6 s6 → (∀ s7, Inv X pins (σ6.set i none) H6 s7 → Q s7) →
          wpAny (model X.prog X.w) X.A (do bindName X.env n .none; unbindBehindTheSuite X.env n pos') (fun _ s7 => Q s7) X.xe s6 := fun {σ6 H6 Q} S6 hq => gone_ok (S6.unsuite ok) hN hi hln hq
      cases f with
      | ret u =>
        obtain ⟨v6, σ6, H6, S6, r6, q6⟩ := hsp
        exact end_ S6 fun s7 J7 => ⟨_, _, _, J7, r6, q6⟩
      | _ =>
        obtain ⟨σ6, H6, S6, q6⟩ := hsp
        exact end_ S6 fun s7 J7 => ⟨_, _, J7, q6⟩
    | false =>
      show wpAny _ X.A (handleBy (.ref a) X.env []) _ _ _
      refine wpAny_handleBy_nil ?_
      obtain ⟨k1, k2, k3, oe, vs, T, oT, ts', he, hz, hd, h1, hr⟩ := id fl3
      unfold PySem.passOn
      refine wpAny_bind (wpAny_field he hd h1 ?_)
      rw [if_neg (show ¬ ((Value.ref T == Value.none) = true) from by simp)]
      have fin : wpAny (model X.prog X.w) X.A (setFlight (.ref a) X.env.frame) (fun _ s4 => wpAny (model X.prog X.w) X.A (throw (.ref a) : Sem Flow) (SP X pins D) X.xe s4) X.xe { s' with heap := hT } := by
        rw [hf]
        refine HandSPX.setFlight_upZ fl3 fun h4 hh4 up4 => wpAny_throw (tk _ _ ?_)
        exact ⟨a, B, sI, pins, σ', H', cls, d, rfl, J, nb, (up.trans up3).trans up4, .inr (.inr (by rw [hs]; exact hh4)), na, os, ag, hno rfl⟩
      first
        | exact wpAny_bind (wpAny_pure (wpAny_bind fin))
        | exact wpAny_bind fin
  · cases f with
    | next =>
      obtain ⟨σ', H', J', q⟩ := hsp
      exact wpAny_execs_nil ⟨σ', H', J'.ofTry ok, q⟩
    | ret u =>
      obtain ⟨v, σ', H', J', r, q⟩ := hsp
      exact ⟨v, σ', H', J'.ofTry ok, r, q⟩
    | _ =>
      obtain ⟨σ', H', J', q⟩ := hsp
      exact ⟨σ', H', J'.ofTry ok, q⟩
end
end Vw

set_option Elab.async false
set_option linter.all false
set_option maxRecDepth 100000
namespace Vw
open PySem PySem.W PyProof.Rows L2
/-- a whole number's global name -/
theorem pe_globI {X : Cx} {x : Str} {n : Int} {pos : Pos} (hg : Gl X x) (hm : ∃ t, X.mg x = some (.int n t)) (hd : (x == ("__debug__" : Str)) = false := by decide) : PE X (.Name x pos) (tC (.int n)) := by
  obtain ⟨t, h⟩ := hm
  exact pe_glob hg h ⟨t, rfl⟩ hd
def resv : List V := [.str "true", .str "false", .str "not", .str "and", .str "or", .str "then", .str "shown"]
def isLow (c : Nat) : Bool := decide (97 ≤ c) && decide (c ≤ 122)
/-- names: 1 to 6 small letters, no reserved word -/
def isNm (z : Str) : Bool := !inV (.str z) resv && (decide (1 ≤ z.length) && (decide (z.length ≤ 6) && z.cps.toList.all isLow))
def spNm : Sp := fun vs H Q _ => ∃ z : Str, vs = [.str z] ∧ z.length ≤ 30 ∧ ∀ H', Same H H' → Q (.bl (isNm z)) H'
theorem lt_one (c d : Nat) : decide ([c] < [d]) = decide (c < d) := by
  by_cases h : c < d
  · rw [decide_eq_true h]; exact decide_eq_true (List.Lex.rel h)
  · rw [decide_eq_false h]
    refine decide_eq_false fun e => ?_
    cases e with
    | rel h' => exact h h'
    | cons h' => cases h'
theorem take_succ_get {α : Type} {xs : List α} {i : Nat} {c : α} (h : xs[i]? = some c) : xs.take (i + 1) = xs.take i ++ [c] := by
  rw [List.take_succ, h]; rfl
theorem cps_get {z : Str} {i : Nat} {c : Nat} (h : z.cps[i]? = some c) : z.cps.toList[i]? = some c := by rw [Array.getElem?_toList]; exact h
theorem mem_letters (c : Nat) : decide (c ∈ ("abcdefghijklmnopqrstuvwxyz" : Str).cps.toList) = isLow c := by
  have e : ("abcdefghijklmnopqrstuvwxyz" : Str).cps.toList = [97, 98, 99, 100, 101, 102, 103, 104, 105, 106, 107, 108, 109, 110, 111, 112, 113, 114, 115, 116, 117, 118, 119, 120, 121, 122] := by decide +kernel
  rw [e]
  unfold isLow
  by_cases h : 97 ≤ c ∧ c ≤ 122
  · obtain ⟨h1, h2⟩ := h
    have : c ∈ [97, 98, 99, 100, 101, 102, 103, 104, 105, 106, 107, 108, 109, 110, 111, 112, 113, 114, 115, 116, 117, 118, 119, 120, 121, 122] := by
      simp only [List.mem_cons, List.not_mem_nil, or_false]; omega
    rw [decide_eq_true this, decide_eq_true h1, decide_eq_true h2]; rfl
  · have : c ∉ [97, 98, 99, 100, 101, 102, 103, 104, 105, 106, 107, 108, 109, 110, 111, 112, 113, 114, 115, 116, 117, 118, 119, 120, 121, 122] := by
      simp only [List.mem_cons, List.not_mem_nil, or_false]; omega
    rw [decide_eq_false this]
    by_cases h1 : 97 ≤ c
    · have h2 : ¬ c ≤ 122 := fun x => h ⟨h1, x⟩
      rw [decide_eq_true h1, decide_eq_false h2]; rfl
    · rw [decide_eq_false h1]; rfl
theorem atI_exG {α : Type} {xs : List α} {i : Int} (h0 : 0 ≤ i) (h : i < (xs.length : Int)) : ∃ v, v ∈ xs ∧ atI xs i = some v := by
  obtain ⟨j, rfl⟩ := Int.eq_ofNat_of_zero_le h0
  have hj : j < xs.length := by omega
  exact ⟨xs[j], List.getElem_mem hj, atI_nat (List.getElem?_eq_getElem hj)⟩
theorem joinL_len : ∀ parts : List (List Nat), (∀ p ∈ parts, p.length ≤ 1) → (TL.joinL [] parts).length ≤ parts.length
  | [], _ => Nat.le_refl _
  | [p], h => h p (List.mem_singleton.mpr rfl)
  | p :: q :: r, h => by
    have ih := joinL_len (q :: r) fun x hx => h x (List.mem_cons_of_mem _ hx)
    have h1 := h p List.mem_cons_self
    show (p ++ ([] ++ TL.joinL [] (q :: r))).length ≤ r.length + 1 + 1
    rw [List.length_append, List.nil_append]
    have : (q :: r).length = r.length + 1 := rfl
    omega
theorem join_len (ys : List Str) (h : ∀ y ∈ ys, y.length = 1) : (Txt.join "" ys).length ≤ ys.length := by
  rw [TL.join_eq, TL.len_tl, TL.tl_join]
  have e : TL.tl ("" : Str) = [] := by decide +kernel
  rw [e]
  have := joinL_len (ys.map TL.tl) fun p hp => by
    obtain ⟨y, hy, rfl⟩ := List.mem_map.mp hp
    rw [← TL.len_tl, h y hy]; exact Nat.le_refl _
  rw [List.length_map] at this
  exact this
theorem sum_ones : ∀ ys : List Str, (∀ y ∈ ys, y.length = 1) → (ys.map (·.length)).sum = ys.length
  | [], _ => rfl
  | y :: ys, h => by
    rw [List.map_cons, List.sum_cons, h y List.mem_cons_self, sum_ones ys fun x hx => h x (List.mem_cons_of_mem _ hx), List.length_cons]; omega
theorem len_app (x y : Str) : (x ++ y).length = x.length + y.length := by
  rw [TL.len_tl, TL.len_tl, TL.len_tl, TL.tl_append, List.length_append]
end Vw

set_option Elab.async false
set_option linter.all false
set_option maxRecDepth 100000
set_option maxHeartbeats 4000000
/-! own exceptions: made and raised without arguments; caught, asked and handed on -/
namespace Vw
open PySem PySem.Spec PyProof.Rows L2
/-! ### raising -/
/-- what the written part says of a class that is raised -/
structure RzC (K : PySem.W.Frag) (C fI : Addr) (nm : Str) : Prop where
  ox : OexC K C
  ex : ExcC K C
  nc : NmC K C nm
  xf : XfC K C
  no : PySem.W.findIn K (.ref C) "code" = some none
  iC : PySem.W.findIn K (.ref C) "__init__" = some (some (.ref fI))
  tI : PySem.W.typeIn K (.ref fI) = some (.type "function")
def codeF (nm : Str) : List (Str × V) := [("code", .str nm)]
def spInit (C : Addr) (nm : Str) : Sp := fun vs H Q _ => ∃ a, vs = [.ref a] ∧ H a = some (exo a C none) ∧ ∀ d, H d = none → d ≠ a → Q .non (upd (upd H d (exd d (codeF nm))) a (exo a C (some d)))
/-- the exception's dict stands, the exception itself is let go -/
theorem raise_end {H : Hp} {a d C : Addr} {nm : Str} (ha : H a = none) (hd : (upd H a (exo a C none)) d = none) (hda : d ≠ a) :
    Same H (upd (del (upd (upd (upd H a (exo a C none)) d (exd d (codeF nm))) a (exo a C (some d))) a) d (.xd (codeF nm))) := by
  have hd0 : H d = none := by rw [upd_ne hda] at hd; exact hd
  intro b o hb
  have h1 : b ≠ d := ne_of_none hb hd0
  have h2 : b ≠ a := ne_of_none hb ha
  rw [upd_ne h1, del_ne h2, upd_ne h2, upd_ne h1, upd_ne h2]
  exact hb
section
variable {P : Program} {w : World} {K : PySem.W.Frag} {mg : Str → Option Value} {base : Heap}
theorem ok_initC {qual : Str} {st : Stmt} {fI fJ C : Addr} {fd : FuncData} {nm : Str} {k : Nat} (F : Fun K "__init__" qual st fI fd) (R : RzC K C fJ nm) {p1 p2 p3 p4 p5 p6 : Pos} (hb : defBody st = [.Assign [.Attribute (.Name "self" p1) "code" p2] (.Attribute (.Attribute (.Name "self" p3) "__class__" p4) "__name__" p5) p6])
    (S : FnScope ["self"] ["self"] (defScope st)) (hv : Vis (defScope st) "self") : FnOk P w K mg base CX0 (k + 1) fI fd ["self"] (spInit C nm) := by
  refine F.ok S (fun vs H Q E h => ?_) (fun cdv A outer s H vs Q E hr h => ?_)
  · obtain ⟨_, rfl, _⟩ := h; rfl
  obtain ⟨a, rfl, ha, q⟩ := h
  rw [hb]
  refine ⟨_, pss_one (ps_ost (pe_var (i := 0) rfl hv) (pe_clsN (pe_var (i := 0) rfl hv))), ?_⟩
  exact ⟨_, rfl, a, C, nm, rfl, ha, R.ex, R.nc, _, rfl, a, C, rfl, R.ox, R.no, .inl ⟨ha, fun dx h1 h2 => q dx h1 h2⟩⟩
/-- C() and its raise -/
theorem ps_rz {X : Cx} {C fI : Addr} {fd : FuncData} {nm x : Str} {W : WX} {k : Nat} {p pos pos2 : Pos} (R : RzC X.K C fI nm) (hcalm : X.calm = true) (F1 : FnOk X.prog X.w X.K X.mg X.base CX0 k fI fd ["self"] (spInit C nm)) (b : Binds X.K fd ["self"] []) (hr : Room (k + 1) X.A)
    (hg : Gl X x) (hm : X.mg x = some (.ref C)) (tk : Takes X W) (hdb : (x == ("__debug__" : Str)) = false := by decide) :
    PS X (.Raise (some (.Call (.Name x p) [] [] pos)) none pos2) (fun _ σ H => ∀ (d : Addr) (H' : Hp), Same H H' → H d = none → H' d = some (.xd (codeF nm)) → W (.ref C) (some d) σ H') := by
  have PR := ps_raise (pos := pos2) hcalm tk (pmk_oex0 (p := p) (pos := pos) R.ox R.iC R.tI F1 hr b pass0 hg hm hdb)
  refine ⟨fun pins s σ H D I h => PR.run pins s σ H D I ?_⟩
  refine ⟨by decide, fun a ha => ⟨a, rfl, upd_same, fun d hd hda => ?_⟩⟩
  have hd0 : H d = none := by rw [upd_ne hda] at hd; exact hd
  exact ⟨rfl, d, codeF nm, upd_same, by rw [upd_ne hda, upd_same], hd0, h d _ (raise_end ha hd hda) hd0 upd_same⟩
end
/-! ### a field of an exception that is held -/
def tXfA (K : PySem.W.Frag) (a : Addr) (cls : Value) (d : Option Addr) (f : Str) (te : TE) : TE := fun σ H Q => te σ H fun x H1 => x = .ref a ∧ ∃ (C dd : Addr) (fs : List (Str × V)) (v : V), cls = .ref C ∧ d = some dd ∧ XfC K C ∧ PySem.W.findIn K (.ref C) f = some none ∧ H1 dd = some (.xd fs) ∧ fs.lookup f = some v ∧ Q v H1
theorem pe_xfP {X : Cx} {a : Addr} {oe : Obj} {cls : Value} {d : Option Addr} {e : Expr} {te : TE} {pos : Pos} {n : Str} (hp : (a, oe) ∈ X.pn) (hz : Zc cls d oe) (hf : ∃ vs, oe.data = .fields vs) (he : PE X e te) (hb : attributeBase e n X.env (eval e X.env) = eval e X.env := by rfl) :
    PE X (.Attribute e n pos) (tXfA X.K a cls d n te) := by
  refine ⟨fun pins s σ H Q I h => ?_⟩
  refine attr_of hb (thn (he.run pins s σ H _ I h) fun u s1 hh => ?_)
  obtain ⟨x, H1, I1, rx, ex, C, dd, fs, v, ec, ed, T, hno, ea, l, q⟩ := hh
  subst ex ec
  obtain rfl : u = Value.ref a := rx
  subst ed
  have ha := (I1.pin (a, oe) (List.mem_append_left _ hp)).1
  obtain ⟨vs, hd⟩ := hf
  obtain ⟨mA, hns, hr⟩ : ObjOk X.prog X.w H1 s1.heap dd (.xd fs) := I1.hok dd _ ea
  obtain ⟨od, ho, hl⟩ := lookIn_ns hns
  obtain ⟨u, hu, ru⟩ := RelO.some_of (v := v) (o := mA n) (by rw [← l]; exact hr n)
  have J : PySem.W.InstAt s1.heap a oe C (some od) := ⟨ha, hz.1, by unfold PySem.W.notCls; rw [hd] <;> rfl, by rw [hz.2]; exact ho⟩
  exact HandSPX.exc_get I1.kIn J T.ga T.gg T.exC (PySem.W.findObj_own T.hdC hno rfl (by rw [hl, hu])) (handed_of ru) ⟨v, H1, I1.tok _, ru, q⟩
/-! ### a def that is handed the held exception -/
/-- the promise of a def that is called while p is held: it raises nothing -/
structure FnP (P : Program) (w : World) (K : PySem.W.Frag) (mg : Str → Option Value) (base : Heap) (k : Nat) (f : Addr) (fd : FuncData) (ps : List Str) (sp : Addr → Value → Option Addr → Sp) : Prop where
  len : ∀ a cls d vs H Q E, sp a cls d vs H Q E → vs.length = ps.length
  run : ∀ (A : Around) (outer : List Env) (s : Shared) (H : Hp) (args : Args) (us : List Value) (vs : List V) (Q : VK) (p : Addr × Obj) (cls : Value) (d : Option Addr), L2H.RoomH k A → L2H.PinOk outer H s p → Zc cls d p.2 → (∃ vs, p.2.data = .fields vs) → Env0 P w K mg base A outer s H → BindsTo s fd args (ps.zip us) → Vals vs us → sp p.1 cls d vs H Q E0 →
    codeAny (model P w) A (.call (.ref f) args) (CR CX0 outer P w H s Q E0) s
theorem fn_ofP {P : Program} {w : World} {K : PySem.W.Frag} {mg : Str → Option Value} {base : Heap} {k : Nat} {f : Addr} {x qual : Str} {st : Stmt} {fd : FuncData} {N ps : List Str} {sp : Addr → Value → Option Addr → Sp} (F : Fun K x qual st f fd) (S : FnScope N ps (defScope st))
    (len : ∀ a cls d vs H Q E, sp a cls d vs H Q E → vs.length = ps.length)
    (hbody : ∀ (cdv : Value) (A : Around) (outer : List Env) (s : Shared) (H : Hp) (vs : List V) (Q : VK) (p : Addr × Obj) (cls : Value) (d : Option Addr), Zc cls d p.2 → (∃ vs, p.2.data = .fields vs) → sp p.1 cls d vs H Q E0 →
      ∃ t, PSs (L2H.cxH CX0 P w K mg base N qual (defScope st) f cdv A outer s H E0 p) (defBody st) t ∧ t { nx := fun _ H' => Q .non H', rt := Q } (L2.start N vs) H) :
    FnP P w K mg base (k + 1) f fd ps sp := by
  obtain ⟨oc, od, kV, doc, pm, an, cdv, ct, osl, rfl, lk, hcd⟩ := F.ex
  refine ⟨len, fun A outer s H args us vs Q p cls d hr hpin hz hf e0 hb r hsp => ?_⟩
  have hl := len _ _ _ _ _ _ _ hsp
  have KX : K.In s.heap := e0.mod.kin.keeps fun b o e => (e0.bs b o e).1
  have lim : s.heap.NoLimit := e0.mod.nolimit.keeps fun b o e => (e0.bs b o e).1
  refine codeAny_call_function hr.depth (KX _ _ lk) rfl S.co S.gen rfl (PySem.W.codeRec_of KX hcd) (hb _ _ _ _ ?_)
  refine wpAny_newFunctionEnv_cells S.kind (fun ⟨n, v⟩ hy => (S.par n (List.of_mem_zip hy).1).elim .inl fun q => .inr ⟨q, PySem.W.cellsFrom_some _ _ _ (.inl q)⟩) fun env he s1 y => ?_
  subst he
  refine ⟨lim.keeps y.toInCall.keep, codeAny_func ?_⟩
  obtain ⟨t, ht, hq⟩ := hbody cdv A outer s H vs Q p cls d hz hf hsp
  refine wpAny_mono (ht.run [] s1 (L2.start N vs) H _ (L2H.inv_startH S hpin e0 hl r y) hq) (fun fl s' hs => ?_) fun e s' hs => hs
  cases fl with
  | ret u =>
    obtain ⟨v, σ', H', J, rv, q⟩ := hs
    exact ⟨v, H', J.os, J.bare, J.base, J.hok, rv, q⟩
  | next =>
    obtain ⟨σ', H', J, q⟩ := hs
    exact ⟨.non, H', J.os, J.bare, J.base, J.hok, rfl, q⟩
  | brk =>
    obtain ⟨_, _, _, q⟩ := hs
    exact q.elim
  | cont =>
    obtain ⟨_, _, _, q⟩ := hs
    exact q.elim
def tCallP (sp : Addr → Value → Option Addr → Sp) (a : Addr) (cls : Value) (d : Option Addr) (t : L2.TA) : TE := fun σ H Q => t σ H fun vs H1 => sp a cls d vs H1 Q E0
theorem pe_callP {X : Cx} {k : Nat} {f : Addr} {fd : FuncData} {ps : List Str} {sp : Addr → Value → Option Addr → Sp} {a : Addr} {oe : Obj} {cls : Value} {d : Option Addr} {x : Str} {q pos : Pos} {e : Expr} {es : List Expr} {t : L2.TA} (F : FnP X.prog X.w X.K X.mg X.base k f fd ps sp) (hr : L2H.RoomH k X.A) (hp : (a, oe) ∈ X.pn) (hz : Zc cls d oe) (hf : ∃ vs, oe.data = .fields vs)
    (hg : Gl X x) (hm : X.mg x = some (.ref f)) (hk : PySem.W.keepIn X.K (.ref f) = true) (hb : Binds X.K fd ps [])
    (ha : PA X (e :: es) t) (hdb : (x == ("__debug__" : Str)) = false := by decide) (he : starEach (e :: es) X.env = (false, eval e X.env) :: starEach es X.env := by rfl) (hpl : (backTo pos (starEach es X.env)).any (·.1) = false := by rfl) :
    PE X (.Call (.Name x q) (e :: es) [] pos) (tCallP sp a cls d t) := by
  refine ⟨fun pins s σ H Q I h => ?_⟩
  refine wpAny_Call_Name_kw (ld_glob I hg hm ?_ hdb)
  refine PySem.W.callWith_K (h₀ := X.base) I.ok.mod.kin hk (thn (ha.run pos pins s σ H _ I h) fun us s1 ⟨vs, H1, I1, r, h1⟩ => ⟨I1.kIn, ?_⟩) he hpl
  have hl : us.length = ps.length := by rw [← r.length]; exact F.len _ _ _ _ _ _ _ h1
  have b := hb s1 us I1.kIn (by rw [List.append_nil]; exact hl)
  rw [List.append_nil] at b
  have P1 := I1.pin (a, oe) (List.mem_append_left _ hp)
  refine wpAny_call (codeAny_mono (F.run X.A X.stack s1 H1 ⟨us, []⟩ us vs Q (a, oe) cls d hr ⟨P1.1, P1.2.1, fun m => (List.mem_cons.mp (I1.stkSub a m)).elim P1.2.2.1 P1.2.2.2.1, P1.2.2.2.2⟩ hz hf I1.env0 b r h1) fun r s' hq => ?_)
  cases r with
  | error e => exact (show False from hq).elim
  | ok fl =>
    cases fl with
    | ret u => exact I1.after hq
    | next => exact False.elim hq
    | brk => exact False.elim hq
    | cont => exact False.elim hq
/-! ### tables of code objects under changes -/
theorem TabS.kp {H H' : Hp} {P b : Addr} {q : Str} {ys : List V} (t : LamX.TabS H P q) (k : Kp b H H') (hb : H b = some (.lst ys)) : LamX.TabS H' P q := by
  obtain ⟨ps, h1, h2, h3⟩ := t
  refine ⟨ps, k _ _ (fun z => by rw [z, hb] at h1; cases h1) h1, h2, fun pos cv hc => ?_⟩
  obtain ⟨c, e1, e2⟩ := h3 pos cv hc
  exact ⟨c, e1, k _ _ (fun z => by rw [z, hb] at e2; unfold LamX.CodeO at e2; cases e2) e2⟩
theorem tabs_kp {T : List (Addr × Str)} {H H' : Hp} {b : Addr} {ys : List V} (t : LamX.Tabs T H) (k : Kp b H H') (hb : H b = some (.lst ys)) : LamX.Tabs T H' := fun p hp => TabS.kp (t p hp) k hb
theorem tabs_same {T : List (Addr × Str)} {H H' : Hp} (t : LamX.Tabs T H) (s : Same H H') : LamX.Tabs T H' := t.ext s
theorem Bag.b {l : Addr} {H : Hp} {b : Addr} (h : Bag l H b) : ∃ ys, H b = some (.lst ys) := by
  obtain ⟨ns, i, g, s, k, h1, h2, _⟩ := h
  exact ⟨_, h2⟩
theorem tabs_bag {T : List (Addr × Str)} {l : Addr} {H H' : Hp} {b : Addr} (t : LamX.Tabs T H) (B : Bag l H b) (k : Kp b H H') : LamX.Tabs T H' := by
  obtain ⟨ys, hb⟩ := B.b
  exact tabs_kp t k hb
theorem ext_tp {H H' : Hp} (e : LamX.ExtN H H') : Tp H H' := fun a xs h => e a _ h fun ps z => by cases z
theorem Bag.ext {l : Addr} {H H' : Hp} {b : Addr} (h : Bag l H b) (e : LamX.ExtN H H') : Bag l H' b := by
  obtain ⟨ns, i, g, s, k, h1, h2, h3, h4⟩ := h
  exact ⟨ns, i, g, s, k, h1, e _ _ h2 (fun ps z => by cases z), e _ _ h3 (fun ps z => by cases z), h4⟩
end Vw

set_option Elab.async false
set_option linter.all false
set_option maxRecDepth 100000
set_option maxHeartbeats 4000000
/-! a lambda asked under try; the law's end where it makes lambdas -/
namespace Vw
open PySem PySem.Spec PyProof.Rows L2
theorem tab_mk {K : PySem.W.Frag} {f cl Pl : Addr} {x qual : Str} {pr : Arguments} {bd : List Stmt} {sc : Scope} {dV kV dc pm ct oc occ : Value} {an od odc : Option Addr} {sl slc : Array (Option Value)} {vs : Array Value} (a : PySem.W.nsIn K mainGlobals x = some (some (.ref f)))
    (l : K.lookup f = some ⟨oc, od, .func (PySem.W.fnOf x qual pr bd sc dV kV dc pm an (.ref cl) ct), sl⟩) (lc : K.lookup cl = some ⟨occ, odc, .fields vs, slc⟩) (h : vs[11]? = some (.ref Pl)) : PySem.W.tabIn K x = some (cl, Pl) := by
  unfold PySem.W.tabIn
  rw [a]
  dsimp only
  rw [l]
  dsimp only
  show (match (Value.ref cl : Value) with | .ref c => _ | _ => none) = _
  dsimp only
  rw [lc]
  dsimp only
  rw [h]
theorem exm3 {K : PySem.W.Frag} {cls : Value} {A B C : Addr} (a1 : PySem.W.subIn K (.ref A) (.type "BaseException") = some true) (a2 : PySem.W.hasDictIn K A = true) (a3 : PySem.W.typeIn K (.ref A) = some (.type "type")) (b1 : PySem.W.subIn K (.ref B) (.type "BaseException") = some true) (b2 : PySem.W.hasDictIn K B = true) (b3 : PySem.W.typeIn K (.ref B) = some (.type "type"))
    (c1 : PySem.W.subIn K (.ref C) (.type "BaseException") = some true) (c2 : PySem.W.hasDictIn K C = true) (c3 : PySem.W.typeIn K (.ref C) = some (.type "type")) (ha : PySem.W.subIn K cls (.ref A) = some true) (hb : PySem.W.subIn K cls (.ref B) = some false) (hc : PySem.W.subIn K cls (.ref C) = some false) :
    PySem.W.exmAny K cls [.ref A, .ref B, .ref C] = some true := by
  unfold PySem.W.exmAny
  rw [PySem.W.exm_ref a1 a2 a3 ha]
  unfold PySem.W.exmAny
  rw [PySem.W.exm_ref b1 b2 b3 hb]
  unfold PySem.W.exmAny
  rw [PySem.W.exm_ref c1 c2 c3 hc]
  unfold PySem.W.exmAny
  rfl
/-! ### fields and told -/
def grp1 : List V := [.str "InvalidName", .str "DuplicateName", .str "Unguarded", .str "InvalidDoer", .str "UnknownName"]
def grp2 : List V := [.str "InvalidSentence", .str "InvalidCommand"]
def grp3 : List V := [.str "TooMany", .str "TooLong"]
/-- a code without fields -/
def plainC (nm : Str) : Bool := !inV (.str nm) grp1 && (!inV (.str nm) grp2 && (!inV (.str nm) grp3 && (!decide (V.str nm = V.str "InvalidLimit") && !decide (V.str nm = V.str "ParseError"))))
theorem code_look (nm : Str) : (codeF nm).lookup ("code" : Str) = some (V.str nm) := by simp [codeF, List.lookup]
/-- what is known of an error that is held -/
structure ErrA (K : PySem.W.Frag) (H : Hp) (cls : Value) (d : Option Addr) (nm : Str) : Prop where
  ex : ∃ C dd : Addr, cls = .ref C ∧ d = some dd ∧ XfC K C ∧ PySem.W.findIn K (.ref C) "code" = some none ∧ H dd = some (.xd (codeF nm))
theorem ErrA.same {K : PySem.W.Frag} {H H' : Hp} {cls : Value} {d : Option Addr} {nm : Str} (h : ErrA K H cls d nm) (s : Same H H') : ErrA K H' cls d nm := by
  obtain ⟨C, dd, a, b, c, e, f⟩ := h.ex
  exact ⟨C, dd, a, b, c, e, s _ _ f⟩
def spFields (K : PySem.W.Frag) : Addr → Value → Option Addr → Sp := fun a cls d vs H Q _ => ∃ nm : Str, vs = [.ref a] ∧ ErrA K H cls d nm ∧ plainC nm = true ∧ ∀ (q : Addr) (H' : Hp), Same H H' → TT K H' q [] → Q (.ref q) H'
def TTold3 (K : PySem.W.Frag) (cs : List Value) : (XK → Hp → VK → Prop) → Hp → VK → Prop := fun tl H Q =>
  tl (fun cls d H' => ∃ nm : Str, ErrA K H' cls d nm ∧ PySem.W.exmAny K cls cs = some true ∧ plainC nm = true ∧ ∀ (p : Addr) (H'' : Hp), Same H' H'' → TT K H'' p [.str "no", .str nm] → Q (.ref p) H'') H
    (fun v H' => [V.str "told", v].length ≤ sizeLine ∧ ∀ p : Addr, H' p = none → Q (.ref p) (upd H' p (.tup [.str "told", v])))
theorem takes_len {X : Cx} {W : WX} (tk : Takes X W) : Takes X (fun cls d σ H => σ.length = X.N.length → W cls d σ H) := fun u s' xx => by
  obtain ⟨a, B, sI, pins, σ, H, cls, d, rfl, J, nb, up, sky, na, os, ag, w⟩ := xx
  exact tk _ _ ⟨a, B, sI, pins, σ, H, cls, d, rfl, J, nb, up, sky, na, os, ag, w J.len⟩
theorem told_gives3 {X : Cx} {Ng : List Str} {x x1 x2 x3 xf q : Str} {sg : Scope} {g A1 A2 A3 ff : Addr} {fdf : FuncData} {cdg : Value} {k j1 j2 kt kk : Nat} {p1 p2 p3 p4 p5 p6 p7 p8 p9 p10 p11 p12 p13 p14 p15 p16 p17 p18 p19 p20 : Pos}
    (hr : Room (k + 2) X.A) (FF : FnP X.prog X.w X.K X.mg X.base k ff fdf ["_law_e"] (spFields X.K)) (mf : X.mg xf = some (.ref ff)) (kf : PySem.W.keepIn X.K (.ref ff) = true) (bf : Binds X.K fdf ["_law_e"] []) (gf : sg.names.lookup xf = some .globalImplicit) (df : (xf == ("__debug__" : Str)) = false)
    (g1 : sg.names.lookup x1 = some .globalImplicit) (m1 : X.mg x1 = some (.ref A1)) (d1 : (x1 == ("__debug__" : Str)) = false) (g2 : sg.names.lookup x2 = some .globalImplicit) (m2 : X.mg x2 = some (.ref A2)) (d2 : (x2 == ("__debug__" : Str)) = false)
    (g3 : sg.names.lookup x3 = some .globalImplicit) (m3 : X.mg x3 = some (.ref A3)) (d3 : (x3 == ("__debug__" : Str)) = false) (nd : Ng.Nodup) (n1 : Ng[1]? = some ("_law_e" : Str)) (le : sg.names.lookup ("_law_e" : Str) = some NameKind.local) (h0 : ∀ f : Addr, (L2.start Ng [V.ref f])[0]? = some (some (V.ref f))) (hlen : 1 < Ng.length) :
    LamX.GivesTo X Ng x sg g cdg [.Try [.Return (some (.Tuple [.Constant (.str "told") j1 p1, .Call (.Name "_law_ask_z" p2) [] [] p3] kt p4)) p5]
      [.ExceptHandler (some (.Tuple [.Name x1 p6, .Name x2 p7, .Name x3 p8] kk p9)) (some "_law_e") [.Return (some (.BinOp (.Tuple [.Constant (.str "no") j2 p10, .Attribute (.Name "_law_e" p11) "code" p12] kt p13) .Add (.Call (.Name xf p14) [.Name "_law_e" p15] [] p16) p17)) p18] p19] [] [] p20] "_law_ask_z" q (TTold3 X.K [.ref A1, .ref A2, .ref A3]) := by
  intro f c' s H Q tl act hc h
  have hve : Vis sg "_law_e" := .inl le
  have hrH := (L2H.roomH_of (hr.deeper (envOfC x sg s.heap.objs.size g cdg))).mono (Nat.le_succ k)
  refine ⟨_, pss_one (ps_try_as3 (X := (cxOf C8.CX0 X.prog X.w X.K X.mg X.base Ng x sg g cdg X.A X.stack s H C8.E0).nox) (i := 1) (c1 := .ref A1) (c2 := .ref A2) (c3 := .ref A3)
      (tb := fun W D σ H => ∃ Ech : XK, (∀ cls d (σ' : L2.St) H', Ech cls d H' → σ'.length = Ng.length → W cls d σ' H') ∧ σ[0]? = some (some (.ref f)) ∧ H c' = some (LamX.CodeO c' q) ∧ tl Ech H (fun v H1 => [V.str "told", v].length ≤ sizeLine ∧ ∀ p : Addr, H1 p = none → D.rt (.ref p) (upd H1 p (.tup [.str "told", v]))))
      (ts := fun a cls d => tRet (tOp (rCatO X.K) (tTup (tCons (tC (.str "no")) (tCons (tXfA X.K a cls d "code" (tVar 1)) tNil))) (tCallP (spFields X.K) a cls d (tCons (tVar 1) tNil))))
      rfl rfl nd n1 le ⟨g1, d1, .inl m1⟩ ⟨g2, d2, .inl m2⟩ ⟨g3, d3, .inl m3⟩ LamX.takes0 (fun W pn xe tk _ => ?_)
      (fun a oe cls d pn hz hf => pss_one (ps_ret (pe_op op_catO (pe_tup (pa_cons pe_str (pa_cons (pe_xfP (X := (cxOf C8.CX0 X.prog X.w X.K X.mg X.base Ng x sg g cdg X.A X.stack s H C8.E0).nox.suite a ((a, oe) :: pn)) (n := "code") (a := a) (oe := oe) List.mem_cons_self hz hf (pe_var (x := "_law_e") (i := 1) n1 hve)) pa_nil)))
        (pe_callP (X := (cxOf C8.CX0 X.prog X.w X.K X.mg X.base Ng x sg g cdg X.A X.stack s H C8.E0).nox.suite a ((a, oe) :: pn)) (a := a) (oe := oe) FF ⟨hrH.dp, hrH.un⟩ List.mem_cons_self hz hf gf mf kf bf (pa_cons (pe_var (x := "_law_e") (i := 1) n1 hve) pa_nil) df))))), ?_⟩
  · refine ⟨fun pins s' σ H' D I h' => ?_⟩
    obtain ⟨Ech, hW, h1, h2, h3⟩ := h'
    have hq : PSs ((cxOf C8.CX0 X.prog X.w X.K X.mg X.base Ng x sg g cdg X.A X.stack s H C8.E0).tr pn xe) [.Return (some (.Tuple [.Constant (.str "told") j1 p1, .Call (.Name "_law_ask_z" p2) [] [] p3] kt p4)) p5] _ := pss_one (ps_ret (pos := p5) (pe_tup (pos := p4) (pa_cons (pe_str (x := "told") (j := j1) (pos := p1)) (pa_cons (act _ pn xe Ech p2 p3 (takes_len tk) hW) pa_nil))))
    refine hq.run pins s' σ H' D I ?_
    exact ⟨h1, h2, h3⟩
  · refine ⟨_, fun cls d σ' H' hE hlen' => ?_, h0 f, hc, h⟩
    obtain ⟨nm, hA, hex, hpl, hQ⟩ := hE
    refine ⟨true, hex, fun _ a ha => ?_, fun z => Bool.noConfusion z⟩
    obtain ⟨C, dd, rfl, rfl, hx, hno, hdd⟩ := id hA.ex
    have hset : (σ'.set 1 (some (V.ref a)))[1]? = some (some (V.ref a)) := List.getElem?_set_self (by rw [hlen']; exact hlen)
    refine ⟨_, hset, rfl, C, dd, codeF nm, .str nm, rfl, rfl, hx, hno, hdd, code_look nm, (by show 2 ≤ sizeLine; decide), fun p np => ⟨_, hset, nm, rfl, hA.same (same_new np), hpl, fun q2 H2 s2 t2 => ?_⟩⟩
    refine rd_cat ((TT.of upd_same).same s2) t2 (by show 2 + 0 ≤ 100000; decide) fun p3 H3 s3 t3 => ?_
    exact hQ p3 H3 (((same_new np).trans s2).trans s3) t3
/-! ### a def that makes lambdas; a def that raises; the law's end -/
section
variable {P : Program} {w : World} {K : PySem.W.Frag} {mg : Str → Option Value} {base : Heap}
theorem fn_okC {x qual : Str} {st : Stmt} {f cl : Addr} {fd : FuncData} {N ps : List Str} {k : Nat} {sp : Sp} (F : Fun K x qual st f fd) (hc : fd.code = .ref cl) (S : FnScope N ps (defScope st)) (len : ∀ vs H Q E, sp vs H Q E → vs.length = ps.length)
    (hbody : ∀ (A : Around) (outer : List Env) (s : Shared) (H : Hp) (vs : List V) (Q : VK) (E : XK), Room k (A.deeper (envOfC qual (defScope st) s.heap.objs.size f (.ref cl))) → sp vs H Q E →
      ∃ t, PSs (cxOf CX0 P w K mg base N qual (defScope st) f (.ref cl) A outer s H E).nox (defBody st) t ∧ t { nx := fun _ H' => Q .non H', rt := Q } (start N vs) H) : FnOk P w K mg base CX0 (k + 1) f fd ps sp := by
  obtain ⟨oc, od, kV, doc, pm, an, cdv, ct, osl, rfl, lk, hcd⟩ := F.ex
  obtain rfl : cdv = Value.ref cl := hc
  refine fn_of lk hcd S len fun A outer s H vs Q E hr hsp => ?_
  obtain ⟨t, h, q⟩ := hbody A outer s H vs Q E hr hsp
  exact ⟨t, h.nox, q⟩
/-- a def that may raise, as it is called -/
structure CalX (P : Program) (w : World) (K : PySem.W.Frag) (mg : Str → Option Value) (base : Heap) (k : Nat) (x : Str) (ps : List Str) (sp : Sp) (f : Addr) (fd : FuncData) : Prop where
  G : FnOk P w K mg base (L2.CX P w) k f fd ps sp
  m : mg x = some (.ref f)
  kp : PySem.W.keepIn K (.ref f) = true
  b : Binds K fd ps []
end
/-- where lambdas stand for a law -/
def lamQ : Str := ("law" : Str) ++ ".<locals>." ++ "<lambda>"
def lamT (Pl : Addr) : List (Addr × Str) := [(Pl, lamQ)]
def spLawT (K : PySem.W.Frag) (Pl : Addr) : Sp := fun vs H Q _ => ∃ (a : Addr) (ns : List Int), vs = [.ref a] ∧ SqL K H a (ns.map V.int) ∧ ns.length ≤ 63 ∧ LamX.Tabs (lamT Pl) H ∧ ∀ H', Q (.bl true) H'
theorem walk_ofT3 {l : PySem.W.OpenLaw} {n k : Nat} {q : Program} {loose : List Str} {XP : (Str → Option Value) → Heap → Prop} {YP : World → Heap → Prop} {d : DefRec} {K : Params → PySem.W.Frag} {CX : World → CXT} {x y : Str}
    (hn : l.most = some n) (hn2 : n ≤ sizeLine) (hdf : d.params.defaults = []) (hr : Room k callerA) (hY : ∀ (w : World) (h : Heap), YP w h → (K w.params).In h) (hrec : (recsOf q).find? (fun e => e.name == y) = some d)
    (F : ∀ (w : World) (mg : Str → Option Value) (fa : Addr) (h : Heap), (K w.params).In h → h.Ns mainGlobals mg → mg d.name = some (.ref fa) →
      (∀ c P, PySem.W.tabIn (K w.params) y = some (c, P) → PySem.W.CodeHd h c P ∧ h.get? P = some (PySem.W.tabObj #[])) → LamX.LawAtS l w (K w.params) (CX w) k n x mg fa h)
    (hCX : ∀ (w : World) (H : Hp) (s : Shared) (e : Value) (s' : Shared), CX w [] H s (fun _ _ _ => False) e s' → False) :
    PySem.W.WalkO q loose XP YP l.row.toRowW d [] (fun f vs => PySem.call f vs) := by
  refine Att.attach_callB hn hdf fun w s₀ s₁ mg mb fa o pm cd doc a vs ns G Y ho hd hcd hmg hobj hints hlen hbits hg => ?_
  have KX := hY w _ Y
  obtain ⟨fd, cs, sp, hT, nT, C, hb, hsp, hF⟩ := F w mg fa _ KX G.T.g hmg fun c P ht => PySem.W.tab_of G.T KX hrec ht
  exact LamX.law_callTs KX G.T.g G.T.b G.T.builtins G.T.nolimit hg hT nT C G.T.bmain hobj hints (Nat.le_trans hlen hn2) hr hF hb (fun H hH hS => hsp H a ns hlen hbits hH hS) fun H e s' => hCX w H s₁ e s'
/-! ### data where a lambda is made; an expression whose answer is told once -/
section
variable {K : PySem.W.Frag} {H H' : Hp}
theorem rd_ext {a : Addr} {u : HO} (e : LamX.ExtN H H') (h : Rd H a u) (n : ∀ ps, u ≠ .tbl ps) : Rd H' a u := by
  rcases h with h | ⟨o, h⟩
  · exact .inl (e _ _ h n)
  · exact .inr ⟨o, e _ _ h fun ps z => by cases z⟩
theorem sql_ext {a : Addr} {xs : List V} (e : LamX.ExtN H H') (h : SqL K H a xs) : SqL K H' a xs := h.imp (fun h => rd_ext e h fun ps z => by cases z) id
theorem sqt_ext {a : Addr} {xs : List V} (e : LamX.ExtN H H') (h : SqT K H a xs) : SqT K H' a xs := h.imp (fun h => rd_ext e h fun ps z => by cases z) id
mutual
theorem dp_ext (e : LamX.ExtN H H') : ∀ {d : PyData} {v : V}, Dp K H v d → Dp K H' v d
  | _, _, .non => .non
  | _, _, .bl b => .bl b
  | _, _, .int i => .int i
  | _, _, .str x => .str x
  | _, _, .lst h t => .lst (sql_ext e h) (dpall_ext e t)
  | _, _, .tup h t => .tup (sqt_ext e h) (dpall_ext e t)
theorem dpall_ext (e : LamX.ExtN H H') : ∀ {ds : List PyData} {vs : List V}, DpAll K H vs ds → DpAll K H' vs ds
  | _, _, .nil => .nil
  | _, _, .cons h t => .cons (dp_ext e h) (dpall_ext e t)
end
/-- what told gives -/
def tupV (b : Bool) (nm : Str) : List V := if b = true then [.str "told", .non] else [.str "no", .str nm]
def tupD (b : Bool) (nm : Str) : PyData := if b = true then .tuple [.str "told", .none] else .tuple [.str "no", .str nm]
theorem tup_dp {p : Addr} {b : Bool} {nm : Str} (h : TT K H p (tupV b nm)) : Dp K H (.ref p) (tupD b nm) := by
  cases b with
  | true => exact .tup h.sq (.cons (.str _) (.cons .non .nil))
  | false => exact .tup h.sq (.cons (.str _) (.cons (.str _) .nil))
theorem tup_depth (b : Bool) (nm : Str) : (tupD b nm).depth ≤ 2 := by
  cases b <;> simp [tupD, PyData.depth, PyData.depthAll]
end
/-- an expression, what it answers said once -/
def tCutE (t : TE) : TE := fun σ H Q => ∃ Mid : V → Hp → Prop, t σ H Mid ∧ ∀ v H', Mid v H' → Q v H'
theorem pe_cut {X : Cx} {e : Expr} {t : TE} (h : PE X e t) : PE X e (tCutE t) := ⟨fun pins s σ H Q I ⟨Mid, h1, h2⟩ =>
  thn (h.run pins s σ H Mid I h1) fun u s1 ⟨v, H', J, r, q⟩ => ⟨v, H', J, r, h2 v H' q⟩⟩
end Vw

set_option Elab.async false
set_option linter.all false
set_option maxRecDepth 100000
set_option maxHeartbeats 4000000
namespace Vw
open PySem PySem.W PyProof.Rows L2
def top (i : Nat) : Stmt := PySem.Challenge.pw_vowstair_k07_rows_recognized.main.body.getD i (.Pass ⟨0, 0, 0, 0⟩)
abbrev s_law_bag : Stmt := top 19
theorem sc_law_bag : FnScope ["_law_script", "_law_salt", "_law_cell"] ["_law_script"] (defScope s_law_bag) := ⟨rfl, rfl, rfl, by decide +kernel, rfl, by decide +kernel, by decide +kernel⟩
abbrev s_law_pull : Stmt := top 20
theorem sc_law_pull : FnScope ["_law_bag_here", "_law_sides", "_law_cell", "_law_got", "_law_seed"] ["_law_bag_here", "_law_sides"] (defScope s_law_pull) := ⟨rfl, rfl, rfl, by decide +kernel, rfl, by decide +kernel, by decide +kernel⟩
abbrev s_law_of : Stmt := top 21
theorem sc_law_of : FnScope ["_law_bag_here", "_law_some"] ["_law_bag_here", "_law_some"] (defScope s_law_of) := ⟨rfl, rfl, rfl, by decide +kernel, rfl, by decide +kernel, by decide +kernel⟩
abbrev s_law_same : Stmt := top 22
theorem sc_law_same : FnScope ["_law_found", "_law_due", "_law_k"] ["_law_found", "_law_due"] (defScope s_law_same) := ⟨rfl, rfl, rfl, by decide +kernel, rfl, by decide +kernel, by decide +kernel⟩
abbrev s_law_num : Stmt := top 25
theorem sc_law_num : FnScope ["_law_many_z"] ["_law_many_z"] (defScope s_law_num) := ⟨rfl, rfl, rfl, by decide +kernel, rfl, by decide +kernel, by decide +kernel⟩
def KO (K : PySem.W.Frag) (a : Addr) (o : O) : Prop := OA K (fun _ => none) (.ref a) o
structure Txt (K : PySem.W.Frag) (mg : Str → Option Value) (aZERO : Addr) (aVowError : Addr) (aInvalidLevels : Addr) (aInvalidRow : Addr) (aMissing : Addr) (aNothingLeft : Addr) (fVI : Addr) : Prop where
  m_VowError : mg "VowError" = some (.ref aVowError)
  m_InvalidLevels : mg "InvalidLevels" = some (.ref aInvalidLevels)
  m_InvalidRow : mg "InvalidRow" = some (.ref aInvalidRow)
  m_Missing : mg "Missing" = some (.ref aMissing)
  m_NothingLeft : mg "NothingLeft" = some (.ref aNothingLeft)
  rz_InvalidLevels : RzC K aInvalidLevels fVI "InvalidLevels"
  ex_InvalidLevels : PySem.W.exmAny K (.ref aInvalidLevels) [.ref aVowError, .ref aMissing, .ref aNothingLeft] = some true
  rz_InvalidRow : RzC K aInvalidRow fVI "InvalidRow"
  ex_InvalidRow : PySem.W.exmAny K (.ref aInvalidRow) [.ref aVowError, .ref aMissing, .ref aNothingLeft] = some true
  z_len : mg "len" = none
  z_range : mg "range" = none
  z_enumerate : mg "enumerate" = none
  z_isinstance : mg "isinstance" = none
  z_int : mg "int" = none
  z_list : mg "list" = none
  z_tuple : mg "tuple" = none
  z_str : mg "str" = none
  z_bool : mg "bool" = none
  z_all : mg "all" = none
  z_sorted : mg "sorted" = none
  z_max : mg "max" = none
  z_ValueError : mg "ValueError" = none
  z_LookupError : mg "LookupError" = none
  z_IndexError : mg "IndexError" = none
  m_ZERO : mg "ZERO" = some (.ref aZERO)
  t_ZERO : KT K aZERO []
  m_MAX_LEVELS : ∃ t, mg "MAX_LEVELS" = some (.int 3 t)

section
variable {P : Program} {w : World} {K : PySem.W.Frag} {mg : Str → Option Value} {base : Heap}
theorem ok_bag  {aZERO : Addr} {aVowError : Addr} {aInvalidLevels : Addr} {aInvalidRow : Addr} {aMissing : Addr} {aNothingLeft : Addr} {fVI : Addr} (T : Txt K mg  aZERO aVowError aInvalidLevels aInvalidRow aMissing aNothingLeft fVI) {f : Addr} {fd : FuncData} {k : Nat} (F : Fun K "_law_bag" "_law_bag" s_law_bag f fd) : FnOk P w K mg base CX0 (k + 1) f fd ["_law_script"] (spBag K) := by
  refine F.ok sc_law_bag (fun vs H Q E h => ?_) (fun cdv A outer s H vs Q E hr h => ?_)
  · obtain ⟨a, ns, rfl, _⟩ := h; rfl
  obtain ⟨a, ns, rfl, hS, hl, q⟩ := h
  refine ⟨_, (pss_cons (ps_set (i := 1) sc_law_bag.nd rfl (Or.inl rfl) pe_int)
  (pss_cons (ps_for PassesOwn.never rfl (pi_list (pe_slice sl_list (pv 0) po_none (po_some pe_int))) (pg_name (i := 2) sc_law_bag.nd rfl (Or.inl rfl))
   (pss_one (ps_set (i := 1) sc_law_bag.nd rfl (Or.inl rfl) (pe_op op_mod (pe_op op_add (pe_op op_add (pe_op op_mul (pv 1) pe_int) (pe_op op_mod (pe_callTy call_int1 (by rfl) T.z_int (by decide +kernel) (pa_cons (pv 2) pa_nil)) pe_int)) pe_int) pe_int))))
  (pss_one (ps_ret (pe_lst (pa_cons (pe_callTy call_list_of (by rfl) T.z_list (by decide +kernel) (pa_cons (pe_slice sl_list (pv 0) po_none (po_some pe_int)) pa_nil)) (pa_cons pe_int (pa_cons pe_int (pa_cons (pv 1) (pa_cons pe_int pa_nil)))))))))), ?_⟩
  obtain ⟨ms, e1, e2⟩ := cut_map ns none (some 63)
  refine ⟨_, rfl, 63, rfl, a, _, rfl, hS, fun c nc => ⟨c, rfl, ⟨_, SqL.of upd_same⟩, ?_⟩⟩
  have s1 : Same H (upd H c (.lst (cutV (ns.map V.int) none (some 63)))) := same_new nc
  rw [e1] at s1 ⊢
  refine for_list (xs := ms.map V.int) (fun _ σ H' => H' = upd H c (.lst (ms.map V.int)) ∧ ∃ (z : Int) (u : Option V), σ = [some (.ref a), some (.int z), u] ∧ 0 ≤ z ∧ z < 2147483647) ⟨rfl, 3827, none, rfl, by decide, by decide⟩ (fun i σ H' _ h => ?_) (fun i x σ H' hx h => ?_) (fun σ H' h => ?_)
  · obtain ⟨rfl, _⟩ := h
    exact SqL.of upd_same
  · obtain ⟨rfl, z, u, rfl, z0, z1⟩ := h
    rw [List.getElem?_map] at hx
    cases hm : ms[i]? with
    | none => rw [hm] at hx; cases hx
    | some m =>
      rw [hm] at hx
      obtain rfl : V.int m = x := Option.some.inj hx
      refine ⟨_, rfl, _, _, rfl, rfl, .inl ⟨by omega, by omega⟩, _, rfl, .inl ⟨_, rfl, _, _, rfl, rfl, (by show (0 : Int) < 2147483587; decide), _, _, rfl, rfl, _, _, rfl, rfl, _, _, rfl, rfl, (by show (0 : Int) < 2147483647; decide), ?_⟩⟩
      exact ⟨rfl, _, _, rfl, Int.emod_nonneg _ (by decide), Int.emod_lt_of_pos _ (by decide)⟩
  · obtain ⟨rfl, z, u, rfl, z0, z1⟩ := h
    refine ⟨_, rfl, 63, rfl, a, _, rfl, s1.seq hS, fun d nd => ?_⟩
    rw [e1]
    have s2 := s1.trans (same_new (o := .lst (ms.map V.int)) nd)
    refine ⟨d, _, rfl, .inl (SqL.of upd_same), fun l nl => ?_⟩
    have s3 := s2.trans (same_new (o := .lst (ms.map V.int)) nl)
    refine ⟨_, rfl, (by show 5 ≤ sizeLine; decide), fun b nb => ?_⟩
    have s4 := s3.trans (same_new (o := .lst [.ref l, .int 0, .int 0, .int z, .int 0]) nb)
    have hlb : l ≠ b := fun e => by rw [e, upd_same] at nb; cases nb
    refine q l b _ (s3.free nb) s4 ⟨ms, 0, 0, z, 0, hlb, upd_same, ?_, by omega, by decide, z0, z1⟩
    rw [upd_ne hlb, upd_same]
theorem seed_bounds {s k : Int} : 0 ≤ (s + k * 7103) % 2147483647 ∧ (s + k * 7103) % 2147483647 < 2147483647 := ⟨Int.emod_nonneg _ (by decide), Int.emod_lt_of_pos _ (by decide)⟩
theorem ok_pull  {aZERO : Addr} {aVowError : Addr} {aInvalidLevels : Addr} {aInvalidRow : Addr} {aMissing : Addr} {aNothingLeft : Addr} {fVI : Addr} (T : Txt K mg  aZERO aVowError aInvalidLevels aInvalidRow aMissing aNothingLeft fVI) {f : Addr} {fd : FuncData} {k : Nat} (F : Fun K "_law_pull" "_law_pull" s_law_pull f fd) : FnOk P w K mg base CX0 (k + 1) f fd ["_law_bag_here", "_law_sides"] spPull := by
  refine F.ok sc_law_pull (fun vs H Q E h => ?_) (fun cdv A outer s H vs Q E hr h => ?_)
  · obtain ⟨_, b, n, rfl, _⟩ := h; rfl
  obtain ⟨l, b, n, rfl, n1, n2, ⟨ns, i, g, z, c, hlb, hb, hL, hl, i0, z0, z1⟩, q⟩ := h
  refine ⟨_, (C8.pss_cut (ps_if (PW.pt (pw_and (pt_cmpR op_eq (pe_ix ix_list (pv 0) pe_int (fun _ _ => rfl)) pe_int (nomark _)) (pw_and1 (pt_cmpR op_lt (pe_ix ix_list (pv 0) pe_int (fun _ _ => rfl)) (pe_callB call_len_seq (by rfl) T.z_len (by decide +kernel) (pa_cons (pe_ix ix_list (pv 0) pe_int (fun _ _ => rfl)) pa_nil)) (nomark _))))) (pss_cons (ps_set (i := 2) sc_law_pull.nd rfl (Or.inl rfl) (pe_ix ix_list (pe_ix ix_list (pv 0) pe_int (fun _ _ => rfl)) (pe_ix ix_list (pv 0) pe_int (fun _ _ => rfl)) (fun _ _ => rfl)))
  (pss_cons (ps_asg (pe_op op_add (pe_ix ix_list (pv 0) pe_int (fun _ _ => rfl)) pe_int) (pg_sub (pv 0) pe_int set_list))
  (pss_one (ps_if (pt_cmpR op_ge (pv 2) (pe_op op_pow pe_int pe_int) (nomark _)) (pss_one (ps_asg (pv 2) (pg_sub (pv 0) pe_int set_list))) (pss_one (ps_asg (pe_op op_mod (pe_op op_add (pe_op op_add (pe_op op_mul (pe_ix ix_list (pv 0) pe_int (fun _ _ => rfl)) pe_int) (pe_op op_mod (pe_callTy call_int1 (by rfl) T.z_int (by decide +kernel) (pa_cons (pv 2) pa_nil)) pe_int)) pe_int) pe_int) (pg_sub (pv 0) pe_int set_list))))))) pss_nil)
  (pss_cons (ps_if (pt_cmpR op_gt (pe_ix ix_list (pv 0) pe_int (fun _ _ => rfl)) pe_int (nomark _)) (pss_cons (ps_set (i := 3) sc_law_pull.nd rfl (Or.inl rfl) (pe_op op_mod (pe_callTy call_int1 (by rfl) T.z_int (by decide +kernel) (pa_cons (pe_ix ix_list (pv 0) pe_int (fun _ _ => rfl)) pa_nil)) (pv 1)))
  (pss_cons (ps_asg (pe_op op_fdivW (pe_ix ix_list (pv 0) pe_int (fun _ _ => rfl)) (pv 1)) (pg_sub (pv 0) pe_int set_list))
  (pss_one (ps_ret (pv 3))))) pss_nil)
  (pss_cons (ps_asg (pe_op op_add (pe_ix ix_list (pv 0) pe_int (fun _ _ => rfl)) pe_int) (pg_sub (pv 0) pe_int set_list))
  (pss_cons (ps_set (i := 4) sc_law_pull.nd rfl (Or.inl rfl) (pe_op op_mod (pe_op op_add (pe_ix ix_list (pv 0) pe_int (fun _ _ => rfl)) (pe_op op_mul (pe_ix ix_list (pv 0) pe_int (fun _ _ => rfl)) pe_int)) pe_int))
  (pss_cons (ps_asg (pe_op op_mod (pe_op op_add (pe_op op_add (pe_op op_pow (pv 4) pe_int) (pe_op op_mul pe_int (pv 4))) pe_int) pe_int) (pg_sub (pv 0) pe_int set_list))
  (pss_one (ps_ret (pe_op op_mod (pe_op op_add (pe_op op_fdiv (pe_ix ix_list (pv 0) pe_int (fun _ _ => rfl)) pe_int) (pe_op op_mul (pe_op op_mod (pe_callTy call_int1 (by rfl) T.z_int (by decide +kernel) (pa_cons (pe_ix ix_list (pv 0) pe_int (fun _ _ => rfl)) pa_nil)) pe_int) pe_int)) (pv 1))))))))), ?_⟩
  -- behind the draw of a cell
  let Mid : L2.St → Hp → Prop := fun σ' H' => ∃ (u2 u3 u4 : Option V) (i' g' z' : Int), σ' = [some (.ref b), some (.int n), u2, u3, u4] ∧ Kp b H H' ∧ H' b = some (.lst [.ref l, .int i', .int g', .int z', .int c]) ∧ 0 ≤ i' ∧ 0 ≤ z' ∧ z' < 2147483647
  have k0 : Kp b H H := Kp.refl H
  have hLs : ∀ H', Kp b H H' → SqL K H' l (ns.map V.int) := fun H' x => SqL.of (x _ _ hlb hL)
  refine ⟨Mid, ?_, ?_⟩
  · have m0 : Mid [some (V.ref b), some (V.int n), none, none, none] H := ⟨none, none, none, i, g, z, rfl, k0, hb, i0, z0, z1⟩
    refine ⟨_, rfl, b, _, 2, _, rfl, rfl, SqL.of hb, rfl, rfl, _, rfl, ?_⟩
    refine ite2 (fun e => ?_) (fun e => ?_)
    · refine ⟨_, rfl, b, _, 1, _, rfl, rfl, SqL.of hb, rfl, _, rfl, b, _, 0, _, rfl, rfl, SqL.of hb, rfl, l, _, rfl, .inl (SqL.of hL), _, _, rfl, rfl, _, rfl, ?_⟩
      refine ite2 (fun e2 => ?_) (fun e2 => ?_)
      · have hi : i < (ns.length : Int) := by
          have := of_decide_eq_true e2
          rw [List.length_map] at this
          exact this
        obtain ⟨v, hv, hat⟩ := atI_ex (xs := ns.map V.int) i0 (by rw [List.length_map]; exact hi)
        rw [List.getElem?_map] at hv
        obtain ⟨cell, _, rfl⟩ := Option.map_eq_some_iff.mp hv
        refine ⟨_, rfl, b, _, 0, _, rfl, rfl, SqL.of hb, rfl, _, rfl, b, _, 1, _, rfl, rfl, SqL.of hb, rfl, l, _, i, _, rfl, rfl, SqL.of hL, hat, ?_⟩
        refine ⟨_, rfl, b, _, 1, _, rfl, rfl, SqL.of hb, rfl, _, _, rfl, rfl, _, rfl, b, _, 1, 1, rfl, rfl, hb, rfl, ?_⟩
        refine ⟨_, rfl, _, _, rfl, rfl, ⟨by decide, by decide, by decide⟩, _, _, rfl, rfl, _, rfl, ?_⟩
        have hb1 : (upd H b (.lst (List.set [.ref l, .int i, .int g, .int z, .int c] 1 (.int (i + 1))))) b = some (.lst [.ref l, .int (i + 1), .int g, .int z, .int c]) := upd_same
        have k1 : Kp b H (upd H b (.lst (List.set [.ref l, .int i, .int g, .int z, .int c] 1 (.int (i + 1))))) := Kp.upd
        refine ite2 (fun e3 => ?_) (fun e3 => ?_)
        · refine ⟨_, rfl, _, rfl, b, _, 2, 2, rfl, rfl, hb1, rfl, ?_⟩
          exact ⟨_, _, _, i + 1, cell, z, rfl, k1.trans Kp.upd, upd_same, by omega, z0, z1⟩
        · refine ⟨_, rfl, b, _, 3, _, rfl, rfl, SqL.of hb1, rfl, _, _, rfl, rfl, .inl ⟨by omega, by omega⟩, _, rfl, .inl ⟨_, rfl, _, _, rfl, rfl, (by show (0 : Int) < 2147483579; decide), _, _, rfl, rfl, _, _, rfl, rfl, _, _, rfl, rfl, (by show (0 : Int) < 2147483647; decide), _, rfl, b, _, 3, 3, rfl, rfl, hb1, rfl, ?_⟩⟩
          exact ⟨_, _, _, i + 1, g, _, rfl, k1.trans Kp.upd, upd_same, by omega, Int.emod_nonneg _ (by decide), Int.emod_lt_of_pos _ (by decide)⟩
      · exact m0
    · exact m0
  · intro σ' H' hm
    obtain ⟨u2, u3, u4, i', g', z', rfl, k1, hb1, i1, z2, z3⟩ := hm
    have fin : ∀ (r : Int) (H2 : Hp) (g2 s2 c2 : Int), 0 ≤ r → r < n → Kp b H H2 → H2 b = some (.lst [.ref l, .int i', .int g2, .int s2, .int c2]) → 0 ≤ s2 → s2 < 2147483647 → Q (.int r) H2 := fun r H2 g2 s2 c2 r0 r1 kk hh s0 s1 =>
      q r H2 r0 r1 kk ⟨ns, i', g2, s2, c2, hlb, hh, kk _ _ hlb hL, hl, i1, s0, s1⟩
    refine ⟨_, rfl, b, _, 2, _, rfl, rfl, SqL.of hb1, rfl, _, _, rfl, rfl, _, rfl, ?_⟩
    refine ite2 (fun e => ?_) (fun e => ?_)
    · refine ⟨_, rfl, b, _, 2, _, rfl, rfl, SqL.of hb1, rfl, .inl ⟨_, rfl, _, rfl, _, _, rfl, rfl, (by omega), ?_⟩⟩
      refine ⟨_, rfl, b, _, 2, _, rfl, rfl, SqL.of hb1, rfl, _, rfl, _, _, rfl, rfl, wide_div (b := 100) (by omega) (by omega) (by decide) (by decide), _, rfl, b, _, 2, 2, rfl, rfl, hb1, rfl, ?_⟩
      refine ⟨_, rfl, ?_⟩
      exact fin _ _ _ z' c (Int.emod_nonneg _ (by omega)) (Int.emod_lt_of_pos _ (by omega)) (k1.trans Kp.upd) upd_same z2 z3
    · refine ⟨_, rfl, b, _, 4, _, rfl, rfl, SqL.of hb1, rfl, _, _, rfl, rfl, _, rfl, b, _, 4, 4, rfl, rfl, hb1, rfl, ?_⟩
      have hb2 : (upd H' b (.lst (List.set [.ref l, .int i', .int g', .int z', .int c] 4 (.int (c + 1))))) b = some (.lst [.ref l, .int i', .int g', .int z', .int (c + 1)]) := upd_same
      have k2 : Kp b H (upd H' b (.lst (List.set [.ref l, .int i', .int g', .int z', .int c] 4 (.int (c + 1))))) := k1.trans Kp.upd
      obtain ⟨sb0, sb1⟩ := seed_bounds (s := z') (k := c + 1)
      refine ⟨_, rfl, b, _, 3, _, rfl, rfl, SqL.of hb2, rfl, _, rfl, b, _, 4, _, rfl, rfl, SqL.of hb2, rfl, _, _, rfl, rfl, .inr ⟨by decide, by decide⟩, _, _, rfl, rfl, _, _, rfl, rfl, (by show (0 : Int) < 2147483647; decide), ?_⟩
      refine ⟨_, rfl, _, _, rfl, rfl, ⟨by decide, by decide, by omega⟩, _, rfl, _, _, rfl, rfl, .inl ⟨by decide, by decide⟩, _, _, rfl, rfl, _, _, rfl, rfl, _, _, rfl, rfl, (by show (0 : Int) < 2147483647; decide), _, rfl, b, _, 3, 3, rfl, rfl, hb2, rfl, ?_⟩
      refine ⟨_, rfl, b, _, 3, _, rfl, rfl, SqL.of upd_same, rfl, _, _, rfl, rfl, ⟨by decide, by decide⟩, _, rfl, b, _, 3, _, rfl, rfl, SqL.of upd_same, rfl, .inl ⟨_, rfl, _, _, rfl, rfl, (by show (0 : Int) < 7919; decide), _, _, rfl, rfl, .inr ⟨by decide, by decide⟩, _, _, rfl, rfl, _, rfl, _, _, rfl, rfl, (by omega), ?_⟩⟩
      exact fin _ _ _ _ (c + 1) (Int.emod_nonneg _ (by omega)) (Int.emod_lt_of_pos _ (by omega)) (k2.trans Kp.upd) upd_same (Int.emod_nonneg _ (by decide)) (Int.emod_lt_of_pos _ (by decide))
theorem ok_of  {aZERO : Addr} {aVowError : Addr} {aInvalidLevels : Addr} {aInvalidRow : Addr} {aMissing : Addr} {aNothingLeft : Addr} {fVI : Addr} (T : Txt K mg  aZERO aVowError aInvalidLevels aInvalidRow aMissing aNothingLeft fVI) {f f1 : Addr} {fd fd1 : FuncData} (F : Fun K "_law_of" "_law_of" s_law_of f fd) (C__law_pull : Cal P w K mg base 1 "_law_pull" ["_law_bag_here", "_law_sides"] spPull f1 fd1) : FnOk P w K mg base CX0 2 f fd ["_law_bag_here", "_law_some"] (spOf K) := by
  refine F.ok sc_law_of (fun vs H Q E h => ?_) (fun cdv A outer s H vs Q E hr h => ?_)
  · obtain ⟨_, _, _, _, rfl, _⟩ := h; rfl
  obtain ⟨l, b, a, xs, rfl, hB, hx, hne, q⟩ := h
  refine ⟨_, (pss_one (ps_ret (pe_ix ix_seq (pv 1) (pe_call C__law_pull.G (hr.mono (by omega)) (by rfl) C__law_pull.m C__law_pull.kp C__law_pull.b .nil pass0 (pa_cons (pv 0) (pa_cons (pe_callB call_lenB (by rfl) T.z_len (by decide +kernel) (pa_cons (pv 1) pa_nil)) pa_nil))) (fun _ _ => rfl)))), ?_⟩
  have hpos : 0 < xs.length := List.length_pos_iff.mpr hne
  refine ⟨_, rfl, _, rfl, _, rfl, rd_len (ys := xs) ?_ fun hz => ?_⟩
  · rcases hx with ⟨_, hx⟩ | hx
    · exact .inl (SqL.of hx)
    · exact .inr hx.sq
  have hz2 := line62 hz
  refine ⟨l, b, _, rfl, by omega, by omega, hB, fun r H1 r0 r1 k1 B1 => ?_⟩
  obtain ⟨v, hv, hat⟩ := atI_ex (xs := xs) r0 r1
  have hm : v ∈ xs := List.mem_of_getElem? hv
  rcases hx with ⟨hab, hx⟩ | hx
  · exact .inl ⟨a, xs, r, v, rfl, rfl, SqL.of (k1 _ _ hab hx), hat, q v H1 hm k1 B1⟩
  · exact .inr (.inl ⟨a, xs, r, v, rfl, rfl, (hx.tp (hB.tp k1)).sq, hat, q v H1 hm k1 B1⟩)
theorem ok_num  {aZERO : Addr} {aVowError : Addr} {aInvalidLevels : Addr} {aInvalidRow : Addr} {aMissing : Addr} {aNothingLeft : Addr} {fVI : Addr} (T : Txt K mg  aZERO aVowError aInvalidLevels aInvalidRow aMissing aNothingLeft fVI) {f : Addr} {fd : FuncData} {k : Nat} (F : Fun K "_law_num" "_law_num" s_law_num f fd) : FnOk P w K mg base CX0 (k + 1) f fd ["_law_many_z"] (spNum K) := by
  refine F.ok sc_law_num (fun vs H Q E h => ?_) (fun cdv A outer s H vs Q E hr h => ?_)
  · obtain ⟨_, rfl, _⟩ := h; rfl
  obtain ⟨n, rfl, q⟩ := h
  refine ⟨_, (pss_one (ps_ret (pe_ifExp (pt_cmpR op_gt (pv 0) pe_int (nomark _)) (pe_tup (pa_cons (pe_tup (pa_cons (pe_tup pa_nil) (pa_cons (pv 0) pa_nil))) pa_nil)) (pe_tup pa_nil)))), ?_⟩
  refine ⟨_, rfl, _, _, rfl, rfl, _, rfl, ?_⟩
  refine ite2 (fun e => ?_) (fun e => ?_)
  · have hn : 0 < n := of_decide_eq_true e
    refine ⟨(by show 0 ≤ sizeLine; decide), fun p0 n0 => ⟨_, rfl, (by show 2 ≤ sizeLine; decide), fun p1 n1 => ⟨(by show 1 ≤ sizeLine; decide), fun p2 n2 => ?_⟩⟩⟩
    refine q _ _ (((same_new n0).trans (same_new n1)).trans (same_new n2)) ?_
    have t1 := tp_new (o := .tup [.ref p0, .int n]) n1
    have t2 := tp_new (o := .tup [.ref p1]) n2
    have o0 := (OA.nil (K := K) (TT.of (H := upd H p0 (.tup [])) upd_same)).tp t1
    have hm : TmA K (upd (upd H p0 (.tup [])) p1 (.tup [.ref p0, .int n])) (.ref p1) (O.z, n) := ⟨p1, p0, rfl, .of upd_same, o0⟩
    have : O.num n = O.of [(O.z, n)] := by unfold O.num; rw [if_pos hn]; rfl
    rw [this]
    exact OA.of (.of upd_same) (.cons (hm.tp t2) .nil)
  · have hn : ¬ 0 < n := of_decide_eq_false (Bool.eq_false_iff.mpr e)
    refine ⟨(by show 0 ≤ sizeLine; decide), fun p0 n0 => ?_⟩
    refine q _ _ (same_new n0) ?_
    have : O.num n = O.z := by unfold O.num; rw [if_neg hn]
    rw [this]
    exact OA.nil (.of upd_same)
theorem ok_same  {aZERO : Addr} {aVowError : Addr} {aInvalidLevels : Addr} {aInvalidRow : Addr} {aMissing : Addr} {aNothingLeft : Addr} {fVI : Addr} (T : Txt K mg  aZERO aVowError aInvalidLevels aInvalidRow aMissing aNothingLeft fVI) {f : Addr} {fd : FuncData} {n : Nat} (F : Fun K "_law_same" "_law_same" s_law_same f fd) (C__law_same : Cal P w K mg base n "_law_same" ["_law_found", "_law_due"] (spSame K n) f fd) : FnOk P w K mg base CX0 (n + 1) f fd ["_law_found", "_law_due"] (spSame K (n + 1)) := by
  refine F.ok sc_law_same (fun vs H Q E h => ?_) (fun cdv A outer s H vs Q E hr h => ?_)
  · obtain ⟨_, _, _, rfl, _⟩ := h; rfl
  obtain ⟨x, y, d, rfl, hx, hy, hd, q⟩ := h
  refine ⟨_, (pss_cons (ps_if (pt_val (pe_callB call_isDT (by rfl) T.z_isinstance (by decide +kernel) (pa_cons (pv 1) (pa_cons (pe_tup (pa_cons (pe_bltn (v := .ty "list") (u := .type "list") (by rfl) T.z_list (by decide +kernel) rfl) (pa_cons (pe_bltn (v := .ty "tuple") (u := .type "tuple") (by rfl) T.z_tuple (by decide +kernel) rfl) pa_nil))) pa_nil)))) (pss_cons (ps_if (PW.pt (pw_or (pt_cmpR op_ne (pe_callB call_isD (by rfl) T.z_isinstance (by decide +kernel) (pa_cons (pv 0) (pa_cons (pe_bltn (v := .ty "list") (u := .type "list") (by rfl) T.z_list (by decide +kernel) rfl) pa_nil))) (pe_callB call_isD (by rfl) T.z_isinstance (by decide +kernel) (pa_cons (pv 1) (pa_cons (pe_bltn (v := .ty "list") (u := .type "list") (by rfl) T.z_list (by decide +kernel) rfl) pa_nil))) (nomark _)) (pw_or1 (pt_cmpR op_ne (pe_callB call_isD (by rfl) T.z_isinstance (by decide +kernel) (pa_cons (pv 0) (pa_cons (pe_bltn (v := .ty "tuple") (u := .type "tuple") (by rfl) T.z_tuple (by decide +kernel) rfl) pa_nil))) (pe_callB call_isD (by rfl) T.z_isinstance (by decide +kernel) (pa_cons (pv 1) (pa_cons (pe_bltn (v := .ty "tuple") (u := .type "tuple") (by rfl) T.z_tuple (by decide +kernel) rfl) pa_nil))) (nomark _))))) (pss_one (ps_ret pe_bl)) pss_nil)
  (pss_one (ps_ret (pe_and (pe_cmpR op_eq (pe_callB call_lenB (by rfl) T.z_len (by decide +kernel) (pa_cons (pv 0) pa_nil)) (pe_callB call_lenB (by rfl) T.z_len (by decide +kernel) (pa_cons (pv 1) pa_nil)) (nomark _)) (pe_one (pe_callB (cr_all rfl) (by rfl) T.z_all (by decide +kernel) (pa_cons (pe_lc (own := [("_law_k", 2)]) (g := gName 2) (tt := tYes) rfl sc_law_same.nd (pi_range1 (by rfl) T.z_range (pa_cons (pe_callB call_lenB (by rfl) T.z_len (by decide +kernel) (pa_cons (pv 1) pa_nil)) pa_nil)) (blkOk_by (own := [("_law_k", 2)]) (N := ["_law_found", "_law_due", "_law_k"]) (sc := defScope s_law_same) (by decide +kernel)) (fun _ _ _ _ _ => (pg_name (i := 2) sc_law_same.nd rfl (Or.inl rfl))) (fun _ _ _ _ _ => pts_nil) (fun _ _ _ _ _ => (pe_call C__law_same.G (hr.mono (by omega)) (by rfl) C__law_same.m C__law_same.kp C__law_same.b .nil pass0 (pa_cons (pe_ix (r := rIx K) ix_seq (pv 0) (pv 2) (fun _ _ => rfl)) (pa_cons (pe_ix (r := rIx K) ix_seq (pv 1) (pv 2) (fun _ _ => rfl)) pa_nil))))) pa_nil))))))) pss_nil)
  (pss_cons (ps_if (PW.pt (pw_or (pt_cmpR op_isN (pv 1) pe_non (nomark _)) (pw_or1 (pt_cmpR op_isN (pv 0) pe_non (nomark _))))) (pss_one (ps_ret (pe_and (pe_cmpR op_isN (pv 0) pe_non (nomark _)) (pe_one (pe_cmpR op_isN (pv 1) pe_non (nomark _)))))) pss_nil)
  (pss_cons (ps_if (PW.pt (pw_or (pt_cmpR op_ne (pe_callB call_isD (by rfl) T.z_isinstance (by decide +kernel) (pa_cons (pv 1) (pa_cons (pe_bltn (v := .ty "bool") (u := .type "bool") (by rfl) T.z_bool (by decide +kernel) rfl) pa_nil))) (pe_callB call_isD (by rfl) T.z_isinstance (by decide +kernel) (pa_cons (pv 0) (pa_cons (pe_bltn (v := .ty "bool") (u := .type "bool") (by rfl) T.z_bool (by decide +kernel) rfl) pa_nil))) (nomark _)) (pw_or1 (pt_cmpR op_ne (pe_callB call_isD (by rfl) T.z_isinstance (by decide +kernel) (pa_cons (pv 1) (pa_cons (pe_bltn (v := .ty "int") (u := .type "int") (by rfl) T.z_int (by decide +kernel) rfl) pa_nil))) (pe_callB call_isD (by rfl) T.z_isinstance (by decide +kernel) (pa_cons (pv 0) (pa_cons (pe_bltn (v := .ty "int") (u := .type "int") (by rfl) T.z_int (by decide +kernel) rfl) pa_nil))) (nomark _))))) (pss_one (ps_ret pe_bl)) pss_nil)
  (pss_one (ps_ret (pe_and (pe_cmpR op_eq (pe_callB call_isD (by rfl) T.z_isinstance (by decide +kernel) (pa_cons (pv 1) (pa_cons (pe_bltn (v := .ty "str") (u := .type "str") (by rfl) T.z_str (by decide +kernel) rfl) pa_nil))) (pe_callB call_isD (by rfl) T.z_isinstance (by decide +kernel) (pa_cons (pv 0) (pa_cons (pe_bltn (v := .ty "str") (u := .type "str") (by rfl) T.z_str (by decide +kernel) rfl) pa_nil))) (nomark _)) (pe_one (pe_cmpR op_eq (pv 0) (pv 1) (nomark _))))))))), ?_⟩
  refine ⟨_, rfl, (by show 2 ≤ sizeLine; decide), fun tp ntp => rd_lt2 (dp_same (same_new ntp) hy) upd_same ⟨_, rfl, ?_⟩⟩
  have s1 : Same H (upd H tp (.tup [.ty "list", .ty "tuple"])) := same_new ntp
  generalize upd H tp (.tup [.ty "list", .ty "tuple"]) = H1 at s1
  have hx1 := dp_same s1 hx
  have hy1 := dp_same s1 hy
  have fin : ∀ H', Same H1 H' → Q (.bl true) H' := fun H' z => q H' (s1.trans z)
  clear q
  refine ite2 (fun e => ?_) (fun e => ?_)
  · refine ⟨_, rfl, rd_list hx1 ⟨_, rfl, rd_list hy1 ⟨rfl, _, rfl, ?_⟩⟩⟩
    rw [decide_eq_true rfl]
    refine iteF ⟨_, rfl, rd_tuple hx1 ⟨_, rfl, rd_tuple hy1 ⟨rfl, _, rfl, ?_⟩⟩⟩
    rw [decide_eq_true rfl]
    refine iteF ?_
    obtain ⟨p1, p2, xs, ys, ds, rfl, rfl, h1, h2, a1, a2, hdep⟩ : ∃ p1 p2 xs ys ds, x = .ref p1 ∧ y = .ref p2 ∧ (SqL K H1 p1 xs ∨ SqT K H1 p1 xs) ∧ (SqL K H1 p2 ys ∨ SqT K H1 p2 ys) ∧ DpAll K H1 xs ds ∧ DpAll K H1 ys ds ∧ PyData.depthAll ds < n := by
      cases d with
      | list ds =>
        cases hx1 with
        | lst h1 a1 => cases hy1 with
          | lst h2 a2 => exact ⟨_, _, _, _, ds, rfl, rfl, .inl h1, .inl h2, a1, a2, by simp only [PyData.depth] at hd; omega⟩
      | tuple ds =>
        cases hx1 with
        | tup h1 a1 => cases hy1 with
          | tup h2 a2 => exact ⟨_, _, _, _, ds, rfl, rfl, .inr h1, .inr h2, a1, a2, by simp only [PyData.depth] at hd; omega⟩
      | _ => cases e
    have hl : xs.length = ys.length := (dpall_len a1).trans (dpall_len a2).symm
    refine ⟨_, rfl, rd_len h1 fun z1 => ⟨_, rfl, rd_len h2 fun z2 => ⟨rfl, _, rfl, ?_⟩⟩⟩
    rw [hl, decide_eq_true rfl]
    refine iteT ⟨_, rfl, rd_len h2 fun z2 => ⟨_, rfl, (line62 z2).1, (line62 z2).2, fun D nD => ?_⟩⟩
    refine lc_range (lo := 0) (n := (ys.length : Int).toNat) (fun i H' => Same H1 H' ∧ H' D = some (.lst (List.replicate i (.bl true)))) ⟨same_new nD, upd_same⟩ (fun i H' hi hp => ?_) (fun H' hp => ?_)
    · obtain ⟨sm, eD⟩ := hp
      refine ⟨rfl, ?_⟩
      have hi2 : i < ys.length := by omega
      have hi1 : i < xs.length := by omega
      have gx := List.getElem?_eq_getElem hi1
      have gy := List.getElem?_eq_getElem hi2
      obtain ⟨dx, e1, f1⟩ := dpall_get a1 gx
      obtain ⟨dy, e2, f2⟩ := dpall_get a2 gy
      have : dx = dy := Option.some.inj (e1.symm.trans e2)
      subst this
      have hk : (0 : Int) + (i : Nat) = ((i : Nat) : Int) := by omega
      have ix : ∀ (p : Addr) (zs : List V) (v : V), (SqL K H1 p zs ∨ SqT K H1 p zs) → zs[i]? = some v → ∀ (Q' : VK), Q' v H' → rIx K (.ref p) (.int (0 + (i : Nat))) H' Q' := fun p zs v hz hv Q' hq => by
        rw [hk]
        rcases hz with hz | hz
        · exact .inl ⟨p, zs, _, v, rfl, rfl, sm.seq hz, atI_nat hv, hq⟩
        · exact .inr (.inl ⟨p, zs, _, v, rfl, rfl, same_sqt sm hz, atI_nat hv, hq⟩)
      refine ⟨_, rfl, _, rfl, ix _ _ _ h1 gx _ ⟨_, rfl, _, rfl, ix _ _ _ h2 gy _ ?_⟩⟩
      refine ⟨_, _, dx, rfl, dp_same sm f1, dp_same sm f2, Nat.lt_of_le_of_lt (depth_get e1) hdep, fun H2 s2 => ?_⟩
      have eD2 := s2 _ _ eD
      refine ⟨_, eD2, by rw [List.length_replicate]; omega, same_mut (sm.trans s2) nD, ?_⟩
      rw [upd_same, ← List.replicate_succ']
    · obtain ⟨sm, eD⟩ := hp
      refine ⟨D, List.replicate ((ys.length : Int).toNat) true, rfl, SqL.of (by rw [List.map_replicate]; exact eD), ?_⟩
      have : (List.replicate ((ys.length : Int).toNat) true).all id = true := by rw [List.all_eq_true]; intro b hb; exact (List.mem_replicate.mp hb).2
      rw [this]
      exact fin H' sm
  · have sc : (∃ i, x = .int i ∧ y = .int i) ∨ (∃ i, x = .bl i ∧ y = .bl i) ∨ (∃ i, x = .str i ∧ y = .str i) ∨ (x = .non ∧ y = .non) := by
      cases d with
      | none => cases hx1; cases hy1; exact .inr (.inr (.inr ⟨rfl, rfl⟩))
      | bool b => cases hx1; cases hy1; exact .inr (.inl ⟨_, rfl, rfl⟩)
      | int b => cases hx1; cases hy1; exact .inl ⟨_, rfl, rfl⟩
      | str b => cases hx1; cases hy1; exact .inr (.inr (.inl ⟨_, rfl, rfl⟩))
      | list _ => exact absurd rfl e
      | tuple _ => exact absurd rfl e
      | dict kv => exact absurd rfl (dp_nodict hx1 kv)
    have hxy : x = y := by rcases sc with ⟨i, rfl, rfl⟩ | ⟨i, rfl, rfl⟩ | ⟨i, rfl, rfl⟩ | ⟨rfl, rfl⟩ <;> rfl
    have hscal : scal x y = true := by rcases sc with ⟨i, rfl, rfl⟩ | ⟨i, rfl, rfl⟩ | ⟨i, rfl, rfl⟩ | ⟨rfl, rfl⟩ <;> rfl
    clear sc
    subst hxy
    refine ⟨_, rfl, rfl, _, rfl, ?_⟩
    refine ite2 (fun e2 => ?_) (fun e2 => ?_)
    · obtain rfl : x = V.non := of_decide_eq_true e2
      exact iteT ⟨_, rfl, rfl, _, rfl, iteT ⟨_, rfl, rfl, fin H1 (Same.refl H1)⟩⟩
    · refine ⟨_, rfl, rfl, _, rfl, ?_⟩
      rw [Bool.eq_false_iff.mpr e2]
      refine iteF ⟨_, rfl, rd_bool hy1 ⟨_, rfl, rd_bool hx1 ⟨rfl, _, rfl, ?_⟩⟩⟩
      rw [decide_eq_true rfl]
      refine iteF ⟨_, rfl, rd_int hy1 ⟨_, rfl, rd_int hx1 ⟨rfl, _, rfl, ?_⟩⟩⟩
      rw [decide_eq_true rfl]
      refine iteF ⟨_, rfl, rd_str hy1 ⟨_, rfl, rd_str hx1 ⟨rfl, _, rfl, ?_⟩⟩⟩
      rw [decide_eq_true rfl]
      refine iteT ⟨_, rfl, _, rfl, hscal, ?_⟩
      rw [decide_eq_true rfl]
      exact fin H1 (Same.refl H1)
end
end Vw

set_option Elab.async false
set_option linter.all false
set_option maxRecDepth 100000
set_option maxHeartbeats 4000000
namespace Vw
open PySem PySem.W PyProof.Rows L2
section
variable {P : Program} {w : World} {K : PySem.W.Frag} {mg : Str → Option Value} {base : Heap}
abbrev s_law_next : Stmt := top 29
theorem sc_law_next : FnScope ["_law_here"] ["_law_here"] (defScope s_law_next) := ⟨rfl, rfl, rfl, by decide +kernel, rfl, by decide +kernel, by decide +kernel⟩
theorem ok_lnext  {aZERO : Addr} {aVowError : Addr} {aInvalidLevels : Addr} {aInvalidRow : Addr} {aMissing : Addr} {aNothingLeft : Addr} {fVI : Addr} (T : Txt K mg  aZERO aVowError aInvalidLevels aInvalidRow aMissing aNothingLeft fVI) {f f1 f2 : Addr} {fd fd1 fd2 : FuncData} (F : Fun K "_law_next" "_law_next" s_law_next f fd) (C__law_sum : Cal P w K mg base 1 "_law_sum" ["_law_here", "_law_there"] (spPlus K) f1 fd1)
    (C__law_num : Cal P w K mg base 1 "_law_num" ["_law_many_z"] (spNum K) f2 fd2) : FnOk P w K mg base CX0 2 f fd ["_law_here"] (spO1 K fun a => O.sum a O.one) := by
  refine F.ok sc_law_next (fun vs H Q E h => ?_) (fun cdv A outer s H vs Q E hr h => ?_)
  · obtain ⟨_, _, rfl, _⟩ := h; rfl
  obtain ⟨x, a, rfl, hx, ha, da, la, q⟩ := h
  refine ⟨_, (pss_one (ps_ret (pe_call C__law_sum.G (hr.mono (by omega)) (by rfl) C__law_sum.m C__law_sum.kp C__law_sum.b .nil pass0 (pa_cons (pv 0) (pa_cons (pe_call C__law_num.G (hr.mono (by omega)) (by rfl) C__law_num.m C__law_num.kp C__law_num.b .nil pass0 (pa_cons pe_int pa_nil)) pa_nil))))), ?_⟩
  refine ⟨_, rfl, 1, rfl, fun v1 H1 s1 o1 => ?_⟩
  have n1 : O.num 1 = O.one := by decide
  rw [n1] at o1
  exact ⟨_, _, a, O.one, rfl, hx.same s1, o1, ha, da, by decide, la, by decide, fun v2 H2 s2 o2 => q v2 H2 (s1.trans s2) o2⟩
abbrev s_law_raise : Stmt := top 30
theorem sc_law_raise : FnScope ["_law_here", "_law_last", "_law_left", "_law_term_z"] ["_law_here", "_law_last"] (defScope s_law_raise) := ⟨rfl, rfl, rfl, by decide +kernel, rfl, by decide +kernel, by decide +kernel⟩
theorem ok_lraise  {aZERO : Addr} {aVowError : Addr} {aInvalidLevels : Addr} {aInvalidRow : Addr} {aMissing : Addr} {aNothingLeft : Addr} {fVI : Addr} (T : Txt K mg  aZERO aVowError aInvalidLevels aInvalidRow aMissing aNothingLeft fVI) {f f1 : Addr} {fd fd1 : FuncData} (F : Fun K "_law_raise" "_law_raise" s_law_raise f fd) (C__law_sum : Cal P w K mg base 1 "_law_sum" ["_law_here", "_law_there"] (spPlus K) f1 fd1) : FnOk P w K mg base CX0 2 f fd ["_law_here", "_law_last"] (spO2 K O.raisedO) := by
  refine F.ok sc_law_raise (fun vs H Q E h => ?_) (fun cdv A outer s H vs Q E hr h => ?_)
  · obtain ⟨_, _, _, _, rfl, _⟩ := h; rfl
  obtain ⟨x, y, a, e, rfl, hx, hy, ha, he, da, de, la, le, q⟩ := h
  refine ⟨_, (pss_cons (ps_set (i := 2) sc_law_raise.nd rfl (Or.inl rfl) (pe_callTy call_tuple_of (by rfl) T.z_tuple (by decide +kernel) (pa_cons (pe_lc (own := [("_law_term_z", 3)]) (g := gName 3) rfl sc_law_raise.nd (pi_tup (pv 0)) (blkOk_by (own := [("_law_term_z", 3)]) (N := ["_law_here", "_law_last", "_law_left", "_law_term_z"]) (sc := defScope s_law_raise) (by decide +kernel)) (fun _ _ _ _ _ => (pg_name (i := 3) sc_law_raise.nd rfl (Or.inl rfl))) (fun _ _ _ _ _ => (pts_one (pt_cmpR (r := rCmp (fun d e => !dataLt d e) K) (op_geD hr.units) (pe_ix (r := rIxT K) ix_tup (pv 3) pe_int (fun _ _ => rfl)) (pv 1) (nomark _)))) (fun _ _ _ _ _ => (pv 3))) pa_nil)))
  (pss_cons (ps_ifBy (PW.pt (pw_or (pt_cmpR (op_eqO hr.units) (pv 1) (pe_tup pa_nil) (nomark _)) (pw_or1 (PW.pt (pw_and (pt_cmpR (op_eqO hr.units) (pv 2) (pv 0) (nomark _)) (pw_and1 (pt_cmpR (op_neO hr.units) (pv 0) (pe_tup pa_nil) (nomark _)))))))) (pss_one (ps_ret (pv 0))) pss_nil)
  (pss_one (ps_ret (pe_call C__law_sum.G (hr.mono (by omega)) (by rfl) C__law_sum.m C__law_sum.kp C__law_sum.b .nil pass0 (pa_cons (pv 2) (pa_cons (pe_tup (pa_cons (pe_tup (pa_cons (pv 1) (pa_cons pe_int pa_nil))) pa_nil)) pa_nil))))))), ?_⟩
  rw [← O.raised_law ha] at q
  obtain ⟨ax, rfl⟩ := hx.ref
  obtain ⟨xs, tx, px⟩ := hx.tt
  have lx : xs.length ≤ 900 := by rw [paired_len px]; exact la
  refine ⟨_, rfl, ax, rfl, ⟨_, tx.sq⟩, fun D nD => ?_⟩
  refine lc_tup (K := K) (a := ax) (xs := xs) (fun i H' => Same H H' ∧ ∃ acc, H' D = some (.lst acc) ∧ acc.length ≤ i ∧ Paired (TmA K H) acc (((O.ts a).take i).filter fun t => !O.lt t.1 e)) ⟨same_new nD, [], upd_same, Nat.le_refl _, .nil⟩ (fun i H' _ h => (tx.same h.1).sq) (fun i v H' hv h => ?_) (fun H' h => ?_)
  · obtain ⟨sm, acc, eD, hl, pa⟩ := h
    obtain ⟨t, ht, p1, q1, rfl, t1, o1⟩ := paired_get px hv
    have hi : i < 900 := by have := (List.getElem?_eq_some_iff.mp hv).1; omega
    have dt := O.dp_mem (List.mem_of_getElem? ht)
    refine ⟨rfl, _, rfl, p1, _, 0, _, rfl, rfl, (t1.same sm).sq, rfl, _, rfl, rd_ge (o1.same sm) (hy.same sm) (by omega) ⟨_, rfl, ?_⟩⟩
    refine ite2 (fun e1 => ?_) (fun e1 => ?_)
    · refine ⟨_, rfl, acc, eD, small1000 (by omega), same_mut sm nD, _, upd_same, by rw [List.length_append]; show acc.length + 1 ≤ i + 1; omega, ?_⟩
      rw [take_filter _ _ _ _ ht, if_pos e1]
      exact paired_app pa (.cons ⟨p1, q1, rfl, t1, o1⟩ .nil)
    · refine ⟨sm, acc, eD, by omega, ?_⟩
      rw [take_filter _ _ _ _ ht, if_neg e1, List.append_nil]
      exact pa
  obtain ⟨s1, gs, eD, gl, pg⟩ := h
  rw [paired_len px, List.take_length] at pg
  refine ⟨D, gs, rfl, .inl ⟨SqL.of eD, fun g ng => ?_⟩⟩
  have s2 := s1.trans (same_new (o := .tup gs) ng)
  have og : OA K (upd H' g (.tup gs)) (.ref g) (O.keep e a) := OA.of (.of upd_same) (terms_same pg s2)
  generalize upd H' g (.tup gs) = H2 at s2 og
  have dk := O.dp_keep e a
  have lk := O.len_keep e a
  refine ⟨fun H3 => Same H2 H3 ∧ (e = .z ∨ (O.keep e a = a ∧ a ≠ .z)), fun H3 => Same H2 H3 ∧ ¬ (e = .z ∨ (O.keep e a = a ∧ a ≠ .z)), ?_, fun H3 h => ?_, fun H3 h => ?_⟩
  · refine ⟨_, rfl, (by show 0 ≤ sizeLine; decide), fun p1 n1 => ?_⟩
    have t1 := same_new (o := .tup []) n1
    refine rd_eq ((hy.same s2).same t1) (OA.nil (.of upd_same)) (by omega) (by decide) ⟨_, rfl, ?_⟩
    refine ite2 (fun e1 => iteT ⟨t1, .inl (of_decide_eq_true e1)⟩) (fun e1 => ?_)
    have hez : ¬ e = .z := of_decide_eq_false (Bool.eq_false_iff.mpr e1)
    refine ⟨_, rfl, _, rfl, rd_eq (og.same t1) ((hx.same s2).same t1) (by omega) (by omega) ⟨_, rfl, ?_⟩⟩
    refine ite2 (fun e2 => ?_) (fun e2 => iteF ⟨t1, fun h => h.elim hez fun h => e2 (decide_eq_true h.1)⟩)
    refine ⟨_, rfl, (by show 0 ≤ sizeLine; decide), fun p2 n2 => ?_⟩
    have t2 := t1.trans (same_new (o := .tup []) n2)
    refine rd_ne ((hx.same s2).same t2) (OA.nil (.of upd_same)) (by omega) (by decide) ⟨_, rfl, ?_⟩
    refine ite2 (fun e3 => ⟨t2, .inr ⟨of_decide_eq_true e2, fun z => by rw [z] at e3; exact absurd e3 (by decide)⟩⟩) (fun e3 => ⟨t2, fun h => h.elim hez fun h => e3 (by
      have : decide (a = O.z) = false := decide_eq_false h.2
      rw [this]; rfl)⟩)
  · obtain ⟨s3, h⟩ := h
    rw [if_pos h] at q
    exact ⟨_, rfl, q _ H3 (s2.trans s3) (hx.same (s2.trans s3))⟩
  · obtain ⟨s3, h⟩ := h
    rw [if_neg h] at q
    have s4 := s2.trans s3
    obtain ⟨ya, rfl⟩ := hy.ref
    refine ⟨_, rfl, _, rfl, (by show 2 ≤ sizeLine; decide), fun p1 n1 => ⟨(by show 1 ≤ sizeLine; decide), fun p2 n2 => ?_⟩⟩
    have t1 := same_new (o := .tup [.ref ya, .int 1]) n1
    have t2 := same_new (o := .tup [.ref p1]) n2
    have ow := OA.of (K := K) (l := [(e, 1)]) (.of (H := upd (upd H3 p1 (.tup [.ref ya, .int 1])) p2 (.tup [.ref p1])) upd_same) (.cons ((TmA.new ((hy.same s4).same t1) upd_same).same t2) .nil)
    exact ⟨_, _, O.keep e a, O.pw e, rfl, og.same (s3.trans (t1.trans t2)), ow, O.ok_keep ha, by omega, by show max (O.dp e + 2) 0 ≤ 50; omega, by omega, by show 1 ≤ 1000; decide, fun v H5 s5 o5 => q v H5 ((s4.trans (t1.trans t2)).trans s5) o5⟩
end
end Vw

set_option Elab.async false
set_option linter.all false
set_option maxRecDepth 100000
set_option maxHeartbeats 4000000
namespace Vw
open PySem PySem.W PyProof.Rows L2
abbrev s_law_ordinal : Stmt := top 26
theorem sc_law_ordinal : FnScope ["_law_bag_here", "_law_deep", "_law_some", "_law_found", "_law_power", "_law_k"] ["_law_bag_here", "_law_deep"] (defScope s_law_ordinal) := ⟨rfl, rfl, rfl, by decide +kernel, rfl, by decide +kernel, by decide +kernel⟩
section
variable {P : Program} {w : World} {K : PySem.W.Frag} {mg : Str → Option Value} {base : Heap}
theorem ok_ordinal  {aZERO : Addr} {aVowError : Addr} {aInvalidLevels : Addr} {aInvalidRow : Addr} {aMissing : Addr} {aNothingLeft : Addr} {fVI : Addr} (T : Txt K mg  aZERO aVowError aInvalidLevels aInvalidRow aMissing aNothingLeft fVI) {f f1 f2 : Addr} {fd fd1 fd2 : FuncData} {d : Nat} (hd : d ≤ 10) (F : Fun K "_law_ordinal" "_law_ordinal" s_law_ordinal f fd)
    (C__law_ordinal : 0 < d → Cal P w K mg base (d + 1) "_law_ordinal" ["_law_bag_here", "_law_deep"] (spOrd K (d - 1)) f fd)
    (bF : Binds K fd ["_law_bag_here", "_law_deep"] []) (mF : mg "_law_ordinal" = some (.ref f))
    (C__law_pull : Cal P w K mg base 1 "_law_pull" ["_law_bag_here", "_law_sides"] spPull f1 fd1)
    (C__law_num : Cal P w K mg base 1 "_law_num" ["_law_many_z"] (spNum K) f2 fd2) : FnOk P w K mg base CX0 (d + 2) f fd ["_law_bag_here", "_law_deep"] (spOrd K d) := by
  have C__law_ordinal : Cal P w K mg base (d + 1) "_law_ordinal" ["_law_bag_here", "_law_deep"] (fun vs H Q E => 0 < d ∧ spOrd K (d - 1) vs H Q E) f fd := by
    refine ⟨?_, mF, F.kp, bF⟩
    by_cases h0 : 0 < d
    · have G := (C__law_ordinal h0).G
      exact ⟨fun vs H Q E h => G.len vs H Q E h.2, fun A outer s H args us vs Q E a b c e h => G.run A outer s H args us vs Q E a b c e h.2⟩
    · exact ⟨fun vs H Q E h => absurd h.1 h0, fun A outer s H args us vs Q E _ _ _ _ h => absurd h.1 h0⟩
  refine F.ok sc_law_ordinal (fun vs H Q E h => ?_) (fun cdv A outer s H vs Q E hr h => ?_)
  · obtain ⟨_, _, rfl, _⟩ := h; rfl
  obtain ⟨l, b, rfl, hB, q⟩ := h
  refine ⟨_, (pss_cons (ps_if (pt_cmpR op_eq (pv 1) pe_int (nomark _)) (pss_one (ps_ret (pe_call C__law_num.G (hr.mono (by omega)) (by rfl) C__law_num.m C__law_num.kp C__law_num.b .nil pass0 (pa_cons (pe_ix ix_list (pe_lst (pa_cons pe_int (pa_cons pe_int (pa_cons pe_int (pa_cons pe_int (pa_cons (pe_op op_add pe_int (pe_call C__law_pull.G (hr.mono (by omega)) (by rfl) C__law_pull.m C__law_pull.kp C__law_pull.b .nil pass0 (pa_cons (pv 0) (pa_cons (pe_op op_pow pe_int pe_int) pa_nil)))) pa_nil)))))) (pe_call C__law_pull.G (hr.mono (by omega)) (by rfl) C__law_pull.m C__law_pull.kp C__law_pull.b .nil pass0 (pa_cons (pv 0) (pa_cons pe_int pa_nil))) (fun _ _ => rfl)) pa_nil)))) pss_nil)
  (pss_cons (ps_setLc (i := 2) (own := [("_law_k", 5)]) (g := gName 5) (tt := tYes) rfl sc_law_ordinal.nd rfl rfl (sw_true rfl rfl rfl (by decide +kernel)) (pi_range1 (by rfl) T.z_range (pa_cons (pe_call C__law_pull.G (hr.mono (by omega)) (by rfl) C__law_pull.m C__law_pull.kp C__law_pull.b .nil pass0 (pa_cons (pv 0) (pa_cons pe_int pa_nil))) pa_nil)) (blkOk_by (own := [("_law_k", 5)]) (N := ["_law_bag_here", "_law_deep", "_law_some", "_law_found", "_law_power", "_law_k"]) (sc := defScope s_law_ordinal) (by decide +kernel)) (fun _ _ _ _ _ => (pg_name (i := 5) sc_law_ordinal.nd rfl (Or.inl rfl))) (fun _ _ _ _ _ => pts_nil) (fun _ _ _ _ _ => (pe_call C__law_ordinal.G (hr.mono (by omega)) (by rfl) C__law_ordinal.m C__law_ordinal.kp C__law_ordinal.b .nil pass0 (pa_cons (pv 0) (pa_cons (pe_op op_sub (pv 1) pe_int) pa_nil)))))
  (pss_cons (ps_set (i := 3) sc_law_ordinal.nd rfl (Or.inl rfl) (pe_lst pa_nil))
  (pss_cons (ps_for PassesOwn.never rfl (pi_list (pe_callBK (cr_sortedO hr.units) (by rfl) T.z_sorted (by decide +kernel) (pa_cons (pv 2) pa_nil) (pk_cons pe_bl pk_nil))) (pg_name (i := 4) sc_law_ordinal.nd rfl (Or.inl rfl))
   (pss_one (ps_ifBy (PW.pt (pw_or (pt_cmpR (op_eqO hr.units) (pv 3) (pe_lst pa_nil) (nomark _)) (pw_or1 (pt_cmpR (op_ltD hr.units) (pv 4) (pe_ix ix_tup (pe_ix ix_list (pv 3) (pe_un un_neg pe_int) (fun _ _ => rfl)) pe_int (fun _ _ => rfl)) (nomark _))))) (pss_one (ps_expr (pe_bm PySem.F.plainAttrs_list PySem.F.slot_list_append PySem.F.type_list_append mt_append (pv 3) (pa_cons (pe_tup (pa_cons (pv 4) (pa_cons (pe_op op_add pe_int (pe_call C__law_pull.G (hr.mono (by omega)) (by rfl) C__law_pull.m C__law_pull.kp C__law_pull.b .nil pass0 (pa_cons (pv 0) (pa_cons (pe_ix ix_list (pe_lst (pa_cons pe_int (pa_cons pe_int (pa_cons pe_int (pa_cons pe_int (pa_cons (pe_op op_pow pe_int pe_int) pa_nil)))))) (pe_call C__law_pull.G (hr.mono (by omega)) (by rfl) C__law_pull.m C__law_pull.kp C__law_pull.b .nil pass0 (pa_cons (pv 0) (pa_cons pe_int pa_nil))) (fun _ _ => rfl)) pa_nil)))) pa_nil))) pa_nil)))) pss_nil)))
  (pss_one (ps_ret (pe_callTy call_tuple_of (by rfl) T.z_tuple (by decide +kernel) (pa_cons (pv 3) pa_nil)))))))), ?_⟩
  refine ⟨_, rfl, rfl, _, rfl, ?_⟩
  refine ite2 (fun e => ?_) (fun e => ?_)
  · -- a number
    refine ⟨_, rfl, _, _, rfl, rfl, ⟨by decide, by decide, by decide⟩, l, b, _, rfl, (by decide), (by decide), hB, fun r H1 r0 r1 k1 B1 => ?_⟩
    refine ⟨_, _, rfl, rfl, (by show 5 ≤ sizeLine; decide), fun p np => ?_⟩
    have hpb := B1.ne np
    have B2 := B1.same (same_new (o := .lst [.int 0, .int 1, .int 2, .int 3, .int (1 + r)]) np)
    refine ⟨_, rfl, l, b, _, rfl, (by decide), (by decide), B2, fun r2 H2 r20 r21 k2 B3 => ?_⟩
    obtain ⟨v, hv, hat⟩ := atI_ex (xs := [V.int 0, V.int 1, V.int 2, V.int 3, V.int (1 + r)]) r20 r21
    obtain ⟨m, rfl⟩ : ∃ m, v = .int m := by
      have := List.mem_of_getElem? hv
      simp only [List.mem_cons, List.not_mem_nil, or_false] at this
      rcases this with h | h | h | h | h <;> exact ⟨_, h⟩
    refine ⟨p, _, r2, _, rfl, rfl, SqL.of (k2 _ _ hpb upd_same), hat, m, rfl, fun v H3 s3 o3 => ?_⟩
    exact q _ v H3 (O.ok_num m) (Nat.le_trans (O.dp_num m) (by omega)) (Nat.le_trans (O.wd_num m) (by decide)) o3 (((k1.trans (same_kp (same_new np))).trans k2).trans (same_kp s3)) (B3.same s3)
  · have d0 : 0 < d := by
      have : ¬ V.int (d : Int) = V.int 0 := of_decide_eq_false (Bool.eq_false_iff.mpr e)
      rcases Nat.eq_zero_or_pos d with z | z
      · subst z; exact absurd rfl this
      · exact z
    refine ⟨_, rfl, l, b, _, rfl, (by decide), (by decide), hB, fun r H1 r0 r1 k1 B1 => ⟨_, rfl, by omega, by omega, fun D nD => ?_⟩⟩
    have nD0 : H D = none := by
      cases z : H D with
      | none => rfl
      | some o =>
        have := k1 _ _ (B1.ne nD) z
        rw [nD] at this; cases this
    have hDb := B1.ne nD
    have hDl := B1.nl nD
    refine lc_range (lo := 0) (n := r.toNat) (fun i H' => Kp b H H' ∧ Bag l H' b ∧ ∃ xs os, H' D = some (.lst xs) ∧ Paired (OA K H') xs os ∧ xs.length = i ∧ ∀ o ∈ os, O.ok o = true ∧ O.dp o ≤ 2 * d ∧ O.wd o ≤ 3) ⟨kp_mut k1 nD0, B1.mut hDb hDl, [], [], upd_same, .nil, rfl, fun o ho => by cases ho⟩ (fun i H' hi hp => ?_) (fun H' hp => ?_)
    · obtain ⟨k2, B2, xs, os, eD, po, hl, hos⟩ := hp
      refine ⟨rfl, _, rfl, _, rfl, _, _, rfl, rfl, d0, l, b, ?_, B2, fun o v H2 o1 o2 o3 o4 k3 B3 => ?_⟩
      · have : ((d : Int) - 1) = ((d - 1 : Nat) : Int) := by omega
        show [V.ref b, V.int ((d : Int) - 1)] = _
        rw [this]
      · have t3 := B2.tp k3
        have eD3 := k3 _ _ hDb eD
        refine ⟨xs, eD3, Nat.lt_of_lt_of_le (show xs.length < 4 by omega) (by decide), kp_mut (k2.trans k3) nD0, B3.mut hDb hDl, xs ++ [v], os ++ [o], upd_same, ?_, by rw [List.length_append, hl]; rfl, fun o' ho' => ?_⟩
        · exact paired_tp (tp_lst eD3) (paired_app (paired_tp t3 po) (.cons o4 .nil))
        · rcases List.mem_append.mp ho' with h | h
          · exact hos o' h
          · rw [List.mem_singleton.mp h]; exact ⟨o1, by omega, o3⟩
    · obtain ⟨k2, B2, xs, os, eD, po, hl, hos⟩ := hp
      -- found = []
      refine ⟨(by show 0 ≤ sizeLine; decide), fun G nG => ?_⟩
      have hGb := B2.ne nG
      have hGl := B2.nl nG
      have nG0 : H G = none := by
        cases z : H G with
        | none => rfl
        | some o =>
          have := k2 _ _ hGb z
          rw [nG] at this; cases this
      have hGD : D ≠ G := ne_of_none eD nG
      have eD2 : (upd H' G (.lst [])) D = some (.lst xs) := by rw [upd_ne hGD]; exact eD
      -- sorted
      refine ⟨_, rfl, D, xs, os, rfl, rfl, SqL.of eD2, paired_tp (tp_new nG) po, (fun o ho => by have := (hos o ho).2.1; omega), fun ys os' S ps hperm _ nS => ?_⟩
      have hS0 : S ≠ G := fun z => by rw [z, upd_same] at nS; cases nS
      have B3 : Bag l (upd (upd H' G (.lst [])) S (.lst ys)) b := (B2.mut hGb hGl).same (same_new nS)
      have hSb : S ≠ b := (B2.mut (o := .lst []) hGb hGl).ne nS
      refine ⟨S, rfl, ⟨_, SqL.of upd_same⟩, ?_⟩
      have hos' : ∀ o ∈ os', O.ok o = true ∧ O.dp o ≤ 2 * d ∧ O.wd o ≤ 3 := fun o ho => hos o (hperm.mem_iff.mp ho)
      have hyl : ys.length ≤ 3 := by rw [paired_len ps, hperm.length_eq, ← paired_len po, hl]; omega
      refine for_list (xs := ys) (fun i σ H3 => ∃ u, σ = [some (.ref b), some (.int (d : Int)), some (.ref D), some (.ref G), u, none] ∧ Kp b H H3 ∧ Bag l H3 b ∧ H3 S = some (.lst ys) ∧ Paired (OA K H3) ys os' ∧
        ∃ fs ts, H3 G = some (.lst fs) ∧ Paired (TmA K H3) fs ts ∧ fs.length ≤ i ∧ O.ok (O.of ts) = true ∧ ∀ t ∈ ts, O.dp t.1 ≤ 2 * d ∧ O.wd t.1 ≤ 3)
        ⟨none, rfl, kp_mut (kp_mut k2 nG0) (by
          cases z : H S with
          | none => rfl
          | some o =>
            have := kp_mut (o := .lst []) k2 nG0 _ _ hSb z
            rw [nS] at this; cases this), B3, upd_same, paired_tp (tp_new nS) ps, [], [], by rw [upd_ne hS0.symm, upd_same], .nil, Nat.zero_le _, rfl, fun t ht => by cases ht⟩
        (fun i σ H3 _ h => ?_) (fun i x σ H3 hx h => ?_) (fun σ H3 h => ?_)
      · obtain ⟨u, rfl, k3, B4, eS, _⟩ := h
        exact SqL.of eS
      · obtain ⟨u, rfl, k3, B4, eS, py, fs, ts, eG, pt, hfl, hok, hdt⟩ := h
        obtain ⟨o, ho, oa⟩ := paired_get py hx
        have hom := List.mem_of_getElem? ho
        have hi3 : i < 3 := by have := (List.getElem?_eq_some_iff.mp hx).1; omega
        -- the append
        have app : (∀ t, ts.getLast? = some t → O.lt o t.1 = true) → ∀ (H4 : Hp) (r4 : Int) (c : Addr), 0 ≤ r4 → Kp b H3 H4 → Bag l H4 b → H4 c = none → ∃ u', [some (V.ref b), some (V.int (d : Int)), some (V.ref D), some (V.ref G), some x, none] = [some (V.ref b), some (V.int (d : Int)), some (V.ref D), some (V.ref G), u', none] ∧ Kp b H (upd (upd H4 c (.tup [x, .int (1 + r4)])) G (.lst (fs ++ [.ref c]))) ∧ Bag l (upd (upd H4 c (.tup [x, .int (1 + r4)])) G (.lst (fs ++ [.ref c]))) b ∧ (upd (upd H4 c (.tup [x, .int (1 + r4)])) G (.lst (fs ++ [.ref c]))) S = some (.lst ys) ∧ Paired (OA K (upd (upd H4 c (.tup [x, .int (1 + r4)])) G (.lst (fs ++ [.ref c])))) ys os' ∧
            ∃ fs' ts', (upd (upd H4 c (.tup [x, .int (1 + r4)])) G (.lst (fs ++ [.ref c]))) G = some (.lst fs') ∧ Paired (TmA K (upd (upd H4 c (.tup [x, .int (1 + r4)])) G (.lst (fs ++ [.ref c])))) fs' ts' ∧ fs'.length ≤ i + 1 ∧ O.ok (O.of ts') = true ∧ ∀ t ∈ ts', O.dp t.1 ≤ 2 * d ∧ O.wd t.1 ≤ 3 := by
          intro hlast H4 r4 c hr4 k4 B5 nc
          have hcb := B5.ne nc
          have eG4 := k4 _ _ hGb eG
          have eS4 := k4 _ _ hSb eS
          have hGc : G ≠ c := ne_of_none eG4 nc
          have hSc : S ≠ c := ne_of_none eS4 nc
          have tA : Tp H3 H4 := B4.tp k4
          have tB := tp_new (o := .tup [x, .int (1 + r4)]) nc
          have eG5 : (upd H4 c (.tup [x, .int (1 + r4)])) G = some (.lst fs) := by rw [upd_ne hGc]; exact eG4
          have tC := tp_lst (o := .lst (fs ++ [.ref c])) eG5
          have oa4 := (oa.tp tA).tp tB
          obtain ⟨xa, rfl⟩ := oa.ref
          refine ⟨_, rfl, kp_mut (k3.trans (k4.trans (same_kp (same_new nc)))) nG0, (B5.same (same_new nc)).mut hGb hGl, by rw [upd_ne hS0, upd_ne hSc]; exact eS4, paired_tp tC (paired_tp tB (paired_tp tA py)), fs ++ [.ref c], ts ++ [(o, 1 + r4)], upd_same, ?_, by rw [List.length_append]; show fs.length + 1 ≤ i + 1; omega, O.ok_snoc ts o _ hok (hos' o hom).1 (by omega) hlast, fun t ht => ?_⟩
          · exact terms_tp tC (paired_app (terms_tp tB (terms_tp tA pt)) (.cons (TmA.new oa4 upd_same) .nil))
          · rcases List.mem_append.mp ht with h | h
            · exact hdt t h
            · rw [List.mem_singleton.mp h]; exact (hos' o hom).2
        have stay : ∀ {H4 : Hp}, Same H3 H4 → ∃ u', [some (V.ref b), some (V.int (d : Int)), some (V.ref D), some (V.ref G), some x, none] = [some (V.ref b), some (V.int (d : Int)), some (V.ref D), some (V.ref G), u', none] ∧ Kp b H H4 ∧ Bag l H4 b ∧ H4 S = some (.lst ys) ∧ Paired (OA K H4) ys os' ∧ ∃ fs' ts', H4 G = some (.lst fs') ∧ Paired (TmA K H4) fs' ts' ∧ fs'.length ≤ i + 1 ∧ O.ok (O.of ts') = true ∧ ∀ t ∈ ts', O.dp t.1 ≤ 2 * d ∧ O.wd t.1 ≤ 3 := fun s4 =>
          ⟨_, rfl, k3.trans (same_kp s4), B4.same s4, s4 _ _ eS, paired_tp (same_tp s4) py, fs, ts, s4 _ _ eG, terms_tp (same_tp s4) pt, by omega, hok, hdt⟩
        refine ⟨fun H4 => Same H3 H4 ∧ ∀ t, ts.getLast? = some t → O.lt o t.1 = true, fun H4 => Same H3 H4, ?_, fun H4 hA => ?_, fun H4 hB4 => ?_⟩
        · -- the test
          refine ⟨_, rfl, (by show 0 ≤ sizeLine; decide), fun E0 nE => rd_eqNil (x := .non) (y := .non) (SqL.of (same_new nE _ _ eG)) (terms_tp (tp_new nE) pt) (SqL.of upd_same) (fun t ht => by have := (hdt t ht).1; omega) ⟨_, rfl, ?_⟩⟩
          have s0 := same_new (o := .lst []) nE
          refine ite2 (fun e1 => ?_) (fun e1 => ?_)
          · refine iteT ⟨s0, fun t ht => ?_⟩
            have : ts = [] := List.isEmpty_iff.mp e1
            rw [this] at ht; cases ht
          · obtain ⟨t, ht⟩ : ∃ t, ts.getLast? = some t := by
              cases z : ts.getLast? with
              | some t => exact ⟨t, rfl⟩
              | none => exact absurd (List.isEmpty_iff.mpr (List.getLast?_eq_none_iff.mp z)) e1
            have htm := List.mem_of_getLast? ht
            obtain ⟨v, hv, vt⟩ : ∃ v, fs.getLast? = some v ∧ TmA K H3 v t := by
              rw [List.getLast?_eq_getElem?] at ht
              obtain ⟨v, h1, h2⟩ := paired_get' pt ht
              rw [← paired_len pt] at h1
              exact ⟨v, by rw [List.getLast?_eq_getElem?]; exact h1, h2⟩
            obtain ⟨pv1, qv1, rfl, g1, g2⟩ := vt
            have hat : atI fs (-1) = some (.ref pv1) := by
              have hn : fs ≠ [] := fun z => by rw [z] at hv; cases hv
              have : fs = fs.dropLast ++ [.ref pv1] := by
                rw [List.getLast?_eq_some_getLast hn] at hv
                have := Option.some.inj hv
                rw [← this, List.dropLast_concat_getLast]
              rw [this]; exact atI_last _ _
            refine ⟨_, rfl, _, rfl, _, rfl, G, fs, -1, _, rfl, rfl, SqL.of (s0 _ _ eG), hat, pv1, _, 0, _, rfl, rfl, (g1.tp (same_tp s0)).sq, rfl, rd_lt (oa.tp (same_tp s0)) (g2.tp (same_tp s0)) (by have := (hos' o hom).2.1; omega) ⟨_, rfl, ?_⟩⟩
            refine ite2 (fun e2 => ⟨s0, fun t' ht' => ?_⟩) (fun e2 => s0)
            rw [ht] at ht'
            cases ht'
            exact e2
        · obtain ⟨s4, hlast⟩ := hA
          have eG4 := s4 _ _ eG
          refine ⟨_, rfl, .inl ⟨rfl, _, SqL.of eG4⟩, _, rfl, _, rfl, _, _, rfl, rfl, ⟨by decide, by decide, by decide⟩, (by show 5 ≤ sizeLine; decide), fun p np => ?_⟩
          have B5 := B4.same s4
          have hpb := B5.ne np
          have s5 := s4.trans (same_new (o := .lst [.int 1, .int 2, .int 2, .int 9, .int (10 ^ Int.toNat 12)]) np)
          refine ⟨_, rfl, l, b, _, rfl, (by decide), (by decide), B4.same s5, fun r2 H6 r20 r21 k6 B6 => ?_⟩
          obtain ⟨v, hv, hat⟩ := atI_ex (xs := [V.int 1, V.int 2, V.int 2, V.int 9, V.int (10 ^ Int.toNat 12)]) r20 r21
          obtain ⟨m, rfl, m1, m2⟩ : ∃ m : Int, v = .int m ∧ 1 ≤ m ∧ m < 2 ^ 100 := by
            have := List.mem_of_getElem? hv
            simp only [List.mem_cons, List.not_mem_nil, or_false] at this
            rcases this with h | h | h | h | h <;> exact ⟨_, h, by decide, by decide⟩
          refine ⟨p, _, r2, _, rfl, rfl, SqL.of (k6 _ _ hpb upd_same), hat, l, b, m, rfl, m1, m2, B6, fun r4 H7 r40 _ k7 B7 => ?_⟩
          refine ⟨_, _, rfl, rfl, (by show 2 ≤ sizeLine; decide), fun c nc => ?_⟩
          have kk : Kp b H3 H7 := ((same_kp s5).trans k6).trans k7
          refine ⟨G, fs, _, rfl, rfl, ?_, Nat.lt_of_lt_of_le (show fs.length < 4 by omega) (by decide), app hlast H7 r4 c r40 kk B7 nc⟩
          rw [upd_ne (ne_of_none (kk _ _ hGb eG) nc)]
          exact kk _ _ hGb eG
        · exact stay hB4
      · obtain ⟨u, rfl, k3, B4, eS, py, fs, ts, eG, pt, hfl, hok, hdt⟩ := h
        refine ⟨_, rfl, G, fs, rfl, .inl ⟨SqL.of eG, fun v nv => ?_⟩⟩
        have tv := tp_new (o := .tup fs) nv
        refine q (O.of ts) _ _ hok (O.dp_of ts _ fun t ht => by have := (hdt t ht).1; omega) ?_ (OA.of (.of upd_same) (terms_tp tv pt)) (k3.trans (same_kp (same_new nv))) (B4.same (same_new nv))
        exact O.wd_of ts 3 (by rw [← paired_len pt]; omega) fun t ht => (hdt t ht).2
end
end Vw

set_option Elab.async false
set_option linter.all false
set_option maxRecDepth 100000
set_option maxHeartbeats 4000000
namespace Vw
open PySem PySem.W PyProof.Rows L2
section
variable {P : Program} {w : World} {K : PySem.W.Frag} {mg : Str → Option Value} {base : Heap}
abbrev s_law_sum : Stmt := top 28
theorem sc_law_sum : FnScope ["_law_here", "_law_there", "_law_left", "_law_term_z"] ["_law_here", "_law_there"] (defScope s_law_sum) := ⟨rfl, rfl, rfl, by decide +kernel, rfl, by decide +kernel, by decide +kernel⟩
theorem ok_lsum  {aZERO : Addr} {aVowError : Addr} {aInvalidLevels : Addr} {aInvalidRow : Addr} {aMissing : Addr} {aNothingLeft : Addr} {fVI : Addr} (T : Txt K mg  aZERO aVowError aInvalidLevels aInvalidRow aMissing aNothingLeft fVI) {f : Addr} {fd : FuncData} {k : Nat} (F : Fun K "_law_sum" "_law_sum" s_law_sum f fd) : FnOk P w K mg base CX0 (k + 1) f fd ["_law_here", "_law_there"] (spPlus K) := by
  refine F.ok sc_law_sum (fun vs H Q E h => ?_) (fun cdv A outer s H vs Q E hr h => ?_)
  · obtain ⟨_, _, _, _, rfl, _⟩ := h; rfl
  obtain ⟨x, y, a, b, rfl, hx, hy, hok, da, db, la, lb, q⟩ := h
  refine ⟨_, (pss_cons (ps_if (pt_cmpR (op_eqO hr.units) (pv 1) (pe_tup pa_nil) (nomark _)) (pss_one (ps_ret (pv 0))) pss_nil)
  (pss_cons (ps_setLc (i := 2) (own := [("_law_term_z", 3)]) (g := gName 3) rfl sc_law_sum.nd rfl rfl (sw_true rfl rfl rfl (by decide +kernel)) (pi_tup (pv 0)) (blkOk_by (own := [("_law_term_z", 3)]) (N := ["_law_here", "_law_there", "_law_left", "_law_term_z"]) (sc := defScope s_law_sum) (by decide +kernel)) (fun _ _ _ _ _ => (pg_name (i := 3) sc_law_sum.nd rfl (Or.inl rfl))) (fun _ _ _ _ _ => (pts_one (pt_cmpR (r := rCmp (fun d e => !dataLt d e) K) (op_geD hr.units) (pe_ix (r := rIxT K) ix_tup (pv 3) pe_int (fun _ _ => rfl)) (pe_ix (r := rIxT K) ix_tup (pe_ix (r := rIxT K) ix_tup (pv 1) pe_int (fun _ _ => rfl)) pe_int (fun _ _ => rfl)) (nomark _)))) (fun _ _ _ _ _ => (pv 3)))
  (pss_cons (ps_ifBy (PW.pt (pw_and (pt_cmpR (op_neO hr.units) (pv 2) (pe_lst pa_nil) (nomark _)) (pw_and1 (pt_cmpR (op_eqO hr.units) (pe_ix ix_tup (pe_ix ix_list (pv 2) (pe_un un_neg pe_int) (fun _ _ => rfl)) pe_int (fun _ _ => rfl)) (pe_ix ix_tup (pe_ix ix_tup (pv 1) pe_int (fun _ _ => rfl)) pe_int (fun _ _ => rfl)) (nomark _))))) (pss_one (ps_ret (pe_op op_catO (pe_op op_catO (pe_callTy call_tuple_of (by rfl) T.z_tuple (by decide +kernel) (pa_cons (pe_slice sl_list (pv 2) po_none (po_some (pe_un un_neg pe_int))) pa_nil)) (pe_tup (pa_cons (pe_tup (pa_cons (pe_ix ix_tup (pe_ix ix_tup (pv 1) pe_int (fun _ _ => rfl)) pe_int (fun _ _ => rfl)) (pa_cons (pe_op op_add (pe_ix ix_tup (pe_ix ix_list (pv 2) (pe_un un_neg pe_int) (fun _ _ => rfl)) pe_int (fun _ _ => rfl)) (pe_ix ix_tup (pe_ix ix_tup (pv 1) pe_int (fun _ _ => rfl)) pe_int (fun _ _ => rfl))) pa_nil))) pa_nil))) (pe_slice sl_tupO (pv 1) (po_some pe_int) po_none)))) pss_nil)
  (pss_one (ps_ret (pe_op op_catO (pe_callTy call_tuple_of (by rfl) T.z_tuple (by decide +kernel) (pa_cons (pv 2) pa_nil)) (pv 1))))))), ?_⟩
  refine ⟨_, rfl, (by show 0 ≤ sizeLine; decide), fun p0 n0 => ?_⟩
  have s0 := same_new (o := .tup []) n0
  refine rd_eq (hy.same s0) (OA.nil (.of upd_same)) (by omega) (by decide) ⟨_, rfl, ?_⟩
  refine ite2 (fun e => ?_) (fun e => ?_)
  · have hb : b = .z := of_decide_eq_true e
    exact ⟨_, rfl, q x _ s0 (by rw [hb, O.sum_z]; exact hx.same s0)⟩
  have hb : b ≠ .z := of_decide_eq_false (Bool.eq_false_iff.mpr e)
  rw [← O.sumL_sum a b hok] at q
  generalize upd H p0 (.tup []) = H0 at s0
  have q : ∀ (v : V) (H' : Hp), Same H0 H' → OA K H' v (O.sumL a b) → Q v H' := fun v H' s o => q v H' (s0.trans s) o
  have hx := hx.same s0
  have hy := hy.same s0
  cases b with
  | z => exact absurd rfl hb
  | add e1 c r =>
  clear e hb s0 n0
  obtain ⟨ay, ys, rfl, ty, hys⟩ := hy
  obtain ⟨p, pe, ws, vr, rfl, tp1, tw, hws, hvr⟩ := hys
  have hE : OA K H0 (.ref pe) e1 := ⟨pe, ws, rfl, tw, hws⟩
  have de : O.dp e1 ≤ 50 := by have : O.dp e1 + 2 ≤ max (O.dp e1 + 2) (O.dp r) := Nat.le_max_left _ _; have h2 : max (O.dp e1 + 2) (O.dp r) ≤ 50 := db; omega
  obtain ⟨ax, rfl⟩ := hx.ref
  obtain ⟨xs, tx, px⟩ := hx.tt
  have lx : xs.length ≤ 1000 := by rw [paired_len px]; exact la
  have hvl : vr.length ≤ 1000 := by
    have := paired_len (TsA.pair hvr)
    have : (O.ts (.add e1 c r)).length = (O.ts r).length + 1 := rfl
    omega
  refine ⟨_, rfl, ax, rfl, ⟨_, tx.sq⟩, fun D nD => ?_⟩
  refine lc_tup (K := K) (a := ax) (xs := xs) (fun i H' => Same H0 H' ∧ ∃ acc, H' D = some (.lst acc) ∧ acc.length ≤ i ∧ Paired (TmA K H0) acc (((O.ts a).take i).filter fun t => !O.lt t.1 e1)) ⟨same_new nD, [], upd_same, Nat.le_refl _, .nil⟩ (fun i H' _ h => (tx.same h.1).sq) (fun i v H' hv h => ?_) (fun H' h => ?_)
  · obtain ⟨sm, acc, eD, hl, pa⟩ := h
    obtain ⟨t, ht, p1, q1, rfl, t1, o1⟩ := paired_get px hv
    have hi : i < 1000 := by have := (List.getElem?_eq_some_iff.mp hv).1; omega
    have dt := O.dp_mem (List.mem_of_getElem? ht)
    refine ⟨rfl, _, rfl, p1, _, 0, _, rfl, rfl, (t1.same sm).sq, rfl, _, rfl, ay, _, 0, _, rfl, rfl, (ty.same sm).sq, atI_nat (j := 0) rfl, p, _, 0, _, rfl, rfl, (tp1.same sm).sq, rfl, rd_ge (o1.same sm) (hE.same sm) (by omega) ⟨_, rfl, ?_⟩⟩
    refine ite2 (fun e => ?_) (fun e => ?_)
    · refine ⟨_, rfl, acc, eD, small1000 (by omega), same_mut sm nD, _, upd_same, by rw [List.length_append]; show acc.length + 1 ≤ i + 1; omega, ?_⟩
      rw [take_filter _ _ _ _ ht, if_pos e]
      exact paired_app pa (.cons ⟨p1, q1, rfl, t1, o1⟩ .nil)
    · refine ⟨sm, acc, eD, by omega, ?_⟩
      rw [take_filter _ _ _ _ ht, if_neg e, List.append_nil]
      exact pa
  obtain ⟨s1, gs, eD, gl, pg⟩ := h
  rw [paired_len px, List.take_length] at pg
  have gl2 : gs.length ≤ 1000 := by omega
  have hdt : ∀ t ∈ (O.ts a).filter (fun t => !O.lt t.1 e1), O.dp t.1 ≤ 50 := fun t ht => by have := O.dp_mem (List.mem_filter.mp ht).1; omega
  have q : ∀ (v : V) (H' : Hp), Same H0 H' → OA K H' v (match ((O.ts a).filter (fun t => !O.lt t.1 e1)).getLast? with
    | some (e2, c2) => if e2 = e1 then O.of (((O.ts a).filter (fun t => !O.lt t.1 e1)).dropLast ++ (e1, c2 + c) :: O.ts r) else O.of (((O.ts a).filter (fun t => !O.lt t.1 e1)) ++ (e1, c) :: O.ts r)
    | none => O.of (((O.ts a).filter (fun t => !O.lt t.1 e1)) ++ (e1, c) :: O.ts r)) → Q v H' := q
  generalize (O.ts a).filter (fun t => !O.lt t.1 e1) = left at pg hdt q
  refine ⟨fun H4 => Same H' H4 ∧ ∃ c2, left.getLast? = some (e1, c2), fun H4 => Same H' H4 ∧ ∀ t, left.getLast? = some t → t.1 ≠ e1, ?_, fun H4 h => ?_, fun H4 h => ?_⟩
  · refine ⟨_, rfl, (by show 0 ≤ sizeLine; decide), fun E0 nE => ?_⟩
    have s2 := same_new (o := .lst []) nE
    refine rd_neNil (x := .non) (y := .non) (SqL.of (s2 _ _ eD)) (terms_same pg (s1.trans s2)) (SqL.of upd_same) hdt ⟨_, rfl, ?_⟩
    refine ite2 (fun e => ?_) (fun e => ?_)
    · obtain ⟨t, ht⟩ : ∃ t, left.getLast? = some t := by
        cases z : left.getLast? with
        | some t => exact ⟨t, rfl⟩
        | none => rw [List.getLast?_eq_none_iff] at z; subst z; cases e
      have s3 := s1.trans s2
      obtain ⟨p5, q5, h5, t5, o5, _⟩ := last_term (terms_same pg s3) ht
      refine ⟨_, rfl, _, rfl, D, gs, -1, _, rfl, rfl, SqL.of (s2 _ _ eD), h5, p5, _, 0, _, rfl, rfl, t5.sq, rfl, _, rfl, ay, _, 0, _, rfl, rfl, (ty.same s3).sq, atI_nat (j := 0) rfl, p, _, 0, _, rfl, rfl, (tp1.same s3).sq, rfl, rd_eq o5 (hE.same s3) (by have := hdt t (List.mem_of_getLast? ht); omega) (by omega) ⟨_, rfl, ?_⟩⟩
      refine ite2 (fun e2 => ?_) (fun e2 => ?_)
      · have : t.1 = e1 := of_decide_eq_true e2
        exact ⟨s2, t.2, by rw [ht, ← this]⟩
      · refine ⟨s2, fun t' ht' => ?_⟩
        rw [ht] at ht'; cases ht'
        exact of_decide_eq_false (Bool.eq_false_iff.mpr e2)
    · refine ⟨s2, fun t ht => ?_⟩
      have : left = [] := by
        cases left with
        | nil => rfl
        | cons _ _ => exact absurd rfl e
      rw [this] at ht; cases ht
  · obtain ⟨s2, c2, ht⟩ := h
    have s3 := s1.trans s2
    rw [ht] at q
    simp only [if_true] at q
    have pl := terms_same pg s3
    refine ⟨_, rfl, _, rfl, -1, rfl, D, gs, rfl, SqL.of (s2 _ _ eD), fun c1 nc1 => ?_⟩
    rw [cut_m1 (α := Nat)]
    have s4 := same_new (o := .lst gs.dropLast) nc1
    refine ⟨c1, _, rfl, .inl ⟨SqL.of upd_same, fun c3 nc3 => ?_⟩⟩
    have s5 := s4.trans (same_new (o := .tup gs.dropLast) nc3)
    have t3 : TT K _ c3 gs.dropLast := .of (upd_same (H := upd H4 c1 (.lst gs.dropLast)))
    have s6 := s3.trans s5
    generalize upd (upd H4 c1 (.lst gs.dropLast)) c3 (.tup gs.dropLast) = H5 at s5 t3 s6
    obtain ⟨p5, q5, h5, t5, o5, _⟩ := last_term (pl) ht
    refine ⟨_, rfl, ay, _, 0, _, rfl, rfl, (ty.same s6).sq, atI_nat (j := 0) rfl, p, _, 0, _, rfl, rfl, (tp1.same s6).sq, rfl, _, rfl, _, rfl, D, gs, -1, _, rfl, rfl, SqL.of (s5 _ _ (s2 _ _ eD)), h5, p5, _, 1, _, rfl, rfl, (t5.same s5).sq, rfl, _, rfl, ay, _, 0, _, rfl, rfl, (ty.same s6).sq, atI_nat (j := 0) rfl, p, _, 1, _, rfl, rfl, (tp1.same s6).sq, rfl, _, _, rfl, rfl, (by show 2 ≤ sizeLine; decide), fun p6 n6 => ⟨(by show 1 ≤ sizeLine; decide), fun p7 n7 => ?_⟩⟩
    have s7 := same_new (o := .tup [.ref pe, .int (c2 + c)]) n6
    have s8 := same_new (o := .tup [.ref p6]) n7
    have tm : TmA K (upd H5 p6 (.tup [.ref pe, .int (c2 + c)])) (.ref p6) (e1, c2 + c) := TmA.new ((hE.same s6).same s7) upd_same
    refine rd_cat (t3.same (s7.trans s8)) (.of upd_same) (by rw [List.length_dropLast]; show gs.length - 1 + 1 ≤ 100000; omega) fun p8 H6 s9 t8 => ?_
    have sA := (s6.trans (s7.trans s8)).trans s9
    refine ⟨_, rfl, 1, rfl, rd_from 1 (ty.same sA) fun p9 H7 s10 t9 => ?_⟩
    refine rd_cat (t8.same s10) t9 (by rw [List.length_append, List.length_dropLast]; show gs.length - 1 + 1 + vr.length ≤ 100000; omega) fun p10 H8 s11 t10 => ?_
    have sB := (s9.trans s10).trans s11
    refine q _ H8 (sA.trans (s10.trans s11)) ?_
    refine OA.of t10 ?_
    rw [List.append_assoc]
    refine paired_app (terms_same (paired_dropLast pg) (sA.trans (s10.trans s11))) ?_
    exact .cons ((tm.same s8).same sB) (terms_same (TsA.pair hvr) (sA.trans (s10.trans s11)))
  · obtain ⟨s2, hne⟩ := h
    have s3 := s1.trans s2
    refine ⟨_, rfl, D, gs, rfl, .inl ⟨SqL.of (s2 _ _ eD), fun c3 nc3 => ?_⟩⟩
    have s4 := same_new (o := .tup gs) nc3
    refine ⟨_, rfl, rd_cat (.of upd_same) (ty.same (s3.trans s4)) (by show gs.length + (vr.length + 1) ≤ 100000; omega) fun p8 H6 s5 t8 => ?_⟩
    have sA := (s3.trans s4).trans s5
    refine q _ H6 sA ?_
    have ho : OA K H6 (.ref p8) (O.of (left ++ (e1, c) :: O.ts r)) := OA.of t8 (paired_app (terms_same pg sA) (.cons (⟨p, pe, rfl, tp1.same sA, hE.same sA⟩) (terms_same (TsA.pair hvr) sA)))
    cases z : left.getLast? with
    | none => exact ho
    | some t =>
      obtain ⟨e2, c2⟩ := t
      simp only
      rw [if_neg (hne _ z)]
      exact ho
end
end Vw

set_option Elab.async false
set_option linter.all false
set_option maxRecDepth 100000
set_option maxHeartbeats 4000000
namespace Vw
open PySem PySem.W PyProof.Rows L2
def spLaw (K : PySem.W.Frag) : Sp := fun vs H Q _ => ∃ (a : Addr) (ns : List Int), vs = [.ref a] ∧ SqL K H a (ns.map V.int) ∧ ns.length ≤ 63 ∧ ∀ H', Q (.bl true) H'
theorem KO.at {K : PySem.W.Frag} {a : Addr} {o : O} (h : KO K a o) (H : Hp) : OA K H (.ref a) o := h.tp (fun a xs h => by cases h)
section
variable {K : PySem.W.Frag}
theorem lst2 {H : Hp} {D : Addr} {x y : V} {a b : O} (h : H D = some (.lst [x, y])) (hx : OA K H x a) (hy : OA K H y b) : Dp K H (.ref D) (.list [O.toD a, O.toD b]) := .lst (SqL.of h) (.cons hx.dp (.cons hy.dp .nil))
theorem depth2 {a b : O} (h1 : O.dp a ≤ 40) (h2 : O.dp b ≤ 40) : (PyData.list [O.toD a, O.toD b]).depth < 60 := by
  simp only [PyData.depth, PyData.depthAll, O.depth_toD]; omega
/-- a drawn ordinal -/
theorem use_ordW {l b : Addr} {r : Int} {H3 : Hp} {Q' : VK} (r0 : 0 ≤ r) (r1 : r < 4) (B : Bag l H3 b) (h : ∀ (o : O) (v : V) (H' : Hp), O.ok o = true → O.dp o ≤ 8 → O.wd o ≤ 3 → OA K H' v o → Kp b H3 H' → Bag l H' b → Q' v H') : spOrdTo K 10 [.ref b, .int r] H3 Q' E0 :=
  ⟨r.toNat, by omega, l, b, by rw [Int.toNat_of_nonneg r0], B, fun o v H' h1 h2 h3 h4 h5 h6 => h o v H' h1 (by omega) h3 h4 h5 h6⟩
theorem use_ord {l b : Addr} {r : Int} {H3 : Hp} {Q' : VK} (r0 : 0 ≤ r) (r1 : r < 4) (B : Bag l H3 b) (h : ∀ (o : O) (v : V) (H' : Hp), O.ok o = true → O.dp o ≤ 8 → (O.ts o).length ≤ 3 → OA K H' v o → Kp b H3 H' → Bag l H' b → Q' v H') : spOrdTo K 10 [.ref b, .int r] H3 Q' E0 :=
  ⟨r.toNat, by omega, l, b, by rw [Int.toNat_of_nonneg r0], B, fun o v H' h1 h2 h3 h4 h5 h6 => h o v H' h1 (by omega) (Nat.le_trans (O.len_wd o) h3) h4 h5 h6⟩
theorem use_plus {x y : O} {H : Hp} {Q' : VK} {u v : V} (h1 : OA K H u x) (h2 : OA K H v y) (h3 : O.ok x = true) (h4 : O.dp x ≤ 40) (h5 : O.dp y ≤ 40) (h6 : (O.ts x).length ≤ 100) (h7 : (O.ts y).length ≤ 100) (h8 : ∀ (v : V) (H' : Hp), Same H H' → OA K H' v (O.sum x y) → Q' v H') : spPlus K [u, v] H Q' E0 :=
  ⟨u, v, x, y, rfl, h1, h2, h3, by omega, by omega, by omega, by omega, h8⟩
end
section
variable {P : Program} {w : World} {K : PySem.W.Frag} {mg : Str → Option Value} {base : Heap}
theorem ord_all  {aZERO : Addr} {aVowError : Addr} {aInvalidLevels : Addr} {aInvalidRow : Addr} {aMissing : Addr} {aNothingLeft : Addr} {fVI : Addr} (T : Txt K mg  aZERO aVowError aInvalidLevels aInvalidRow aMissing aNothingLeft fVI) {f f1 f2 : Addr} {fd fd1 fd2 : FuncData} (F : Fun K "_law_ordinal" "_law_ordinal" s_law_ordinal f fd)
    (bF : Binds K fd ["_law_bag_here", "_law_deep"] []) (mF : mg "_law_ordinal" = some (.ref f)) (C1 : Cal P w K mg base 1 "_law_pull" ["_law_bag_here", "_law_sides"] spPull f1 fd1)
    (C2 : Cal P w K mg base 1 "_law_num" ["_law_many_z"] (spNum K) f2 fd2) : ∀ d : Nat, d ≤ 10 → FnOk P w K mg base CX0 (d + 2) f fd ["_law_bag_here", "_law_deep"] (spOrd K d)
  | 0, h => ok_ordinal T h F (fun z => absurd z (by decide)) bF mF C1 C2
  | d + 1, h => ok_ordinal T h F (fun _ => ⟨ord_all T F bF mF C1 C2 d (by omega), mF, F.kp, bF⟩) bF mF C1 C2
theorem same_all  {aZERO : Addr} {aVowError : Addr} {aInvalidLevels : Addr} {aInvalidRow : Addr} {aMissing : Addr} {aNothingLeft : Addr} {fVI : Addr} (T : Txt K mg  aZERO aVowError aInvalidLevels aInvalidRow aMissing aNothingLeft fVI) {f : Addr} {fd : FuncData} (F : Fun K "_law_same" "_law_same" s_law_same f fd) (bF : Binds K fd ["_law_found", "_law_due"] []) (mF : mg "_law_same" = some (.ref f)) :
    ∀ n : Nat, FnOk P w K mg base CX0 n f fd ["_law_found", "_law_due"] (spSame K n)
  | 0 => none_left fun vs H Q E h => by
    obtain ⟨_, _, _, _, _, _, h, _⟩ := h
    exact absurd h (Nat.not_lt_zero _)
  | n + 1 => ok_same T F ⟨same_all T F bF mF n, mF, F.kp, bF⟩
theorem one_mk {K : PySem.W.Frag} {aONE p1 q1 : Addr} {tk1 : Tok} {o1 o2 o3 : Option Addr} {n1 n2 n3 : Nat} {sl1 sl2 sl3 : Array (Option Value)} (lo1 : K.lookup aONE = some ⟨.type "tuple", o1, .seq #[.ref p1] n1, sl1⟩) (lo2 : K.lookup p1 = some ⟨.type "tuple", o2, .seq #[.ref q1, .int 1 tk1] n2, sl2⟩) (lo3 : K.lookup q1 = some ⟨.type "tuple", o3, .seq #[] n3, sl3⟩) : KO K aONE O.one :=
  ⟨aONE, [.ref p1], rfl, .inr ⟨_, _, _, lo1, rfl, rfl, by show 1 ≤ sizeLine; decide, .cons rfl .nil⟩, p1, q1, [], [], rfl, .inr ⟨_, _, _, lo2, rfl, rfl, by show 2 ≤ sizeLine; decide, .cons rfl (.cons ⟨_, rfl⟩ .nil)⟩, .inr ⟨_, _, _, lo3, rfl, rfl, by show 0 ≤ sizeLine; decide, .nil⟩, rfl, rfl⟩
end
end Vw

set_option Elab.async false
set_option linter.all false
set_option maxRecDepth 100000
set_option maxHeartbeats 4000000
namespace Vw
open PySem PySem.W PyProof.Rows L2
section
variable {P : Program} {w : World} {K : PySem.W.Frag} {mg : Str → Option Value} {base : Heap}
abbrev s_law_is_ordinal : Stmt := top 33
theorem sc_law_is_ordinal : FnScope ["_law_thing", "_law_k"] ["_law_thing"] (defScope s_law_is_ordinal) := ⟨rfl, rfl, rfl, by decide +kernel, rfl, by decide +kernel, by decide +kernel⟩
theorem ok_lisord  {aZERO : Addr} {aVowError : Addr} {aInvalidLevels : Addr} {aInvalidRow : Addr} {aMissing : Addr} {aNothingLeft : Addr} {fVI : Addr} (T : Txt K mg  aZERO aVowError aInvalidLevels aInvalidRow aMissing aNothingLeft fVI) {f : Addr} {fd : FuncData} {n : Nat} (hn : n ≤ 60) (F : Fun K "_law_is_ordinal" "_law_is_ordinal" s_law_is_ordinal f fd) (C__law_is_ordinal : Cal P w K mg base n "_law_is_ordinal" ["_law_thing"] (spIsOrd K n) f fd) :
    FnOk P w K mg base CX0 (n + 1) f fd ["_law_thing"] (spIsOrd K (n + 1)) := by
  refine F.ok sc_law_is_ordinal (fun vs H Q E h => ?_) (fun cdv A outer s H vs Q E hr h => ?_)
  · obtain ⟨_, _, rfl, _⟩ := h; rfl
  obtain ⟨x, d, rfl, hx, hd, q⟩ := h
  refine ⟨_, (pss_cons (ps_if (pt_not (pt_val (pe_callB call_isD (by rfl) T.z_isinstance (by decide +kernel) (pa_cons (pv 0) (pa_cons (pe_bltn (v := .ty "tuple") (u := .type "tuple") (by rfl) T.z_tuple (by decide +kernel) rfl) pa_nil))))) (pss_one (ps_ret pe_bl)) pss_nil)
  (pss_cons (ps_for PassesOwn.never rfl (pi_range1 (by rfl) T.z_range (pa_cons (pe_callB call_lenB (by rfl) T.z_len (by decide +kernel) (pa_cons (pv 0) pa_nil)) pa_nil)) (pg_name (i := 1) sc_law_is_ordinal.nd rfl (Or.inl rfl))
   (pss_cons (ps_ifBy (PW.pt (pw_or (pt_not (pt_val (pe_callB call_isD (by rfl) T.z_isinstance (by decide +kernel) (pa_cons (pe_ix ix_tup (pv 0) (pv 1) (fun _ _ => rfl)) (pa_cons (pe_bltn (v := .ty "tuple") (u := .type "tuple") (by rfl) T.z_tuple (by decide +kernel) rfl) pa_nil))))) (pw_or (pt_cmpR op_ne (pe_callB call_lenB (by rfl) T.z_len (by decide +kernel) (pa_cons (pe_ix ix_tup (pv 0) (pv 1) (fun _ _ => rfl)) pa_nil)) pe_int (nomark _)) (pw_or1 (pt_not (pt_val (pe_call C__law_is_ordinal.G (hr.mono (by omega)) (by rfl) C__law_is_ordinal.m C__law_is_ordinal.kp C__law_is_ordinal.b .nil pass0 (pa_cons (pe_ix ix_tup (pe_ix ix_tup (pv 0) (pv 1) (fun _ _ => rfl)) pe_int (fun _ _ => rfl)) pa_nil)))))))) (pss_one (ps_ret pe_bl)) pss_nil)
  (pss_cons (ps_ifBy (PW.pt (pw_or (pt_not (pt_val (pe_callB call_isD (by rfl) T.z_isinstance (by decide +kernel) (pa_cons (pe_ix ix_tup (pe_ix ix_tup (pv 0) (pv 1) (fun _ _ => rfl)) pe_int (fun _ _ => rfl)) (pa_cons (pe_bltn (v := .ty "int") (u := .type "int") (by rfl) T.z_int (by decide +kernel) rfl) pa_nil))))) (pw_or (pt_val (pe_callB call_isD (by rfl) T.z_isinstance (by decide +kernel) (pa_cons (pe_ix ix_tup (pe_ix ix_tup (pv 0) (pv 1) (fun _ _ => rfl)) pe_int (fun _ _ => rfl)) (pa_cons (pe_bltn (v := .ty "bool") (u := .type "bool") (by rfl) T.z_bool (by decide +kernel) rfl) pa_nil)))) (pw_or1 (pt_cmpR op_lt (pe_ix ix_tup (pe_ix ix_tup (pv 0) (pv 1) (fun _ _ => rfl)) pe_int (fun _ _ => rfl)) pe_int (nomark _)))))) (pss_one (ps_ret pe_bl)) pss_nil)
  (pss_one (ps_ifBy (PW.pt (pw_and (pt_cmpR op_gt (pv 1) pe_int (nomark _)) (pw_and1 (pt_not (pt_cmpR (op_ltD hr.units) (pe_ix ix_tup (pe_ix ix_tup (pv 0) (pv 1) (fun _ _ => rfl)) pe_int (fun _ _ => rfl)) (pe_ix ix_tup (pe_ix ix_tup (pv 0) (pe_op op_sub (pv 1) pe_int) (fun _ _ => rfl)) pe_int (fun _ _ => rfl)) (nomark _)))))) (pss_one (ps_ret pe_bl)) pss_nil)))))
  (pss_one (ps_ret pe_bl)))), ?_⟩
  refine ⟨_, rfl, rd_tuple hx ⟨_, rfl, ?_⟩⟩
  have no : (∀ ds, d ≠ .tuple ds) → Q (.bl false) H := fun h => by rw [← isOrd_other h]; exact q H (Same.refl H)
  cases d with
  | none => exact iteT (no fun a z => by cases z)
  | bool _ => exact iteT (no fun a z => by cases z)
  | int _ => exact iteT (no fun a z => by cases z)
  | str _ => exact iteT (no fun a z => by cases z)
  | list _ => exact iteT (no fun a z => by cases z)
  | dict kv => exact absurd rfl (dp_nodict hx kv)
  | tuple ds =>
    obtain ⟨p, xs, rfl, h1, h2⟩ := dp_tup hx
    have hl := dpall_len h2
    have hds : PyData.depthAll ds < n := by simp only [PyData.depth] at hd; omega
    refine iteF ⟨_, rfl, rd_len (.inr h1) fun hz => ⟨_, rfl, (by have := line62 hz; omega), (by have := line62 hz; omega), ?_⟩⟩
    refine for_range (lo := 0) (n := xs.length) (fun i σ H' => ∃ u, σ = [some (.ref p), u] ∧ Same H H' ∧ ∃ l, Pref ds l i) ⟨_, rfl, Same.refl H, [], pref_nil ds⟩ (fun i σ H' hi h => ?_) (fun σ H' h => ?_)
    · obtain ⟨u, rfl, s1, l, hp⟩ := h
      obtain ⟨x2, hx2⟩ : ∃ x2, xs[i]? = some x2 := ⟨_, List.getElem?_eq_getElem hi⟩
      obtain ⟨dt, hdt, gx⟩ := dpall_get h2 hx2
      have hdd := depth_get hdt
      have e0 : (0 + (i : Nat) : Int) = (i : Nat) := by omega
      have hat : atI xs (0 + (i : Nat) : Int) = some x2 := by rw [e0]; exact atI_nat hx2
      have sq := same_sqt s1 h1
      have gx1 := dp_same s1 gx
      have bad : ¬ IsTerm dt → isOrdB (.tuple ds) = false := fun z => bad_term hdt z
      refine ⟨fun H1 => Same H H1 ∧ isOrdB (.tuple ds) = false, fun H1 => Same H H1 ∧ ∃ a b, dt = .tuple [a, b] ∧ isOrdB a = true, ?_, fun H1 h => ?_, fun H1 h => ?_⟩
      · refine ⟨_, rfl, _, rfl, p, xs, _, x2, rfl, rfl, sq, hat, rd_tuple gx1 ⟨_, rfl, ?_⟩⟩
        cases dt with
        | none => exact iteT ⟨s1, bad fun ⟨_, _, z, _⟩ => by cases z⟩
        | bool _ => exact iteT ⟨s1, bad fun ⟨_, _, z, _⟩ => by cases z⟩
        | int _ => exact iteT ⟨s1, bad fun ⟨_, _, z, _⟩ => by cases z⟩
        | str _ => exact iteT ⟨s1, bad fun ⟨_, _, z, _⟩ => by cases z⟩
        | list _ => exact iteT ⟨s1, bad fun ⟨_, _, z, _⟩ => by cases z⟩
        | dict kv => exact absurd rfl (dp_nodict gx kv)
        | tuple es =>
          obtain ⟨p2, ys, rfl, g1, g2⟩ := dp_tup gx1
          have hl2 := dpall_len g2
          refine iteF ⟨_, rfl, _, rfl, p, xs, _, _, rfl, rfl, sq, hat, rd_len (.inr g1) fun _ => ⟨rfl, _, rfl, ?_⟩⟩
          refine ite2 (fun e => ?_) (fun e => ?_)
          · refine ⟨s1, bad fun ⟨_, _, z, _⟩ => ?_⟩
            have z' := PyData.tuple.inj z
            subst z'
            rw [show ys.length = 2 from hl2] at e
            exact absurd e (by decide)
          · have e' : (ys.length : Int) = 2 := by
              have : (!decide (V.int (ys.length : Nat) = V.int 2)) = false := Bool.eq_false_iff.mpr e
              have : V.int (ys.length : Nat) = V.int 2 := by simpa using this
              exact V.int.inj this
            match es, ys, hl2, g1, g2, e' with
            | [a, b], [u, v], _, g1, .cons k1 (.cons k2 .nil), _ =>
              have hda : a.depth < n := by simp only [PyData.depth, PyData.depthAll] at hdd; omega
              refine ⟨_, rfl, _, rfl, p, xs, _, _, rfl, rfl, sq, hat, p2, _, 0, _, rfl, rfl, g1, rfl, u, a, rfl, k1, hda, fun H2 s2 => ⟨_, rfl, ?_⟩⟩
              cases hb : isOrdB a with
              | false => exact iteT ⟨s1.trans s2, bad fun z => by
                  have := isTerm_t z
                  rw [isTerm_two, hb, Bool.and_false] at this; cases this⟩
              | true => exact iteF ⟨s1.trans s2, a, b, rfl, hb⟩
            | [], [], _, _, _, h => exact absurd h (by decide)
            | [_], [_], _, _, _, h => exact absurd h (by show ¬ ((1 : Nat) : Int) = 2; decide)
            | _ :: _ :: _ :: r, _ :: _ :: _ :: r', _, _, _, h => exact absurd h (by simp only [List.length_cons]; omega)
      · have := q H1 h.1
        rw [h.2] at this
        exact this
      obtain ⟨s2, da, db, rfl, oa⟩ := h
      have sq := same_sqt s2 h1
      obtain ⟨p2, u2, v2, rfl, g1, g2, g3⟩ := dp_two (dp_same s2 gx)
      clear gx1 s1
      -- the count
      refine ⟨fun H1 => Same H H1 ∧ isOrdB (.tuple ds) = false, fun H3 => Same H H3 ∧ ∃ c, db = .int c ∧ 1 ≤ c, ?_, fun H3 h => ?_, fun H3 h => ?_⟩
      · have noc : isCntB db = false → isOrdB (.tuple ds) = false := fun hb => bad fun z => by
          have := isTerm_t z
          rw [isTerm_two, hb, Bool.false_and] at this; cases this
        refine ⟨_, rfl, _, rfl, p, xs, _, _, rfl, rfl, sq, hat, p2, _, 1, _, rfl, rfl, g1, rfl, rd_int g3 ⟨_, rfl, ?_⟩⟩
        cases db with
        | none => exact iteT ⟨s2, noc rfl⟩
        | str _ => exact iteT ⟨s2, noc rfl⟩
        | list _ => exact iteT ⟨s2, noc rfl⟩
        | tuple _ => exact iteT ⟨s2, noc rfl⟩
        | dict kv => exact absurd rfl (dp_nodict g3 kv)
        | bool b =>
          exact iteF ⟨_, rfl, _, rfl, p, xs, _, _, rfl, rfl, sq, hat, p2, _, 1, _, rfl, rfl, g1, rfl, rd_bool g3 ⟨_, rfl, iteT ⟨s2, noc rfl⟩⟩⟩
        | int c =>
          cases g3
          refine iteF ⟨_, rfl, _, rfl, p, xs, _, _, rfl, rfl, sq, hat, p2, _, 1, _, rfl, rfl, g1, rfl, rd_bool (.int c) ⟨_, rfl, iteF ?_⟩⟩
          refine ⟨_, rfl, _, rfl, p, xs, _, _, rfl, rfl, sq, hat, p2, _, 1, _, rfl, rfl, g1, rfl, _, _, rfl, rfl, _, rfl, ?_⟩
          refine ite2 (fun e => ⟨s2, noc (decide_eq_false (by have := of_decide_eq_true e; omega))⟩) (fun e => ⟨s2, c, rfl, ?_⟩)
          have := of_decide_eq_false (Bool.eq_false_iff.mpr e)
          omega
      · have := q H3 h.1
        rw [h.2] at this
        exact this
      obtain ⟨s3, c, rfl, hc⟩ := h
      obtain ⟨e, rfl, he⟩ := isOrd_of oa
      have sq := same_sqt s3 h1
      have gx3 := dp_same s3 gx
      have hdt : ds[i]? = some (O.tD (e, c)) := hdt
      -- the order
      refine ⟨fun H1 => Same H H1 ∧ isOrdB (.tuple ds) = false, fun H4 => Same H H4 ∧ ∀ t, l.getLast? = some t → O.lt e t.1 = true, ?_, fun H4 h => ?_, fun H4 h => ?_⟩
      · refine ⟨_, rfl, _, _, rfl, rfl, _, rfl, ?_⟩
        refine ite2 (fun e1 => ?_) (fun e1 => ?_)
        · have hi0 : 0 < i := by have := of_decide_eq_true e1; omega
          obtain ⟨j, rfl⟩ : ∃ j, i = j + 1 := ⟨i - 1, by omega⟩
          obtain ⟨t, tl, td⟩ := pref_last hp
          obtain ⟨x3, hx3⟩ : ∃ x3, xs[j]? = some x3 := ⟨_, List.getElem?_eq_getElem (show j < xs.length by omega)⟩
          obtain ⟨dt3, hdt3, gx4⟩ := dpall_get h2 hx3
          rw [td] at hdt3
          obtain rfl := Option.some.inj hdt3
          obtain ⟨p3, u3, v3, rfl, b1, b2, b3⟩ := dp_two (dp_same s3 gx4)
          have g1 := same_sqt (fun _ _ h => h) g1
          obtain ⟨p4, u4, v4, e4, c1, c2, c3⟩ := dp_two gx3
          obtain rfl := V.ref.inj e4
          have hj : (0 + ((j + 1 : Nat) : Int)) - 1 = ((j : Nat) : Int) := by omega
          refine ⟨_, rfl, _, rfl, p, xs, _, _, rfl, rfl, sq, hat, p2, _, 0, _, rfl, rfl, c1, rfl, _, rfl, _, rfl, _, _, rfl, rfl, p, xs, _, _, rfl, rfl, sq, (by rw [hj]; exact atI_nat hx3), p3, _, 0, _, rfl, rfl, b1, rfl, ?_⟩
          refine rd_ltD c2 b2 (by simp only [PyData.depth, PyData.depthAll, O.depth_toD] at hdd; omega) ⟨_, rfl, ?_⟩
          cases g5 : O.lt e t.1 with
          | false => exact iteT ⟨s3, bad_order td hdt g5⟩
          | true => exact iteF ⟨s3, fun t' h' => by rw [tl] at h'; cases h'; exact g5⟩
        · have hi0 : i = 0 := by
            have : ¬ (0 : Int) < 0 + (i : Nat) := of_decide_eq_false (Bool.eq_false_iff.mpr e1)
            omega
          subst hi0
          have : l = [] := List.length_eq_zero_iff.mp hp.2.2
          subst this
          exact ⟨s3, fun t' h' => by cases h'⟩
      · have := q H4 h.1
        rw [h.2] at this
        exact this
      · exact ⟨_, rfl, h.1, _, pref_step hp hdt he hc h.2⟩
    · obtain ⟨u, rfl, s1, l, hp⟩ := h
      have := q H' s1
      rw [hl] at hp
      rw [pref_end hp] at this
      exact this
theorem lisord_all  {aZERO : Addr} {aVowError : Addr} {aInvalidLevels : Addr} {aInvalidRow : Addr} {aMissing : Addr} {aNothingLeft : Addr} {fVI : Addr} (T : Txt K mg  aZERO aVowError aInvalidLevels aInvalidRow aMissing aNothingLeft fVI) {f : Addr} {fd : FuncData} (F : Fun K "_law_is_ordinal" "_law_is_ordinal" s_law_is_ordinal f fd) (b : Binds K fd ["_law_thing"] []) (m : mg "_law_is_ordinal" = some (.ref f)) :
    ∀ n, n ≤ 61 → FnOk P w K mg base CX0 n f fd ["_law_thing"] (spIsOrd K n)
  | 0, _ => none_left fun vs H Q E h => by
      obtain ⟨_, _, _, _, h, _⟩ := h
      exact absurd h (Nat.not_lt_zero _)
  | n + 1, h => ok_lisord T (by omega) F ⟨lisord_all T F b m n (by omega), m, F.kp, b⟩
end
end Vw

set_option Elab.async false
set_option linter.all false
set_option maxRecDepth 100000
set_option maxHeartbeats 4000000
namespace Vw
open PySem PySem.W PyProof.Rows L2
section
variable {P : Program} {w : World} {K : PySem.W.Frag} {mg : Str → Option Value} {base : Heap}
abbrev s_is_count : Stmt := top 10
theorem sc_is_count : FnScope ["value"] ["value"] (defScope s_is_count) := ⟨rfl, rfl, rfl, by decide +kernel, rfl, by decide +kernel, by decide +kernel⟩
abbrev s_is_term : Stmt := top 9
theorem sc_is_term : FnScope ["value", "exponent", "count"] ["value"] (defScope s_is_term) := ⟨rfl, rfl, rfl, by decide +kernel, rfl, by decide +kernel, by decide +kernel⟩
abbrev sis_ordinal : Stmt := top 8
theorem scis_ordinal : FnScope ["value", "at", "term"] ["value"] (defScope sis_ordinal) := ⟨rfl, rfl, rfl, by decide +kernel, rfl, by decide +kernel, by decide +kernel⟩
theorem ok_cnt  {aZERO : Addr} {aVowError : Addr} {aInvalidLevels : Addr} {aInvalidRow : Addr} {aMissing : Addr} {aNothingLeft : Addr} {fVI : Addr} (T : Txt K mg  aZERO aVowError aInvalidLevels aInvalidRow aMissing aNothingLeft fVI) {f : Addr} {fd : FuncData} {k : Nat} (F : Fun K "_is_count" "_is_count" s_is_count f fd) : FnOk P w K mg base CX0 (k + 1) f fd ["value"] (spCnt K) := by
  refine F.ok sc_is_count (fun vs H Q E h => ?_) (fun cdv A outer s H vs Q E hr h => ?_)
  · obtain ⟨_, _, rfl, _⟩ := h; rfl
  obtain ⟨x, d, rfl, hx, q⟩ := h
  refine ⟨_, (pss_one (ps_ret (pe_and (pe_callB call_isD (by rfl) T.z_isinstance (by decide +kernel) (pa_cons (pv 0) (pa_cons (pe_bltn (v := .ty "int") (u := .type "int") (by rfl) T.z_int (by decide +kernel) rfl) pa_nil))) (pe_and (pe_not (pe_callB call_isD (by rfl) T.z_isinstance (by decide +kernel) (pa_cons (pv 0) (pa_cons (pe_bltn (v := .ty "bool") (u := .type "bool") (by rfl) T.z_bool (by decide +kernel) rfl) pa_nil)))) (pe_one (pe_cmpR op_ge (pv 0) pe_int (nomark _))))))), ?_⟩
  have q := q H (Same.refl H)
  refine ⟨_, rfl, rd_int hx ⟨_, rfl, ?_⟩⟩
  cases d with
  | int n =>
    cases hx
    exact iteT ⟨_, rfl, rd_bool (.int n) ⟨_, rfl, _, rfl, iteT ⟨_, rfl, _, _, rfl, rfl, q⟩⟩⟩
  | bool b =>
    cases hx
    exact iteT ⟨_, rfl, rd_bool (.bl b) ⟨_, rfl, _, rfl, iteF q⟩⟩
  | none => exact iteF q
  | str s => exact iteF q
  | list l => exact iteF q
  | tuple l => exact iteF q
  | dict kv => exact absurd rfl (dp_nodict hx kv)
theorem ok_term  {aZERO : Addr} {aVowError : Addr} {aInvalidLevels : Addr} {aInvalidRow : Addr} {aMissing : Addr} {aNothingLeft : Addr} {fVI : Addr} (T : Txt K mg  aZERO aVowError aInvalidLevels aInvalidRow aMissing aNothingLeft fVI) {f f1 f2 : Addr} {fd fd1 fd2 : FuncData} {n : Nat} (F : Fun K "_is_term" "_is_term" s_is_term f fd) (C__is_count : Cal P w K mg base 1 "_is_count" ["value"] (spCnt K) f1 fd1)
    (C_is_ordinal : Cal P w K mg base (2 * n + 1) "is_ordinal" ["value"] (spIsOrd K n) f2 fd2) : FnOk P w K mg base CX0 (2 * n + 2) f fd ["value"] (spIsTerm K (n + 1)) := by
  refine F.ok sc_is_term (fun vs H Q E h => ?_) (fun cdv A outer s H vs Q E hr h => ?_)
  · obtain ⟨_, _, rfl, _⟩ := h; rfl
  obtain ⟨x, d, rfl, hx, hd, q⟩ := h
  refine ⟨_, (pss_cons (ps_if (PW.pt (pw_or (pt_not (pt_val (pe_callB call_isD (by rfl) T.z_isinstance (by decide +kernel) (pa_cons (pv 0) (pa_cons (pe_bltn (v := .ty "tuple") (u := .type "tuple") (by rfl) T.z_tuple (by decide +kernel) rfl) pa_nil))))) (pw_or1 (pt_cmpR op_ne (pe_callB call_lenB (by rfl) T.z_len (by decide +kernel) (pa_cons (pv 0) pa_nil)) pe_int (nomark _))))) (pss_one (ps_ret pe_bl)) pss_nil)
  (pss_cons (ps_asg (pv 0) (pg_tup (by rfl) (pgs_cons (pg_name (i := 1) sc_is_term.nd rfl (Or.inl rfl)) (pgs_cons (pg_name (i := 2) sc_is_term.nd rfl (Or.inl rfl)) pgs_nil))))
  (pss_one (ps_ret (pe_and (pe_call C__is_count.G (hr.mono (by omega)) (by rfl) C__is_count.m C__is_count.kp C__is_count.b .nil pass0 (pa_cons (pv 2) pa_nil)) (pe_one (pe_call C_is_ordinal.G (hr.mono (by omega)) (by rfl) C_is_ordinal.m C_is_ordinal.kp C_is_ordinal.b .nil pass0 (pa_cons (pv 1) pa_nil)))))))), ?_⟩
  refine ⟨_, rfl, rd_tuple hx ⟨_, rfl, ?_⟩⟩
  have no : (∀ a b, d ≠ .tuple [a, b]) → Q (.bl false) H := fun h => by rw [← isTerm_other h]; exact q H (Same.refl H)
  cases d with
  | tuple ds =>
    obtain ⟨p, xs, rfl, h1, h2⟩ := dp_tup hx
    have hl := dpall_len h2
    refine iteF ⟨_, rfl, rd_len (.inr h1) fun _ => ⟨rfl, _, rfl, ?_⟩⟩
    refine ite2 (fun e => ?_) (fun e => ?_)
    · refine no fun a b z => ?_
      have z' := PyData.tuple.inj z
      subst z'
      rw [show xs.length = 2 from hl] at e
      exact absurd e (by decide)
    · have e' : (xs.length : Int) = 2 := by
        have : (!decide (V.int (xs.length : Nat) = V.int 2)) = false := Bool.eq_false_iff.mpr e
        have : V.int (xs.length : Nat) = V.int 2 := by simpa using this
        exact V.int.inj this
      match ds, xs, hl, h1, h2, e' with
      | [a, b], [u, v], _, h1, .cons g1 (.cons g2 .nil), _ =>
        refine ⟨_, rfl, p, _, rfl, h1, rfl, u, _, rfl, v, _, rfl, rfl, ?_⟩
        refine ⟨_, rfl, v, b, rfl, g2, fun H1 s1 => ⟨_, rfl, ?_⟩⟩
        rw [isTerm_two] at q
        have hda : a.depth < n := by simp only [PyData.depth, PyData.depthAll] at hd; omega
        cases hb : isCntB b with
        | false =>
          rw [hb] at q
          exact iteF (q H1 s1)
        | true =>
          rw [hb] at q
          exact iteT ⟨_, rfl, u, a, rfl, dp_same s1 g1, hda, fun H2 s2 => q H2 (s1.trans s2)⟩
      | [], [], _, _, _, h => exact absurd h (by decide)
      | [_], [_], _, _, _, h => exact absurd h (by show ¬ ((1 : Nat) : Int) = 2; decide)
      | _ :: _ :: _ :: r, _ :: _ :: _ :: r', _, _, _, h => exact absurd h (by simp only [List.length_cons]; omega)
  | none => exact iteT (no fun a b z => by cases z)
  | bool _ => exact iteT (no fun a b z => by cases z)
  | int _ => exact iteT (no fun a b z => by cases z)
  | str _ => exact iteT (no fun a b z => by cases z)
  | list _ => exact iteT (no fun a b z => by cases z)
  | dict kv => exact absurd rfl (dp_nodict hx kv)
theorem ok_isord  {aZERO : Addr} {aVowError : Addr} {aInvalidLevels : Addr} {aInvalidRow : Addr} {aMissing : Addr} {aNothingLeft : Addr} {fVI : Addr} (T : Txt K mg  aZERO aVowError aInvalidLevels aInvalidRow aMissing aNothingLeft fVI) {f f1 : Addr} {fd fd1 : FuncData} {n : Nat} (hn : n ≤ 60) (F : Fun K "is_ordinal" "is_ordinal" sis_ordinal f fd) (C__is_term : Cal P w K mg base (2 * n + 2) "_is_term" ["value"] (spIsTerm K (n + 1)) f1 fd1) :
    FnOk P w K mg base CX0 (2 * n + 3) f fd ["value"] (spIsOrd K (n + 1)) := by
  refine F.ok scis_ordinal (fun vs H Q E h => ?_) (fun cdv A outer s H vs Q E hr h => ?_)
  · obtain ⟨_, _, rfl, _⟩ := h; rfl
  obtain ⟨x, d, rfl, hx, hd, q⟩ := h
  refine ⟨_, (pss_cons (ps_if (pt_not (pt_val (pe_callB call_isD (by rfl) T.z_isinstance (by decide +kernel) (pa_cons (pv 0) (pa_cons (pe_bltn (v := .ty "tuple") (u := .type "tuple") (by rfl) T.z_tuple (by decide +kernel) rfl) pa_nil))))) (pss_one (ps_ret pe_bl)) pss_nil)
  (pss_cons (ps_for PassesOwn.never rfl (pi_enumT (by rfl) T.z_enumerate (pa_cons (pv 0) pa_nil)) (pg_tup (by rfl) (pgs_cons (pg_name (i := 1) scis_ordinal.nd rfl (Or.inl rfl)) (pgs_cons (pg_name (i := 2) scis_ordinal.nd rfl (Or.inl rfl)) pgs_nil)))
   (pss_cons (ps_if (pt_not (pt_val (pe_call C__is_term.G (hr.mono (by omega)) (by rfl) C__is_term.m C__is_term.kp C__is_term.b .nil pass0 (pa_cons (pv 2) pa_nil)))) (pss_one (ps_ret pe_bl)) pss_nil)
  (pss_one (ps_if (PW.pt (pw_and (pt_cmpR op_gt (pv 1) pe_int (nomark _)) (pw_and1 (pt_cmpR (op_geD hr.units) (pe_ix ix_tup (pv 2) pe_int (fun _ _ => rfl)) (pe_ix ix_tup (pe_ix ix_tup (pv 0) (pe_op op_sub (pv 1) pe_int) (fun _ _ => rfl)) pe_int (fun _ _ => rfl)) (nomark _))))) (pss_one (ps_ret pe_bl)) pss_nil))))
  (pss_one (ps_ret pe_bl)))), ?_⟩
  refine ⟨_, rfl, rd_tuple hx ⟨_, rfl, ?_⟩⟩
  have no : (∀ ds, d ≠ .tuple ds) → Q (.bl false) H := fun h => by rw [← isOrd_other h]; exact q H (Same.refl H)
  cases d with
  | none => exact iteT (no fun a z => by cases z)
  | bool _ => exact iteT (no fun a z => by cases z)
  | int _ => exact iteT (no fun a z => by cases z)
  | str _ => exact iteT (no fun a z => by cases z)
  | list _ => exact iteT (no fun a z => by cases z)
  | dict kv => exact absurd rfl (dp_nodict hx kv)
  | tuple ds =>
    obtain ⟨p, xs, rfl, h1, h2⟩ := dp_tup hx
    have hl := dpall_len h2
    have hds : PyData.depthAll ds < n := by simp only [PyData.depth] at hd; omega
    refine iteF ⟨_, rfl, p, xs, rfl, h1, ?_⟩
    refine for_enumT (xs := xs) (fun i σ H' => ∃ u v, σ = [some (.ref p), u, v] ∧ Same H H' ∧ ∃ l, Pref ds l i) ⟨_, _, rfl, Same.refl H, [], pref_nil ds⟩ (fun i σ H' _ h => ?_) (fun i x2 C σ H' hx2 h nC => ?_) (fun σ H' h => ?_)
    · obtain ⟨_, _, _, s1, _⟩ := h
      exact same_sqt s1 h1
    · obtain ⟨u, v, rfl, s1, l, hp⟩ := h
      obtain ⟨dt, hdt, gx⟩ := dpall_get h2 hx2
      have hdd := depth_get hdt
      have s2 := s1.trans (same_new (o := .tup [.int (i : Nat), x2]) nC)
      refine ⟨C, _, rfl, SqT.of upd_same, rfl, _, _, rfl, _, _, rfl, rfl, ?_⟩
      refine ⟨_, rfl, x2, dt, rfl, dp_same s2 gx, by omega, fun H3 s3 => ⟨_, rfl, ?_⟩⟩
      have s4 := s2.trans s3
      cases ht : isTermB dt with
      | false =>
        refine iteT ?_
        have := q H3 s4
        rw [bad_term hdt (isTerm_no ht)] at this
        exact this
      | true =>
        refine iteF ⟨_, rfl, _, _, rfl, rfl, _, rfl, ?_⟩
        obtain ⟨e, c, rfl, he, hc⟩ := isTerm_of ht
        refine ite2 (fun e1 => ?_) (fun e1 => ?_)
        · have hi : 0 < i := by have := of_decide_eq_true e1; omega
          obtain ⟨j, rfl⟩ : ∃ j, i = j + 1 := ⟨i - 1, by omega⟩
          obtain ⟨t, tl, td⟩ := pref_last hp
          obtain ⟨x3, hx3⟩ : ∃ x3, xs[j]? = some x3 := by
            have : j + 1 < xs.length := (List.getElem?_eq_some_iff.mp hx2).1
            exact ⟨_, List.getElem?_eq_getElem (show j < xs.length by omega)⟩
          obtain ⟨dt3, hdt3, gx3⟩ := dpall_get h2 hx3
          rw [td] at hdt3
          obtain rfl := Option.some.inj hdt3
          obtain ⟨p2, u2, v2, rfl, a1, a2, a3⟩ := dp_two (dp_same s4 gx)
          obtain ⟨p3, u3, v3, rfl, b1, b2, b3⟩ := dp_two (dp_same s4 gx3)
          have hj : ((j + 1 : Nat) : Int) - 1 = ((j : Nat) : Int) := by omega
          refine ⟨_, rfl, p2, _, 0, _, rfl, rfl, a1, rfl, _, rfl, _, rfl, _, _, rfl, rfl, p, xs, _, _, rfl, rfl, same_sqt s4 h1, (by rw [hj]; exact atI_nat hx3), p3, _, 0, _, rfl, rfl, b1, rfl, ?_⟩
          refine rd_geD a2 b2 (by rw [depth_tD] at hdd; omega) ⟨_, rfl, ?_⟩
          refine ite2 (fun e2 => ?_) (fun e2 => ?_)
          · have := q H3 s4
            have e3 : O.lt e t.1 = false := by simpa using e2
            rw [bad_order td hdt e3] at this
            exact this
          · have e3 : O.lt e t.1 = true := by simpa using e2
            exact ⟨_, _, rfl, s4, _, pref_step hp hdt he hc fun t' h' => by rw [tl] at h'; cases h'; exact e3⟩
        · have hi : i = 0 := by
            have : ¬ (0 : Int) < (i : Nat) := of_decide_eq_false (Bool.eq_false_iff.mpr e1)
            omega
          subst hi
          have : l = [] := List.length_eq_zero_iff.mp hp.2.2
          subst this
          exact ⟨_, _, rfl, s4, _, pref_step hp hdt he hc fun t' h' => by cases h'⟩
    · obtain ⟨u, v, rfl, s1, l, hp⟩ := h
      have := q H' s1
      rw [hl] at hp
      rw [pref_end hp] at this
      exact this
theorem isord_all  {aZERO : Addr} {aVowError : Addr} {aInvalidLevels : Addr} {aInvalidRow : Addr} {aMissing : Addr} {aNothingLeft : Addr} {fVI : Addr} (T : Txt K mg  aZERO aVowError aInvalidLevels aInvalidRow aMissing aNothingLeft fVI) {f f1 f2 : Addr} {fd fd1 fd2 : FuncData} (F : Fun K "is_ordinal" "is_ordinal" sis_ordinal f fd) (b : Binds K fd ["value"] []) (m : mg "is_ordinal" = some (.ref f))
    (F1 : Fun K "_is_term" "_is_term" s_is_term f1 fd1) (b1 : Binds K fd1 ["value"] []) (m1 : mg "_is_term" = some (.ref f1)) (C2 : Cal P w K mg base 1 "_is_count" ["value"] (spCnt K) f2 fd2) :
    ∀ n, n ≤ 60 → FnOk P w K mg base CX0 (2 * n + 1) f fd ["value"] (spIsOrd K n)
  | 0, _ => fn_mono (none_left fun vs H Q E h => by
      obtain ⟨_, _, _, _, h, _⟩ := h
      exact absurd h (Nat.not_lt_zero _)) (Nat.zero_le _)
  | n + 1, h => ok_isord T (by omega) F ⟨ok_term T F1 C2 ⟨isord_all T F b m F1 b1 m1 C2 n (by omega), m, F.kp, b⟩, m1, F1.kp, b1⟩
end
end Vw

set_option Elab.async false
set_option linter.all false
set_option maxRecDepth 100000
set_option maxHeartbeats 4000000
namespace Vw
open PySem PySem.W PyProof.Rows L2
section
variable {P : Program} {w : World} {K : PySem.W.Frag} {mg : Str → Option Value} {base : Heap}
abbrev s_law_bent_ordinal : Stmt := top 32
theorem sc_law_bent_ordinal : FnScope ["_law_bag_here", "_law_here", "_law_way", "_law_at_z", "_law_odd"] ["_law_bag_here", "_law_here"] (defScope s_law_bent_ordinal) := ⟨rfl, rfl, rfl, by decide +kernel, rfl, by decide +kernel, by decide +kernel⟩
theorem ok_bent  {aZERO : Addr} {aVowError : Addr} {aInvalidLevels : Addr} {aInvalidRow : Addr} {aMissing : Addr} {aNothingLeft : Addr} {fVI : Addr} (T : Txt K mg  aZERO aVowError aInvalidLevels aInvalidRow aMissing aNothingLeft fVI) {f f1 f2 : Addr} {fd fd1 fd2 : FuncData} {n : Nat} (F : Fun K "_law_bent_ordinal" "_law_bent_ordinal" s_law_bent_ordinal f fd) (C__law_bent_ordinal : Cal P w K mg base (n + 2) "_law_bent_ordinal" ["_law_bag_here", "_law_here"] (spBent K n) f fd)
    (C__law_pull : Cal P w K mg base 1 "_law_pull" ["_law_bag_here", "_law_sides"] spPull f1 fd1) (C__law_of : Cal P w K mg base 2 "_law_of" ["_law_bag_here", "_law_some"] (spOf K) f2 fd2) : FnOk P w K mg base CX0 (n + 3) f fd ["_law_bag_here", "_law_here"] (spBent K (n + 1)) := by
  refine F.ok sc_law_bent_ordinal (fun vs H Q E h => ?_) (fun cdv A outer s H vs Q E hr h => ?_)
  · obtain ⟨_, _, _, _, rfl, _⟩ := h; rfl
  obtain ⟨l, b, x, o, rfl, hB, hx, hn, hd, hw, q⟩ := h
  refine ⟨_, (pss_cons (ps_set (i := 2) sc_law_bent_ordinal.nd rfl (Or.inl rfl) (pe_call C__law_pull.G (hr.mono (by omega)) (by rfl) C__law_pull.m C__law_pull.kp C__law_pull.b .nil pass0 (pa_cons (pv 0) (pa_cons pe_int pa_nil))))
  (pss_cons (ps_if (pt_cmpR op_eq (pv 2) pe_int (nomark _)) (pss_one (ps_ret (pe_op op_catO (pv 1) (pe_slice sl_tupO (pv 1) po_none (po_some pe_int))))) pss_nil)
  (pss_cons (ps_if (pt_cmpR op_eq (pv 2) pe_int (nomark _)) (pss_one (ps_ret (pe_revT (pv 1)))) pss_nil)
  (pss_cons (ps_if (pt_cmpR op_eq (pv 2) pe_int (nomark _)) (pss_one (ps_ret (pe_callTy call_list_of (by rfl) T.z_list (by decide +kernel) (pa_cons (pv 1) pa_nil)))) pss_nil)
  (pss_cons (ps_if (pt_cmpR op_eq (pv 2) pe_int (nomark _)) (pss_one (ps_ret (pe_op op_catO (pv 1) (pe_tup (pa_cons (pe_tup (pa_cons (pe_tup pa_nil) (pa_cons (pe_call C__law_of.G (hr.mono (by omega)) (by rfl) C__law_of.m C__law_of.kp C__law_of.b .nil pass0 (pa_cons (pv 0) (pa_cons (pe_lst (pa_cons pe_int (pa_cons (pe_un un_neg pe_int) (pa_cons pe_bl (pa_cons pe_str (pa_cons pe_non (pa_cons (pe_tup pa_nil) (pa_cons pe_int pa_nil)))))))) pa_nil))) pa_nil))) pa_nil))))) pss_nil)
  (pss_cons (ps_if (pt_cmpR op_eq (pv 2) pe_int (nomark _)) (pss_one (ps_ret (pe_op op_catO (pv 1) (pe_tup (pa_cons (pe_tup pa_nil) pa_nil))))) pss_nil)
  (pss_cons (ps_if (pt_cmpR op_eq (pv 2) pe_int (nomark _)) (pss_one (ps_ret (pe_call C__law_of.G (hr.mono (by omega)) (by rfl) C__law_of.m C__law_of.kp C__law_of.b .nil pass0 (pa_cons (pv 0) (pa_cons (pe_lst (pa_cons pe_non (pa_cons pe_int (pa_cons pe_int (pa_cons pe_bl (pa_cons pe_str (pa_cons pe_str (pa_cons (pe_tup (pa_cons (pe_tup pa_nil) pa_nil)) (pa_cons (pe_tup (pa_cons (pe_tup pa_nil) (pa_cons pe_int pa_nil))) (pa_cons (pe_tup (pa_cons (pe_tup (pa_cons (pe_tup pa_nil) (pa_cons pe_int (pa_cons pe_int pa_nil)))) pa_nil)) (pa_cons (pe_tup (pa_cons (pe_lst (pa_cons (pe_tup pa_nil) (pa_cons pe_int pa_nil))) pa_nil)) pa_nil))))))))))) pa_nil))))) pss_nil)
  (pss_cons (ps_ifBy (PW.pt (pw_and (pt_cmpR op_eq (pv 2) pe_int (nomark _)) (pw_and1 (pt_cmpR (op_neO hr.units) (pv 1) (pe_tup pa_nil) (nomark _))))) (pss_cons (ps_set (i := 3) sc_law_bent_ordinal.nd rfl (Or.inl rfl) (pe_call C__law_pull.G (hr.mono (by omega)) (by rfl) C__law_pull.m C__law_pull.kp C__law_pull.b .nil pass0 (pa_cons (pv 0) (pa_cons (pe_callB call_lenB (by rfl) T.z_len (by decide +kernel) (pa_cons (pv 1) pa_nil)) pa_nil))))
  (pss_cons (ps_set (i := 4) sc_law_bent_ordinal.nd rfl (Or.inl rfl) (pe_call C__law_of.G (hr.mono (by omega)) (by rfl) C__law_of.m C__law_of.kp C__law_of.b .nil pass0 (pa_cons (pv 0) (pa_cons (pe_lst (pa_cons pe_int (pa_cons (pe_un un_neg pe_int) (pa_cons pe_bl (pa_cons pe_non (pa_cons (pe_tup (pa_cons (pe_ix ix_tup (pe_ix ix_tup (pv 1) (pv 3) (fun _ _ => rfl)) pe_int (fun _ _ => rfl)) pa_nil)) pa_nil)))))) pa_nil))))
  (pss_one (ps_ret (pe_op op_catO (pe_op op_catO (pe_slice sl_tupO (pv 1) po_none (po_some (pv 3))) (pe_tup (pa_cons (pe_tup (pa_cons (pe_ix ix_tup (pe_ix ix_tup (pv 1) (pv 3) (fun _ _ => rfl)) pe_int (fun _ _ => rfl)) (pa_cons (pv 4) pa_nil))) pa_nil))) (pe_slice sl_tupO (pv 1) (po_some (pe_op op_add (pv 3) pe_int)) po_none)))))) pss_nil)
  (pss_cons (ps_ifBy (PW.pt (pw_and (pt_cmpR op_eq (pv 2) pe_int (nomark _)) (pw_and1 (pt_cmpR (op_neO hr.units) (pv 1) (pe_tup pa_nil) (nomark _))))) (pss_cons (ps_set (i := 3) sc_law_bent_ordinal.nd rfl (Or.inl rfl) (pe_call C__law_pull.G (hr.mono (by omega)) (by rfl) C__law_pull.m C__law_pull.kp C__law_pull.b .nil pass0 (pa_cons (pv 0) (pa_cons (pe_callB call_lenB (by rfl) T.z_len (by decide +kernel) (pa_cons (pv 1) pa_nil)) pa_nil))))
  (pss_one (ps_ret (pe_op op_catO (pe_op op_catO (pe_slice sl_tupO (pv 1) po_none (po_some (pv 3))) (pe_tup (pa_cons (pe_tup (pa_cons (pe_call C__law_bent_ordinal.G (hr.mono (by omega)) (by rfl) C__law_bent_ordinal.m C__law_bent_ordinal.kp C__law_bent_ordinal.b .nil pass0 (pa_cons (pv 0) (pa_cons (pe_ix ix_tup (pe_ix ix_tup (pv 1) (pv 3) (fun _ _ => rfl)) pe_int (fun _ _ => rfl)) pa_nil))) (pa_cons (pe_ix ix_tup (pe_ix ix_tup (pv 1) (pv 3) (fun _ _ => rfl)) pe_int (fun _ _ => rfl)) pa_nil))) pa_nil))) (pe_slice sl_tupO (pv 1) (po_some (pe_op op_add (pv 3) pe_int)) po_none))))) pss_nil)
  (pss_one (ps_ret (pv 1)))))))))))), ?_⟩
  obtain ⟨ax, rfl⟩ := hx.ref
  obtain ⟨xs, tx, px⟩ := hx.tt
  have lw := O.len_wd o
  have lx : xs.length ≤ 100 := by rw [paired_len px]; omega
  refine ⟨_, rfl, l, b, 9, rfl, by decide, by decide, hB, fun r1 H1 r10 r11 k1 B1 => ?_⟩
  have t1 := hB.tp k1
  have hx := hx.tp t1
  have tx := tx.tp t1
  have px := terms_tp t1 px
  have qB : ∀ (v : V) (H' : Hp), EltB K H' b (O.dp o + 5) v → Kp b H1 H' → Bag l H' b → Q v H' := fun v H' h1 h2 h3 => q v H' h1 (k1.trans h2) h3
  clear q
  have q : ∀ (v : V) (H' : Hp), EltT K H' (O.dp o + 5) v → Kp b H1 H' → Bag l H' b → Q v H' := fun v H' h1 h2 h3 => qB v H' (h1.toB h3) h2 h3
  clear k1 t1 hB
  have el : ∀ v ∈ xs, EltT K H1 (O.dp o) v := eltT_terms px fun t ht => O.dp_mem ht
  -- here + here[:1]
  refine ⟨_, rfl, rfl, _, rfl, ite2 (fun e => ?_) (fun e0 => ?_)⟩
  · refine ⟨_, rfl, _, rfl, 1, rfl, rd_to 1 tx fun p2 H2 s2 t2 => rd_cat (tx.same s2) t2 (by rw [List.length_take]; omega) fun p3 H3 s3 t3 => ?_⟩
    have sA := s2.trans s3
    refine q _ H3 ((EltT.tup t3 fun v hv => ?_).mono (by omega : O.dp o + 1 ≤ _)) (same_kp sA) (B1.same sA)
    exact (el v ((List.mem_append.mp hv).elim id List.mem_of_mem_take)).same sA
  -- here[::-1]
  refine ⟨_, rfl, rfl, _, rfl, ite2 (fun e => ?_) (fun e1 => ?_)⟩
  · refine ⟨_, rfl, ax, xs, rfl, tx, fun p2 H2 s2 t2 => q _ H2 ((EltT.tup t2 fun v hv => ?_).mono (by omega : O.dp o + 1 ≤ _)) (same_kp s2) (B1.same s2)⟩
    exact (el v (List.mem_reverse.mp hv)).same s2
  -- list(here)
  refine ⟨_, rfl, rfl, _, rfl, ite2 (fun e => ?_) (fun e2 => ?_)⟩
  · refine ⟨_, rfl, ax, xs, rfl, .inr tx.sq, fun p2 n2 => ?_⟩
    have s2 := same_new (o := .lst xs) n2
    exact qB _ _ ((EltB.lst (B1.ne n2) upd_same fun v hv => ((el v hv).same s2).toB (B1.same s2)).mono (by omega : O.dp o + 1 ≤ _)) (same_kp s2) (B1.same s2)
  -- a count that is none
  refine ⟨_, rfl, rfl, _, rfl, ite2 (fun e => ?_) (fun e3 => ?_)⟩
  · refine ⟨_, rfl, (by show 0 ≤ sizeLine; decide), fun p0 n0 => ⟨_, rfl, _, rfl, (by show 0 ≤ sizeLine; decide), fun p1 n1 => ⟨(by show 7 ≤ sizeLine; decide), fun D nD => ?_⟩⟩⟩
    have s1 := same_new (o := .tup []) n0
    have s2 := same_new (o := .tup []) n1
    have s3 := same_new (o := .lst [.int 0, .int (-1), .bl true, .str "1", .non, .ref p1, .int 1]) nD
    have o0 := ((OA.nil (K := K) (.of (H := upd H1 p0 (.tup [])) upd_same)).same s2).same s3
    have o1 := (OA.nil (K := K) (.of (H := upd (upd H1 p0 (.tup [])) p1 (.tup [])) upd_same)).same s3
    have B2 := (B1.same s1).same s2
    refine ⟨l, b, D, _, rfl, B2.same s3, .inl ⟨B2.ne nD, upd_same⟩, by simp, fun v H4 m4 k4 B4 => ?_⟩
    have t4 := (B2.same s3).tp k4
    have tA := (same_tp ((s1.trans s2).trans s3)).trans t4
    have ev : EltT K H4 1 v := by
      simp only [List.mem_cons, List.not_mem_nil, or_false] at m4
      rcases m4 with h | h | h | h | h | h | h <;> subst h
      · exact .int _
      · exact .int _
      · exact .bl _
      · exact .str _
      · exact .non
      · exact .ord (o1.tp t4) (by decide)
      · exact .int _
    refine ⟨(by show 2 ≤ sizeLine; decide), fun p5 n5 => ⟨(by show 1 ≤ sizeLine; decide), fun p6 n6 => ?_⟩⟩
    have s5 := same_new (o := .tup [.ref p0, v]) n5
    have s6 := same_new (o := .tup [.ref p5]) n6
    refine rd_cat ((tx.tp tA).same (s5.trans s6)) (.of upd_same) (by show _ + 1 ≤ 100000; omega) fun p7 H7 s7 t7 => ?_
    have sB := (s5.trans s6).trans s7
    have e5 : EltT K H7 (2 + 1) (.ref p5) := EltT.tup (xs := [.ref p0, v]) (((TT.of (K := K) (H := upd H4 p5 (.tup [.ref p0, v])) upd_same).same s6).same s7) fun u hu => by
      simp only [List.mem_cons, List.not_mem_nil, or_false] at hu
      rcases hu with h | h <;> subst h
      · exact (EltT.ord ((o0.tp t4).same sB) (by decide)).mono (by omega : 1 ≤ 2)
      · exact (ev.same sB).mono (by omega)
    refine q _ H7 ((EltT.tup t7 (n := O.dp o + 4) fun u hu => ?_)) (((same_kp ((s1.trans s2).trans s3)).trans k4).trans (same_kp sB)) (B4.same sB)
    rcases List.mem_append.mp hu with h | h
    · exact (((eltT_terms (terms_tp tA px) fun t ht => O.dp_mem ht) u h).same sB).mono (by omega)
    · rw [List.mem_singleton.mp h]; exact e5.mono (by omega)
  -- a term that is none
  refine ⟨_, rfl, rfl, _, rfl, ite2 (fun e => ?_) (fun e4 => ?_)⟩
  · refine ⟨_, rfl, (by show 0 ≤ sizeLine; decide), fun p0 n0 => ⟨(by show 1 ≤ sizeLine; decide), fun p1 n1 => ?_⟩⟩
    have s1 := same_new (o := .tup []) n0
    have s2 := same_new (o := .tup [.ref p0]) n1
    refine rd_cat (tx.same (s1.trans s2)) (.of upd_same) (by show _ + 1 ≤ 100000; omega) fun p7 H7 s7 t7 => ?_
    have sB := (s1.trans s2).trans s7
    have o0 := ((OA.nil (K := K) (.of (H := upd H1 p0 (.tup [])) upd_same)).same s2).same s7
    refine q _ H7 ((EltT.tup t7 (n := O.dp o + 4) fun u hu => ?_)) (same_kp sB) (B1.same sB)
    rcases List.mem_append.mp hu with h | h
    · exact ((el u h).same sB).mono (by omega)
    · rw [List.mem_singleton.mp h]; exact (EltT.ord o0 (Nat.le_refl 1)).mono (by omega)
  -- no ordinal at all
  refine ⟨_, rfl, rfl, _, rfl, ite2 (fun e => ?_) (fun e5 => ?_)⟩
  · refine ⟨_, rfl, (by show 0 ≤ sizeLine; decide), fun a0 m0 => ⟨(by show 1 ≤ sizeLine; decide), fun a1 m1 => ?_⟩⟩
    have sA := (same_new (o := .tup []) m0).trans (same_new (o := .tup [.ref a0]) m1)
    have ta0 : TT K (upd (upd H1 a0 (.tup [])) a1 (.tup [.ref a0])) a0 [] := (TT.of (H := upd H1 a0 (.tup [])) upd_same).same (same_new m1)
    have ta1 : TT K (upd (upd H1 a0 (.tup [])) a1 (.tup [.ref a0])) a1 [.ref a0] := .of upd_same
    generalize upd (upd H1 a0 (.tup [])) a1 (.tup [.ref a0]) = G1 at *
    refine ⟨(by show 0 ≤ sizeLine; decide), fun b0 m2 => ⟨(by show 2 ≤ sizeLine; decide), fun b1 m3 => ?_⟩⟩
    have sB := (same_new (o := .tup []) m2).trans (same_new (o := .tup [.ref b0, .int 1]) m3)
    have tb0 : TT K (upd (upd G1 b0 (.tup [])) b1 (.tup [.ref b0, .int 1])) b0 [] := (TT.of (H := upd G1 b0 (.tup [])) upd_same).same (same_new m3)
    have tb1 : TT K (upd (upd G1 b0 (.tup [])) b1 (.tup [.ref b0, .int 1])) b1 [.ref b0, .int 1] := .of upd_same
    have ta0 := ta0.same sB
    have ta1 := ta1.same sB
    have sA := sA.trans sB
    clear sB
    generalize upd (upd G1 b0 (.tup [])) b1 (.tup [.ref b0, .int 1]) = G2 at *
    refine ⟨(by show 0 ≤ sizeLine; decide), fun c0 m4 => ⟨(by show 3 ≤ sizeLine; decide), fun c1 m5 => ⟨(by show 1 ≤ sizeLine; decide), fun c2 m6 => ?_⟩⟩⟩
    have sB := ((same_new (o := .tup []) m4).trans (same_new (o := .tup [.ref c0, .int 1, .int 1]) m5)).trans (same_new (o := .tup [.ref c1]) m6)
    have tc0 : TT K (upd (upd (upd G2 c0 (.tup [])) c1 (.tup [.ref c0, .int 1, .int 1])) c2 (.tup [.ref c1])) c0 [] := ((TT.of (H := upd G2 c0 (.tup [])) upd_same).same (same_new m5)).same (same_new m6)
    have tc1 : TT K (upd (upd (upd G2 c0 (.tup [])) c1 (.tup [.ref c0, .int 1, .int 1])) c2 (.tup [.ref c1])) c1 [.ref c0, .int 1, .int 1] := (TT.of (H := upd (upd G2 c0 (.tup [])) c1 (.tup [.ref c0, .int 1, .int 1])) upd_same).same (same_new m6)
    have tc2 : TT K (upd (upd (upd G2 c0 (.tup [])) c1 (.tup [.ref c0, .int 1, .int 1])) c2 (.tup [.ref c1])) c2 [.ref c1] := .of upd_same
    have ta0 := ta0.same sB
    have ta1 := ta1.same sB
    have tb0 := tb0.same sB
    have tb1 := tb1.same sB
    have sA := sA.trans sB
    clear sB
    generalize upd (upd (upd G2 c0 (.tup [])) c1 (.tup [.ref c0, .int 1, .int 1])) c2 (.tup [.ref c1]) = G3 at *
    refine ⟨(by show 0 ≤ sizeLine; decide), fun d0 m7 => ⟨(by show 2 ≤ sizeLine; decide), fun d1 m8 => ⟨(by show 1 ≤ sizeLine; decide), fun d2 m9 => ?_⟩⟩⟩
    have hd1 : d1 ≠ b := ((B1.same sA).same (same_new (o := .tup []) m7)).ne m8
    have sB := ((same_new (o := .tup []) m7).trans (same_new (o := .lst [.ref d0, .int 1]) m8)).trans (same_new (o := .tup [.ref d1]) m9)
    have td0 : TT K (upd (upd (upd G3 d0 (.tup [])) d1 (.lst [.ref d0, .int 1])) d2 (.tup [.ref d1])) d0 [] := ((TT.of (H := upd G3 d0 (.tup [])) upd_same).same (same_new m8)).same (same_new m9)
    have td1 : (upd (upd (upd G3 d0 (.tup [])) d1 (.lst [.ref d0, .int 1])) d2 (.tup [.ref d1])) d1 = some (.lst [.ref d0, .int 1]) := same_new m9 _ _ upd_same
    have td2 : TT K (upd (upd (upd G3 d0 (.tup [])) d1 (.lst [.ref d0, .int 1])) d2 (.tup [.ref d1])) d2 [.ref d1] := .of upd_same
    have ta0 := ta0.same sB
    have ta1 := ta1.same sB
    have tb0 := tb0.same sB
    have tb1 := tb1.same sB
    have tc0 := tc0.same sB
    have tc1 := tc1.same sB
    have tc2 := tc2.same sB
    have sA := sA.trans sB
    clear sB
    generalize upd (upd (upd G3 d0 (.tup [])) d1 (.lst [.ref d0, .int 1])) d2 (.tup [.ref d1]) = G4 at *
    refine ⟨(by show 10 ≤ sizeLine; decide), fun D nD => ?_⟩
    have s5 := same_new (o := .lst [.non, .int 0, .int 1, .bl true, .str "w", .str "", .ref a1, .ref b1, .ref c2, .ref d2]) nD
    have B5 := B1.same sA
    refine ⟨l, b, D, _, rfl, B5.same s5, .inl ⟨B5.ne nD, upd_same⟩, by simp, fun v H6 m6 k6 B6 => qB v H6 ?_ ((same_kp (sA.trans s5)).trans k6) B6⟩
    have t6 := (same_tp s5).trans ((B5.same s5).tp k6)
    have td1 := k6 _ _ hd1 (s5 _ _ td1)
    have z : ∀ {p : Addr}, TT K G4 p [] → EltT K H6 1 (.ref p) := fun h => EltT.ord (OA.nil (h.tp t6)) (by decide)
    refine EltB.mono (n := 3) ?_ (by omega)
    simp only [List.mem_cons, List.not_mem_nil, or_false] at m6
    rcases m6 with h | h | h | h | h | h | h | h | h | h <;> subst h
    · exact EltT.toB (.non) B6
    · exact EltT.toB (.int _) B6
    · exact EltT.toB (.int _) B6
    · exact EltT.toB (.bl _) B6
    · exact EltT.toB (.str _) B6
    · exact EltT.toB (.str _) B6
    · exact ((EltT.tup (n := 1) (ta1.tp t6) fun u hu => by rw [List.mem_singleton.mp hu]; exact z ta0).mono (by omega)).toB B6
    · exact ((EltT.tup (n := 1) (tb1.tp t6) fun u hu => by
        simp only [List.mem_cons, List.not_mem_nil, or_false] at hu
        rcases hu with h | h <;> subst h
        · exact z tb0
        · exact .int _).mono (by omega)).toB B6
    · refine EltT.toB (EltT.tup (n := 2) (tc2.tp t6) fun u hu => ?_) B6
      rw [List.mem_singleton.mp hu]
      exact EltT.tup (n := 1) (tc1.tp t6) fun u hu => by
        simp only [List.mem_cons, List.not_mem_nil, or_false] at hu
        rcases hu with h | h | h <;> subst h
        · exact z tc0
        · exact .int _
        · exact .int _
    · refine EltB.tup (n := 2) B6 (td2.tp t6) fun u hu => ?_
      rw [List.mem_singleton.mp hu]
      exact EltB.lst (n := 1) hd1 td1 fun u hu => by
        simp only [List.mem_cons, List.not_mem_nil, or_false] at hu
        rcases hu with h | h <;> subst h
        · exact (z td0).toB B6
        · exact EltT.toB (.int _) B6
  -- one count another
  have test : ∀ (c : Int) (σ : L2.St), σ[1]? = some (some (.ref ax)) → True := fun _ _ _ => trivial
  have put : ∀ (H5 : Hp) (k : Nat) (t : O × Int) (u1 u2 : V) (pl p5 p6 pr pc pf : Addr) (n : Nat), (O.ts o)[k]? = some t → Tp H1 H5 → Bag l H5 b → EltB K H5 b n u1 → EltB K H5 b n u2 → n + 1 ≤ O.dp o + 4 → TT K H5 p5 [u1, u2] → TT K H5 pf ((xs.take k ++ [.ref p5]) ++ xs.drop (k + 1)) → EltB K H5 b (O.dp o + 5) (.ref pf) := fun H5 k t u1 u2 pl p5 p6 pr pc pf n ht tp B5 e1 e2 hn h5 hf => by
    refine EltB.tup B5 hf fun v hv => ?_
    have el := eltT_terms (terms_tp tp px) fun t ht => O.dp_mem ht
    rcases List.mem_append.mp hv with h | h
    · rcases List.mem_append.mp h with h | h
      · exact ((el v (List.mem_of_mem_take h)).toB B5).mono (by omega)
      · rw [List.mem_singleton.mp h]
        refine (EltB.tup B5 h5 fun w hw => ?_).mono hn
        simp only [List.mem_cons, List.not_mem_nil, or_false] at hw
        rcases hw with h | h <;> subst h
        · exact e1
        · exact e2
    · exact ((el v (List.mem_of_mem_drop h)).toB B5).mono (by omega)
  refine ⟨fun H' => Same H1 H' ∧ o ≠ .z, fun H' => Same H1 H', ?_, fun H2 h => ?_, fun H2 h => ?_⟩
  · refine ⟨_, rfl, rfl, _, rfl, ite2 (fun e => ?_) (fun e6 => Same.refl H1)⟩
    refine ⟨_, rfl, (by show 0 ≤ sizeLine; decide), fun p0 n0 => ?_⟩
    have s0 := same_new (o := .tup []) n0
    refine rd_ne (hx.same s0) (OA.nil (.of upd_same)) (by omega) (by decide) ⟨_, rfl, ite2 (fun e => ⟨s0, fun z => by subst z; cases e⟩) (fun _ => s0)⟩
  · obtain ⟨s2, hz⟩ := h
    have hxs : 0 < xs.length := by
      rw [paired_len px]
      cases o with
      | z => exact absurd rfl hz
      | add _ _ _ => exact Nat.succ_pos _
    have B2 := B1.same s2
    refine ⟨_, rfl, _, rfl, rd_len (.inr (tx.same s2).sq) fun _ => ⟨l, b, _, rfl, by omega, by omega, B2, fun r3 H3 r30 r31 k3 B3 => ?_⟩⟩
    obtain ⟨k, rfl⟩ : ∃ k : Nat, r3 = (k : Nat) := ⟨r3.toNat, by omega⟩
    have hk : k < xs.length := by omega
    obtain ⟨v, hv⟩ : ∃ v, xs[k]? = some v := ⟨_, List.getElem?_eq_getElem hk⟩
    have t3 := (same_tp s2).trans (B2.tp k3)
    obtain ⟨t, ht, p1, q1, rfl, tv, ov⟩ := paired_get (terms_tp t3 px) hv
    have dt := O.dp_mem (List.mem_of_getElem? ht)
    have tx3 := tx.tp t3
    refine ⟨_, rfl, _, rfl, _, rfl, _, rfl, ax, _, _, _, rfl, rfl, tx3.sq, atI_nat hv, p1, _, 1, _, rfl, rfl, tv.sq, rfl, (by show 1 ≤ sizeLine; decide), fun p2 n2 => ⟨(by show 5 ≤ sizeLine; decide), fun D nD => ?_⟩⟩
    have s4 := same_new (o := .tup [.int t.2]) n2
    have s5 := same_new (o := .lst [.int 0, .int (-1), .bl true, .non, .ref p2]) nD
    have tp2 : TT K (upd H3 p2 (.tup [.int t.2])) p2 [.int t.2] := .of upd_same
    have B4 := B3.same s4
    refine ⟨l, b, D, _, rfl, B4.same s5, .inl ⟨B4.ne nD, upd_same⟩, by simp, fun v6 H6 m6 k6 B6 => ?_⟩
    have t6 := (same_tp s5).trans ((B4.same s5).tp k6)
    have ev : EltT K H6 2 v6 := by
      simp only [List.mem_cons, List.not_mem_nil, or_false] at m6
      rcases m6 with h | h | h | h | h <;> subst h
      · exact .int _
      · exact .int _
      · exact .bl _
      · exact .non
      · exact EltT.tup (n := 1) (tp2.tp t6) fun u hu => by rw [List.mem_singleton.mp hu]; exact .int _
    have tA := (t3.trans (same_tp s4)).trans t6
    have tx6 := tx.tp tA
    have tv := (tv.same s4).tp t6
    have ov := (ov.same s4).tp t6
    refine ⟨_, rfl, _, rfl, _, rfl, rd_to k tx6 fun p7 H7 s7 t7 => ?_⟩
    refine ⟨_, rfl, _, rfl, ax, _, _, _, rfl, rfl, (tx6.same s7).sq, atI_nat hv, p1, _, 0, _, rfl, rfl, (tv.same s7).sq, rfl, _, rfl, (by show 2 ≤ sizeLine; decide), fun p8 n8 => ⟨(by show 1 ≤ sizeLine; decide), fun p9 n9 => ?_⟩⟩
    have s8 := same_new (o := .tup [.ref q1, v6]) n8
    have s9 := same_new (o := .tup [.ref p8]) n9
    refine rd_cat ((t7.same s8).same s9) (.of upd_same) (by rw [List.length_take]; show _ + 1 ≤ 100000; omega) fun p10 H10 s10 t10 => ?_
    have sB := ((s7.trans s8).trans s9).trans s10
    refine ⟨_, rfl, _, rfl, _, _, rfl, rfl, _, rfl, rd_from (k + 1) (tx6.same sB) fun p11 H11 s11 t11 => rd_cat (t10.same s11) t11 (by rw [List.length_append, List.length_take, List.length_drop]; show _ + 1 + _ ≤ 100000; omega) fun p12 H12 s12 t12 => ?_⟩
    have sC := (sB.trans s11).trans s12
    have t8 : TT K H12 p8 [.ref q1, v6] := (((TT.of (H := upd H7 p8 (.tup [.ref q1, v6])) upd_same).same s9).same ((s10.trans s11).trans s12))
    refine qB _ H12 (put H12 k t (.ref q1) v6 p1 p8 p1 p1 p1 p12 (O.dp o + 2) ht (tA.trans (same_tp sC)) (B6.same sC) (((EltT.ord (ov.same sC) (Nat.le_refl _)).toB (B6.same sC)).mono (by omega)) (((ev.same sC).toB (B6.same sC)).mono (by omega)) (by omega) t8 t12) ?_ (B6.same sC)
    exact ((((same_kp s2).trans k3).trans (same_kp (s4.trans s5))).trans k6).trans (same_kp sC)
  have s2 := h
  have hx := hx.same s2
  have tx := tx.same s2
  have B2 := B1.same s2
  refine ⟨fun H' => Same H2 H' ∧ o ≠ .z, fun H' => Same H2 H', ?_, fun H3 h => ?_, fun H3 h => ⟨_, rfl, q _ H3 ((EltT.ord (hx.same h) (Nat.le_refl _)).mono (by omega)) (same_kp (s2.trans h)) (B2.same h)⟩⟩
  · refine ⟨_, rfl, rfl, _, rfl, ite2 (fun e => ?_) (fun e7 => Same.refl H2)⟩
    refine ⟨_, rfl, (by show 0 ≤ sizeLine; decide), fun p0 n0 => ?_⟩
    have s0 := same_new (o := .tup []) n0
    refine rd_ne (hx.same s0) (OA.nil (.of upd_same)) (by omega) (by decide) ⟨_, rfl, ite2 (fun e => ⟨s0, fun z => by subst z; cases e⟩) (fun _ => s0)⟩
  obtain ⟨s3, hz⟩ := h
  have hxs : 0 < xs.length := by
    rw [paired_len px]
    cases o with
    | z => exact absurd rfl hz
    | add _ _ _ => exact Nat.succ_pos _
  have B3 := B2.same s3
  have tx := tx.same s3
  have s23 := s2.trans s3
  refine ⟨_, rfl, _, rfl, rd_len (.inr tx.sq) fun _ => ⟨l, b, _, rfl, by omega, by omega, B3, fun r4 H4 r40 r41 k4 B4 => ?_⟩⟩
  obtain ⟨k, rfl⟩ : ∃ k : Nat, r4 = (k : Nat) := ⟨r4.toNat, by omega⟩
  have hk : k < xs.length := by omega
  obtain ⟨v, hv⟩ : ∃ v, xs[k]? = some v := ⟨_, List.getElem?_eq_getElem hk⟩
  have t4 := (same_tp s23).trans (B3.tp k4)
  have tx4 := tx.tp (B3.tp k4)
  obtain ⟨t, ht, p1, q1, rfl, tv, ov⟩ := paired_get (terms_tp t4 px) hv
  have htm := List.mem_of_getElem? ht
  have dt := O.dp_mem htm
  have wt := O.wd_mem htm
  refine ⟨_, rfl, _, rfl, _, rfl, rd_to k tx4 fun p7 H7 s7 t7 => ?_⟩
  refine ⟨_, rfl, _, rfl, _, rfl, ax, _, _, _, rfl, rfl, (tx4.same s7).sq, atI_nat hv, p1, _, 0, _, rfl, rfl, (tv.same s7).sq, rfl, l, b, _, t.1, rfl, B4.same s7, ov.same s7, by omega, by omega, by omega, fun v8 H8 e8 k8 B8 => ?_⟩
  have t8 := (B4.same s7).tp k8
  have tA := (t4.trans (same_tp s7)).trans t8
  have tx8 := (tx4.same s7).tp t8
  have tv := (tv.same s7).tp t8
  refine ⟨_, rfl, _, rfl, ax, _, _, _, rfl, rfl, tx8.sq, atI_nat hv, p1, _, 1, _, rfl, rfl, tv.sq, rfl, (by show 2 ≤ sizeLine; decide), fun p9 n9 => ⟨(by show 1 ≤ sizeLine; decide), fun p10 n10 => ?_⟩⟩
  have s9 := same_new (o := .tup [v8, .int t.2]) n9
  have s10 := same_new (o := .tup [.ref p9]) n10
  refine rd_cat (((t7.tp t8).same s9).same s10) (.of upd_same) (by rw [List.length_take]; show _ + 1 ≤ 100000; omega) fun p11 H11 s11 t11 => ?_
  have sB := (s9.trans s10).trans s11
  refine ⟨_, rfl, _, rfl, _, _, rfl, rfl, _, rfl, rd_from (k + 1) (tx8.same sB) fun p12 H12 s12 t12 => rd_cat (t11.same s12) t12 (by rw [List.length_append, List.length_take, List.length_drop]; show _ + 1 + _ ≤ 100000; omega) fun p13 H13 s13 t13 => ?_⟩
  have sC := (sB.trans s12).trans s13
  have t9 : TT K H13 p9 [v8, .int t.2] := (((TT.of (H := upd H8 p9 (.tup [v8, .int t.2])) upd_same).same s10).same ((s11.trans s12).trans s13))
  refine qB _ H13 (put H13 k t v8 (.int t.2) p1 p9 p1 p1 p1 p13 (O.dp o + 3) ht (tA.trans (same_tp sC)) (B8.same sC) ((e8.same sC).mono (by omega)) (EltT.toB (.int _) (B8.same sC)) (by omega) t9 t13) ?_ (B8.same sC)
  exact ((((same_kp s23).trans k4).trans (same_kp s7)).trans k8).trans (same_kp sC)
theorem bent_all  {aZERO : Addr} {aVowError : Addr} {aInvalidLevels : Addr} {aInvalidRow : Addr} {aMissing : Addr} {aNothingLeft : Addr} {fVI : Addr} (T : Txt K mg  aZERO aVowError aInvalidLevels aInvalidRow aMissing aNothingLeft fVI) {f f1 f2 : Addr} {fd fd1 fd2 : FuncData} (F : Fun K "_law_bent_ordinal" "_law_bent_ordinal" s_law_bent_ordinal f fd) (bF : Binds K fd ["_law_bag_here", "_law_here"] []) (mF : mg "_law_bent_ordinal" = some (.ref f))
    (C1 : Cal P w K mg base 1 "_law_pull" ["_law_bag_here", "_law_sides"] spPull f1 fd1) (C2 : Cal P w K mg base 2 "_law_of" ["_law_bag_here", "_law_some"] (spOf K) f2 fd2) : ∀ n : Nat, FnOk P w K mg base CX0 (n + 2) f fd ["_law_bag_here", "_law_here"] (spBent K n)
  | 0 => fn_mono (none_left fun vs H Q E h => by
      obtain ⟨_, _, _, _, _, _, _, h, _⟩ := h
      exact absurd h (Nat.not_lt_zero _)) (Nat.zero_le _)
  | n + 1 => ok_bent T F ⟨bent_all T F bF mF C1 C2 n, mF, F.kp, bF⟩ C1 C2
end
end Vw

set_option Elab.async false
set_option linter.all false
set_option maxRecDepth 100000
set_option maxHeartbeats 4000000
namespace Vw
open PySem PySem.W PyProof.Rows L2
section
variable {P : Program} {w : World} {K : PySem.W.Frag} {mg : Str → Option Value} {base : Heap}
abbrev s_law_row : Stmt := top 31
theorem sc_law_row : FnScope ["_law_bag_here", "_law_many_z", "_law_found", "_law_k", "_law_low_z"] ["_law_bag_here", "_law_many_z"] (defScope s_law_row) := ⟨rfl, rfl, rfl, by decide +kernel, rfl, by decide +kernel, by decide +kernel⟩
theorem ok_row  {aZERO : Addr} {aVowError : Addr} {aInvalidLevels : Addr} {aInvalidRow : Addr} {aMissing : Addr} {aNothingLeft : Addr} {fVI : Addr} (T : Txt K mg  aZERO aVowError aInvalidLevels aInvalidRow aMissing aNothingLeft fVI) {f f1 f2 f3 : Addr} {fd fd1 fd2 fd3 : FuncData} (F : Fun K "_law_row" "_law_row" s_law_row f fd) (C__law_pull : Cal P w K mg base 1 "_law_pull" ["_law_bag_here", "_law_sides"] spPull f1 fd1)
    (C__law_ordinal : Cal P w K mg base 12 "_law_ordinal" ["_law_bag_here", "_law_deep"] (spOrdTo K 10) f2 fd2) (C__law_raise : Cal P w K mg base 2 "_law_raise" ["_law_here", "_law_last"] (spO2 K O.raisedO) f3 fd3) : FnOk P w K mg base CX0 13 f fd ["_law_bag_here", "_law_many_z"] (spRow K) := by
  refine F.ok sc_law_row (fun vs H Q E h => ?_) (fun cdv A outer s H vs Q E hr h => ?_)
  · obtain ⟨_, _, _, rfl, _⟩ := h; rfl
  obtain ⟨l, b, m, rfl, hm, hB, q⟩ := h
  refine ⟨_, (pss_cons (ps_set (i := 2) sc_law_row.nd rfl (Or.inl rfl) (pe_lst pa_nil))
  (pss_cons (ps_for PassesOwn.never rfl (pi_range1 (by rfl) T.z_range (pa_cons (pv 1) pa_nil)) (pg_name (i := 3) sc_law_row.nd rfl (Or.inl rfl))
   (pss_cons (ps_set (i := 4) sc_law_row.nd rfl (Or.inl rfl) (pe_call C__law_ordinal.G (hr.mono (by omega)) (by rfl) C__law_ordinal.m C__law_ordinal.kp C__law_ordinal.b .nil pass0 (pa_cons (pv 0) (pa_cons (pe_call C__law_pull.G (hr.mono (by omega)) (by rfl) C__law_pull.m C__law_pull.kp C__law_pull.b .nil pass0 (pa_cons (pv 0) (pa_cons pe_int pa_nil))) pa_nil))))
  (pss_one (ps_expr (pe_bm PySem.F.plainAttrs_list PySem.F.slot_list_insert PySem.F.type_list_insert mt_insert (pv 2) (pa_cons pe_int (pa_cons (pe_ifExp (pt_cmpR (op_eqO hr.units) (pv 2) (pe_lst pa_nil) (nomark _)) (pv 4) (pe_call C__law_raise.G (hr.mono (by omega)) (by rfl) C__law_raise.m C__law_raise.kp C__law_raise.b .nil pass0 (pa_cons (pv 4) (pa_cons (pe_ix ix_list (pv 2) pe_int (fun _ _ => rfl)) pa_nil)))) pa_nil)))))))
  (pss_one (ps_ret (pe_callTy call_tuple_of (by rfl) T.z_tuple (by decide +kernel) (pa_cons (pv 2) pa_nil)))))), ?_⟩
  refine ⟨(by show 0 ≤ sizeLine; decide), fun D nD => ?_⟩
  have hDb := hB.ne nD
  have hDl := hB.nl nD
  refine ⟨_, rfl, _, rfl, (by omega), (by omega), ?_⟩
  refine for_range (lo := 0) (n := (m : Int).toNat) (fun i σ H' => ∃ u3 u4 xs os, σ = [some (.ref b), some (.int (m : Nat)), some (.ref D), u3, u4] ∧ Kp b H H' ∧ Bag l H' b ∧ H' D = some (.lst xs) ∧ Paired (OA K H') xs os ∧ os.length = i ∧ (∀ o ∈ os, O.ok o = true ∧ O.dp o ≤ 8 + 2 * i ∧ O.wd o ≤ 4 * i) ∧ Steps os) ⟨_, _, [], [], rfl, same_kp (same_new nD), hB.same (same_new nD), upd_same, .nil, rfl, (fun o ho => by cases ho), steps_nil⟩ (fun i σ H1 hi h => ?_) (fun σ H1 h => ?_)
  · obtain ⟨u3, u4, xs, os, rfl, k1, B1, eD, po, hl, hos, hst⟩ := h
    have lx : xs.length = i := by rw [paired_len po]; exact hl
    refine ⟨_, rfl, _, rfl, l, b, 3, rfl, by decide, by decide, B1, fun r2 H2 r20 r21 k2 B2 => use_ordW r20 (by omega) B2 fun o v H3 a3 b3 c3 d3 k3 B3 => ?_⟩
    have eD3 := k3 _ _ hDb (k2 _ _ hDb eD)
    have t3 := (B1.tp k2).trans (B2.tp k3)
    have po := paired_tp t3 po
    have kk := (k1.trans k2).trans k3
    have kD0 : H D = none := nD
    refine ⟨_, rfl, .inl ⟨rfl, _, SqL.of eD3⟩, _, rfl, (by show 0 ≤ sizeLine; decide), fun p0 n0 => ?_⟩
    have s4 := same_new (o := .lst []) n0
    have po := paired_tp (same_tp s4) po
    have d3 := d3.same s4
    have B4 := B3.same s4
    have kk := kk.trans (same_kp s4)
    have eD4 := s4 _ _ eD3
    have e0 : (upd H3 p0 (.lst [])) p0 = some (.lst []) := upd_same
    generalize upd H3 p0 (.lst []) = H4 at *
    have gos : Good os := fun o ho => ⟨(hos o ho).1, by have := (hos o ho).2.1; omega, by have := (hos o ho).2.2; omega⟩
    -- the insert
    have ins : ∀ (o' : O) (v' : V) (H5 : Hp), Same H4 H5 → OA K H5 v' o' → O.ok o' = true → O.dp o' ≤ 8 + 2 * (i + 1) → O.wd o' ≤ 4 * (i + 1) → Steps (o' :: os) → ∃ u3' u4' xs' os', [some (V.ref b), some (V.int (m : Nat)), some (V.ref D), some (V.int (0 + (i : Nat))), some v] = [some (V.ref b), some (V.int (m : Nat)), some (V.ref D), u3', u4'] ∧ Kp b H (upd H5 D (.lst (xs.take (0 : Int).toNat ++ [v'] ++ xs.drop (0 : Int).toNat))) ∧ Bag l (upd H5 D (.lst (xs.take (0 : Int).toNat ++ [v'] ++ xs.drop (0 : Int).toNat))) b ∧ (upd H5 D (.lst (xs.take (0 : Int).toNat ++ [v'] ++ xs.drop (0 : Int).toNat))) D = some (.lst xs') ∧ Paired (OA K (upd H5 D (.lst (xs.take (0 : Int).toNat ++ [v'] ++ xs.drop (0 : Int).toNat)))) xs' os' ∧ os'.length = i + 1 ∧ (∀ o ∈ os', O.ok o = true ∧ O.dp o ≤ 8 + 2 * (i + 1) ∧ O.wd o ≤ 4 * (i + 1)) ∧ Steps os' := fun o' v' H5 s5 ov' h1 h2 h3 hst' => by
      have eD5 := s5 _ _ eD4
      have tD := tp_lst (o := .lst (xs.take (0 : Int).toNat ++ [v'] ++ xs.drop (0 : Int).toNat)) eD5
      refine ⟨_, _, v' :: xs, o' :: os, rfl, kp_mut (kk.trans (same_kp s5)) kD0, (B4.same s5).mut hDb hDl, upd_same, .cons (ov'.tp tD) (paired_tp tD (paired_tp (same_tp s5) po)), by rw [List.length_cons, hl], fun o ho => ?_, hst'⟩
      rcases List.mem_cons.mp ho with h | h
      · subst h; exact ⟨h1, h2, h3⟩
      · exact ⟨(hos o h).1, by have := (hos o h).2.1; omega, by have := (hos o h).2.2; omega⟩
    refine rd_eqNilO (SqL.of eD4) po (SqL.of e0) gos ⟨_, rfl, ?_⟩
    refine ite2 (fun e => ?_) (fun e => ?_)
    · refine ⟨_, rfl, D, xs, 0, v, rfl, rfl, eD4, small1000 (by omega), by decide, by decide, ?_⟩
      exact ins o v H4 (Same.refl H4) d3 a3 (by omega) (by omega) (by rw [List.isEmpty_iff.mp e]; exact steps_one o)
    · cases os with
      | nil => exact absurd rfl e
      | cons o1 os1 =>
      obtain ⟨v1, hv1, ov1⟩ := paired_get' (i := 0) (y := o1) po rfl
      have ho1 := hos o1 List.mem_cons_self
      have z1 := O.dp_raised o o1
      have z2 := O.wd_raised o o1
      have z3 := O.len_wd o
      have z4 := O.len_wd o1
      refine ⟨_, rfl, _, rfl, D, xs, 0, v1, rfl, rfl, SqL.of eD4, atI_nat (j := 0) hv1, _, _, o, o1, rfl, d3, ov1, a3, ho1.1, by omega, by omega, by omega, by omega, fun v6 H6 s6 o6 => ?_⟩
      refine ⟨D, xs, 0, v6, rfl, rfl, s6 _ _ eD4, small1000 (by omega), by decide, by decide, ?_⟩
      exact ins (O.raisedO o o1) v6 H6 s6 o6 (O.ok_raised a3 ho1.1) (by omega) (by omega) (steps_cons (O.end_raised o o1) hst)
  · obtain ⟨u3, u4, xs, os, rfl, k1, B1, eD, po, hl, hos, hst⟩ := h
    have hmm : (m : Int).toNat = m := by omega
    rw [hmm] at hl hos
    refine ⟨_, rfl, D, xs, rfl, .inl ⟨SqL.of eD, fun g ng => ?_⟩⟩
    have s1 := same_new (o := .tup xs) ng
    exact q _ os _ (RowA.of (.of upd_same) (paired_tp (same_tp s1) po)) hl (fun o ho => ⟨(hos o ho).1, by have := (hos o ho).2.1; omega, by have := (hos o ho).2.2; omega⟩) hst (k1.trans (same_kp s1)) (B1.same s1)
end
end Vw

set_option Elab.async false
set_option linter.all false
set_option maxRecDepth 100000
set_option maxHeartbeats 4000000
namespace Vw
open PySem PySem.W PyProof.Rows L2
section
variable {P : Program} {w : World} {K : PySem.W.Frag} {mg : Str → Option Value} {base : Heap}
abbrev send_of : Stmt := top 11
theorem scend_of : FnScope ["ordinal"] ["ordinal"] (defScope send_of) := ⟨rfl, rfl, rfl, by decide +kernel, rfl, by decide +kernel, by decide +kernel⟩
theorem ok_end_ofD  {aZERO : Addr} {aVowError : Addr} {aInvalidLevels : Addr} {aInvalidRow : Addr} {aMissing : Addr} {aNothingLeft : Addr} {fVI : Addr} (T : Txt K mg  aZERO aVowError aInvalidLevels aInvalidRow aMissing aNothingLeft fVI) {f : Addr} {fd : FuncData} {k : Nat} (F : Fun K "end_of" "end_of" send_of f fd) : FnOk P w K mg base CX0 (k + 1) f fd ["ordinal"] (spEndD K) := by
  refine F.ok scend_of (fun vs H Q E h => ?_) (fun cdv A outer s H vs Q E hr h => ?_)
  · obtain ⟨_, _, rfl, _⟩ := h; rfl
  obtain ⟨x, a, rfl, hx, da, q⟩ := h
  refine ⟨_, (pss_cons (ps_if (pt_cmpR (op_eqO hr.units) (pv 0) (pe_glob (v := .ref aZERO) (by rfl) T.m_ZERO rfl) (nomark _)) (pss_one (ps_ret (pe_glob (v := .ref aZERO) (by rfl) T.m_ZERO rfl))) pss_nil)
  (pss_one (ps_ret (pe_ix ix_tup (pe_ix ix_tup (pv 0) (pe_un un_neg pe_int) (fun _ _ => rfl)) pe_int (fun _ _ => rfl))))), ?_⟩
  have hZ : OA K H (.ref aZERO) .z := OA.nil (.inr T.t_ZERO)
  refine ⟨_, rfl, rd_eqD hx hZ.dp (by omega) (by decide) ⟨_, rfl, ?_⟩⟩
  refine ite2 (fun e => ?_) (fun e => ?_)
  · have ha : a = .z := of_decide_eq_true e
    subst ha
    exact q _ H (Same.refl H) hZ.dp
  · have ha : a ≠ .z := of_decide_eq_false (Bool.eq_false_iff.mpr e)
    obtain ⟨t, ht⟩ := last_ex ha
    obtain ⟨p, xs, rfl, h1, h2⟩ := dp_tup hx
    have hl := dpall_len h2
    rw [O.toDs_ts, List.length_map] at hl
    have hpos : 0 < xs.length := by
      rw [hl]
      cases h : O.ts a with
      | nil => rw [h] at ht; cases ht
      | cons _ _ => exact Nat.succ_pos _
    obtain ⟨v, hv⟩ : ∃ v, xs[xs.length - 1]? = some v := ⟨_, List.getElem?_eq_getElem (show xs.length - 1 < xs.length by omega)⟩
    obtain ⟨d, hd, gx⟩ := dpall_get h2 hv
    rw [O.toDs_ts, List.getElem?_map, hl, ← List.getLast?_eq_getElem?, ht] at hd
    obtain rfl : O.tD t = d := Option.some.inj hd
    obtain ⟨p2, u2, v2, rfl, g1, g2, _⟩ := dp_two gx
    have hat : atI xs (-1) = some (.ref p2) := by
      have e : xs = xs.take (xs.length - 1) ++ [.ref p2] := by
        have := List.take_append_drop (xs.length - 1) xs
        rw [List.drop_eq_getElem_cons (show xs.length - 1 < xs.length by omega), List.drop_of_length_le (by omega)] at this
        have hg := List.getElem?_eq_some_iff.mp hv
        rw [hg.2] at this
        exact this.symm
      rw [e]; exact atI_last _ _
    refine ⟨_, rfl, _, rfl, p, xs, -1, _, rfl, rfl, h1, hat, p2, _, 0, _, rfl, rfl, g1, rfl, ?_⟩
    exact q _ H (Same.refl H) (by rw [endO_last ht]; exact g2)
abbrev sis_row : Stmt := top 15
theorem scis_row : FnScope ["levels", "value", "at", "ordinal"] ["levels", "value"] (defScope sis_row) := ⟨rfl, rfl, rfl, by decide +kernel, rfl, by decide +kernel, by decide +kernel⟩
theorem ok_isrow  {aZERO : Addr} {aVowError : Addr} {aInvalidLevels : Addr} {aInvalidRow : Addr} {aMissing : Addr} {aNothingLeft : Addr} {fVI : Addr} (T : Txt K mg  aZERO aVowError aInvalidLevels aInvalidRow aMissing aNothingLeft fVI) {f f1 f2 : Addr} {fd fd1 fd2 : FuncData} (F : Fun K "is_row" "is_row" sis_row f fd) (C_is_ordinal : Cal P w K mg base 121 "is_ordinal" ["value"] (spIsOrd K 60) f1 fd1)
    (C_end_of : Cal P w K mg base 1 "end_of" ["ordinal"] (spEndD K) f2 fd2) : FnOk P w K mg base CX0 122 f fd ["levels", "value"] (spIsRow K) := by
  refine F.ok scis_row (fun vs H Q E h => ?_) (fun cdv A outer s H vs Q E hr h => ?_)
  · obtain ⟨_, _, _, rfl, _⟩ := h; rfl
  obtain ⟨m, x, d, rfl, hx, hd, q⟩ := h
  refine ⟨_, (pss_cons (ps_ifBy (PW.pt (pw_or (pt_not (pt_val (pe_callB call_isD (by rfl) T.z_isinstance (by decide +kernel) (pa_cons (pv 1) (pa_cons (pe_bltn (v := .ty "tuple") (u := .type "tuple") (by rfl) T.z_tuple (by decide +kernel) rfl) pa_nil))))) (pw_or1 (pt_cmpR op_ne (pe_callB call_lenB (by rfl) T.z_len (by decide +kernel) (pa_cons (pv 1) pa_nil)) (pv 0) (nomark _))))) (pss_one (ps_ret pe_bl)) pss_nil)
  (pss_cons (ps_for PassesOwn.never rfl (pi_enumT (by rfl) T.z_enumerate (pa_cons (pv 1) pa_nil)) (pg_tup (by rfl) (pgs_cons (pg_name (i := 2) scis_row.nd rfl (Or.inl rfl)) (pgs_cons (pg_name (i := 3) scis_row.nd rfl (Or.inl rfl)) pgs_nil)))
   (pss_cons (ps_if (pt_not (pt_val (pe_call C_is_ordinal.G (hr.mono (by omega)) (by rfl) C_is_ordinal.m C_is_ordinal.kp C_is_ordinal.b .nil pass0 (pa_cons (pv 3) pa_nil)))) (pss_one (ps_ret pe_bl)) pss_nil)
  (pss_one (ps_ifBy (PW.pt (pw_and (pt_cmpR op_gt (pv 2) pe_int (nomark _)) (pw_and1 (pt_cmpR (op_gtD hr.units) (pv 3) (pe_call C_end_of.G (hr.mono (by omega)) (by rfl) C_end_of.m C_end_of.kp C_end_of.b .nil pass0 (pa_cons (pe_ix ix_tup (pv 1) (pe_op op_sub (pv 2) pe_int) (fun _ _ => rfl)) pa_nil)) (nomark _))))) (pss_one (ps_ret pe_bl)) pss_nil))))
  (pss_one (ps_ret pe_bl)))), ?_⟩
  refine ⟨fun H1 => Same H H1 ∧ isRowB m d = false, fun H1 => Same H H1 ∧ ∃ ds, d = .tuple ds ∧ (ds.length : Int) = m, ?_, fun H1 h => ?_, fun H1 h => ?_⟩
  · refine ⟨_, rfl, rd_tuple hx ⟨_, rfl, ?_⟩⟩
    have no : (∀ ds, d ≠ .tuple ds) → Same H H ∧ isRowB m d = false := fun h => ⟨Same.refl H, isRow_other h⟩
    cases d with
    | none => exact iteT (no fun a z => by cases z)
    | bool _ => exact iteT (no fun a z => by cases z)
    | int _ => exact iteT (no fun a z => by cases z)
    | str _ => exact iteT (no fun a z => by cases z)
    | list _ => exact iteT (no fun a z => by cases z)
    | dict kv => exact absurd rfl (dp_nodict hx kv)
    | tuple ds =>
      obtain ⟨p, xs, rfl, h1, h2⟩ := dp_tup hx
      have hl := dpall_len h2
      refine iteF ⟨_, rfl, rd_len (.inr h1) fun _ => ⟨_, rfl, rfl, _, rfl, ?_⟩⟩
      refine ite2 (fun e => ?_) (fun e => ?_)
      · refine ⟨Same.refl H, isRow_len fun z => ?_⟩
        rw [← hl] at z
        rw [z] at e
        simp at e
      · refine ⟨Same.refl H, ds, rfl, ?_⟩
        have : (!decide (V.int (xs.length : Nat) = V.int m)) = false := Bool.eq_false_iff.mpr e
        have : V.int (xs.length : Nat) = V.int m := by simpa using this
        rw [← hl]; exact V.int.inj this
  · have := q H1 h.1
    rw [h.2] at this
    exact this
  obtain ⟨s0, ds, rfl, hm⟩ := h
  have q : ∀ H', Same H1 H' → Q (.bl (isRowB m (.tuple ds))) H' := fun H' s => q H' (s0.trans s)
  have hx := dp_same s0 hx
  obtain ⟨p, xs, rfl, h1, h2⟩ := dp_tup hx
  have hl := dpall_len h2
  have hds : PyData.depthAll ds < 50 := by simp only [PyData.depth] at hd; omega
  refine ⟨_, rfl, p, xs, rfl, h1, ?_⟩
  refine for_enumT (xs := xs) (fun i σ H' => ∃ u v, σ = [some (.int m), some (.ref p), u, v] ∧ Same H1 H' ∧ ∃ os, RPref ds os i) ⟨_, _, rfl, Same.refl H1, [], rpref_nil ds⟩ (fun i σ H' _ h => ?_) (fun i x2 C σ H' hx2 h nC => ?_) (fun σ H' h => ?_)
  · obtain ⟨_, _, _, s1, _⟩ := h
    exact same_sqt s1 h1
  · obtain ⟨u, v, rfl, s1, os, hp⟩ := h
    obtain ⟨dt, hdt, gx⟩ := dpall_get h2 hx2
    have hdd := depth_get hdt
    have s2 := s1.trans (same_new (o := .tup [.int (i : Nat), x2]) nC)
    refine ⟨C, _, rfl, SqT.of upd_same, rfl, _, _, rfl, _, _, rfl, rfl, ?_⟩
    refine ⟨_, rfl, x2, dt, rfl, dp_same s2 gx, by omega, fun H3 s3 => ⟨_, rfl, ?_⟩⟩
    have s4 := s2.trans s3
    cases ht : isOrdB dt with
    | false =>
      refine iteT ?_
      have := q H3 s4
      rw [row_ord hdt ht] at this
      exact this
    | true =>
      obtain ⟨o, rfl, ho⟩ := isOrd_of ht
      refine iteF ?_
      refine ⟨fun H4 => Same H1 H4 ∧ isRowB m (.tuple ds) = false, fun H4 => Same H1 H4 ∧ ∀ o', os[i - 1]? = some o' → 0 < i → O.lt (endO o') o = false, ?_, fun H4 h => ?_, fun H4 h => ⟨_, _, rfl, h.1, _, rpref_step hp hdt ho h.2⟩⟩
      · refine ⟨_, rfl, _, _, rfl, rfl, _, rfl, ?_⟩
        refine ite2 (fun e1 => ?_) (fun e1 => ⟨s4, fun o' _ hi => absurd hi (by have : ¬ (0 : Int) < (i : Nat) := of_decide_eq_false (Bool.eq_false_iff.mpr e1); omega)⟩)
        have hi : 0 < i := by have := of_decide_eq_true e1; omega
        obtain ⟨j, rfl⟩ : ∃ j, i = j + 1 := ⟨i - 1, by omega⟩
        obtain ⟨o1, ho1, hd1⟩ := rpref_at hp (Nat.lt_succ_self j)
        obtain ⟨x3, hx3⟩ : ∃ x3, xs[j]? = some x3 := by
          have : j + 1 < xs.length := (List.getElem?_eq_some_iff.mp hx2).1
          exact ⟨_, List.getElem?_eq_getElem (show j < xs.length by omega)⟩
        obtain ⟨d3, hd3, gx3⟩ := dpall_get h2 hx3
        rw [hd1] at hd3
        obtain rfl := Option.some.inj hd3
        have hdd3 := depth_get hd1
        rw [O.depth_toD] at hdd hdd3
        have hj : ((j + 1 : Nat) : Int) - 1 = ((j : Nat) : Int) := by omega
        refine ⟨_, rfl, _, rfl, _, rfl, _, _, rfl, rfl, p, xs, _, _, rfl, rfl, same_sqt s4 h1, (by rw [hj]; exact atI_nat hx3), _, o1, rfl, dp_same s4 gx3, by omega, fun v5 H5 s5 d5 => ?_⟩
        refine rd_gtD (dp_same (s4.trans s5) gx) d5 (by omega) ⟨_, rfl, ?_⟩
        cases g : O.lt (endO o1) o with
        | true => exact iteT ⟨s4.trans s5, row_step hd1 hdt g⟩
        | false => exact iteF ⟨s4.trans s5, fun o' h' _ => by rw [Nat.add_sub_cancel, ho1] at h'; cases h'; exact g⟩
      · have := q H4 h.1
        rw [h.2] at this
        exact this
  · obtain ⟨u, v, rfl, s1, os, hp⟩ := h
    have := q H' s1
    rw [hl] at hp
    rw [← hm, rpref_end hp] at this
    exact this
end
end Vw

set_option Elab.async false
set_option linter.all false
set_option maxRecDepth 100000
set_option maxHeartbeats 4000000
namespace Vw
open PySem PySem.W PyProof.Rows L2
/-- the last term of an ordinal that is data -/
theorem lastD {K : PySem.W.Frag} {H : Hp} {x : V} {a : O} (hx : Dp K H x (O.toD a)) (ha : a ≠ .z) : ∃ p xs p2 u2 v2, x = .ref p ∧ SqT K H p xs ∧ atI xs (-1) = some (.ref p2) ∧ SqT K H p2 [u2, v2] ∧ Dp K H u2 (O.toD (endO a)) := by
  obtain ⟨t, ht⟩ := last_ex ha
  obtain ⟨p, xs, rfl, h1, h2⟩ := dp_tup hx
  have hl := dpall_len h2
  rw [O.toDs_ts, List.length_map] at hl
  have hpos : 0 < xs.length := by
    rw [hl]
    cases h : O.ts a with
    | nil => rw [h] at ht; cases ht
    | cons _ _ => exact Nat.succ_pos _
  obtain ⟨v, hv⟩ : ∃ v, xs[xs.length - 1]? = some v := ⟨_, List.getElem?_eq_getElem (show xs.length - 1 < xs.length by omega)⟩
  obtain ⟨d, hd, gx⟩ := dpall_get h2 hv
  rw [O.toDs_ts, List.getElem?_map, hl, ← List.getLast?_eq_getElem?, ht] at hd
  obtain rfl : O.tD t = d := Option.some.inj hd
  obtain ⟨p2, u2, v2, rfl, g1, g2, _⟩ := dp_two gx
  refine ⟨p, xs, p2, u2, v2, rfl, h1, ?_, g1, by rw [endO_last ht]; exact g2⟩
  have e : xs = xs.take (xs.length - 1) ++ [.ref p2] := by
    have := List.take_append_drop (xs.length - 1) xs
    rw [List.drop_eq_getElem_cons (show xs.length - 1 < xs.length by omega), List.drop_of_length_le (by omega)] at this
    have hg := List.getElem?_eq_some_iff.mp hv
    rw [hg.2] at this
    exact this.symm
  rw [e]; exact atI_last _ _
theorem rd_neD {K : PySem.W.Frag} {H : Hp} {x y : V} {a b : O} {Q : VK} (ha : Dp K H x (O.toD a)) (hb : Dp K H y (O.toD b)) (h : O.dp a ≤ 60) (h2 : O.dp b ≤ 60) (q : Q (.bl (!decide (a = b))) H) : rNeO K x y H Q := by
  unfold rNeO
  exact ⟨_, _, ha, hb, O.shaped_toD h, O.shaped_toD h2, by rw [O.eqv_toD]; exact q⟩
section
variable {P : Program} {w : World} {K : PySem.W.Frag} {mg : Str → Option Value} {base : Heap}
abbrev s_law_end : Stmt := top 27
theorem sc_law_end : FnScope ["_law_here"] ["_law_here"] (defScope s_law_end) := ⟨rfl, rfl, rfl, by decide +kernel, rfl, by decide +kernel, by decide +kernel⟩
theorem ok_lendD  {aZERO : Addr} {aVowError : Addr} {aInvalidLevels : Addr} {aInvalidRow : Addr} {aMissing : Addr} {aNothingLeft : Addr} {fVI : Addr} (T : Txt K mg  aZERO aVowError aInvalidLevels aInvalidRow aMissing aNothingLeft fVI) {f : Addr} {fd : FuncData} {k : Nat} (F : Fun K "_law_end" "_law_end" s_law_end f fd) : FnOk P w K mg base CX0 (k + 1) f fd ["_law_here"] (spEndD K) := by
  refine F.ok sc_law_end (fun vs H Q E h => ?_) (fun cdv A outer s H vs Q E hr h => ?_)
  · obtain ⟨_, _, rfl, _⟩ := h; rfl
  obtain ⟨x, a, rfl, hx, da, q⟩ := h
  refine ⟨_, (pss_one (ps_ret (pe_ifExp (pt_cmpR (op_neO hr.units) (pv 0) (pe_tup pa_nil) (nomark _)) (pe_ix ix_tup (pe_ix ix_tup (pv 0) (pe_un un_neg pe_int) (fun _ _ => rfl)) pe_int (fun _ _ => rfl)) (pe_tup pa_nil)))), ?_⟩
  refine ⟨_, rfl, (by show 0 ≤ sizeLine; decide), fun p0 n0 => ?_⟩
  have s0 := same_new (o := .tup []) n0
  have hx := dp_same s0 hx
  refine rd_neD hx (OA.nil (K := K) (.of upd_same)).dp (by omega) (by decide) ⟨_, rfl, ?_⟩
  refine ite2 (fun e => ?_) (fun e => ?_)
  · have ha : a ≠ .z := fun z => by subst z; cases e
    obtain ⟨p, xs, p2, u2, v2, rfl, h1, hat, g1, g2⟩ := lastD hx ha
    refine ⟨_, rfl, _, rfl, p, xs, -1, _, rfl, rfl, h1, hat, p2, _, 0, _, rfl, rfl, g1, rfl, ?_⟩
    exact q _ _ s0 g2
  · have ha : a = .z := by
      have : (!decide (a = .z)) = false := Bool.eq_false_iff.mpr e
      simpa using this
    subst ha
    refine ⟨(by show 0 ≤ sizeLine; decide), fun p1 n1 => q _ _ (s0.trans (same_new n1)) (OA.nil (K := K) (.of upd_same)).dp⟩
abbrev s_law_is_row : Stmt := top 34
theorem sc_law_is_row : FnScope ["_law_many_z", "_law_thing", "_law_k"] ["_law_many_z", "_law_thing"] (defScope s_law_is_row) := ⟨rfl, rfl, rfl, by decide +kernel, rfl, by decide +kernel, by decide +kernel⟩
theorem ok_lisrowD  {aZERO : Addr} {aVowError : Addr} {aInvalidLevels : Addr} {aInvalidRow : Addr} {aMissing : Addr} {aNothingLeft : Addr} {fVI : Addr} (T : Txt K mg  aZERO aVowError aInvalidLevels aInvalidRow aMissing aNothingLeft fVI) {f f1 f2 : Addr} {fd fd1 fd2 : FuncData} (F : Fun K "_law_is_row" "_law_is_row" s_law_is_row f fd) (C__law_is_ordinal : Cal P w K mg base 60 "_law_is_ordinal" ["_law_thing"] (spIsOrd K 60) f1 fd1)
    (C__law_end : Cal P w K mg base 1 "_law_end" ["_law_here"] (spEndD K) f2 fd2) : FnOk P w K mg base CX0 62 f fd ["_law_many_z", "_law_thing"] (fun vs H Q E => (∃ m : Nat, m ≤ 1000 ∧ vs.head? = some (.int (m : Nat))) ∧ spIsRow K vs H Q E) := by
  refine F.ok sc_law_is_row (fun vs H Q E h => ?_) (fun cdv A outer s H vs Q E hr h => ?_)
  · obtain ⟨_, _, _, _, rfl, _⟩ := h; rfl
  obtain ⟨⟨m0, hm0, hh⟩, m, x, d, rfl, hx, hd, q⟩ := h
  obtain rfl : m = (m0 : Int) := by have := Option.some.inj hh; exact V.int.inj this
  refine ⟨_, (pss_cons (ps_ifBy (PW.pt (pw_or (pt_not (pt_val (pe_callB call_isD (by rfl) T.z_isinstance (by decide +kernel) (pa_cons (pv 1) (pa_cons (pe_bltn (v := .ty "tuple") (u := .type "tuple") (by rfl) T.z_tuple (by decide +kernel) rfl) pa_nil))))) (pw_or1 (pt_cmpR op_ne (pe_callB call_lenB (by rfl) T.z_len (by decide +kernel) (pa_cons (pv 1) pa_nil)) (pv 0) (nomark _))))) (pss_one (ps_ret pe_bl)) pss_nil)
  (pss_cons (ps_for PassesOwn.never rfl (pi_range1 (by rfl) T.z_range (pa_cons (pv 0) pa_nil)) (pg_name (i := 2) sc_law_is_row.nd rfl (Or.inl rfl))
   (pss_one (ps_ifBy (PW.pt (pw_or (pt_not (pt_val (pe_call C__law_is_ordinal.G (hr.mono (by omega)) (by rfl) C__law_is_ordinal.m C__law_is_ordinal.kp C__law_is_ordinal.b .nil pass0 (pa_cons (pe_ix ix_tup (pv 1) (pv 2) (fun _ _ => rfl)) pa_nil)))) (pw_or1 (PW.pt (pw_and (pt_cmpR op_gt (pv 2) pe_int (nomark _)) (pw_and1 (pt_not (pt_cmpR (op_leD hr.units) (pe_ix ix_tup (pv 1) (pv 2) (fun _ _ => rfl)) (pe_call C__law_end.G (hr.mono (by omega)) (by rfl) C__law_end.m C__law_end.kp C__law_end.b .nil pass0 (pa_cons (pe_ix ix_tup (pv 1) (pe_op op_sub (pv 2) pe_int) (fun _ _ => rfl)) pa_nil)) (nomark _))))))))) (pss_one (ps_ret pe_bl)) pss_nil)))
  (pss_one (ps_ret pe_bl)))), ?_⟩
  refine ⟨fun H1 => Same H H1 ∧ isRowB (m0 : Nat) d = false, fun H1 => Same H H1 ∧ ∃ ds, d = .tuple ds ∧ ds.length = m0, ?_, fun H1 h => ?_, fun H1 h => ?_⟩
  · refine ⟨_, rfl, rd_tuple hx ⟨_, rfl, ?_⟩⟩
    have no : (∀ ds, d ≠ .tuple ds) → Same H H ∧ isRowB (m0 : Nat) d = false := fun h => ⟨Same.refl H, isRow_other h⟩
    cases d with
    | none => exact iteT (no fun a z => by cases z)
    | bool _ => exact iteT (no fun a z => by cases z)
    | int _ => exact iteT (no fun a z => by cases z)
    | str _ => exact iteT (no fun a z => by cases z)
    | list _ => exact iteT (no fun a z => by cases z)
    | dict kv => exact absurd rfl (dp_nodict hx kv)
    | tuple ds =>
      obtain ⟨p, xs, rfl, h1, h2⟩ := dp_tup hx
      have hl := dpall_len h2
      refine iteF ⟨_, rfl, rd_len (.inr h1) fun _ => ⟨_, rfl, rfl, _, rfl, ?_⟩⟩
      refine ite2 (fun e => ?_) (fun e => ?_)
      · refine ⟨Same.refl H, isRow_len fun z => ?_⟩
        rw [← hl] at z
        rw [z] at e
        simp at e
      · refine ⟨Same.refl H, ds, rfl, ?_⟩
        have : (!decide (V.int (xs.length : Nat) = V.int (m0 : Nat))) = false := Bool.eq_false_iff.mpr e
        have : V.int (xs.length : Nat) = V.int (m0 : Nat) := by simpa using this
        have := V.int.inj this
        rw [← hl]; omega
  · have := q H1 h.1
    rw [h.2] at this
    exact this
  obtain ⟨s0, ds, rfl, hm⟩ := h
  have q : ∀ H', Same H1 H' → Q (.bl (isRowB (m0 : Nat) (.tuple ds))) H' := fun H' s => q H' (s0.trans s)
  have hx := dp_same s0 hx
  obtain ⟨p, xs, rfl, h1, h2⟩ := dp_tup hx
  have hl := dpall_len h2
  have hds : PyData.depthAll ds < 50 := by simp only [PyData.depth] at hd; omega
  refine ⟨_, rfl, _, rfl, (by omega), (by omega), ?_⟩
  refine for_range (lo := 0) (n := (m0 : Int).toNat) (fun i σ H' => ∃ u, σ = [some (.int (m0 : Nat)), some (.ref p), u] ∧ Same H1 H' ∧ ∃ os, RPref ds os i) ⟨_, rfl, Same.refl H1, [], rpref_nil ds⟩ (fun i σ H' hi h => ?_) (fun σ H' h => ?_)
  · obtain ⟨u, rfl, s1, os, hp⟩ := h
    have hi : i < xs.length := by omega
    obtain ⟨x2, hx2⟩ : ∃ x2, xs[i]? = some x2 := ⟨_, List.getElem?_eq_getElem hi⟩
    obtain ⟨dt, hdt, gx⟩ := dpall_get h2 hx2
    have hdd := depth_get hdt
    have hat : atI xs (0 + (i : Nat) : Int) = some x2 := by
      have e0 : (0 + (i : Nat) : Int) = (i : Nat) := by omega
      rw [e0]; exact atI_nat hx2
    refine ⟨fun H4 => Same H1 H4 ∧ isRowB (m0 : Nat) (.tuple ds) = false, fun H4 => Same H1 H4 ∧ ∃ o, dt = O.toD o ∧ O.ok o = true ∧ ∀ o', os[i - 1]? = some o' → 0 < i → O.lt (endO o') o = false, ?_, fun H4 h => ?_, fun H4 h => ?_⟩
    · refine ⟨_, rfl, _, rfl, p, xs, _, _, rfl, rfl, same_sqt s1 h1, hat, x2, dt, rfl, dp_same s1 gx, by omega, fun H3 s3 => ⟨_, rfl, ?_⟩⟩
      have s4 := s1.trans s3
      cases ht : isOrdB dt with
      | false => exact iteT ⟨s4, row_ord hdt ht⟩
      | true =>
        obtain ⟨o, rfl, ho⟩ := isOrd_of ht
        refine iteF ⟨_, rfl, _, _, rfl, rfl, _, rfl, ?_⟩
        refine ite2 (fun e1 => ?_) (fun e1 => ⟨s4, o, rfl, ho, fun o' _ hi => absurd hi (by have : ¬ (0 : Int) < 0 + (i : Nat) := of_decide_eq_false (Bool.eq_false_iff.mpr e1); omega)⟩)
        have hi0 : 0 < i := by have := of_decide_eq_true e1; omega
        obtain ⟨j, rfl⟩ : ∃ j, i = j + 1 := ⟨i - 1, by omega⟩
        obtain ⟨o1, ho1, hd1⟩ := rpref_at hp (Nat.lt_succ_self j)
        obtain ⟨x3, hx3⟩ : ∃ x3, xs[j]? = some x3 := ⟨_, List.getElem?_eq_getElem (show j < xs.length by omega)⟩
        obtain ⟨d3, hd3, gx3⟩ := dpall_get h2 hx3
        rw [hd1] at hd3
        obtain rfl := Option.some.inj hd3
        have hdd3 := depth_get hd1
        rw [O.depth_toD] at hdd hdd3
        have hj : (0 + ((j + 1 : Nat) : Int)) - 1 = ((j : Nat) : Int) := by omega
        refine ⟨_, rfl, _, rfl, p, xs, _, _, rfl, rfl, same_sqt s4 h1, hat, _, rfl, _, rfl, _, _, rfl, rfl, p, xs, _, _, rfl, rfl, same_sqt s4 h1, (by rw [hj]; exact atI_nat hx3), _, o1, rfl, dp_same s4 gx3, by omega, fun v5 H5 s5 d5 => ?_⟩
        refine rd_leD (dp_same (s4.trans s5) gx) d5 (by omega) ⟨_, rfl, ?_⟩
        cases g : O.lt (endO o1) o with
        | true => exact iteT ⟨s4.trans s5, row_step hd1 hdt g⟩
        | false => exact iteF ⟨s4.trans s5, o, rfl, ho, fun o' h' _ => by rw [Nat.add_sub_cancel, ho1] at h'; cases h'; exact g⟩
    · have := q H4 h.1
      rw [h.2] at this
      exact this
    · obtain ⟨s4, o, rfl, ho, hs⟩ := h
      exact ⟨_, rfl, s4, _, rpref_step hp hdt ho hs⟩
  · obtain ⟨u, rfl, s1, os, hp⟩ := h
    have := q H' s1
    have hmm : (m0 : Int).toNat = ds.length := by omega
    rw [hmm] at hp
    rw [← hm, rpref_end hp] at this
    exact this
end
end Vw

set_option Elab.async false
set_option linter.all false
set_option maxRecDepth 100000
set_option maxHeartbeats 4000000
namespace Vw
open PySem PySem.Spec PySem.W PyProof.Rows L2
abbrev s_law_fields : Stmt := top 23
theorem sc_law_fields : FnScope ["_law_e"] ["_law_e"] (defScope s_law_fields) := ⟨rfl, rfl, rfl, by decide +kernel, rfl, by decide +kernel, by decide +kernel⟩
abbrev s_law_told : Stmt := top 24
theorem sc_law_told : FnScope ["_law_ask_z", "_law_e"] ["_law_ask_z"] (defScope s_law_told) := ⟨rfl, rfl, rfl, by decide +kernel, rfl, by decide +kernel, by decide +kernel⟩
section
variable {P : Program} {w : World} {K : PySem.W.Frag} {mg : Str → Option Value} {base : Heap}
theorem ok_fields  {aZERO : Addr} {aVowError : Addr} {aInvalidLevels : Addr} {aInvalidRow : Addr} {aMissing : Addr} {aNothingLeft : Addr} {fVI : Addr} (T : Txt K mg  aZERO aVowError aInvalidLevels aInvalidRow aMissing aNothingLeft fVI) {f : Addr} {fd : FuncData} (F : Fun K "_law_fields" "_law_fields" s_law_fields f fd) : FnP P w K mg base 1 f fd ["_law_e"] (spFields K) := by
  refine fn_ofP F sc_law_fields (fun a cls d vs H Q E h => ?_) (fun cdv A outer s H vs Q p cls d hz hf h => ?_)
  · obtain ⟨_, rfl, _⟩ := h; rfl
  obtain ⟨nm, rfl, hA, hpl, q⟩ := h
  obtain ⟨a, oe⟩ := p
  refine ⟨_, (pss_cons (ps_if (pt_cmpR op_in_seq (pe_xfP (a := a) (oe := oe) List.mem_cons_self hz hf (pv 0)) (pe_tup (pa_cons pe_str (pa_cons pe_str (pa_cons pe_str (pa_cons pe_str (pa_cons pe_str pa_nil)))))) rfl) (pss_one (ps_ret (pe_tup (pa_cons (pe_xfP (a := a) (oe := oe) List.mem_cons_self hz hf (pv 0)) pa_nil)))) pss_nil)
  (pss_cons (ps_if (pt_cmpR op_in_seq (pe_xfP (a := a) (oe := oe) List.mem_cons_self hz hf (pv 0)) (pe_tup (pa_cons pe_str (pa_cons pe_str pa_nil))) rfl) (pss_one (ps_ret (pe_tup (pa_cons (pe_xfP (a := a) (oe := oe) List.mem_cons_self hz hf (pv 0)) pa_nil)))) pss_nil)
  (pss_cons (ps_if (pt_cmpR op_in_seq (pe_xfP (a := a) (oe := oe) List.mem_cons_self hz hf (pv 0)) (pe_tup (pa_cons pe_str (pa_cons pe_str pa_nil))) rfl) (pss_one (ps_ret (pe_tup (pa_cons (pe_xfP (a := a) (oe := oe) List.mem_cons_self hz hf (pv 0)) pa_nil)))) pss_nil)
  (pss_cons (ps_if (pt_cmpR op_eq (pe_xfP (a := a) (oe := oe) List.mem_cons_self hz hf (pv 0)) pe_str (nomark _)) (pss_one (ps_ret (pe_tup (pa_cons (pe_xfP (a := a) (oe := oe) List.mem_cons_self hz hf (pv 0)) pa_nil)))) pss_nil)
  (pss_one (ps_ret (pe_ifExp (pt_cmpR op_eq (pe_xfP (a := a) (oe := oe) List.mem_cons_self hz hf (pv 0)) pe_str (nomark _)) (pe_tup (pa_cons (pe_xfP (a := a) (oe := oe) List.mem_cons_self hz hf (pv 0)) pa_nil)) (pe_tup pa_nil)))))))), ?_⟩
  obtain ⟨C, dd, rfl, rfl, hx, hno, hdd⟩ := id hA.ex
  unfold plainC at hpl
  simp only [Bool.and_eq_true, Bool.not_eq_true', decide_eq_false_iff_not] at hpl
  obtain ⟨h1, h2, h3, h4, h5⟩ := hpl
  have cl := code_look nm
  refine ⟨_, rfl, rfl, C, dd, codeF nm, .str nm, rfl, rfl, hx, hno, hdd, cl, (by show 5 ≤ sizeLine; decide), fun p1 n1 => ⟨p1, grp1, rfl, .inr (TT.of upd_same).sq, rfl, rfl, _, rfl, ?_⟩⟩
  have s1 := same_new (o := .tup grp1) n1
  refine ite2 (fun e => absurd (show inV (.str nm) grp1 = true from e) (by rw [h1]; exact Bool.false_ne_true)) (fun _ => ?_)
  refine ⟨_, rfl, rfl, C, dd, codeF nm, .str nm, rfl, rfl, hx, hno, s1 _ _ hdd, cl, (by show 2 ≤ sizeLine; decide), fun p2 n2 => ⟨p2, grp2, rfl, .inr (TT.of upd_same).sq, rfl, rfl, _, rfl, ?_⟩⟩
  have s2 := s1.trans (same_new (o := .tup grp2) n2)
  refine ite2 (fun e => absurd (show inV (.str nm) grp2 = true from e) (by rw [h2]; exact Bool.false_ne_true)) (fun _ => ?_)
  refine ⟨_, rfl, rfl, C, dd, codeF nm, .str nm, rfl, rfl, hx, hno, s2 _ _ hdd, cl, (by show 2 ≤ sizeLine; decide), fun p3 n3 => ⟨p3, grp3, rfl, .inr (TT.of upd_same).sq, rfl, rfl, _, rfl, ?_⟩⟩
  have s3 := s2.trans (same_new (o := .tup grp3) n3)
  refine ite2 (fun e => absurd (show inV (.str nm) grp3 = true from e) (by rw [h3]; exact Bool.false_ne_true)) (fun _ => ?_)
  refine ⟨_, rfl, rfl, C, dd, codeF nm, .str nm, rfl, rfl, hx, hno, s3 _ _ hdd, cl, rfl, _, rfl, ?_⟩
  refine ite2 (fun e => absurd (of_decide_eq_true e) h4) (fun _ => ?_)
  refine ⟨_, rfl, rfl, C, dd, codeF nm, .str nm, rfl, rfl, hx, hno, s3 _ _ hdd, cl, rfl, _, rfl, ?_⟩
  refine ite2 (fun e => absurd (of_decide_eq_true e) h5) (fun _ => ?_)
  exact ⟨(by show 0 ≤ sizeLine; decide), fun p4 n4 => q p4 _ (s3.trans (same_new n4)) (.of upd_same)⟩
structure CalF (P : Program) (w : World) (K : PySem.W.Frag) (mg : Str → Option Value) (base : Heap) (k : Nat) (x : Str) (ps : List Str) (sp : Addr → Value → Option Addr → Sp) (f : Addr) (fd : FuncData) : Prop where
  G : FnP P w K mg base k f fd ps sp
  m : mg x = some (.ref f)
  kp : PySem.W.keepIn K (.ref f) = true
  b : Binds K fd ps []
structure CalT (K : PySem.W.Frag) (mg : Str → Option Value) (st : Stmt) (f : Addr) (fd : FuncData) : Prop where
  F : Fun K "_law_told" "_law_told" st f fd
  m : mg "_law_told" = some (.ref f)
  b : Binds K fd ["_law_ask_z"] []
/-- told(lambda: ..) -/
theorem pe_told {X : Cx}  {aZERO : Addr} {aVowError : Addr} {aInvalidLevels : Addr} {aInvalidRow : Addr} {aMissing : Addr} {aNothingLeft : Addr} {fVI : Addr} (T : Txt X.K X.mg  aZERO aVowError aInvalidLevels aInvalidRow aMissing aNothingLeft fVI) {g ff cl Pl : Addr} {fd fdf : FuncData} {q : Str} {k : Nat} {p lpos pos : Pos} {params : Arguments} {body : Expr} {scope : Scope} {t : XK → TE} (Ct : CalT X.K X.mg s_law_told g fd) (Cf : CalF X.prog X.w X.K X.mg X.base 1 "_law_fields" ["_law_e"] (spFields X.K) ff fdf)
    (TB : LamX.TabB X.base X.mg cl Pl) (hcode : X.env.code = .ref cl) (hq : X.env.qual ++ "<lambda>" = q) (hr : Room (k + 2) X.A) (hr3 : Room 3 X.A) (L : LamX.LamS X.env.scope scope) (hdef : defaultsOf params X.env = ([], []))
    (hbind : ∀ (q : Str) (cl : List (Str × Addr)) (pm cv ctv : Value), bindArgs (PySem.W.kla_fn "<lambda>" q params body scope cl pm cv ctv) ⟨[], []⟩ = pure [])
    (hbody : ∀ (A : Around) (outer : List Env) (s : Shared) (H : Hp) (E : XK) (f c' : Addr), Room k (A.deeper (LamX.lamEnv X scope s.heap.objs.size f c')) → PE (LamX.lamCx X A outer s H E scope f c') body (t E)) (hg : Gl X "_law_told") :
    PE X (.Call (.Name "_law_told" p) [.Lambda params body scope lpos] [] pos) (LamX.tLam [(Pl, q)] (TTold3 X.K [.ref aVowError, .ref aMissing, .ref aNothingLeft]) t) := by
  obtain ⟨oc, od, kV, dc, pm, an, cdv, ct, osl, rfl, lk, hct⟩ := Ct.F.ex
  subst hq
  refine LamX.pe_lamcall (Ng := ["_law_ask_z", "_law_e"]) hg Ct.m Ct.F.kp lk hct Ct.b sc_law_told rfl (.inl rfl) ?_ TB hcode List.mem_cons_self (fun p hp _ => by rw [List.mem_singleton.mp hp]) hr L hdef hbind hbody
  exact told_gives3 (ff := ff) (xf := "_law_fields") (x1 := "VowError") (x2 := "Missing") (x3 := "NothingLeft") hr3 Cf.G Cf.m Cf.kp Cf.b rfl (by decide) rfl T.m_VowError (by decide) rfl T.m_Missing (by decide) rfl T.m_NothingLeft (by decide) sc_law_told.nd rfl rfl (fun _ => rfl) (by decide)
end
end Vw

set_option Elab.async false
set_option linter.all false
set_option maxRecDepth 100000
set_option maxHeartbeats 4000000
namespace Vw
open PySem PySem.Spec PySem.W PyProof.Rows L2
abbrev sVI : Stmt := match top 1 with | .ClassDef (body := b) .. => b.getD 0 (.Pass ⟨0, 0, 0, 0⟩) | s => s
section
variable {P : Program} {w : World} {K : PySem.W.Frag} {mg : Str → Option Value} {base : Heap}
theorem ok_VI {fVI fJ C : Addr} {fd : FuncData} {nm : Str} (F : Fun K "__init__" "VowError.__init__" sVI fVI fd) (R : RzC K C fJ nm) : FnOk P w K mg base CX0 1 fVI fd ["self"] (spInit C nm) :=
  ok_initC (k := 0) F R rfl ⟨rfl, rfl, rfl, by decide +kernel, rfl, by decide +kernel, by decide +kernel⟩ (.inl rfl)
/-- a check: nothing, or the error -/
def spChk (C : Addr) (nm : Str) (ok : List V → Hp → Bool → Prop) : Sp := fun vs H Q E => ∃ b, ok vs H b ∧ (b = true → ∀ H', Same H H' → Q .non H') ∧ (b = false → ∀ (d : Addr) (H' : Hp), Same H H' → H' d = some (.xd (codeF nm)) → E (.ref C) (some d) H')
def okRow (K : PySem.W.Frag) : List V → Hp → Bool → Prop := fun vs H b => ∃ (m : Int) (x : V) (d : PyData), vs = [.int m, x] ∧ Dp K H x d ∧ d.depth ≤ 50 ∧ b = isRowB m d
def okLev : List V → Hp → Bool → Prop := fun vs H b => ∃ m : Int, vs = [.int m] ∧ b = (decide (1 ≤ m) && decide (m ≤ 3))
abbrev scheck_row : Stmt := top 16
theorem sccheck_row : FnScope ["levels", "value"] ["levels", "value"] (defScope scheck_row) := ⟨rfl, rfl, rfl, by decide +kernel, rfl, by decide +kernel, by decide +kernel⟩
theorem ok_check_row  {aZERO : Addr} {aVowError : Addr} {aInvalidLevels : Addr} {aInvalidRow : Addr} {aMissing : Addr} {aNothingLeft : Addr} {fVI : Addr} (T : Txt K mg  aZERO aVowError aInvalidLevels aInvalidRow aMissing aNothingLeft fVI) {f f1 : Addr} {fd fd1 fd_VI : FuncData} (F : Fun K "check_row" "check_row" scheck_row f fd) (C_is_row : Cal P w K mg base 122 "is_row" ["levels", "value"] (spIsRow K) f1 fd1)
    (G_VI_InvalidRow : FnOk P w K mg base CX0 1 fVI fd_VI ["self"] (spInit aInvalidRow "InvalidRow")) (b_VI : Binds K fd_VI ["self"] []) : FnOk P w K mg base (L2.CX P w) 123 f fd ["levels", "value"] (spChk aInvalidRow "InvalidRow" (okRow K)) := by
  refine F.okX sccheck_row (fun vs H Q E h => ?_) (fun cdv A outer s H vs Q E hr h => ?_)
  · obtain ⟨_, ⟨_, _, _, rfl, _⟩, _⟩ := h; rfl
  obtain ⟨b, ⟨m, x, d, rfl, hx, hd, rfl⟩, q1, q2⟩ := h
  refine ⟨_, (pss_one (ps_if (pt_not (pt_val (pe_call C_is_row.G (hr.mono (by omega)) (by rfl) C_is_row.m C_is_row.kp C_is_row.b .nil pass0 (pa_cons (pv 0) (pa_cons (pv 1) pa_nil))))) (pss_one (ps_rz T.rz_InvalidRow rfl G_VI_InvalidRow b_VI (hr.mono (by omega)) (by rfl) T.m_InvalidRow (takes_of rfl rfl rfl rfl))) pss_nil)), ?_⟩
  refine ⟨_, rfl, _, rfl, m, x, d, rfl, hx, hd, fun H1 s1 => ⟨_, rfl, ?_⟩⟩
  cases hb : isRowB m d with
  | true => exact iteF (q1 hb H1 s1)
  | false => exact iteT fun dd H2 s2 _ hdd => q2 hb dd H2 (s1.trans s2) hdd
abbrev scheck_levels : Stmt := top 14
theorem sccheck_levels : FnScope ["levels"] ["levels"] (defScope scheck_levels) := ⟨rfl, rfl, rfl, by decide +kernel, rfl, by decide +kernel, by decide +kernel⟩
theorem ok_check_levels  {aZERO : Addr} {aVowError : Addr} {aInvalidLevels : Addr} {aInvalidRow : Addr} {aMissing : Addr} {aNothingLeft : Addr} {fVI : Addr} (T : Txt K mg  aZERO aVowError aInvalidLevels aInvalidRow aMissing aNothingLeft fVI) {f : Addr} {fd fd_VI : FuncData} (F : Fun K "check_levels" "check_levels" scheck_levels f fd)
    (G_VI_InvalidLevels : FnOk P w K mg base CX0 1 fVI fd_VI ["self"] (spInit aInvalidLevels "InvalidLevels")) (b_VI : Binds K fd_VI ["self"] []) : FnOk P w K mg base (L2.CX P w) 3 f fd ["levels"] (spChk aInvalidLevels "InvalidLevels" okLev) := by
  refine F.okX sccheck_levels (fun vs H Q E h => ?_) (fun cdv A outer s H vs Q E hr h => ?_)
  · obtain ⟨_, ⟨_, rfl, _⟩, _⟩ := h; rfl
  obtain ⟨b, ⟨m, rfl, rfl⟩, q1, q2⟩ := h
  refine ⟨_, (pss_one (ps_if (PW.pt (pw_or (pt_cmpR op_lt (pv 0) pe_int (nomark _)) (pw_or1 (pt_cmpR op_gt (pv 0) (pe_globI (by rfl) T.m_MAX_LEVELS) (nomark _))))) (pss_one (ps_rz T.rz_InvalidLevels rfl G_VI_InvalidLevels b_VI (hr.mono (by omega)) (by rfl) T.m_InvalidLevels (takes_of rfl rfl rfl rfl))) pss_nil)), ?_⟩
  refine ⟨_, rfl, _, _, rfl, rfl, _, rfl, ?_⟩
  have bad : (decide (1 ≤ m) && decide (m ≤ 3)) = false → ∀ (d : Addr) (H' : Hp), Same H H' → H d = none → H' d = some (.xd (codeF "InvalidLevels")) → E (.ref aInvalidLevels) (some d) H' := fun h d H' s _ e => q2 h d H' s e
  refine ite2 (fun e => ?_) (fun e => ?_)
  · have h1 : ¬ 1 ≤ m := by have := of_decide_eq_true e; omega
    exact bad (by rw [decide_eq_false h1]; rfl)
  · have h1 : 1 ≤ m := by have := of_decide_eq_false (Bool.eq_false_iff.mpr e); omega
    refine ⟨_, rfl, _, _, rfl, rfl, _, rfl, ?_⟩
    refine ite2 (fun e => ?_) (fun e => ?_)
    · have h2 : ¬ m ≤ 3 := by have := of_decide_eq_true e; omega
      exact bad (by rw [decide_eq_false h2, Bool.and_false])
    · have h2 : m ≤ 3 := by have := of_decide_eq_false (Bool.eq_false_iff.mpr e); omega
      exact q1 (by rw [decide_eq_true h1, decide_eq_true h2]; rfl) H (Same.refl H)
abbrev sleast_row : Stmt := top 17
theorem scleast_row : FnScope ["levels"] ["levels"] (defScope sleast_row) := ⟨rfl, rfl, rfl, by decide +kernel, rfl, by decide +kernel, by decide +kernel⟩
def spLeastR (K : PySem.W.Frag) (a0 : Addr) : Sp := fun vs H Q _ => ∃ m : Int, vs = [.int m] ∧ 1 ≤ m ∧ m ≤ 3 ∧ ∀ (p : Addr) (H' : Hp), Same H H' → TT K H' p (List.replicate m.toNat (.ref a0)) → Q (.ref p) H'
theorem ok_least_row  {aZERO : Addr} {aVowError : Addr} {aInvalidLevels : Addr} {aInvalidRow : Addr} {aMissing : Addr} {aNothingLeft : Addr} {fVI : Addr} (T : Txt K mg  aZERO aVowError aInvalidLevels aInvalidRow aMissing aNothingLeft fVI) {f : Addr} {fd : FuncData} {k : Nat} (F : Fun K "least_row" "least_row" sleast_row f fd) : FnOk P w K mg base CX0 (k + 1) f fd ["levels"] (spLeastR K aZERO) := by
  refine F.ok scleast_row (fun vs H Q E h => ?_) (fun cdv A outer s H vs Q E hr h => ?_)
  · obtain ⟨_, rfl, _⟩ := h; rfl
  obtain ⟨m, rfl, m1, m2, q⟩ := h
  refine ⟨_, (pss_one (ps_ret (pe_op op_repO (pe_tup (pa_cons (pe_glob (v := .ref aZERO) (by rfl) T.m_ZERO rfl) pa_nil)) (pv 0)))), ?_⟩
  refine ⟨(by show 1 ≤ sizeLine; decide), fun p np => ⟨_, rfl, ?_⟩⟩
  exact rd_rep (.of upd_same) m1 (by omega) fun p2 H2 s2 t2 => q p2 H2 ((same_new np).trans s2) t2
end
end Vw

set_option Elab.async false
set_option linter.all false
set_option maxRecDepth 100000
set_option maxHeartbeats 4000000
namespace Vw
open PySem PySem.Spec PySem.W PyProof.Rows L2
abbrev slaw : Stmt := top 35
theorem sclaw : FnScope ["_law_script", "_law_bag_here", "_law_turn", "_law_many_z", "_law_place_z", "_law_bent", "_law_at_z", "_law_odd", "_law_due", "_law_some", "_law_least_z"] ["_law_script"] (defScope slaw) := ⟨rfl, rfl, rfl, by decide +kernel, rfl, by decide +kernel, by decide +kernel⟩
section
variable {P : Program} {w : World} {K : PySem.W.Frag} {mg : Str → Option Value} {base : Heap}
theorem row_elts {H : Hp} {xs : List V} {os : List O} (h : Paired (OA K H) xs os) (g : Good os) : ∀ v ∈ xs, EltT K H 15 v := fun v hv => by
  obtain ⟨i, hi, e⟩ := List.getElem_of_mem hv
  obtain ⟨o, ho, ov⟩ := paired_get h (List.getElem?_eq_some_iff.mpr ⟨hi, e⟩)
  exact .ord ov (by have := (g o (List.mem_of_getElem? ho)).2.1; omega)
theorem reps_dp {H : Hp} {a : Addr} (h : TT K H a []) : ∀ n : Nat, DpAll K H (List.replicate n (.ref a)) (List.replicate n (.tuple []))
  | 0 => .nil
  | n + 1 => .cons (.tup h.sq .nil) (reps_dp h n)
theorem reps_depth : ∀ n : Nat, PyData.depthAll (List.replicate n (.tuple [])) ≤ 1
  | 0 => Nat.zero_le _
  | n + 1 => by
    rw [List.replicate_succ]
    have := reps_depth n
    simp only [PyData.depthAll, PyData.depth]
    omega
theorem ok_law  {aZERO : Addr} {aVowError : Addr} {aInvalidLevels : Addr} {aInvalidRow : Addr} {aMissing : Addr} {aNothingLeft : Addr} {fVI : Addr} (T : Txt K mg  aZERO aVowError aInvalidLevels aInvalidRow aMissing aNothingLeft fVI) {f f1 f2 f3 f4 f5 f6 f7 f8 f9 f10 f11 f12 f13 f14 f15 cl Pl : Addr} {fd fd1 fd2 fd3 fd4 fd5 fd6 fd7 fd8 fd9 fd10 fd11 fd12 fd13 fd14 fd15 : FuncData} (F : Fun K "law" "law" slaw f fd) (hcl : fd.code = .ref cl) (TB : LamX.TabB base mg cl Pl)
    (C__law_bag : Cal P w K mg base 1 "_law_bag" ["_law_script"] (spBag K) f1 fd1) (C__law_pull : Cal P w K mg base 1 "_law_pull" ["_law_bag_here", "_law_sides"] spPull f2 fd2)
    (C__law_of : Cal P w K mg base 2 "_law_of" ["_law_bag_here", "_law_some"] (spOf K) f3 fd3) (C__law_same : Cal P w K mg base 10 "_law_same" ["_law_found", "_law_due"] (spSame K 10) f4 fd4)
    (C__law_row : Cal P w K mg base 13 "_law_row" ["_law_bag_here", "_law_many_z"] (spRow K) f5 fd5) (C_is_row : Cal P w K mg base 122 "is_row" ["levels", "value"] (spIsRow K) f6 fd6) (KB_is_row : KBinds K fd6 ["levels", "value"] ["value", "levels"] swapG swapG)
    (C__law_next : Cal P w K mg base 2 "_law_next" ["_law_here"] (spO1 K fun a => O.sum a O.one) f7 fd7) (C__law_bent_ordinal : Cal P w K mg base 18 "_law_bent_ordinal" ["_law_bag_here", "_law_here"] (spBent K 16) f8 fd8)
    (C__law_ordinal : Cal P w K mg base 12 "_law_ordinal" ["_law_bag_here", "_law_deep"] (spOrdTo K 10) f9 fd9) (C__law_is_row : Cal P w K mg base 62 "_law_is_row" ["_law_many_z", "_law_thing"] (fun vs H Q E => (∃ m : Nat, m ≤ 1000 ∧ vs.head? = some (.int (m : Nat))) ∧ spIsRow K vs H Q E) f10 fd10)
    (C_check_row : CalX P w K mg base 123 "check_row" ["levels", "value"] (spChk aInvalidRow "InvalidRow" (okRow K)) f11 fd11) (C_check_levels : CalX P w K mg base 3 "check_levels" ["levels"] (spChk aInvalidLevels "InvalidLevels" okLev) f12 fd12)
    (C_least_row : Cal P w K mg base 1 "least_row" ["levels"] (spLeastR K aZERO) f13 fd13) (C__law_told : CalT K mg s_law_told f14 fd14) (C__law_fields : CalF P w K mg base 1 "_law_fields" ["_law_e"] (spFields K) f15 fd15) :
    FnOk P w K mg base CX0 126 f fd ["_law_script"] (spLawT K Pl) := by
  refine fn_okC F hcl sclaw (fun vs H Q E h => ?_) (fun A outer s H vs Q E hr h => ?_)
  · obtain ⟨_, _, rfl, _⟩ := h; rfl
  obtain ⟨a, ns, rfl, hS, hl, hT, q⟩ := h
  refine ⟨_, (pss_cons (ps_set (i := 1) sclaw.nd rfl (Or.inl rfl) (pe_call C__law_bag.G (hr.mono (by omega)) (by rfl) C__law_bag.m C__law_bag.kp C__law_bag.b .nil pass0 (pa_cons (pv 0) pa_nil)))
  (pss_cons (ps_for PassesOwn.never rfl (pi_range1 (by rfl) T.z_range (pa_cons pe_int pa_nil)) (pg_name (i := 2) sclaw.nd rfl (Or.inl rfl))
   (pss_cons (ps_set (i := 3) sclaw.nd rfl (Or.inr rfl) (pe_call C__law_pull.G (hr.mono (by omega)) (by rfl) C__law_pull.m C__law_pull.kp C__law_pull.b .nil pass0 (pa_cons (pv 1) (pa_cons pe_int pa_nil))))
  (pss_cons (ps_set (i := 4) sclaw.nd rfl (Or.inl rfl) (pe_call C__law_row.G (hr.mono (by omega)) (by rfl) C__law_row.m C__law_row.kp C__law_row.b .nil pass0 (pa_cons (pv 1) (pa_cons (pv 3) pa_nil))))
  (pss_cons (ps_if (pt_not (pt_val (pe_call C__law_same.G (hr.mono (by omega)) (by rfl) C__law_same.m C__law_same.kp C__law_same.b .nil pass0 (pa_cons (pe_call C_is_row.G (hr.mono (by omega)) (by rfl) C_is_row.m C_is_row.kp C_is_row.b .nil pass0 (pa_cons (pv 3) (pa_cons (pv 4) pa_nil))) (pa_cons pe_bl pa_nil))))) (pss_one (ps_ret pe_bl)) pss_nil)
  (pss_cons (ps_set (i := 5) sclaw.nd rfl (Or.inr rfl) (pe_call C__law_of.G (hr.mono (by omega)) (by rfl) C__law_of.m C__law_of.kp C__law_of.b .nil pass0 (pa_cons (pv 1) (pa_cons (pe_lst (pa_cons (pe_op op_catO (pv 4) (pe_tup (pa_cons (pe_tup pa_nil) pa_nil))) (pa_cons (pe_slice sl_tupO (pv 4) (po_some pe_int) po_none) (pa_cons (pe_callTy call_list_of (by rfl) T.z_list (by decide +kernel) (pa_cons (pv 4) pa_nil)) (pa_cons pe_non (pa_cons pe_int (pa_cons (pe_revT (pv 4)) (pa_cons (pv 4) pa_nil)))))))) pa_nil))))
  (C8.pss_cut (ps_if (PW.pt (pw_and (pt_cmpR op_gt (pv 3) pe_int (nomark _)) (pw_and1 (pt_cmpR op_gt (pe_call C__law_pull.G (hr.mono (by omega)) (by rfl) C__law_pull.m C__law_pull.kp C__law_pull.b .nil pass0 (pa_cons (pv 1) (pa_cons pe_int pa_nil))) pe_int (nomark _))))) (pss_cons (ps_set (i := 6) sclaw.nd rfl (Or.inl rfl) (pe_call C__law_pull.G (hr.mono (by omega)) (by rfl) C__law_pull.m C__law_pull.kp C__law_pull.b .nil pass0 (pa_cons (pv 1) (pa_cons (pv 3) pa_nil))))
  (pss_cons (ps_set (i := 7) sclaw.nd rfl (Or.inl rfl) (pe_call C__law_of.G (hr.mono (by omega)) (by rfl) C__law_of.m C__law_of.kp C__law_of.b .nil pass0 (pa_cons (pv 1) (pa_cons (pe_lst (pa_cons (pe_call C__law_next.G (hr.mono (by omega)) (by rfl) C__law_next.m C__law_next.kp C__law_next.b .nil pass0 (pa_cons (pe_ix ix_tup (pv 4) (pv 6) (fun _ _ => rfl)) pa_nil)) (pa_cons (pe_call C__law_bent_ordinal.G (hr.mono (by omega)) (by rfl) C__law_bent_ordinal.m C__law_bent_ordinal.kp C__law_bent_ordinal.b .nil pass0 (pa_cons (pv 1) (pa_cons (pe_ix ix_tup (pv 4) (pv 6) (fun _ _ => rfl)) pa_nil))) (pa_cons (pe_call C__law_ordinal.G (hr.mono (by omega)) (by rfl) C__law_ordinal.m C__law_ordinal.kp C__law_ordinal.b .nil pass0 (pa_cons (pv 1) (pa_cons pe_int pa_nil))) pa_nil)))) pa_nil))))
  (pss_one (ps_set (i := 5) sclaw.nd rfl (Or.inr rfl) (pe_op op_catO (pe_op op_catO (pe_slice sl_tupO (pv 4) po_none (po_some (pv 6))) (pe_tup (pa_cons (pv 7) pa_nil))) (pe_slice sl_tupO (pv 4) (po_some (pe_op op_add (pv 6) pe_int)) po_none)))))) pss_nil)
  (pss_cons (ps_set (i := 8) sclaw.nd rfl (Or.inl rfl) (pe_call C__law_is_row.G (hr.mono (by omega)) (by rfl) C__law_is_row.m C__law_is_row.kp C__law_is_row.b .nil pass0 (pa_cons (pv 3) (pa_cons (pv 5) pa_nil))))
  (pss_cons (ps_if (pt_not (pt_val (pe_call C__law_same.G (hr.mono (by omega)) (by rfl) C__law_same.m C__law_same.kp C__law_same.b .nil pass0 (pa_cons (pe_callK0 C_is_row.G (hr.mono (by omega)) (by rfl) C_is_row.m C_is_row.kp KB_is_row pass0 (pk_cons (pv 5) (pk_cons (pv 3) pk_nil))) (pa_cons (pv 8) pa_nil))))) (pss_one (ps_ret pe_bl)) pss_nil)
  (pss_cons (ps_if (pt_not (pt_val (pe_call C__law_same.G (hr.mono (by omega)) (by rfl) C__law_same.m C__law_same.kp C__law_same.b .nil pass0 (pa_cons (pe_cut (pe_told T C__law_told C__law_fields TB rfl rfl (hr.mono (by omega)) (hr.mono (by omega)) (LamX.lamS_by (sc := defScope slaw) (by decide +kernel)) rfl (fun _ _ _ _ _ => rfl) (fun A outer s H E f c' hr2 => (pe_call (E := E) C_check_row.G hr2 (by rfl) C_check_row.m C_check_row.kp C_check_row.b .nil (passes_call (takes_of rfl rfl rfl rfl) fun _ _ _ _ h => h) (pa_cons (pv 3) (pa_cons (pv 5) pa_nil)))) (by rfl))) (pa_cons (pe_cut (pe_ifExp (pt_val (pv 8)) (pe_tup (pa_cons pe_str (pa_cons pe_non pa_nil))) (pe_tup (pa_cons pe_str (pa_cons pe_str pa_nil))))) pa_nil))))) (pss_one (ps_ret pe_bl)) pss_nil)
  (pss_cons (ps_set (i := 9) sclaw.nd rfl (Or.inr rfl) (pe_call C__law_of.G (hr.mono (by omega)) (by rfl) C__law_of.m C__law_of.kp C__law_of.b .nil pass0 (pa_cons (pv 1) (pa_cons (pe_lst (pa_cons pe_int (pa_cons pe_int (pa_cons (pe_un un_neg pe_int) (pa_cons (pe_op op_pow pe_int pe_int) (pa_cons (pe_op op_add pe_int (pe_call C__law_pull.G (hr.mono (by omega)) (by rfl) C__law_pull.m C__law_pull.kp C__law_pull.b .nil pass0 (pa_cons (pv 1) (pa_cons pe_int pa_nil)))) pa_nil)))))) pa_nil))))
  (pss_cons (ps_set (i := 8) sclaw.nd rfl (Or.inl rfl) (pe_cut (pe_ifExp (pt_chain op_le op_le pe_int (pv 9) pe_int) (pe_tup (pa_cons pe_str (pa_cons pe_non pa_nil))) (pe_tup (pa_cons pe_str (pa_cons pe_str pa_nil))))))
  (pss_cons (ps_set (i := 10) sclaw.nd rfl (Or.inl rfl) (pe_callB (call_max2 rfl) (by rfl) T.z_max (by decide +kernel) (pa_cons pe_int (pa_cons (pv 3) pa_nil))))
  (pss_one (ps_if (pt_not (pt_val (pe_call C__law_same.G (hr.mono (by omega)) (by rfl) C__law_same.m C__law_same.kp C__law_same.b .nil pass0 (pa_cons (pe_lst (pa_cons (pe_cut (pe_told T C__law_told C__law_fields TB rfl rfl (hr.mono (by omega)) (hr.mono (by omega)) (LamX.lamS_by (sc := defScope slaw) (by decide +kernel)) rfl (fun _ _ _ _ _ => rfl) (fun A outer s H E f c' hr2 => (pe_call (E := E) C_check_levels.G hr2 (by rfl) C_check_levels.m C_check_levels.kp C_check_levels.b .nil (passes_call (takes_of rfl rfl rfl rfl) fun _ _ _ _ h => h) (pa_cons (pv 9) pa_nil))) (by rfl))) (pa_cons (pe_call C_least_row.G (hr.mono (by omega)) (by rfl) C_least_row.m C_least_row.kp C_least_row.b .nil pass0 (pa_cons (pv 10) pa_nil)) pa_nil))) (pa_cons (pe_lst (pa_cons (pv 8) (pa_cons (pe_op op_repO (pe_tup (pa_cons (pe_tup pa_nil) pa_nil)) (pv 10)) pa_nil))) pa_nil))))) (pss_one (ps_ret pe_bl)) pss_nil))))))))))))))
  (pss_one (ps_ret (pe_cmpR op_eq (pe_globI (by rfl) T.m_MAX_LEVELS) pe_int (nomark _)))))), ?_⟩
  refine ⟨_, rfl, a, ns, rfl, hS, hl, fun l b H1 nb s1 B1 => ?_⟩
  refine ⟨6, rfl, by decide, by decide, ?_⟩
  refine for_range (lo := 0) (n := 6) (fun i σ H' => ∃ u2 u3 u4 u5 u6 u7 u8 u9 u10, σ = [some (.ref a), some (.ref b), u2, u3, u4, u5, u6, u7, u8, u9, u10] ∧ Bag l H' b ∧ LamX.Tabs (lamT Pl) H') ⟨_, _, _, _, _, _, _, _, _, rfl, B1, tabs_same hT s1⟩ (fun i σ H2 hi h => ?_) (fun σ H2 h => ?_)
  · obtain ⟨u2, u3, u4, u5, u6, u7, u8, u9, u10, rfl, B2, T2⟩ := h
    refine ⟨_, rfl, l, b, 4, rfl, by decide, by decide, B2, fun r H3 r0 r1 k3 B3 => ?_⟩
    have T3 := tabs_bag T2 B2 k3
    obtain ⟨m, rfl⟩ : ∃ m : Nat, r = (m : Int) := ⟨r.toNat, by omega⟩
    refine ⟨_, rfl, _, rfl, l, b, m, rfl, by omega, B3, fun v4 os H4 ra lo go st k4 B4 => ?_⟩
    have T4 := tabs_bag T3 B3 k4
    obtain ⟨ap, xs, rfl, tt, pp⟩ := id ra
    have lx : xs.length = m := by rw [paired_len pp]; exact lo
    have dro : (rowD os).depth ≤ 16 := by
      have := O.depthAll (n := 14) (os := os) fun o ho => (go o ho).2.1
      simp only [rowD, PyData.depth]; omega
    refine ⟨_, rfl, _, rfl, (m : Int), _, rowD os, rfl, ra.dp, by omega, fun H5 s5 => ?_⟩
    rw [isRow_t ⟨os, rfl, by rw [lo], fun o ho => (go o ho).1, st⟩]
    refine ⟨_, _, .bool true, rfl, .bl _, .bl _, by simp only [PyData.depth]; decide, fun H6 s6 => ⟨_, rfl, iteF ?_⟩⟩
    have sA := s5.trans s6
    have B6 := B4.same sA
    have T6 := tabs_same T4 sA
    have tt := tt.same sA
    have pp := paired_tp (same_tp sA) pp
    clear ra sA s5 s6 T4 T3 T2 B4 B3 B2 k3 k4
    -- the bent one
    refine ⟨_, rfl, _, rfl, (by show 0 ≤ sizeLine; decide), fun p0 n0 => ⟨(by show 1 ≤ sizeLine; decide), fun p1 n1 => ?_⟩⟩
    have z0 := same_new (o := .tup []) n0
    have z1 := same_new (o := .tup [.ref p0]) n1
    refine rd_cat ((tt.same z0).same z1) (.of upd_same) (by show xs.length + 1 ≤ _; omega) fun p2 H7 s7 t2 => ?_
    have sB := (z0.trans z1).trans s7
    have e0 : EltT K H7 15 (.ref p0) := .ord (OA.nil (((TT.of (K := K) (H := upd H6 p0 (.tup [])) upd_same).same z1).same s7)) (by decide)
    have tt7 := tt.same sB
    refine ⟨_, rfl, 1, rfl, rd_from 1 tt7 fun p3 H8 s8 t3 => ⟨_, rfl, ap, xs, rfl, .inr (tt7.same s8).sq, fun p4 n4 => ?_⟩⟩
    have z4 := same_new (o := .lst xs) n4
    refine ⟨_, rfl, ap, xs, rfl, (tt7.same s8).same z4, fun p5 H10 s10 t5 => ⟨_, rfl, (by show 7 ≤ sizeLine; decide), fun L nL => ?_⟩⟩
    have zL := same_new (o := .lst [.ref p2, .ref p3, .ref p4, .non, .int 5, .ref p5, .ref ap]) nL
    have sC := ((s8.trans z4).trans s10).trans zL
    have B7 := B6.same sB
    have B11 := B7.same sC
    have h4b : p4 ≠ b := (B7.same s8).ne n4
    refine ⟨l, b, L, _, rfl, B11, .inl ⟨((B7.same s8).same z4 |>.same s10).ne nL, upd_same⟩, (fun z => by cases z), fun x H12 hx k12 B12 => ?_⟩
    have T12 := tabs_bag (tabs_same (tabs_same T6 sB) sC) B11 k12
    have tC : Tp H7 H12 := (same_tp sC).trans (B11.tp k12)
    have el : ∀ v ∈ xs, EltT K H12 15 v := row_elts (paired_tp ((same_tp sB).trans tC) pp) go
    have tt12 := tt7.tp tC
    have ex : EltB K H12 b 30 x := by
      simp only [List.mem_cons, List.not_mem_nil, or_false] at hx
      rcases hx with h | h | h | h | h | h | h <;> subst h
      · refine ((EltT.tup (n := 15) (t2.tp tC) fun v hv => ?_).mono (by decide)).toB B12
        rcases List.mem_append.mp hv with h | h
        · exact el v h
        · rw [List.mem_singleton.mp h]; exact e0.tp tC
      · exact ((EltT.tup (n := 15) (t3.tp ((same_tp ((z4.trans s10).trans zL)).trans (B11.tp k12))) fun v hv => el v (List.mem_of_mem_drop hv)).mono (by decide)).toB B12
      · exact (EltB.lst (n := 15) h4b (k12 _ _ h4b ((s10.trans zL) _ _ upd_same)) fun v hv => (el v hv).toB B12).mono (by decide)
      · exact EltT.toB .non B12
      · exact EltT.toB (.int _) B12
      · exact ((EltT.tup (n := 15) (t5.tp ((same_tp zL).trans (B11.tp k12))) fun v hv => el v (List.mem_reverse.mp hv)).mono (by decide)).toB B12
      · exact ((EltT.tup (n := 15) tt12 el).mono (by decide)).toB B12
    have pp12 := paired_tp ((same_tp sB).trans tC) pp
    clear hx el e0 t2 t3 t5 sB sC tC tt7 tt pp B6 B7 B11 T6 h4b z0 z1 zL z4 s7 s8 s10 k12
    refine ⟨fun σ H' => ∃ x u6 u7, σ = [some (.ref a), some (.ref b), some (.int (0 + (i : Nat))), some (.int (m : Int)), some (.ref ap), some x, u6, u7, u8, u9, u10] ∧ Bag l H' b ∧ LamX.Tabs (lamT Pl) H' ∧ EltD K H' 30 x, ?_, fun σ H' h => ?_⟩
    · refine ⟨_, rfl, _, _, rfl, rfl, _, rfl, ?_⟩
      refine ite2 (fun e => ?_) (fun e => iteF ⟨_, _, _, rfl, B12, T12, ex.elt⟩)
      have hm : 0 < m := by have := of_decide_eq_true e; omega
      refine ⟨_, rfl, l, b, 3, rfl, by decide, by decide, B12, fun r13 H13 r130 r131 k13 B13 => ⟨_, _, rfl, rfl, _, rfl, ?_⟩⟩
      have T13 := tabs_bag T12 B12 k13
      refine ite2 (fun e => ?_) (fun e => ⟨_, _, _, rfl, B13, T13, (ex.kp k13).elt⟩)
      refine ⟨_, rfl, _, rfl, l, b, (m : Int), rfl, by omega, by omega, B13, fun r14 H14 r140 r141 k14 B14 => ?_⟩
      have T14 := tabs_bag T13 B13 k14
      obtain ⟨k, rfl⟩ : ∃ k : Nat, r14 = (k : Int) := ⟨r14.toNat, by omega⟩
      have tA := (B12.tp k13).trans (B13.tp k14)
      have tt14 := tt12.tp tA
      have pp14 := paired_tp tA pp12
      have hk : k < xs.length := by omega
      obtain ⟨v, hv⟩ : ∃ v, xs[k]? = some v := ⟨_, List.getElem?_eq_getElem hk⟩
      obtain ⟨o, ho, ov⟩ := paired_get pp14 hv
      have gov := go o (List.mem_of_getElem? ho)
      have lwo := O.len_wd o
      -- another ordinal
      refine ⟨_, rfl, _, rfl, _, rfl, ap, xs, _, v, rfl, rfl, tt14.sq, atI_nat hv, _, o, rfl, ov, gov.1, by omega, by omega, fun v15 H15 s15 o15 => ?_⟩
      refine ⟨_, rfl, _, rfl, _, rfl, ap, xs, _, v, rfl, rfl, (tt14.same s15).sq, atI_nat hv, l, b, v, o, rfl, B14.same s15, ov.same s15, by omega, by omega, by omega, fun v16 H16 e16 k16 B16 => ?_⟩
      have T16 := tabs_bag (tabs_same T14 s15) (B14.same s15) k16
      have t16 := (B14.same s15).tp k16
      refine ⟨_, rfl, 2, by decide, l, b, rfl, B16, fun o17 v17 H17 a17 b17 c17 d17 k17 B17 => ⟨(by show 3 ≤ sizeLine; decide), fun L2 nL2 => ?_⟩⟩
      have T17 := tabs_bag T16 B16 k17
      have zL2 := same_new (o := .lst [v15, v16, v17]) nL2
      have B18 := B17.same zL2
      refine ⟨l, b, L2, _, rfl, B18, .inl ⟨B17.ne nL2, upd_same⟩, (fun z => by cases z), fun y H19 hy k19 B19 => ?_⟩
      have T19 := tabs_bag (tabs_same T17 zL2) B18 k19
      have t19 := (same_tp zL2).trans (B18.tp k19)
      have ey : EltB K H19 b 28 y := by
        simp only [List.mem_cons, List.not_mem_nil, or_false] at hy
        rcases hy with h | h | h <;> subst h
        · have := O.dp_sum o O.one
          have d1 : O.dp O.one = 2 := by decide
          exact EltT.toB (.ord (o15.tp ((t16.trans (B16.tp k17)).trans t19)) (by show O.dp (O.sum o O.one) + 1 ≤ 28; omega)) B19
        · exact (((e16.kp k17).same zL2).kp k19).mono (by omega)
        · exact EltT.toB (.ord (d17.tp t19) (by omega)) B19
      have tB : Tp H14 H19 := (((same_tp s15).trans t16).trans (B16.tp k17)).trans t19
      have tt19 := tt14.tp tB
      have el : ∀ v ∈ xs, EltT K H19 15 v := row_elts (paired_tp tB pp14) go
      refine ⟨_, rfl, _, rfl, _, rfl, rd_to k tt19 fun p20 H20 s20 t20 => ⟨_, rfl, (by show 1 ≤ sizeLine; decide), fun p21 n21 => ?_⟩⟩
      have z21 := same_new (o := .tup [y]) n21
      refine rd_cat (t20.same z21) (.of upd_same) (by rw [List.length_take]; show _ + 1 ≤ 100000; omega) fun p22 H22 s22 t22 => ?_
      have sD := (s20.trans z21).trans s22
      refine ⟨_, rfl, _, rfl, _, _, rfl, rfl, _, rfl, rd_from (k + 1) (tt19.same sD) fun p23 H23 s23 t23 => rd_cat (t22.same s23) t23 (by rw [List.length_append, List.length_take, List.length_drop]; show _ + 1 + _ ≤ 100000; omega) fun p24 H24 s24 t24 => ?_⟩
      have sE := (sD.trans s23).trans s24
      refine ⟨_, _, _, rfl, B19.same sE, tabs_same T19 sE, EltD.mono (EltB.elt (EltB.tup (n := 28) (B19.same sE) t24 fun u hu => ?_)) (by decide)⟩
      rcases List.mem_append.mp hu with h | h
      · rcases List.mem_append.mp h with h | h
        · exact (((el u (List.mem_of_mem_take h)).same sE).mono (by decide)).toB (B19.same sE)
        · rw [List.mem_singleton.mp h]; exact ey.same sE
      · exact (((el u (List.mem_of_mem_drop h)).same sE).mono (by decide)).toB (B19.same sE)
    · obtain ⟨x, u6, u7, rfl, B20, T20, d, hd, hdd⟩ := h
      clear ex pp12 tt12 B12 T12
      refine ⟨_, rfl, _, rfl, ⟨m, by omega, rfl⟩, (m : Int), x, d, rfl, hd, by omega, fun H21 s21 => ?_⟩
      refine ⟨_, rfl, _, rfl, (m : Int), x, d, rfl, dp_same s21 hd, by omega, fun H22 s22 => ⟨_, rfl, _, _, .bool (isRowB m d), rfl, .bl _, .bl _, by simp only [PyData.depth]; decide, fun H23 s23 => ⟨_, rfl, iteF ?_⟩⟩⟩
      have sA := (s21.trans s22).trans s23
      have T23 := tabs_same T20 sA
      have B23 := B20.same sA
      have hd23 := dp_same sA hd
      -- asked under try
      refine ⟨fun v H' => ∃ p, v = .ref p ∧ TT K H' p (tupV (isRowB m d) "InvalidRow") ∧ Bag l H' b ∧ LamX.Tabs (lamT Pl) H', ⟨T23, fun H24 e24 T24 => ⟨_, rfl, _, rfl, isRowB m d, ⟨m, x, d, rfl, dp_ext e24 hd23, by omega, rfl⟩, fun hb H25 s25 => ⟨(by show 2 ≤ sizeLine; decide), fun p np => ?_⟩, fun hb dd H25 s25 hdd => ⟨"InvalidRow", ⟨⟨_, dd, rfl, rfl, T.rz_InvalidRow.xf, T.rz_InvalidRow.no, hdd⟩⟩, T.ex_InvalidRow, by decide +kernel, fun p H26 s26 t26 => ?_⟩⟩⟩, fun v H26 hv => ?_⟩
      · have z := same_new (o := .tup [.str "told", .non]) np
        exact ⟨p, rfl, by rw [hb]; exact .of upd_same, ((B23.ext e24).same s25).same z, tabs_same (tabs_same T24 s25) z⟩
      · exact ⟨p, rfl, by rw [hb]; exact t26, ((B23.ext e24).same s25).same s26, tabs_same (tabs_same T24 s25) s26⟩
      obtain ⟨p26, rfl, t26, B26, T26⟩ := hv
      refine ⟨fun v H' => ∃ p, v = .ref p ∧ Same H26 H' ∧ TT K H' p (tupV (isRowB m d) "InvalidRow"), ⟨_, rfl, _, rfl, ite2 (fun e => ⟨(by show 2 ≤ sizeLine; decide), fun p np => ⟨p, rfl, same_new np, ?_⟩⟩) (fun e => ⟨(by show 2 ≤ sizeLine; decide), fun p np => ⟨p, rfl, same_new np, ?_⟩⟩)⟩, fun v H27 hv => ?_⟩
      · rw [show isRowB m d = true from e]; exact .of upd_same
      · rw [show isRowB m d = false from Bool.eq_false_iff.mpr e]; exact .of upd_same
      obtain ⟨p27, rfl, s27, t27⟩ := hv
      refine ⟨_, _, tupD (isRowB m d) "InvalidRow", rfl, tup_dp (t26.same s27), tup_dp t27, Nat.lt_of_le_of_lt (tup_depth _ _) (by decide), fun H28 s28 => ⟨_, rfl, iteF ?_⟩⟩
      have B28 := (B26.same s27).same s28
      have T28 := tabs_same (tabs_same T26 s27) s28
      clear t26 t27 B26 T26 s27 s28 B23 T23 hd23 sA s21 s22 s23 B20 T20
      -- levels
      refine ⟨_, rfl, _, rfl, _, _, rfl, rfl, ⟨by decide, by decide, by decide⟩, _, rfl, l, b, 3, rfl, by decide, by decide, B28, fun r29 H29 r290 r291 k29 B29 => ⟨_, _, rfl, rfl, (by show 5 ≤ sizeLine; decide), fun L nL => ?_⟩⟩
      have T29 := tabs_bag T28 B28 k29
      have zL := same_new (o := .lst [.int 0, .int 4, .int (-1), .int (10 ^ Int.toNat 20), .int (1 + r29)]) nL
      refine ⟨l, b, L, _, rfl, B29.same zL, .inl ⟨B29.ne nL, upd_same⟩, (fun z => by cases z), fun y H30 hy k30 B30 => ?_⟩
      have T30 := tabs_bag (tabs_same T29 zL) (B29.same zL) k30
      obtain ⟨z, rfl⟩ : ∃ z : Int, y = .int z := by
        simp only [List.mem_cons, List.not_mem_nil, or_false] at hy
        rcases hy with h | h | h | h | h <;> exact ⟨_, h⟩
      clear hy zL k30 k29 nL
      refine ⟨fun v H' => ∃ p, v = .ref p ∧ Same H30 H' ∧ TT K H' p (tupV (decide (1 ≤ z) && decide (z ≤ 3)) "InvalidLevels"), ⟨_, rfl, _, _, rfl, rfl, _, rfl, ite2 (fun e => ⟨_, _, rfl, rfl, _, rfl, ite2 (fun e2 => ⟨(by show 2 ≤ sizeLine; decide), fun p np => ⟨p, rfl, same_new np, ?_⟩⟩) (fun e2 => ⟨(by show 2 ≤ sizeLine; decide), fun p np => ⟨p, rfl, same_new np, ?_⟩⟩)⟩) (fun e => ⟨_, rfl, iteF ⟨(by show 2 ≤ sizeLine; decide), fun p np => ⟨p, rfl, same_new np, ?_⟩⟩⟩)⟩, fun v H31 hv => ?_⟩
      · rw [show decide (1 ≤ z) = true from e, show decide (z ≤ 3) = true from e2]; exact .of upd_same
      · rw [show decide (z ≤ 3) = false from Bool.eq_false_iff.mpr e2, Bool.and_false]; exact .of upd_same
      · rw [show decide (1 ≤ z) = false from Bool.eq_false_iff.mpr e, Bool.false_and]; exact .of upd_same
      obtain ⟨p31, rfl, s31, t31⟩ := hv
      have B31 := B30.same s31
      have T31 := tabs_same T30 s31
      refine ⟨_, rfl, 1, (m : Int), rfl, ?_⟩
      obtain ⟨wz, hwz⟩ : ∃ wz : Int, (if (m : Int) > 1 then (m : Int) else 1) = wz := ⟨_, rfl⟩
      rw [hwz]
      have hw1 : 1 ≤ wz ∧ wz ≤ 3 := by
        subst hwz
        split <;> omega
      refine ⟨fun v H' => ∃ p, v = .ref p ∧ Tp H31 H' ∧ TT K H' p (tupV (decide (1 ≤ z) && decide (z ≤ 3)) "InvalidLevels") ∧ Bag l H' b ∧ LamX.Tabs (lamT Pl) H', ⟨T31, fun H24 e24 T24 => ⟨_, rfl, _, ⟨z, rfl, rfl⟩, fun hb H25 s25 => ⟨(by show 2 ≤ sizeLine; decide), fun p np => ?_⟩, fun hb dd H25 s25 hdd => ⟨"InvalidLevels", ⟨⟨_, dd, rfl, rfl, T.rz_InvalidLevels.xf, T.rz_InvalidLevels.no, hdd⟩⟩, T.ex_InvalidLevels, by decide +kernel, fun p H26 s26 t26 => ?_⟩⟩⟩, fun v H32 hv => ?_⟩
      · have z := same_new (o := .tup [.str "told", .non]) np
        exact ⟨p, rfl, (ext_tp e24).trans (same_tp (s25.trans z)), by rw [hb]; exact .of upd_same, ((B31.ext e24).same s25).same z, tabs_same (tabs_same T24 s25) z⟩
      · exact ⟨p, rfl, (ext_tp e24).trans (same_tp (s25.trans s26)), by rw [hb]; exact t26, ((B31.ext e24).same s25).same s26, tabs_same (tabs_same T24 s25) s26⟩
      obtain ⟨p32, rfl, tp32, t32, B32, T32⟩ := hv
      have t31 := t31.tp tp32
      refine ⟨_, rfl, wz, rfl, hw1.1, hw1.2, fun p33 H33 s33 t33 => ⟨(by show 2 ≤ sizeLine; decide), fun D1 n1 => ?_⟩⟩
      have z1 := same_new (o := .lst [.ref p32, .ref p33]) n1
      refine ⟨_, rfl, (by show 0 ≤ sizeLine; decide), fun q0 m0 => ⟨(by show 1 ≤ sizeLine; decide), fun q1 m1 => ⟨_, rfl, rd_rep (.of upd_same) hw1.1 (by omega) fun q2 H34 s34 t34 => ⟨(by show 2 ≤ sizeLine; decide), fun D2 n2 => ?_⟩⟩⟩⟩
      have y0 := same_new (o := .tup []) m0
      have y1 := same_new (o := .tup [.ref q0]) m1
      have y2 := same_new (o := .lst [.ref p31, .ref q2]) n2
      have sA := (((z1.trans y0).trans y1).trans s34).trans y2
      have tq0 : TT K (upd H34 D2 (.lst [.ref p31, .ref q2])) q0 [] := ((((TT.of (K := K) (H := upd (upd H33 D1 (.lst [.ref p32, .ref p33])) q0 (.tup [])) upd_same).same y1).same s34).same y2)
      have dA : Dp K (upd H34 D2 (.lst [.ref p31, .ref q2])) (.ref p33) (.tuple (List.replicate wz.toNat (.tuple []))) := .tup (t33.same sA).sq (reps_dp (.inr T.t_ZERO) _)
      have dB : Dp K (upd H34 D2 (.lst [.ref p31, .ref q2])) (.ref q2) (.tuple (List.replicate wz.toNat (.tuple []))) := .tup (t34.same y2).sq (reps_dp tq0 _)
      have rdp := reps_depth wz.toNat
      have tdp := tup_depth (decide (1 ≤ z) && decide (z ≤ 3)) "InvalidLevels"
      have h1 : (upd H34 D2 (.lst [.ref p31, .ref q2])) D1 = some (.lst [.ref p32, .ref p33]) := (((y0.trans y1).trans s34).trans y2) _ _ upd_same
      refine ⟨_, _, .list [tupD (decide (1 ≤ z) && decide (z ≤ 3)) "InvalidLevels", .tuple (List.replicate wz.toNat (.tuple []))], rfl, .lst (SqL.of h1) (.cons (tup_dp ((t32.same s33).same sA)) (.cons dA .nil)), .lst (SqL.of upd_same) (.cons (tup_dp ((t31.same s33).same sA)) (.cons dB .nil)), by simp only [PyData.depth, PyData.depthAll]; omega, fun H35 s35 => ⟨_, rfl, iteF ?_⟩⟩
      have sF := (s33.trans sA).trans s35
      exact ⟨_, _, _, _, _, _, _, _, _, rfl, B32.same sF, tabs_same T32 sF⟩
  · obtain ⟨u2, u3, u4, u5, u6, u7, u8, u9, u10, rfl, B2, T2⟩ := h
    exact ⟨rfl, q H2⟩
theorem main  {aZERO : Addr} {aVowError : Addr} {aInvalidLevels : Addr} {aInvalidRow : Addr} {aMissing : Addr} {aNothingLeft : Addr} {fVI : Addr} (T : Txt K mg  aZERO aVowError aInvalidLevels aInvalidRow aMissing aNothingLeft fVI) {cl Pl : Addr} (TB : LamX.TabB base mg cl Pl) {fd_VI : FuncData} (F_VI : Fun K "__init__" "VowError.__init__" sVI fVI fd_VI) (b_VI : Binds K fd_VI ["self"] [])
    {f_is_ordinal : Addr} {fd_is_ordinal : FuncData} (F_is_ordinal : Fun K "is_ordinal" "is_ordinal" sis_ordinal f_is_ordinal fd_is_ordinal) (b_is_ordinal : Binds K fd_is_ordinal ["value"] []) (m_is_ordinal : mg "is_ordinal" = some (.ref f_is_ordinal))
    {f__is_term : Addr} {fd__is_term : FuncData} (F__is_term : Fun K "_is_term" "_is_term" s_is_term f__is_term fd__is_term) (b__is_term : Binds K fd__is_term ["value"] []) (m__is_term : mg "_is_term" = some (.ref f__is_term))
    {f__is_count : Addr} {fd__is_count : FuncData} (F__is_count : Fun K "_is_count" "_is_count" s_is_count f__is_count fd__is_count) (b__is_count : Binds K fd__is_count ["value"] []) (m__is_count : mg "_is_count" = some (.ref f__is_count))
    {f_end_of : Addr} {fd_end_of : FuncData} (F_end_of : Fun K "end_of" "end_of" send_of f_end_of fd_end_of) (b_end_of : Binds K fd_end_of ["ordinal"] []) (m_end_of : mg "end_of" = some (.ref f_end_of))
    {f_check_levels : Addr} {fd_check_levels : FuncData} (F_check_levels : Fun K "check_levels" "check_levels" scheck_levels f_check_levels fd_check_levels) (b_check_levels : Binds K fd_check_levels ["levels"] []) (m_check_levels : mg "check_levels" = some (.ref f_check_levels))
    {f_is_row : Addr} {fd_is_row : FuncData} (F_is_row : Fun K "is_row" "is_row" sis_row f_is_row fd_is_row) (b_is_row : Binds K fd_is_row ["levels", "value"] []) (m_is_row : mg "is_row" = some (.ref f_is_row))
    {f_check_row : Addr} {fd_check_row : FuncData} (F_check_row : Fun K "check_row" "check_row" scheck_row f_check_row fd_check_row) (b_check_row : Binds K fd_check_row ["levels", "value"] []) (m_check_row : mg "check_row" = some (.ref f_check_row))
    {f_least_row : Addr} {fd_least_row : FuncData} (F_least_row : Fun K "least_row" "least_row" sleast_row f_least_row fd_least_row) (b_least_row : Binds K fd_least_row ["levels"] []) (m_least_row : mg "least_row" = some (.ref f_least_row))
    {f__law_bag : Addr} {fd__law_bag : FuncData} (F__law_bag : Fun K "_law_bag" "_law_bag" s_law_bag f__law_bag fd__law_bag) (b__law_bag : Binds K fd__law_bag ["_law_script"] []) (m__law_bag : mg "_law_bag" = some (.ref f__law_bag))
    {f__law_pull : Addr} {fd__law_pull : FuncData} (F__law_pull : Fun K "_law_pull" "_law_pull" s_law_pull f__law_pull fd__law_pull) (b__law_pull : Binds K fd__law_pull ["_law_bag_here", "_law_sides"] []) (m__law_pull : mg "_law_pull" = some (.ref f__law_pull))
    {f__law_of : Addr} {fd__law_of : FuncData} (F__law_of : Fun K "_law_of" "_law_of" s_law_of f__law_of fd__law_of) (b__law_of : Binds K fd__law_of ["_law_bag_here", "_law_some"] []) (m__law_of : mg "_law_of" = some (.ref f__law_of))
    {f__law_same : Addr} {fd__law_same : FuncData} (F__law_same : Fun K "_law_same" "_law_same" s_law_same f__law_same fd__law_same) (b__law_same : Binds K fd__law_same ["_law_found", "_law_due"] []) (m__law_same : mg "_law_same" = some (.ref f__law_same))
    {f__law_fields : Addr} {fd__law_fields : FuncData} (F__law_fields : Fun K "_law_fields" "_law_fields" s_law_fields f__law_fields fd__law_fields) (b__law_fields : Binds K fd__law_fields ["_law_e"] []) (m__law_fields : mg "_law_fields" = some (.ref f__law_fields))
    {f__law_told : Addr} {fd__law_told : FuncData} (F__law_told : Fun K "_law_told" "_law_told" s_law_told f__law_told fd__law_told) (b__law_told : Binds K fd__law_told ["_law_ask_z"] []) (m__law_told : mg "_law_told" = some (.ref f__law_told))
    {f__law_num : Addr} {fd__law_num : FuncData} (F__law_num : Fun K "_law_num" "_law_num" s_law_num f__law_num fd__law_num) (b__law_num : Binds K fd__law_num ["_law_many_z"] []) (m__law_num : mg "_law_num" = some (.ref f__law_num))
    {f__law_ordinal : Addr} {fd__law_ordinal : FuncData} (F__law_ordinal : Fun K "_law_ordinal" "_law_ordinal" s_law_ordinal f__law_ordinal fd__law_ordinal) (b__law_ordinal : Binds K fd__law_ordinal ["_law_bag_here", "_law_deep"] []) (m__law_ordinal : mg "_law_ordinal" = some (.ref f__law_ordinal))
    {f__law_end : Addr} {fd__law_end : FuncData} (F__law_end : Fun K "_law_end" "_law_end" s_law_end f__law_end fd__law_end) (b__law_end : Binds K fd__law_end ["_law_here"] []) (m__law_end : mg "_law_end" = some (.ref f__law_end))
    {f__law_sum : Addr} {fd__law_sum : FuncData} (F__law_sum : Fun K "_law_sum" "_law_sum" s_law_sum f__law_sum fd__law_sum) (b__law_sum : Binds K fd__law_sum ["_law_here", "_law_there"] []) (m__law_sum : mg "_law_sum" = some (.ref f__law_sum))
    {f__law_next : Addr} {fd__law_next : FuncData} (F__law_next : Fun K "_law_next" "_law_next" s_law_next f__law_next fd__law_next) (b__law_next : Binds K fd__law_next ["_law_here"] []) (m__law_next : mg "_law_next" = some (.ref f__law_next))
    {f__law_raise : Addr} {fd__law_raise : FuncData} (F__law_raise : Fun K "_law_raise" "_law_raise" s_law_raise f__law_raise fd__law_raise) (b__law_raise : Binds K fd__law_raise ["_law_here", "_law_last"] []) (m__law_raise : mg "_law_raise" = some (.ref f__law_raise))
    {f__law_row : Addr} {fd__law_row : FuncData} (F__law_row : Fun K "_law_row" "_law_row" s_law_row f__law_row fd__law_row) (b__law_row : Binds K fd__law_row ["_law_bag_here", "_law_many_z"] []) (m__law_row : mg "_law_row" = some (.ref f__law_row))
    {f__law_bent_ordinal : Addr} {fd__law_bent_ordinal : FuncData} (F__law_bent_ordinal : Fun K "_law_bent_ordinal" "_law_bent_ordinal" s_law_bent_ordinal f__law_bent_ordinal fd__law_bent_ordinal) (b__law_bent_ordinal : Binds K fd__law_bent_ordinal ["_law_bag_here", "_law_here"] []) (m__law_bent_ordinal : mg "_law_bent_ordinal" = some (.ref f__law_bent_ordinal))
    {f__law_is_ordinal : Addr} {fd__law_is_ordinal : FuncData} (F__law_is_ordinal : Fun K "_law_is_ordinal" "_law_is_ordinal" s_law_is_ordinal f__law_is_ordinal fd__law_is_ordinal) (b__law_is_ordinal : Binds K fd__law_is_ordinal ["_law_thing"] []) (m__law_is_ordinal : mg "_law_is_ordinal" = some (.ref f__law_is_ordinal))
    {f__law_is_row : Addr} {fd__law_is_row : FuncData} (F__law_is_row : Fun K "_law_is_row" "_law_is_row" s_law_is_row f__law_is_row fd__law_is_row) (b__law_is_row : Binds K fd__law_is_row ["_law_many_z", "_law_thing"] []) (m__law_is_row : mg "_law_is_row" = some (.ref f__law_is_row))
    {f_law : Addr} {fd_law : FuncData} (F_law : Fun K "law" "law" slaw f_law fd_law) (b_law : Binds K fd_law ["_law_script"] []) (m_law : mg "law" = some (.ref f_law)) (hcl : fd_law.code = .ref cl) : FnOk P w K mg base CX0 126 f_law fd_law ["_law_script"] (spLawT K Pl) := by
  have C1 : Cal P w K mg base 1 "_law_pull" ["_law_bag_here", "_law_sides"] spPull _ _ := ⟨ok_pull T F__law_pull, m__law_pull, F__law_pull.kp, b__law_pull⟩
  have C2 : Cal P w K mg base 1 "_law_num" ["_law_many_z"] (spNum K) _ _ := ⟨ok_num T F__law_num, m__law_num, F__law_num.kp, b__law_num⟩
  have C3 : Cal P w K mg base 2 "_law_of" ["_law_bag_here", "_law_some"] (spOf K) _ _ := ⟨ok_of T F__law_of C1, m__law_of, F__law_of.kp, b__law_of⟩
  have C4 : Cal P w K mg base 1 "_is_count" ["value"] (spCnt K) _ _ := ⟨ok_cnt T F__is_count, m__is_count, F__is_count.kp, b__is_count⟩
  have C5 : Cal P w K mg base 1 "_law_sum" ["_law_here", "_law_there"] (spPlus K) _ _ := ⟨ok_lsum T F__law_sum, m__law_sum, F__law_sum.kp, b__law_sum⟩
  have C6 : Cal P w K mg base 12 "_law_ordinal" ["_law_bag_here", "_law_deep"] (spOrdTo K 10) _ _ := ⟨fn_some fun d hd => fn_mono (ord_all T F__law_ordinal b__law_ordinal m__law_ordinal C1 C2 d hd) (by omega), m__law_ordinal, F__law_ordinal.kp, b__law_ordinal⟩
  have C7 : Cal P w K mg base 2 "_law_raise" ["_law_here", "_law_last"] (spO2 K O.raisedO) _ _ := ⟨ok_lraise T F__law_raise C5, m__law_raise, F__law_raise.kp, b__law_raise⟩
  have C8 : Cal P w K mg base 121 "is_ordinal" ["value"] (spIsOrd K 60) _ _ := ⟨isord_all T F_is_ordinal b_is_ordinal m_is_ordinal F__is_term b__is_term m__is_term C4 60 (Nat.le_refl _), m_is_ordinal, F_is_ordinal.kp, b_is_ordinal⟩
  have C9 : Cal P w K mg base 122 "is_row" ["levels", "value"] (spIsRow K) _ _ := ⟨ok_isrow T F_is_row C8 ⟨ok_end_ofD T F_end_of, m_end_of, F_end_of.kp, b_end_of⟩, m_is_row, F_is_row.kp, b_is_row⟩
  exact ok_law T F_law hcl TB ⟨ok_bag T F__law_bag, m__law_bag, F__law_bag.kp, b__law_bag⟩ C1 C3
    ⟨same_all T F__law_same b__law_same m__law_same 10, m__law_same, F__law_same.kp, b__law_same⟩
    ⟨ok_row T F__law_row C1 C6 C7, m__law_row, F__law_row.kp, b__law_row⟩ C9
    (kb_of F_is_row swapG swapG swap_rel fun _ _ _ _ _ _ us ws hl => by
      match us, ws, hl with
      | [], [_, _], _ => rfl
      | [], [], h => cases h
      | [], [_], h => cases h
      | [], _ :: _ :: _ :: _, h => cases h
      | _ :: _, _, h => cases h)
    ⟨ok_lnext T F__law_next C5 C2, m__law_next, F__law_next.kp, b__law_next⟩
    ⟨bent_all T F__law_bent_ordinal b__law_bent_ordinal m__law_bent_ordinal C1 C3 16, m__law_bent_ordinal, F__law_bent_ordinal.kp, b__law_bent_ordinal⟩ C6
    ⟨ok_lisrowD T F__law_is_row ⟨lisord_all T F__law_is_ordinal b__law_is_ordinal m__law_is_ordinal 60 (by decide), m__law_is_ordinal, F__law_is_ordinal.kp, b__law_is_ordinal⟩ ⟨ok_lendD T F__law_end, m__law_end, F__law_end.kp, b__law_end⟩, m__law_is_row, F__law_is_row.kp, b__law_is_row⟩
    ⟨ok_check_row T F_check_row C9 (ok_VI F_VI T.rz_InvalidRow) b_VI, m_check_row, F_check_row.kp, b_check_row⟩
    ⟨ok_check_levels T F_check_levels (ok_VI F_VI T.rz_InvalidLevels) b_VI, m_check_levels, F_check_levels.kp, b_check_levels⟩
    ⟨ok_least_row T F_least_row, m_least_row, F_least_row.kp, b_least_row⟩
    ⟨F__law_told, m__law_told, b__law_told⟩ ⟨ok_fields T F__law_fields, m__law_fields, F__law_fields.kp, b__law_fields⟩
end
end Vw

namespace Vw
open PySem PySem.W PyProof.Rows L2
theorem all_mk {l : PySem.W.OpenLaw} {w : World} {K : PySem.W.Frag} {h : Heap} {mg : Str → Option Value} {fa : Addr} (X : K.In h) (G : h.Ns mainGlobals mg) (hfa : mg "law" = some (.ref fa)) (TBs : ∀ c P, PySem.W.tabIn K "law" = some (c, P) → PySem.W.CodeHd h c P ∧ h.get? P = some (PySem.W.tabObj #[]))
    {aVowError : Addr} (ac_VowError : PySem.W.nsIn K mainGlobals "VowError" = some (some (.ref aVowError)))
    {aInvalidLevels : Addr} (ac_InvalidLevels : PySem.W.nsIn K mainGlobals "InvalidLevels" = some (some (.ref aInvalidLevels)))
    {aInvalidRow : Addr} (ac_InvalidRow : PySem.W.nsIn K mainGlobals "InvalidRow" = some (some (.ref aInvalidRow)))
    {aMissing : Addr} (ac_Missing : PySem.W.nsIn K mainGlobals "Missing" = some (some (.ref aMissing)))
    {aNothingLeft : Addr} (ac_NothingLeft : PySem.W.nsIn K mainGlobals "NothingLeft" = some (some (.ref aNothingLeft)))
    (sb_VowError : PySem.W.subIn K (.ref aVowError) (.type "BaseException") = some true) (hd_VowError : PySem.W.hasDictIn K aVowError = true) (ty_VowError : PySem.W.typeIn K (.ref aVowError) = some (.type "type"))
    (sb_Missing : PySem.W.subIn K (.ref aMissing) (.type "BaseException") = some true) (hd_Missing : PySem.W.hasDictIn K aMissing = true) (ty_Missing : PySem.W.typeIn K (.ref aMissing) = some (.type "type"))
    (sb_NothingLeft : PySem.W.subIn K (.ref aNothingLeft) (.type "BaseException") = some true) (hd_NothingLeft : PySem.W.hasDictIn K aNothingLeft = true) (ty_NothingLeft : PySem.W.typeIn K (.ref aNothingLeft) = some (.type "type"))
    (sp1 : PySem.W.specialIn K (.builtin "object.__class__") "__get__" = some (some (.builtin "getset_descriptor.__get__"))) (tk1 : PySem.W.takesIn K (.builtin "object.__class__") = some true) (op1 : PySem.W.nsIn K cStatics "thirdparty.any" = some none) {fVI : Addr}
    {nm_InvalidLevels qn_InvalidLevels : Str} {ns_InvalidLevels : Addr} {bs_InvalidLevels : List Value} {sn_InvalidLevels : List Str} {su_InvalidLevels : List Value} {ab_InvalidLevels : Bool} {co_InvalidLevels : Option Bool} {di_InvalidLevels : Option Addr} {k0_InvalidLevels k1_InvalidLevels k3_InvalidLevels k5_InvalidLevels : Option Value} {tk_InvalidLevels : Tok}
    (xo_InvalidLevels : K.lookup aInvalidLevels = some (excClassObj nm_InvalidLevels qn_InvalidLevels aInvalidLevels ns_InvalidLevels bs_InvalidLevels [.ref aVowError, .type "ValueError", .type "Exception", .type "BaseException", .type "object"] true sn_InvalidLevels su_InvalidLevels ab_InvalidLevels co_InvalidLevels di_InvalidLevels k0_InvalidLevels k1_InvalidLevels (some (.str "InvalidLevels" tk_InvalidLevels)) k3_InvalidLevels k5_InvalidLevels "ValueError.__new__"))
    (sa_InvalidLevels : PySem.W.findIn K (.ref aInvalidLevels) "__setattr__" = some (some (.builtin "object.__setattr__"))) (eb_InvalidLevels : PySem.W.subIn K (.ref aInvalidLevels) (.type "BaseException") = some true) (tyc_InvalidLevels : PySem.W.typeIn K (.ref aInvalidLevels) = some (.type "type")) (kpc_InvalidLevels : PySem.W.keepIn K (.ref aInvalidLevels) = true)
    (ga_InvalidLevels : PySem.W.findIn K (.ref aInvalidLevels) "__getattribute__" = some (some (.builtin "BaseException.__getattribute__"))) (gg_InvalidLevels : PySem.W.findIn K (.ref aInvalidLevels) "__getattr__" = some none) (hdc_InvalidLevels : PySem.W.hasDictIn K aInvalidLevels = true) (cl_InvalidLevels : PySem.W.findIn K (.ref aInvalidLevels) "__class__" = some (some (.builtin "object.__class__"))) (mr_InvalidLevels : PySem.W.mroIn K aInvalidLevels (.type "object") = some true)
    (fc_InvalidLevels : PySem.W.findCls K (.ref aInvalidLevels) (.type "type") "__name__" = some (.get (.builtin "getset_descriptor.__get__") (.builtin "type.__name__") (.ref aInvalidLevels) (.type "type"))) (no_InvalidLevels : PySem.W.findIn K (.ref aInvalidLevels) "code" = some none) (ic_InvalidLevels : PySem.W.findIn K (.ref aInvalidLevels) "__init__" = some (some (.ref fVI)))
    (sv_InvalidLevels : PySem.W.subIn K (.ref aInvalidLevels) (.ref aVowError) = some true) (sm_InvalidLevels : PySem.W.subIn K (.ref aInvalidLevels) (.ref aMissing) = some false) (sn0_InvalidLevels : PySem.W.subIn K (.ref aInvalidLevels) (.ref aNothingLeft) = some false)
    {nm_InvalidRow qn_InvalidRow : Str} {ns_InvalidRow : Addr} {bs_InvalidRow : List Value} {sn_InvalidRow : List Str} {su_InvalidRow : List Value} {ab_InvalidRow : Bool} {co_InvalidRow : Option Bool} {di_InvalidRow : Option Addr} {k0_InvalidRow k1_InvalidRow k3_InvalidRow k5_InvalidRow : Option Value} {tk_InvalidRow : Tok}
    (xo_InvalidRow : K.lookup aInvalidRow = some (excClassObj nm_InvalidRow qn_InvalidRow aInvalidRow ns_InvalidRow bs_InvalidRow [.ref aVowError, .type "ValueError", .type "Exception", .type "BaseException", .type "object"] true sn_InvalidRow su_InvalidRow ab_InvalidRow co_InvalidRow di_InvalidRow k0_InvalidRow k1_InvalidRow (some (.str "InvalidRow" tk_InvalidRow)) k3_InvalidRow k5_InvalidRow "ValueError.__new__"))
    (sa_InvalidRow : PySem.W.findIn K (.ref aInvalidRow) "__setattr__" = some (some (.builtin "object.__setattr__"))) (eb_InvalidRow : PySem.W.subIn K (.ref aInvalidRow) (.type "BaseException") = some true) (tyc_InvalidRow : PySem.W.typeIn K (.ref aInvalidRow) = some (.type "type")) (kpc_InvalidRow : PySem.W.keepIn K (.ref aInvalidRow) = true)
    (ga_InvalidRow : PySem.W.findIn K (.ref aInvalidRow) "__getattribute__" = some (some (.builtin "BaseException.__getattribute__"))) (gg_InvalidRow : PySem.W.findIn K (.ref aInvalidRow) "__getattr__" = some none) (hdc_InvalidRow : PySem.W.hasDictIn K aInvalidRow = true) (cl_InvalidRow : PySem.W.findIn K (.ref aInvalidRow) "__class__" = some (some (.builtin "object.__class__"))) (mr_InvalidRow : PySem.W.mroIn K aInvalidRow (.type "object") = some true)
    (fc_InvalidRow : PySem.W.findCls K (.ref aInvalidRow) (.type "type") "__name__" = some (.get (.builtin "getset_descriptor.__get__") (.builtin "type.__name__") (.ref aInvalidRow) (.type "type"))) (no_InvalidRow : PySem.W.findIn K (.ref aInvalidRow) "code" = some none) (ic_InvalidRow : PySem.W.findIn K (.ref aInvalidRow) "__init__" = some (some (.ref fVI)))
    (sv_InvalidRow : PySem.W.subIn K (.ref aInvalidRow) (.ref aVowError) = some true) (sm_InvalidRow : PySem.W.subIn K (.ref aInvalidRow) (.ref aMissing) = some false) (sn0_InvalidRow : PySem.W.subIn K (.ref aInvalidRow) (.ref aNothingLeft) = some false)
    (ti1 : PySem.W.typeIn K (.ref fVI) = some (.type "function")) {od_VI an_VI : Option Addr} {sl_VI : Array (Option Value)} {oc_VI kV_VI dc_VI pm_VI cd_VI ct_VI : Value} (l_VI : K.lookup fVI = some ⟨oc_VI, od_VI, .func (PySem.W.fnOf "__init__" "VowError.__init__" (defArgs sVI) (defBody sVI) (defScope sVI) .none kV_VI dc_VI pm_VI an_VI cd_VI ct_VI), sl_VI⟩) (c_VI : PySem.W.codeIn K cd_VI "VowError.__init__" = true) (k_VI : PySem.W.keepIn K (.ref fVI) = true)
    {f_is_ordinal : Addr} {od_is_ordinal an_is_ordinal : Option Addr} {sl_is_ordinal : Array (Option Value)} {oc_is_ordinal kV_is_ordinal dc_is_ordinal pm_is_ordinal cd_is_ordinal ct_is_ordinal : Value}
    (a_is_ordinal : PySem.W.nsIn K mainGlobals "is_ordinal" = some (some (.ref f_is_ordinal))) (l_is_ordinal : K.lookup f_is_ordinal = some ⟨oc_is_ordinal, od_is_ordinal, .func (PySem.W.fnOf "is_ordinal" "is_ordinal" (defArgs sis_ordinal) (defBody sis_ordinal) (defScope sis_ordinal) .none kV_is_ordinal dc_is_ordinal pm_is_ordinal an_is_ordinal cd_is_ordinal ct_is_ordinal), sl_is_ordinal⟩) (c_is_ordinal : PySem.W.codeIn K cd_is_ordinal "is_ordinal" = true) (k_is_ordinal : PySem.W.keepIn K (.ref f_is_ordinal) = true)
    {f__is_term : Addr} {od__is_term an__is_term : Option Addr} {sl__is_term : Array (Option Value)} {oc__is_term kV__is_term dc__is_term pm__is_term cd__is_term ct__is_term : Value}
    (a__is_term : PySem.W.nsIn K mainGlobals "_is_term" = some (some (.ref f__is_term))) (l__is_term : K.lookup f__is_term = some ⟨oc__is_term, od__is_term, .func (PySem.W.fnOf "_is_term" "_is_term" (defArgs s_is_term) (defBody s_is_term) (defScope s_is_term) .none kV__is_term dc__is_term pm__is_term an__is_term cd__is_term ct__is_term), sl__is_term⟩) (c__is_term : PySem.W.codeIn K cd__is_term "_is_term" = true) (k__is_term : PySem.W.keepIn K (.ref f__is_term) = true)
    {f__is_count : Addr} {od__is_count an__is_count : Option Addr} {sl__is_count : Array (Option Value)} {oc__is_count kV__is_count dc__is_count pm__is_count cd__is_count ct__is_count : Value}
    (a__is_count : PySem.W.nsIn K mainGlobals "_is_count" = some (some (.ref f__is_count))) (l__is_count : K.lookup f__is_count = some ⟨oc__is_count, od__is_count, .func (PySem.W.fnOf "_is_count" "_is_count" (defArgs s_is_count) (defBody s_is_count) (defScope s_is_count) .none kV__is_count dc__is_count pm__is_count an__is_count cd__is_count ct__is_count), sl__is_count⟩) (c__is_count : PySem.W.codeIn K cd__is_count "_is_count" = true) (k__is_count : PySem.W.keepIn K (.ref f__is_count) = true)
    {f_end_of : Addr} {od_end_of an_end_of : Option Addr} {sl_end_of : Array (Option Value)} {oc_end_of kV_end_of dc_end_of pm_end_of cd_end_of ct_end_of : Value}
    (a_end_of : PySem.W.nsIn K mainGlobals "end_of" = some (some (.ref f_end_of))) (l_end_of : K.lookup f_end_of = some ⟨oc_end_of, od_end_of, .func (PySem.W.fnOf "end_of" "end_of" (defArgs send_of) (defBody send_of) (defScope send_of) .none kV_end_of dc_end_of pm_end_of an_end_of cd_end_of ct_end_of), sl_end_of⟩) (c_end_of : PySem.W.codeIn K cd_end_of "end_of" = true) (k_end_of : PySem.W.keepIn K (.ref f_end_of) = true)
    {f_check_levels : Addr} {od_check_levels an_check_levels : Option Addr} {sl_check_levels : Array (Option Value)} {oc_check_levels kV_check_levels dc_check_levels pm_check_levels cd_check_levels ct_check_levels : Value}
    (a_check_levels : PySem.W.nsIn K mainGlobals "check_levels" = some (some (.ref f_check_levels))) (l_check_levels : K.lookup f_check_levels = some ⟨oc_check_levels, od_check_levels, .func (PySem.W.fnOf "check_levels" "check_levels" (defArgs scheck_levels) (defBody scheck_levels) (defScope scheck_levels) .none kV_check_levels dc_check_levels pm_check_levels an_check_levels cd_check_levels ct_check_levels), sl_check_levels⟩) (c_check_levels : PySem.W.codeIn K cd_check_levels "check_levels" = true) (k_check_levels : PySem.W.keepIn K (.ref f_check_levels) = true)
    {f_is_row : Addr} {od_is_row an_is_row : Option Addr} {sl_is_row : Array (Option Value)} {oc_is_row kV_is_row dc_is_row pm_is_row cd_is_row ct_is_row : Value}
    (a_is_row : PySem.W.nsIn K mainGlobals "is_row" = some (some (.ref f_is_row))) (l_is_row : K.lookup f_is_row = some ⟨oc_is_row, od_is_row, .func (PySem.W.fnOf "is_row" "is_row" (defArgs sis_row) (defBody sis_row) (defScope sis_row) .none kV_is_row dc_is_row pm_is_row an_is_row cd_is_row ct_is_row), sl_is_row⟩) (c_is_row : PySem.W.codeIn K cd_is_row "is_row" = true) (k_is_row : PySem.W.keepIn K (.ref f_is_row) = true)
    {f_check_row : Addr} {od_check_row an_check_row : Option Addr} {sl_check_row : Array (Option Value)} {oc_check_row kV_check_row dc_check_row pm_check_row cd_check_row ct_check_row : Value}
    (a_check_row : PySem.W.nsIn K mainGlobals "check_row" = some (some (.ref f_check_row))) (l_check_row : K.lookup f_check_row = some ⟨oc_check_row, od_check_row, .func (PySem.W.fnOf "check_row" "check_row" (defArgs scheck_row) (defBody scheck_row) (defScope scheck_row) .none kV_check_row dc_check_row pm_check_row an_check_row cd_check_row ct_check_row), sl_check_row⟩) (c_check_row : PySem.W.codeIn K cd_check_row "check_row" = true) (k_check_row : PySem.W.keepIn K (.ref f_check_row) = true)
    {f_least_row : Addr} {od_least_row an_least_row : Option Addr} {sl_least_row : Array (Option Value)} {oc_least_row kV_least_row dc_least_row pm_least_row cd_least_row ct_least_row : Value}
    (a_least_row : PySem.W.nsIn K mainGlobals "least_row" = some (some (.ref f_least_row))) (l_least_row : K.lookup f_least_row = some ⟨oc_least_row, od_least_row, .func (PySem.W.fnOf "least_row" "least_row" (defArgs sleast_row) (defBody sleast_row) (defScope sleast_row) .none kV_least_row dc_least_row pm_least_row an_least_row cd_least_row ct_least_row), sl_least_row⟩) (c_least_row : PySem.W.codeIn K cd_least_row "least_row" = true) (k_least_row : PySem.W.keepIn K (.ref f_least_row) = true)
    {f__law_bag : Addr} {od__law_bag an__law_bag : Option Addr} {sl__law_bag : Array (Option Value)} {oc__law_bag kV__law_bag dc__law_bag pm__law_bag cd__law_bag ct__law_bag : Value}
    (a__law_bag : PySem.W.nsIn K mainGlobals "_law_bag" = some (some (.ref f__law_bag))) (l__law_bag : K.lookup f__law_bag = some ⟨oc__law_bag, od__law_bag, .func (PySem.W.fnOf "_law_bag" "_law_bag" (defArgs s_law_bag) (defBody s_law_bag) (defScope s_law_bag) .none kV__law_bag dc__law_bag pm__law_bag an__law_bag cd__law_bag ct__law_bag), sl__law_bag⟩) (c__law_bag : PySem.W.codeIn K cd__law_bag "_law_bag" = true) (k__law_bag : PySem.W.keepIn K (.ref f__law_bag) = true)
    {f__law_pull : Addr} {od__law_pull an__law_pull : Option Addr} {sl__law_pull : Array (Option Value)} {oc__law_pull kV__law_pull dc__law_pull pm__law_pull cd__law_pull ct__law_pull : Value}
    (a__law_pull : PySem.W.nsIn K mainGlobals "_law_pull" = some (some (.ref f__law_pull))) (l__law_pull : K.lookup f__law_pull = some ⟨oc__law_pull, od__law_pull, .func (PySem.W.fnOf "_law_pull" "_law_pull" (defArgs s_law_pull) (defBody s_law_pull) (defScope s_law_pull) .none kV__law_pull dc__law_pull pm__law_pull an__law_pull cd__law_pull ct__law_pull), sl__law_pull⟩) (c__law_pull : PySem.W.codeIn K cd__law_pull "_law_pull" = true) (k__law_pull : PySem.W.keepIn K (.ref f__law_pull) = true)
    {f__law_of : Addr} {od__law_of an__law_of : Option Addr} {sl__law_of : Array (Option Value)} {oc__law_of kV__law_of dc__law_of pm__law_of cd__law_of ct__law_of : Value}
    (a__law_of : PySem.W.nsIn K mainGlobals "_law_of" = some (some (.ref f__law_of))) (l__law_of : K.lookup f__law_of = some ⟨oc__law_of, od__law_of, .func (PySem.W.fnOf "_law_of" "_law_of" (defArgs s_law_of) (defBody s_law_of) (defScope s_law_of) .none kV__law_of dc__law_of pm__law_of an__law_of cd__law_of ct__law_of), sl__law_of⟩) (c__law_of : PySem.W.codeIn K cd__law_of "_law_of" = true) (k__law_of : PySem.W.keepIn K (.ref f__law_of) = true)
    {f__law_same : Addr} {od__law_same an__law_same : Option Addr} {sl__law_same : Array (Option Value)} {oc__law_same kV__law_same dc__law_same pm__law_same cd__law_same ct__law_same : Value}
    (a__law_same : PySem.W.nsIn K mainGlobals "_law_same" = some (some (.ref f__law_same))) (l__law_same : K.lookup f__law_same = some ⟨oc__law_same, od__law_same, .func (PySem.W.fnOf "_law_same" "_law_same" (defArgs s_law_same) (defBody s_law_same) (defScope s_law_same) .none kV__law_same dc__law_same pm__law_same an__law_same cd__law_same ct__law_same), sl__law_same⟩) (c__law_same : PySem.W.codeIn K cd__law_same "_law_same" = true) (k__law_same : PySem.W.keepIn K (.ref f__law_same) = true)
    {f__law_fields : Addr} {od__law_fields an__law_fields : Option Addr} {sl__law_fields : Array (Option Value)} {oc__law_fields kV__law_fields dc__law_fields pm__law_fields cd__law_fields ct__law_fields : Value}
    (a__law_fields : PySem.W.nsIn K mainGlobals "_law_fields" = some (some (.ref f__law_fields))) (l__law_fields : K.lookup f__law_fields = some ⟨oc__law_fields, od__law_fields, .func (PySem.W.fnOf "_law_fields" "_law_fields" (defArgs s_law_fields) (defBody s_law_fields) (defScope s_law_fields) .none kV__law_fields dc__law_fields pm__law_fields an__law_fields cd__law_fields ct__law_fields), sl__law_fields⟩) (c__law_fields : PySem.W.codeIn K cd__law_fields "_law_fields" = true) (k__law_fields : PySem.W.keepIn K (.ref f__law_fields) = true)
    {f__law_told : Addr} {od__law_told an__law_told : Option Addr} {sl__law_told : Array (Option Value)} {oc__law_told kV__law_told dc__law_told pm__law_told cd__law_told ct__law_told : Value}
    (a__law_told : PySem.W.nsIn K mainGlobals "_law_told" = some (some (.ref f__law_told))) (l__law_told : K.lookup f__law_told = some ⟨oc__law_told, od__law_told, .func (PySem.W.fnOf "_law_told" "_law_told" (defArgs s_law_told) (defBody s_law_told) (defScope s_law_told) .none kV__law_told dc__law_told pm__law_told an__law_told cd__law_told ct__law_told), sl__law_told⟩) (c__law_told : PySem.W.codeIn K cd__law_told "_law_told" = true) (k__law_told : PySem.W.keepIn K (.ref f__law_told) = true)
    {f__law_num : Addr} {od__law_num an__law_num : Option Addr} {sl__law_num : Array (Option Value)} {oc__law_num kV__law_num dc__law_num pm__law_num cd__law_num ct__law_num : Value}
    (a__law_num : PySem.W.nsIn K mainGlobals "_law_num" = some (some (.ref f__law_num))) (l__law_num : K.lookup f__law_num = some ⟨oc__law_num, od__law_num, .func (PySem.W.fnOf "_law_num" "_law_num" (defArgs s_law_num) (defBody s_law_num) (defScope s_law_num) .none kV__law_num dc__law_num pm__law_num an__law_num cd__law_num ct__law_num), sl__law_num⟩) (c__law_num : PySem.W.codeIn K cd__law_num "_law_num" = true) (k__law_num : PySem.W.keepIn K (.ref f__law_num) = true)
    {f__law_ordinal : Addr} {od__law_ordinal an__law_ordinal : Option Addr} {sl__law_ordinal : Array (Option Value)} {oc__law_ordinal kV__law_ordinal dc__law_ordinal pm__law_ordinal cd__law_ordinal ct__law_ordinal : Value}
    (a__law_ordinal : PySem.W.nsIn K mainGlobals "_law_ordinal" = some (some (.ref f__law_ordinal))) (l__law_ordinal : K.lookup f__law_ordinal = some ⟨oc__law_ordinal, od__law_ordinal, .func (PySem.W.fnOf "_law_ordinal" "_law_ordinal" (defArgs s_law_ordinal) (defBody s_law_ordinal) (defScope s_law_ordinal) .none kV__law_ordinal dc__law_ordinal pm__law_ordinal an__law_ordinal cd__law_ordinal ct__law_ordinal), sl__law_ordinal⟩) (c__law_ordinal : PySem.W.codeIn K cd__law_ordinal "_law_ordinal" = true) (k__law_ordinal : PySem.W.keepIn K (.ref f__law_ordinal) = true)
    {f__law_end : Addr} {od__law_end an__law_end : Option Addr} {sl__law_end : Array (Option Value)} {oc__law_end kV__law_end dc__law_end pm__law_end cd__law_end ct__law_end : Value}
    (a__law_end : PySem.W.nsIn K mainGlobals "_law_end" = some (some (.ref f__law_end))) (l__law_end : K.lookup f__law_end = some ⟨oc__law_end, od__law_end, .func (PySem.W.fnOf "_law_end" "_law_end" (defArgs s_law_end) (defBody s_law_end) (defScope s_law_end) .none kV__law_end dc__law_end pm__law_end an__law_end cd__law_end ct__law_end), sl__law_end⟩) (c__law_end : PySem.W.codeIn K cd__law_end "_law_end" = true) (k__law_end : PySem.W.keepIn K (.ref f__law_end) = true)
    {f__law_sum : Addr} {od__law_sum an__law_sum : Option Addr} {sl__law_sum : Array (Option Value)} {oc__law_sum kV__law_sum dc__law_sum pm__law_sum cd__law_sum ct__law_sum : Value}
    (a__law_sum : PySem.W.nsIn K mainGlobals "_law_sum" = some (some (.ref f__law_sum))) (l__law_sum : K.lookup f__law_sum = some ⟨oc__law_sum, od__law_sum, .func (PySem.W.fnOf "_law_sum" "_law_sum" (defArgs s_law_sum) (defBody s_law_sum) (defScope s_law_sum) .none kV__law_sum dc__law_sum pm__law_sum an__law_sum cd__law_sum ct__law_sum), sl__law_sum⟩) (c__law_sum : PySem.W.codeIn K cd__law_sum "_law_sum" = true) (k__law_sum : PySem.W.keepIn K (.ref f__law_sum) = true)
    {f__law_next : Addr} {od__law_next an__law_next : Option Addr} {sl__law_next : Array (Option Value)} {oc__law_next kV__law_next dc__law_next pm__law_next cd__law_next ct__law_next : Value}
    (a__law_next : PySem.W.nsIn K mainGlobals "_law_next" = some (some (.ref f__law_next))) (l__law_next : K.lookup f__law_next = some ⟨oc__law_next, od__law_next, .func (PySem.W.fnOf "_law_next" "_law_next" (defArgs s_law_next) (defBody s_law_next) (defScope s_law_next) .none kV__law_next dc__law_next pm__law_next an__law_next cd__law_next ct__law_next), sl__law_next⟩) (c__law_next : PySem.W.codeIn K cd__law_next "_law_next" = true) (k__law_next : PySem.W.keepIn K (.ref f__law_next) = true)
    {f__law_raise : Addr} {od__law_raise an__law_raise : Option Addr} {sl__law_raise : Array (Option Value)} {oc__law_raise kV__law_raise dc__law_raise pm__law_raise cd__law_raise ct__law_raise : Value}
    (a__law_raise : PySem.W.nsIn K mainGlobals "_law_raise" = some (some (.ref f__law_raise))) (l__law_raise : K.lookup f__law_raise = some ⟨oc__law_raise, od__law_raise, .func (PySem.W.fnOf "_law_raise" "_law_raise" (defArgs s_law_raise) (defBody s_law_raise) (defScope s_law_raise) .none kV__law_raise dc__law_raise pm__law_raise an__law_raise cd__law_raise ct__law_raise), sl__law_raise⟩) (c__law_raise : PySem.W.codeIn K cd__law_raise "_law_raise" = true) (k__law_raise : PySem.W.keepIn K (.ref f__law_raise) = true)
    {f__law_row : Addr} {od__law_row an__law_row : Option Addr} {sl__law_row : Array (Option Value)} {oc__law_row kV__law_row dc__law_row pm__law_row cd__law_row ct__law_row : Value}
    (a__law_row : PySem.W.nsIn K mainGlobals "_law_row" = some (some (.ref f__law_row))) (l__law_row : K.lookup f__law_row = some ⟨oc__law_row, od__law_row, .func (PySem.W.fnOf "_law_row" "_law_row" (defArgs s_law_row) (defBody s_law_row) (defScope s_law_row) .none kV__law_row dc__law_row pm__law_row an__law_row cd__law_row ct__law_row), sl__law_row⟩) (c__law_row : PySem.W.codeIn K cd__law_row "_law_row" = true) (k__law_row : PySem.W.keepIn K (.ref f__law_row) = true)
    {f__law_bent_ordinal : Addr} {od__law_bent_ordinal an__law_bent_ordinal : Option Addr} {sl__law_bent_ordinal : Array (Option Value)} {oc__law_bent_ordinal kV__law_bent_ordinal dc__law_bent_ordinal pm__law_bent_ordinal cd__law_bent_ordinal ct__law_bent_ordinal : Value}
    (a__law_bent_ordinal : PySem.W.nsIn K mainGlobals "_law_bent_ordinal" = some (some (.ref f__law_bent_ordinal))) (l__law_bent_ordinal : K.lookup f__law_bent_ordinal = some ⟨oc__law_bent_ordinal, od__law_bent_ordinal, .func (PySem.W.fnOf "_law_bent_ordinal" "_law_bent_ordinal" (defArgs s_law_bent_ordinal) (defBody s_law_bent_ordinal) (defScope s_law_bent_ordinal) .none kV__law_bent_ordinal dc__law_bent_ordinal pm__law_bent_ordinal an__law_bent_ordinal cd__law_bent_ordinal ct__law_bent_ordinal), sl__law_bent_ordinal⟩) (c__law_bent_ordinal : PySem.W.codeIn K cd__law_bent_ordinal "_law_bent_ordinal" = true) (k__law_bent_ordinal : PySem.W.keepIn K (.ref f__law_bent_ordinal) = true)
    {f__law_is_ordinal : Addr} {od__law_is_ordinal an__law_is_ordinal : Option Addr} {sl__law_is_ordinal : Array (Option Value)} {oc__law_is_ordinal kV__law_is_ordinal dc__law_is_ordinal pm__law_is_ordinal cd__law_is_ordinal ct__law_is_ordinal : Value}
    (a__law_is_ordinal : PySem.W.nsIn K mainGlobals "_law_is_ordinal" = some (some (.ref f__law_is_ordinal))) (l__law_is_ordinal : K.lookup f__law_is_ordinal = some ⟨oc__law_is_ordinal, od__law_is_ordinal, .func (PySem.W.fnOf "_law_is_ordinal" "_law_is_ordinal" (defArgs s_law_is_ordinal) (defBody s_law_is_ordinal) (defScope s_law_is_ordinal) .none kV__law_is_ordinal dc__law_is_ordinal pm__law_is_ordinal an__law_is_ordinal cd__law_is_ordinal ct__law_is_ordinal), sl__law_is_ordinal⟩) (c__law_is_ordinal : PySem.W.codeIn K cd__law_is_ordinal "_law_is_ordinal" = true) (k__law_is_ordinal : PySem.W.keepIn K (.ref f__law_is_ordinal) = true)
    {f__law_is_row : Addr} {od__law_is_row an__law_is_row : Option Addr} {sl__law_is_row : Array (Option Value)} {oc__law_is_row kV__law_is_row dc__law_is_row pm__law_is_row cd__law_is_row ct__law_is_row : Value}
    (a__law_is_row : PySem.W.nsIn K mainGlobals "_law_is_row" = some (some (.ref f__law_is_row))) (l__law_is_row : K.lookup f__law_is_row = some ⟨oc__law_is_row, od__law_is_row, .func (PySem.W.fnOf "_law_is_row" "_law_is_row" (defArgs s_law_is_row) (defBody s_law_is_row) (defScope s_law_is_row) .none kV__law_is_row dc__law_is_row pm__law_is_row an__law_is_row cd__law_is_row ct__law_is_row), sl__law_is_row⟩) (c__law_is_row : PySem.W.codeIn K cd__law_is_row "_law_is_row" = true) (k__law_is_row : PySem.W.keepIn K (.ref f__law_is_row) = true)
    {f_law : Addr} {od_law an_law : Option Addr} {sl_law : Array (Option Value)} {oc_law kV_law dc_law pm_law ct_law occ_law : Value} {cl_law Pl_law : Addr} {odc_law : Option Addr} {slc_law : Array (Option Value)} {vs_law : Array Value}
    (a_law : PySem.W.nsIn K mainGlobals "law" = some (some (.ref f_law))) (l_law : K.lookup f_law = some ⟨oc_law, od_law, .func (PySem.W.fnOf "law" "law" (defArgs slaw) (defBody slaw) (defScope slaw) .none kV_law dc_law pm_law an_law (.ref cl_law) ct_law), sl_law⟩) (c_law : PySem.W.codeIn K (.ref cl_law) "law" = true) (k_law : PySem.W.keepIn K (.ref f_law) = true)
    (lc_law : K.lookup cl_law = some ⟨occ_law, odc_law, .fields vs_law, slc_law⟩) (hp_law : vs_law[11]? = some (.ref Pl_law)) (np_law : K.lookup Pl_law = none)
    (z_len : PySem.W.nsIn K mainGlobals "len" = some none)
    (z_range : PySem.W.nsIn K mainGlobals "range" = some none)
    (z_enumerate : PySem.W.nsIn K mainGlobals "enumerate" = some none)
    (z_isinstance : PySem.W.nsIn K mainGlobals "isinstance" = some none)
    (z_int : PySem.W.nsIn K mainGlobals "int" = some none)
    (z_list : PySem.W.nsIn K mainGlobals "list" = some none)
    (z_tuple : PySem.W.nsIn K mainGlobals "tuple" = some none)
    (z_str : PySem.W.nsIn K mainGlobals "str" = some none)
    (z_bool : PySem.W.nsIn K mainGlobals "bool" = some none)
    (z_all : PySem.W.nsIn K mainGlobals "all" = some none)
    (z_sorted : PySem.W.nsIn K mainGlobals "sorted" = some none)
    (z_max : PySem.W.nsIn K mainGlobals "max" = some none)
    (z_ValueError : PySem.W.nsIn K mainGlobals "ValueError" = some none)
    (z_LookupError : PySem.W.nsIn K mainGlobals "LookupError" = some none)
    (z_IndexError : PySem.W.nsIn K mainGlobals "IndexError" = some none)
    {aZERO : Addr} (ac_ZERO : PySem.W.nsIn K mainGlobals "ZERO" = some (some (.ref aZERO)))
    {oz1 : Option Addr} {nz1 : Nat} {sz1 : Array (Option Value)} (lz1 : K.lookup aZERO = some ⟨.type "tuple", oz1, .seq #[] nz1, sz1⟩)
    {tkMAX_LEVELS : Tok} (ac_MAX_LEVELS : PySem.W.nsIn K mainGlobals "MAX_LEVELS" = some (some (.int 3 tkMAX_LEVELS))) :
    LamX.LawAtS l w K CX0 126 63 "_law_script" mg fa h := by
  have e := hfa.symm.trans (PySem.W.mg_of X G a_law)
  cases e
  have F_VI := fun_mk (st := sVI) l_VI c_VI k_VI
  have b_VI := F_VI.binds (ps := ["self"]) fun _ _ _ _ _ _ us hl => match us, hl with | [_], _ => rfl
  have rz_InvalidLevels : RzC K aInvalidLevels fVI "InvalidLevels" := ⟨⟨⟨_, _, _, _, _, _, _, _, _, _, _, _, _, _, _, xo_InvalidLevels, rfl⟩, sa_InvalidLevels, eb_InvalidLevels, tyc_InvalidLevels, kpc_InvalidLevels⟩, ⟨ga_InvalidLevels, gg_InvalidLevels, eb_InvalidLevels, hdc_InvalidLevels, cl_InvalidLevels, sp1, tk1, mr_InvalidLevels⟩, ⟨⟨_, _, xo_InvalidLevels, rfl, rfl⟩, op1, fc_InvalidLevels⟩, ⟨ga_InvalidLevels, gg_InvalidLevels, eb_InvalidLevels, hdc_InvalidLevels⟩, no_InvalidLevels, ic_InvalidLevels, ti1⟩
  have ex_InvalidLevels := exm3 sb_VowError hd_VowError ty_VowError sb_Missing hd_Missing ty_Missing sb_NothingLeft hd_NothingLeft ty_NothingLeft sv_InvalidLevels sm_InvalidLevels sn0_InvalidLevels
  have rz_InvalidRow : RzC K aInvalidRow fVI "InvalidRow" := ⟨⟨⟨_, _, _, _, _, _, _, _, _, _, _, _, _, _, _, xo_InvalidRow, rfl⟩, sa_InvalidRow, eb_InvalidRow, tyc_InvalidRow, kpc_InvalidRow⟩, ⟨ga_InvalidRow, gg_InvalidRow, eb_InvalidRow, hdc_InvalidRow, cl_InvalidRow, sp1, tk1, mr_InvalidRow⟩, ⟨⟨_, _, xo_InvalidRow, rfl, rfl⟩, op1, fc_InvalidRow⟩, ⟨ga_InvalidRow, gg_InvalidRow, eb_InvalidRow, hdc_InvalidRow⟩, no_InvalidRow, ic_InvalidRow, ti1⟩
  have ex_InvalidRow := exm3 sb_VowError hd_VowError ty_VowError sb_Missing hd_Missing ty_Missing sb_NothingLeft hd_NothingLeft ty_NothingLeft sv_InvalidRow sm_InvalidRow sn0_InvalidRow
  have F_is_ordinal := fun_mk (st := sis_ordinal) l_is_ordinal c_is_ordinal k_is_ordinal
  have b_is_ordinal := F_is_ordinal.binds (ps := ["value"]) fun _ _ _ _ _ _ us hl => match us, hl with | [_], _ => rfl
  have m_is_ordinal := PySem.W.mg_of X G a_is_ordinal
  have F__is_term := fun_mk (st := s_is_term) l__is_term c__is_term k__is_term
  have b__is_term := F__is_term.binds (ps := ["value"]) fun _ _ _ _ _ _ us hl => match us, hl with | [_], _ => rfl
  have m__is_term := PySem.W.mg_of X G a__is_term
  have F__is_count := fun_mk (st := s_is_count) l__is_count c__is_count k__is_count
  have b__is_count := F__is_count.binds (ps := ["value"]) fun _ _ _ _ _ _ us hl => match us, hl with | [_], _ => rfl
  have m__is_count := PySem.W.mg_of X G a__is_count
  have F_end_of := fun_mk (st := send_of) l_end_of c_end_of k_end_of
  have b_end_of := F_end_of.binds (ps := ["ordinal"]) fun _ _ _ _ _ _ us hl => match us, hl with | [_], _ => rfl
  have m_end_of := PySem.W.mg_of X G a_end_of
  have F_check_levels := fun_mk (st := scheck_levels) l_check_levels c_check_levels k_check_levels
  have b_check_levels := F_check_levels.binds (ps := ["levels"]) fun _ _ _ _ _ _ us hl => match us, hl with | [_], _ => rfl
  have m_check_levels := PySem.W.mg_of X G a_check_levels
  have F_is_row := fun_mk (st := sis_row) l_is_row c_is_row k_is_row
  have b_is_row := F_is_row.binds (ps := ["levels", "value"]) fun _ _ _ _ _ _ us hl => match us, hl with | [_, _], _ => rfl
  have m_is_row := PySem.W.mg_of X G a_is_row
  have F_check_row := fun_mk (st := scheck_row) l_check_row c_check_row k_check_row
  have b_check_row := F_check_row.binds (ps := ["levels", "value"]) fun _ _ _ _ _ _ us hl => match us, hl with | [_, _], _ => rfl
  have m_check_row := PySem.W.mg_of X G a_check_row
  have F_least_row := fun_mk (st := sleast_row) l_least_row c_least_row k_least_row
  have b_least_row := F_least_row.binds (ps := ["levels"]) fun _ _ _ _ _ _ us hl => match us, hl with | [_], _ => rfl
  have m_least_row := PySem.W.mg_of X G a_least_row
  have F__law_bag := fun_mk (st := s_law_bag) l__law_bag c__law_bag k__law_bag
  have b__law_bag := F__law_bag.binds (ps := ["_law_script"]) fun _ _ _ _ _ _ us hl => match us, hl with | [_], _ => rfl
  have m__law_bag := PySem.W.mg_of X G a__law_bag
  have F__law_pull := fun_mk (st := s_law_pull) l__law_pull c__law_pull k__law_pull
  have b__law_pull := F__law_pull.binds (ps := ["_law_bag_here", "_law_sides"]) fun _ _ _ _ _ _ us hl => match us, hl with | [_, _], _ => rfl
  have m__law_pull := PySem.W.mg_of X G a__law_pull
  have F__law_of := fun_mk (st := s_law_of) l__law_of c__law_of k__law_of
  have b__law_of := F__law_of.binds (ps := ["_law_bag_here", "_law_some"]) fun _ _ _ _ _ _ us hl => match us, hl with | [_, _], _ => rfl
  have m__law_of := PySem.W.mg_of X G a__law_of
  have F__law_same := fun_mk (st := s_law_same) l__law_same c__law_same k__law_same
  have b__law_same := F__law_same.binds (ps := ["_law_found", "_law_due"]) fun _ _ _ _ _ _ us hl => match us, hl with | [_, _], _ => rfl
  have m__law_same := PySem.W.mg_of X G a__law_same
  have F__law_fields := fun_mk (st := s_law_fields) l__law_fields c__law_fields k__law_fields
  have b__law_fields := F__law_fields.binds (ps := ["_law_e"]) fun _ _ _ _ _ _ us hl => match us, hl with | [_], _ => rfl
  have m__law_fields := PySem.W.mg_of X G a__law_fields
  have F__law_told := fun_mk (st := s_law_told) l__law_told c__law_told k__law_told
  have b__law_told := F__law_told.binds (ps := ["_law_ask_z"]) fun _ _ _ _ _ _ us hl => match us, hl with | [_], _ => rfl
  have m__law_told := PySem.W.mg_of X G a__law_told
  have F__law_num := fun_mk (st := s_law_num) l__law_num c__law_num k__law_num
  have b__law_num := F__law_num.binds (ps := ["_law_many_z"]) fun _ _ _ _ _ _ us hl => match us, hl with | [_], _ => rfl
  have m__law_num := PySem.W.mg_of X G a__law_num
  have F__law_ordinal := fun_mk (st := s_law_ordinal) l__law_ordinal c__law_ordinal k__law_ordinal
  have b__law_ordinal := F__law_ordinal.binds (ps := ["_law_bag_here", "_law_deep"]) fun _ _ _ _ _ _ us hl => match us, hl with | [_, _], _ => rfl
  have m__law_ordinal := PySem.W.mg_of X G a__law_ordinal
  have F__law_end := fun_mk (st := s_law_end) l__law_end c__law_end k__law_end
  have b__law_end := F__law_end.binds (ps := ["_law_here"]) fun _ _ _ _ _ _ us hl => match us, hl with | [_], _ => rfl
  have m__law_end := PySem.W.mg_of X G a__law_end
  have F__law_sum := fun_mk (st := s_law_sum) l__law_sum c__law_sum k__law_sum
  have b__law_sum := F__law_sum.binds (ps := ["_law_here", "_law_there"]) fun _ _ _ _ _ _ us hl => match us, hl with | [_, _], _ => rfl
  have m__law_sum := PySem.W.mg_of X G a__law_sum
  have F__law_next := fun_mk (st := s_law_next) l__law_next c__law_next k__law_next
  have b__law_next := F__law_next.binds (ps := ["_law_here"]) fun _ _ _ _ _ _ us hl => match us, hl with | [_], _ => rfl
  have m__law_next := PySem.W.mg_of X G a__law_next
  have F__law_raise := fun_mk (st := s_law_raise) l__law_raise c__law_raise k__law_raise
  have b__law_raise := F__law_raise.binds (ps := ["_law_here", "_law_last"]) fun _ _ _ _ _ _ us hl => match us, hl with | [_, _], _ => rfl
  have m__law_raise := PySem.W.mg_of X G a__law_raise
  have F__law_row := fun_mk (st := s_law_row) l__law_row c__law_row k__law_row
  have b__law_row := F__law_row.binds (ps := ["_law_bag_here", "_law_many_z"]) fun _ _ _ _ _ _ us hl => match us, hl with | [_, _], _ => rfl
  have m__law_row := PySem.W.mg_of X G a__law_row
  have F__law_bent_ordinal := fun_mk (st := s_law_bent_ordinal) l__law_bent_ordinal c__law_bent_ordinal k__law_bent_ordinal
  have b__law_bent_ordinal := F__law_bent_ordinal.binds (ps := ["_law_bag_here", "_law_here"]) fun _ _ _ _ _ _ us hl => match us, hl with | [_, _], _ => rfl
  have m__law_bent_ordinal := PySem.W.mg_of X G a__law_bent_ordinal
  have F__law_is_ordinal := fun_mk (st := s_law_is_ordinal) l__law_is_ordinal c__law_is_ordinal k__law_is_ordinal
  have b__law_is_ordinal := F__law_is_ordinal.binds (ps := ["_law_thing"]) fun _ _ _ _ _ _ us hl => match us, hl with | [_], _ => rfl
  have m__law_is_ordinal := PySem.W.mg_of X G a__law_is_ordinal
  have F__law_is_row := fun_mk (st := s_law_is_row) l__law_is_row c__law_is_row k__law_is_row
  have b__law_is_row := F__law_is_row.binds (ps := ["_law_many_z", "_law_thing"]) fun _ _ _ _ _ _ us hl => match us, hl with | [_, _], _ => rfl
  have m__law_is_row := PySem.W.mg_of X G a__law_is_row
  have F_law := fun_mk (st := slaw) l_law c_law k_law
  have b_law := F_law.binds (ps := ["_law_script"]) fun _ _ _ _ _ _ us hl => match us, hl with | [_], _ => rfl
  have m_law := PySem.W.mg_of X G a_law
  have y_len := PySem.W.mg_none_of X G z_len
  have y_range := PySem.W.mg_none_of X G z_range
  have y_enumerate := PySem.W.mg_none_of X G z_enumerate
  have y_isinstance := PySem.W.mg_none_of X G z_isinstance
  have y_int := PySem.W.mg_none_of X G z_int
  have y_list := PySem.W.mg_none_of X G z_list
  have y_tuple := PySem.W.mg_none_of X G z_tuple
  have y_str := PySem.W.mg_none_of X G z_str
  have y_bool := PySem.W.mg_none_of X G z_bool
  have y_all := PySem.W.mg_none_of X G z_all
  have y_sorted := PySem.W.mg_none_of X G z_sorted
  have y_max := PySem.W.mg_none_of X G z_max
  have y_ValueError := PySem.W.mg_none_of X G z_ValueError
  have y_LookupError := PySem.W.mg_none_of X G z_LookupError
  have y_IndexError := PySem.W.mg_none_of X G z_IndexError
  have T : Txt K mg aZERO aVowError aInvalidLevels aInvalidRow aMissing aNothingLeft fVI := ⟨PySem.W.mg_of X G ac_VowError, PySem.W.mg_of X G ac_InvalidLevels, PySem.W.mg_of X G ac_InvalidRow, PySem.W.mg_of X G ac_Missing, PySem.W.mg_of X G ac_NothingLeft, rz_InvalidLevels, ex_InvalidLevels, rz_InvalidRow, ex_InvalidRow, y_len, y_range, y_enumerate, y_isinstance, y_int, y_list, y_tuple, y_str, y_bool, y_all, y_sorted, y_max, y_ValueError, y_LookupError, y_IndexError, PySem.W.mg_of X G ac_ZERO, ⟨_, _, _, lz1, rfl, rfl, by decide, .nil⟩, ⟨_, PySem.W.mg_of X G ac_MAX_LEVELS⟩⟩
  obtain ⟨hC, hP⟩ := TBs cl_law Pl_law (tab_mk a_law l_law lc_law hp_law)
  refine ⟨PySem.W.fnOf "law" "law" (defArgs slaw) (defBody slaw) (defScope slaw) .none kV_law dc_law pm_law an_law (.ref cl_law) ct_law, [(cl_law, Pl_law)], spLawT K Pl_law, fun p hp => ?_, fun p hp => ?_, fun p hp => ?_, fun s v => .of_eq rfl, fun H a ns hl _ hT hS => ⟨a, ns, rfl, hS, hl, fun p hp => ?_, fun _ => rfl⟩, fun base _ _ hTB => main T (hTB _ List.mem_cons_self) F_VI b_VI F_is_ordinal b_is_ordinal m_is_ordinal F__is_term b__is_term m__is_term F__is_count b__is_count m__is_count F_end_of b_end_of m_end_of F_check_levels b_check_levels m_check_levels F_is_row b_is_row m_is_row F_check_row b_check_row m_check_row F_least_row b_least_row m_least_row F__law_bag b__law_bag m__law_bag F__law_pull b__law_pull m__law_pull F__law_of b__law_of m__law_of F__law_same b__law_same m__law_same F__law_fields b__law_fields m__law_fields F__law_told b__law_told m__law_told F__law_num b__law_num m__law_num F__law_ordinal b__law_ordinal m__law_ordinal F__law_end b__law_end m__law_end F__law_sum b__law_sum m__law_sum F__law_next b__law_next m__law_next F__law_raise b__law_raise m__law_raise F__law_row b__law_row m__law_row F__law_bent_ordinal b__law_bent_ordinal m__law_bent_ordinal F__law_is_ordinal b__law_is_ordinal m__law_is_ordinal F__law_is_row b__law_is_row m__law_is_row F_law b_law m_law rfl⟩
  · rw [List.mem_singleton.mp hp]; exact hP
  · rw [List.mem_singleton.mp hp]; exact np_law
  · rw [List.mem_singleton.mp hp]; exact hC
  · rw [List.mem_singleton.mp hp]; exact LamX.TabS.nil (hT _ List.mem_cons_self)
end Vw
open PySem PySem.W PyProof.Rows
set_option maxRecDepth 100000 in
set_option maxHeartbeats 0 in
theorem PySem.Challenge.cw_vowstair_k07_rows_recognized_holds : PySem.Challenge.rw_vowstair_k07_rows_recognized.Holds := by
  w_on; o_law; k_head; (case hw => w_witness2)
  k_fill
  refine Vw.walk_ofT3 (l := PySem.Challenge.rw_vowstair_k07_rows_recognized) (n := 63) (k := 126) (x := "_law_script") (y := "law") (CX := fun _ => L2.CX0) rfl (by decide) rfl ⟨rfl, by decide, by decide⟩ (fun w h Y => PySem.W.km_in_of Y) (by first | rfl | decide +kernel) ?F (fun _ _ _ _ _ h => h)
  case F =>
    intro w mg fa h KX G hmg TBs
    refine' Vw.all_mk KX G hmg TBs ?ac_VowError ?ac_InvalidLevels ?ac_InvalidRow ?ac_Missing ?ac_NothingLeft ?sb_VowError ?hd_VowError ?ty_VowError ?sb_Missing ?hd_Missing ?ty_Missing ?sb_NothingLeft ?hd_NothingLeft ?ty_NothingLeft ?sp1 ?tk1 ?op1 ?xo_InvalidLevels ?sa_InvalidLevels ?eb_InvalidLevels ?tyc_InvalidLevels ?kpc_InvalidLevels ?ga_InvalidLevels ?gg_InvalidLevels ?hdc_InvalidLevels ?cl_InvalidLevels ?mr_InvalidLevels ?fc_InvalidLevels ?no_InvalidLevels ?ic_InvalidLevels ?sv_InvalidLevels ?sm_InvalidLevels ?sn0_InvalidLevels ?xo_InvalidRow ?sa_InvalidRow ?eb_InvalidRow ?tyc_InvalidRow ?kpc_InvalidRow ?ga_InvalidRow ?gg_InvalidRow ?hdc_InvalidRow ?cl_InvalidRow ?mr_InvalidRow ?fc_InvalidRow ?no_InvalidRow ?ic_InvalidRow ?sv_InvalidRow ?sm_InvalidRow ?sn0_InvalidRow ?ti1 ?l_VI ?c_VI ?k_VI ?a_is_ordinal ?l_is_ordinal ?c_is_ordinal ?k_is_ordinal ?a__is_term ?l__is_term ?c__is_term ?k__is_term ?a__is_count ?l__is_count ?c__is_count ?k__is_count ?a_end_of ?l_end_of ?c_end_of ?k_end_of ?a_check_levels ?l_check_levels ?c_check_levels ?k_check_levels ?a_is_row ?l_is_row ?c_is_row ?k_is_row ?a_check_row ?l_check_row ?c_check_row ?k_check_row ?a_least_row ?l_least_row ?c_least_row ?k_least_row ?a__law_bag ?l__law_bag ?c__law_bag ?k__law_bag ?a__law_pull ?l__law_pull ?c__law_pull ?k__law_pull ?a__law_of ?l__law_of ?c__law_of ?k__law_of ?a__law_same ?l__law_same ?c__law_same ?k__law_same ?a__law_fields ?l__law_fields ?c__law_fields ?k__law_fields ?a__law_told ?l__law_told ?c__law_told ?k__law_told ?a__law_num ?l__law_num ?c__law_num ?k__law_num ?a__law_ordinal ?l__law_ordinal ?c__law_ordinal ?k__law_ordinal ?a__law_end ?l__law_end ?c__law_end ?k__law_end ?a__law_sum ?l__law_sum ?c__law_sum ?k__law_sum ?a__law_next ?l__law_next ?c__law_next ?k__law_next ?a__law_raise ?l__law_raise ?c__law_raise ?k__law_raise ?a__law_row ?l__law_row ?c__law_row ?k__law_row ?a__law_bent_ordinal ?l__law_bent_ordinal ?c__law_bent_ordinal ?k__law_bent_ordinal ?a__law_is_ordinal ?l__law_is_ordinal ?c__law_is_ordinal ?k__law_is_ordinal ?a__law_is_row ?l__law_is_row ?c__law_is_row ?k__law_is_row ?a_law ?l_law ?c_law ?k_law ?lc_law ?hp_law ?np_law ?z_len ?z_range ?z_enumerate ?z_isinstance ?z_int ?z_list ?z_tuple ?z_str ?z_bool ?z_all ?z_sorted ?z_max ?z_ValueError ?z_LookupError ?z_IndexError ?ac_ZERO ?lz1 ?ac_MAX_LEVELS
    (case ac_VowError => k_is)
    (case ac_InvalidLevels => k_is)
    (case ac_InvalidRow => k_is)
    (case ac_Missing => k_is)
    (case ac_NothingLeft => k_is)
    (case sb_VowError => k_is)
    (case hd_VowError => k_is)
    (case ty_VowError => k_is)
    (case sb_Missing => k_is)
    (case hd_Missing => k_is)
    (case ty_Missing => k_is)
    (case sb_NothingLeft => k_is)
    (case hd_NothingLeft => k_is)
    (case ty_NothingLeft => k_is)
    (case sp1 => k_is)
    (case tk1 => k_is)
    (case op1 => k_is)
    (case xo_InvalidLevels => k_is)
    (case sa_InvalidLevels => k_is)
    (case eb_InvalidLevels => k_is)
    (case tyc_InvalidLevels => k_is)
    (case kpc_InvalidLevels => k_is)
    (case ga_InvalidLevels => k_is)
    (case gg_InvalidLevels => k_is)
    (case hdc_InvalidLevels => k_is)
    (case cl_InvalidLevels => k_is)
    (case mr_InvalidLevels => k_is)
    (case fc_InvalidLevels => k_is)
    (case no_InvalidLevels => k_is)
    (case ic_InvalidLevels => k_is)
    (case sv_InvalidLevels => k_is)
    (case sm_InvalidLevels => k_is)
    (case sn0_InvalidLevels => k_is)
    (case xo_InvalidRow => k_is)
    (case sa_InvalidRow => k_is)
    (case eb_InvalidRow => k_is)
    (case tyc_InvalidRow => k_is)
    (case kpc_InvalidRow => k_is)
    (case ga_InvalidRow => k_is)
    (case gg_InvalidRow => k_is)
    (case hdc_InvalidRow => k_is)
    (case cl_InvalidRow => k_is)
    (case mr_InvalidRow => k_is)
    (case fc_InvalidRow => k_is)
    (case no_InvalidRow => k_is)
    (case ic_InvalidRow => k_is)
    (case sv_InvalidRow => k_is)
    (case sm_InvalidRow => k_is)
    (case sn0_InvalidRow => k_is)
    (case ti1 => k_is)
    (case l_VI => k_is)
    (case c_VI => k_is)
    (case k_VI => k_is)
    (case a_is_ordinal => k_is)
    (case l_is_ordinal => k_is)
    (case c_is_ordinal => k_is)
    (case k_is_ordinal => k_is)
    (case a__is_term => k_is)
    (case l__is_term => k_is)
    (case c__is_term => k_is)
    (case k__is_term => k_is)
    (case a__is_count => k_is)
    (case l__is_count => k_is)
    (case c__is_count => k_is)
    (case k__is_count => k_is)
    (case a_end_of => k_is)
    (case l_end_of => k_is)
    (case c_end_of => k_is)
    (case k_end_of => k_is)
    (case a_check_levels => k_is)
    (case l_check_levels => k_is)
    (case c_check_levels => k_is)
    (case k_check_levels => k_is)
    (case a_is_row => k_is)
    (case l_is_row => k_is)
    (case c_is_row => k_is)
    (case k_is_row => k_is)
    (case a_check_row => k_is)
    (case l_check_row => k_is)
    (case c_check_row => k_is)
    (case k_check_row => k_is)
    (case a_least_row => k_is)
    (case l_least_row => k_is)
    (case c_least_row => k_is)
    (case k_least_row => k_is)
    (case a__law_bag => k_is)
    (case l__law_bag => k_is)
    (case c__law_bag => k_is)
    (case k__law_bag => k_is)
    (case a__law_pull => k_is)
    (case l__law_pull => k_is)
    (case c__law_pull => k_is)
    (case k__law_pull => k_is)
    (case a__law_of => k_is)
    (case l__law_of => k_is)
    (case c__law_of => k_is)
    (case k__law_of => k_is)
    (case a__law_same => k_is)
    (case l__law_same => k_is)
    (case c__law_same => k_is)
    (case k__law_same => k_is)
    (case a__law_fields => k_is)
    (case l__law_fields => k_is)
    (case c__law_fields => k_is)
    (case k__law_fields => k_is)
    (case a__law_told => k_is)
    (case l__law_told => k_is)
    (case c__law_told => k_is)
    (case k__law_told => k_is)
    (case a__law_num => k_is)
    (case l__law_num => k_is)
    (case c__law_num => k_is)
    (case k__law_num => k_is)
    (case a__law_ordinal => k_is)
    (case l__law_ordinal => k_is)
    (case c__law_ordinal => k_is)
    (case k__law_ordinal => k_is)
    (case a__law_end => k_is)
    (case l__law_end => k_is)
    (case c__law_end => k_is)
    (case k__law_end => k_is)
    (case a__law_sum => k_is)
    (case l__law_sum => k_is)
    (case c__law_sum => k_is)
    (case k__law_sum => k_is)
    (case a__law_next => k_is)
    (case l__law_next => k_is)
    (case c__law_next => k_is)
    (case k__law_next => k_is)
    (case a__law_raise => k_is)
    (case l__law_raise => k_is)
    (case c__law_raise => k_is)
    (case k__law_raise => k_is)
    (case a__law_row => k_is)
    (case l__law_row => k_is)
    (case c__law_row => k_is)
    (case k__law_row => k_is)
    (case a__law_bent_ordinal => k_is)
    (case l__law_bent_ordinal => k_is)
    (case c__law_bent_ordinal => k_is)
    (case k__law_bent_ordinal => k_is)
    (case a__law_is_ordinal => k_is)
    (case l__law_is_ordinal => k_is)
    (case c__law_is_ordinal => k_is)
    (case k__law_is_ordinal => k_is)
    (case a__law_is_row => k_is)
    (case l__law_is_row => k_is)
    (case c__law_is_row => k_is)
    (case k__law_is_row => k_is)
    (case a_law => k_is)
    (case l_law => k_is)
    (case c_law => k_is)
    (case k_law => k_is)
    (case lc_law => k_is)
    (case hp_law => first | rfl | kernel_rfl)
    (case np_law => first | rfl | kernel_rfl)
    (case z_len => k_is)
    (case z_range => k_is)
    (case z_enumerate => k_is)
    (case z_isinstance => k_is)
    (case z_int => k_is)
    (case z_list => k_is)
    (case z_tuple => k_is)
    (case z_str => k_is)
    (case z_bool => k_is)
    (case z_all => k_is)
    (case z_sorted => k_is)
    (case z_max => k_is)
    (case z_ValueError => k_is)
    (case z_LookupError => k_is)
    (case z_IndexError => k_is)
    (case ac_ZERO => k_is)
    (case lz1 => k_is)
    (case ac_MAX_LEVELS => k_is)



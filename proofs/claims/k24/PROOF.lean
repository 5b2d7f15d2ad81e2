import PyProof.Rows.All
import Wide.All
import OpenK.AllK
import Wide.FinOn
import KE.DataCmp
import KE.SortCalls
import HandS.ForList
import KE.SortData
import HandS.SortKw
import HandS.ForMost
import HandS.IsInst
import HandS.TupAny
import HandS.EndBits
import HandS.Wide
import HandS.Codes
import KE.GoesEnum
import KE.GoesMore
import PyProof.EnumMake
import PyProof.Draws
import HandS.Defaults
import KE.DataMinMax
import HandS.TupMul
import HandS.Style
import HandS.Text
import HandS.Walk
import HandS.More
import HandS.List
import KE.KeyNested
import KE.KDictKeyed
import HandS.Conv
import HandS.TupLen
import HandS.Dict
import HandS.GenList
import HandS.DictComp
import HandS.ExcInit
import HandS.ExcIs
import KE.KTypeName
import HandS.ForExc
import KE.KTryMore
import HandS.ExcField
import HandS.HotCalls
import HandS.Lambda
import HandS.EndTab
import KE.KNest
import HandS.HeadWalk
import HandS.ClsMeth
import PySem.Challenge.RW_vowstair_k24_names_replaced
namespace Vw
inductive O where
  | z
  | add (e : O) (c : Int) (r : O)
  deriving DecidableEq
namespace O
def lt : O → O → Bool
  | z, z => false
  | z, add _ _ _ => true
  | add _ _ _, z => false
  | add e c r, add e' c' r' => if e = e' then (if c = c' then lt r r' else decide (c < c')) else lt e e'
theorem lt_irrefl : ∀ a : O, lt a a = false
  | z => rfl
  | add e c r => by simp [lt, lt_irrefl r]
theorem lt_trans : ∀ (a b c : O), lt a b = true → lt b c = true → lt a c = true
  | a, b, z, _, h2 => by cases b <;> simp [lt] at h2
  | a, z, add _ _ _, h1, _ => by cases a <;> simp [lt] at h1
  | z, add _ _ _, add _ _ _, _, _ => rfl
  | add e c r, add e' c' r', add e2 c2 r2, h1, h2 => by
    simp only [lt] at h1 h2 ⊢
    by_cases he : e = e'
    · subst he
      by_cases he2 : e = e2
      · subst he2
        simp only [if_true] at h1 h2 ⊢
        by_cases hc : c = c'
        · subst hc
          simp only [if_true] at h1
          by_cases hc2 : c = c2
          · subst hc2
            simp only [if_true] at h2 ⊢
            exact lt_trans r r' r2 h1 h2
          · rw [if_neg hc2] at h2 ⊢; exact h2
        · rw [if_neg hc] at h1
          have h1' := of_decide_eq_true h1
          by_cases hc2 : c' = c2
          · subst hc2; rw [if_neg hc]; exact h1
          · rw [if_neg hc2] at h2
            have h2' := of_decide_eq_true h2
            rw [if_neg (by omega)]; exact decide_eq_true (by omega)
      · rw [if_neg he2] at h2 ⊢; exact h2
    · rw [if_neg he] at h1
      by_cases he2 : e' = e2
      · subst he2; rw [if_neg he]; exact h1
      · rw [if_neg he2] at h2
        have h3 := lt_trans e e' e2 h1 h2
        by_cases he3 : e = e2
        · subst he3; rw [lt_irrefl] at h3; cases h3
        · rw [if_neg he3]; exact h3
theorem lt_asymm {a b : O} (h : lt a b = true) : lt b a = false := by
  cases q : lt b a with
  | false => rfl
  | true => have := lt_trans a b a h q; rw [lt_irrefl] at this; cases this
theorem lt_ne {a b : O} (h : lt a b = true) : a ≠ b := fun e => by subst e; rw [lt_irrefl] at h; cases h
theorem lt_total : ∀ (a b : O), a ≠ b → lt a b = true ∨ lt b a = true
  | z, z, h => absurd rfl h
  | z, add _ _ _, _ => .inl rfl
  | add _ _ _, z, _ => .inr rfl
  | add e c r, add e' c' r', h => by
    simp only [lt]
    by_cases he : e = e'
    · subst he
      simp only [if_true]
      by_cases hc : c = c'
      · subst hc
        simp only [if_true]
        exact lt_total r r' fun q => h (by rw [q])
      · rw [if_neg hc, if_neg (fun q => hc q.symm)]
        rcases Int.lt_or_gt_of_ne hc with q | q
        · exact .inl (decide_eq_true q)
        · exact .inr (decide_eq_true q)
    · rw [if_neg he, if_neg (fun q => he q.symm)]
      exact lt_total e e' he
theorem eq_of {a b : O} (h1 : lt a b = false) (h2 : lt b a = false) : a = b := by
  by_cases h : a = b
  · exact h
  · rcases lt_total a b h with q | q
    · rw [h1] at q; cases q
    · rw [h2] at q; cases q
theorem lt_of_ge {a b : O} (h : lt a b = false) (n : a ≠ b) : lt b a = true := by
  rcases lt_total a b n with q | q
  · rw [h] at q; cases q
  · exact q
/-- b ≤ a -/
theorem ge_trans {a b c : O} (h1 : lt a b = false) (h2 : lt b c = false) : lt a c = false := by
  cases q : lt a c with
  | false => rfl
  | true =>
    by_cases e : b = c
    · subst e; rw [h1] at q; cases q
    · have h3 := lt_of_ge h2 e
      have h4 := lt_trans _ _ _ q h3
      rw [h1] at h4; cases h4
theorem lt_ge {a b c : O} (h1 : lt a b = true) (h2 : lt c b = false) : lt a c = true := by
  by_cases e : c = b
  · subst e; exact h1
  · exact lt_trans _ _ _ h1 (lt_of_ge h2 e)
theorem ge_lt {a b c : O} (h1 : lt b a = false) (h2 : lt b c = true) : lt a c = true := by
  by_cases e : b = a
  · subst e; exact h2
  · exact lt_trans _ _ _ (lt_of_ge h1 e) h2

/-- the terms -/
def ts : O → List (O × Int)
  | z => []
  | add e c r => (e, c) :: ts r
def of : List (O × Int) → O
  | [] => z
  | (e, c) :: r => add e c (of r)
theorem of_ts : ∀ o : O, of (ts o) = o
  | z => rfl
  | add e c r => by show add e c (of (ts r)) = _; rw [of_ts r]
theorem ts_of : ∀ l : List (O × Int), ts (of l) = l
  | [] => rfl
  | (e, c) :: r => by show (e, c) :: ts (of r) = _; rw [ts_of r]
theorem ts_inj {a b : O} (h : ts a = ts b) : a = b := by rw [← of_ts a, ← of_ts b, h]

/-- the head's exponent is below e -/
def under (e : O) : O → Bool
  | z => true
  | add e' _ _ => lt e' e
/-- a right ordinal -/
def ok : O → Bool
  | z => true
  | add e c r => ok e && decide (1 ≤ c) && ok r && under e r
theorem ok_add {e : O} {c : Int} {r : O} : ok (add e c r) = true ↔ ok e = true ∧ 1 ≤ c ∧ ok r = true ∧ under e r = true := by
  simp [ok, Bool.and_eq_true, and_assoc]
/-- all exponents of an ordinal under e are below e -/
theorem under_all : ∀ {r : O} {e : O}, ok r = true → under e r = true → ∀ p ∈ ts r, lt p.1 e = true
  | z, _, _, _, p, hp => by cases hp
  | add e' c' r', e, h, hu, p, hp => by
    have h' := ok_add.mp h
    rcases List.mem_cons.mp hp with q | q
    · subst q; exact hu
    · exact lt_trans _ _ _ (under_all h'.2.2.1 h'.2.2.2 p q) hu

/-- the sum -/
def sum : O → O → O
  | a, z => a
  | z, b => b
  | add e c r, add e' c' r' => if lt e e' = true then add e' c' r' else if e = e' then add e (c + c') r' else add e c (sum r (add e' c' r'))
@[simp] theorem sum_z (a : O) : sum a z = a := by cases a <;> rfl
@[simp] theorem z_sum (b : O) : sum z b = b := by cases b <;> rfl
theorem sum_lt {e : O} {c : Int} {r : O} {e' : O} {c' : Int} {r' : O} (h : lt e e' = true) : sum (add e c r) (add e' c' r') = add e' c' r' := by
  show (if lt e e' = true then _ else _) = _; rw [if_pos h]
theorem sum_eq {e : O} {c : Int} {r : O} {c' : Int} {r' : O} : sum (add e c r) (add e c' r') = add e (c + c') r' := by
  show (if lt e e = true then _ else _) = _
  rw [lt_irrefl, if_neg Bool.false_ne_true, if_pos rfl]
theorem sum_gt {e : O} {c : Int} {r : O} {e' : O} {c' : Int} {r' : O} (h : lt e' e = true) : sum (add e c r) (add e' c' r') = add e c (sum r (add e' c' r')) := by
  show (if lt e e' = true then _ else _) = _
  rw [lt_asymm h, if_neg Bool.false_ne_true, if_neg (lt_ne h).symm]

/-- what the program's plus does -/
def plusP : O → O → O
  | a, z => a
  | a, add e c r => of ((ts a).filter (fun t => lt e t.1) ++ (e, (((ts a).filter fun t => decide (t.1 = e)).map fun t => t.2).sum + c) :: ts r)
/-- what the law's own sum does -/
def sumL : O → O → O
  | a, z => a
  | a, add e c r =>
    let left := (ts a).filter fun t => !lt t.1 e
    match left.getLast? with
    | some (e1, c1) => if e1 = e then of (left.dropLast ++ (e, c1 + c) :: ts r) else of (left ++ (e, c) :: ts r)
    | none => of (left ++ (e, c) :: ts r)
theorem filter_none {α : Type} {p : α → Bool} : ∀ {l : List α}, (∀ x ∈ l, p x = false) → l.filter p = []
  | [], _ => rfl
  | x :: r, h => by
    rw [List.filter_cons, h x List.mem_cons_self, if_neg Bool.false_ne_true]
    exact filter_none fun y hy => h y (List.mem_cons_of_mem _ hy)
theorem plusP_sum : ∀ (a b : O), ok a = true → plusP a b = sum a b
  | a, z, _ => by cases a <;> rfl
  | z, add e c r, _ => by show of ([] ++ (e, 0 + c) :: ts r) = _; simp [of, of_ts]
  | add e1 c1 r1, add e c r, h => by
    have h' := ok_add.mp h
    have ih := plusP_sum r1 (add e c r) h'.2.2.1
    have hall := under_all h'.2.2.1 h'.2.2.2
    by_cases q : e1 = e
    · subst q
      rw [sum_eq]
      have f1 : (ts r1).filter (fun t => lt e1 t.1) = [] := filter_none fun x hx => lt_asymm (hall x hx)
      have f2 : (ts r1).filter (fun t => decide (t.1 = e1)) = [] := filter_none fun x hx => decide_eq_false (lt_ne (hall x hx))
      show of ((ts (add e1 c1 r1)).filter _ ++ _) = _
      simp only [ts, List.filter_cons, lt_irrefl, f1, f2, decide_true, if_true]
      simp [of, of_ts]
    · rcases lt_total e1 e q with k | k
      · rw [sum_lt k]
        have f1 : (ts (add e1 c1 r1)).filter (fun t => lt e t.1) = [] := filter_none fun x hx => by
          rcases List.mem_cons.mp hx with y | y
          · subst y; exact lt_asymm k
          · exact lt_asymm (lt_trans _ _ _ (hall x y) k)
        have f2 : (ts (add e1 c1 r1)).filter (fun t => decide (t.1 = e)) = [] := filter_none fun x hx => by
          rcases List.mem_cons.mp hx with y | y
          · subst y; exact decide_eq_false q
          · exact decide_eq_false (lt_ne (lt_trans _ _ _ (hall x y) k))
        show of ((ts (add e1 c1 r1)).filter _ ++ _) = _
        rw [f1, f2]
        simp [of, of_ts]
      · rw [sum_gt k, ← ih]
        show of ((ts (add e1 c1 r1)).filter _ ++ _) = add e1 c1 (of ((ts r1).filter _ ++ _))
        have d : decide (e1 = e) = false := decide_eq_false q
        simp only [ts, List.filter_cons, k, d, if_true]
        simp [of]
theorem sumL_sum : ∀ (a b : O), ok a = true → sumL a b = sum a b
  | a, z, _ => by cases a <;> rfl
  | z, add e c r, _ => by show of ([] ++ (e, c) :: ts r) = _; simp [of, of_ts]
  | add e1 c1 r1, add e c r, h => by
    have h' := ok_add.mp h
    have ih := sumL_sum r1 (add e c r) h'.2.2.1
    have hall := under_all h'.2.2.1 h'.2.2.2
    by_cases q : e1 = e
    · subst q
      rw [sum_eq]
      have f1 : (ts r1).filter (fun t => !lt t.1 e1) = [] := filter_none fun x hx => by rw [hall x hx]; rfl
      simp only [sumL, ts, List.filter_cons, lt_irrefl, f1, Bool.not_false, if_true]
      simp [of, of_ts]
    · rcases lt_total e1 e q with k | k
      · rw [sum_lt k]
        have f1 : (ts r1).filter (fun t => !lt t.1 e) = [] := filter_none fun x hx => by rw [lt_trans _ _ _ (hall x hx) k]; rfl
        simp only [sumL, ts, List.filter_cons, k, f1]
        simp [of, of_ts]
      · rw [sum_gt k, ← ih]
        have k2 := lt_asymm k
        simp only [sumL, ts, List.filter_cons, k2, Bool.not_false, if_true]
        cases hl : (ts r1).filter (fun t => !lt t.1 e) with
        | nil => simp [of, q]
        | cons x l =>
          rw [List.getLast?_cons_cons]
          cases hg : (x :: l).getLast? with
          | none => simp at hg
          | some p =>
            obtain ⟨e2, c2⟩ := p
            simp only
            by_cases q2 : e2 = e
            · rw [if_pos q2, if_pos q2, List.dropLast_cons_cons]; rfl
            · rw [if_neg q2, if_neg q2]; rfl
theorem ok_under_sum : ∀ (a b e : O), under e a = true → under e b = true → under e (sum a b) = true
  | a, z, e, h, _ => by rw [sum_z]; exact h
  | z, b, e, _, h => by rw [z_sum]; exact h
  | add e1 c1 r1, add e2 c2 r2, e, h1, h2 => by
    by_cases q : e1 = e2
    · subst q; rw [sum_eq]; exact h1
    · rcases lt_total e1 e2 q with k | k
      · rw [sum_lt k]; exact h2
      · rw [sum_gt k]; exact h1
theorem ok_sum : ∀ (a b : O), ok a = true → ok b = true → ok (sum a b) = true
  | a, z, h, _ => by rw [sum_z]; exact h
  | z, b, _, h => by rw [z_sum]; exact h
  | add e1 c1 r1, add e2 c2 r2, h1, h2 => by
    have g1 := ok_add.mp h1
    have g2 := ok_add.mp h2
    by_cases q : e1 = e2
    · subst q; rw [sum_eq]; exact ok_add.mpr ⟨g1.1, by omega, g2.2.2.1, g2.2.2.2⟩
    · rcases lt_total e1 e2 q with k | k
      · rw [sum_lt k]; exact h2
      · rw [sum_gt k]; exact ok_add.mpr ⟨g1.1, g1.2.1, ok_sum r1 _ g1.2.2.1 h2, ok_under_sum _ _ _ g1.2.2.2 k⟩
theorem lt_head {e : O} {c : Int} {r e' : O} {c' : Int} {r' : O} (h : lt e e' = true) : lt (add e c r) (add e' c' r') = true := by
  show (if e = e' then _ else _) = _; rw [if_neg (lt_ne h)]; exact h
theorem lt_cnt {e : O} {c : Int} {r : O} {c' : Int} {r' : O} (h : c < c') : lt (add e c r) (add e c' r') = true := by
  show (if e = e then (if c = c' then _ else _) else _) = _
  rw [if_pos rfl, if_neg (by omega)]; exact decide_eq_true h
theorem lt_rest {e : O} {c : Int} {r r' : O} : lt (add e c r) (add e c r') = lt r r' := by
  show (if e = e then (if c = c then _ else _) else _) = _
  rw [if_pos rfl, if_pos rfl]
theorem nil_lt {a : O} (h : a ≠ z) : lt z a = true := by cases a <;> first | rfl | exact absurd rfl h
theorem not_lt_nil (a : O) : lt a z = false := by cases a <;> rfl
theorem sum_add_ne (a e : O) (c : Int) (r : O) : sum a (add e c r) ≠ z := by
  cases a with
  | z => rw [z_sum]; intro h; cases h
  | add e1 c1 r1 =>
    show (if _ then _ else if _ then _ else _) ≠ _
    split
    · intro h; cases h
    · split <;> (intro h; cases h)
/-- strictly ascending in the second part -/
theorem sum_mono : ∀ (a b c : O), ok a = true → ok b = true → ok c = true → lt b c = true → lt (sum a b) (sum a c) = true
  | z, b, c, _, _, _, h => by rw [z_sum, z_sum]; exact h
  | a, b, z, _, _, _, h => by rw [not_lt_nil] at h; cases h
  | add e1 c1 r1, z, add e3 c3 r3, ha, _, hc, _ => by
    have g1 := ok_add.mp ha
    have g3 := ok_add.mp hc
    rw [sum_z]
    by_cases q : e1 = e3
    · subst q; rw [sum_eq]; exact lt_cnt (by omega)
    · rcases lt_total e1 e3 q with k | k
      · rw [sum_lt k]; exact lt_head k
      · rw [sum_gt k, lt_rest]
        have := sum_mono r1 z (add e3 c3 r3) g1.2.2.1 rfl hc rfl
        rw [sum_z] at this
        exact this
  | add e1 c1 r1, add e2 c2 r2, add e3 c3 r3, ha, hb, hc, h => by
    have g1 := ok_add.mp ha
    have g2 := ok_add.mp hb
    have g3 := ok_add.mp hc
    by_cases q : e1 = e2
    · subst q
      rw [sum_eq]
      by_cases q3 : e1 = e3
      · subst q3
        rw [sum_eq]
        simp only [lt, if_true] at h ⊢
        by_cases x : c2 = c3
        · subst x; simpa using h
        · rw [if_neg x] at h
          rw [if_neg (by omega)]
          exact decide_eq_true (by have := of_decide_eq_true h; omega)
      · have k : lt e1 e3 = true := by simpa [lt, q3] using h
        rw [sum_lt k]; exact lt_head k
    · rcases lt_total e1 e2 q with k | k
      · rw [sum_lt k]
        have k3 : lt e1 e3 = true := by
          by_cases q3 : e2 = e3
          · subst q3; exact k
          · exact lt_trans _ _ _ k (by simpa [lt, q3] using h)
        rw [sum_lt k3]; exact h
      · rw [sum_gt k]
        by_cases q3 : e1 = e3
        · subst q3; rw [sum_eq]; exact lt_cnt (by omega)
        · rcases lt_total e1 e3 q3 with k3 | k3
          · rw [sum_lt k3]; exact lt_head k3
          · rw [sum_gt k3, lt_rest]
            exact sum_mono r1 _ _ g1.2.2.1 hb hc h
theorem sum_mono_iff {a b c : O} (ha : ok a = true) (hb : ok b = true) (hc : ok c = true) : lt (sum a b) (sum a c) = lt b c := by
  cases q : lt b c with
  | true => exact sum_mono a b c ha hb hc q
  | false =>
    by_cases e : c = b
    · subst e; exact lt_irrefl _
    · have k := lt_of_ge q (fun x => e x.symm)
      exact lt_asymm (sum_mono a c b ha hc hb k)
/-- at least the first part -/
theorem sum_ge_left {a b : O} (ha : ok a = true) (hb : ok b = true) : lt (sum a b) a = false := by
  by_cases e : b = z
  · subst e; rw [sum_z]; exact lt_irrefl _
  · have := sum_mono a z b ha rfl hb (nil_lt e)
    rw [sum_z] at this
    exact lt_asymm this
/-- at least the second part -/
theorem sum_ge_right : ∀ (a b : O), ok a = true → ok b = true → lt (sum a b) b = false
  | a, z, _, _ => not_lt_nil _
  | z, b, _, _ => by rw [z_sum]; exact lt_irrefl _
  | add e1 c1 r1, add e2 c2 r2, ha, hb => by
    have g1 := ok_add.mp ha
    by_cases q : e1 = e2
    · subst q; rw [sum_eq]; exact lt_asymm (lt_cnt (by omega))
    · rcases lt_total e1 e2 q with k | k
      · rw [sum_lt k]; exact lt_irrefl _
      · rw [sum_gt k]; exact lt_asymm (lt_head k)
theorem sum_assoc : ∀ (a b c : O), ok a = true → ok b = true → ok c = true → sum (sum a b) c = sum a (sum b c)
  | a, b, z, _, _, _ => by rw [sum_z, sum_z]
  | a, z, add _ _ _, _, _, _ => by rw [sum_z, z_sum]
  | z, add _ _ _, add _ _ _, _, _, _ => by rw [z_sum, z_sum]
  | add e1 c1 r1, add e2 c2 r2, add e3 c3 r3, ha, hb, hc => by
    have g1 := ok_add.mp ha
    have g2 := ok_add.mp hb
    by_cases q23 : e2 = e3
    · subst q23
      rw [sum_eq]
      by_cases q : e1 = e2
      · subst q; rw [sum_eq, sum_eq, sum_eq, Int.add_assoc]
      · rcases lt_total e1 e2 q with k | k
        · rw [sum_lt k, sum_lt k, sum_eq]
        · rw [sum_gt k, sum_gt k, sum_gt k, sum_assoc r1 _ _ g1.2.2.1 hb hc, sum_eq]
    · rcases lt_total e2 e3 q23 with k23 | k23
      · rw [sum_lt k23]
        by_cases q : e1 = e2
        · subst q; rw [sum_eq, sum_lt k23, sum_lt k23]
        · rcases lt_total e1 e2 q with k | k
          · rw [sum_lt k, sum_lt k23, sum_lt (lt_trans _ _ _ k k23)]
          · rw [sum_gt k]
            by_cases q3 : e1 = e3
            · subst q3; rw [sum_eq, sum_eq]
            · rcases lt_total e1 e3 q3 with k3 | k3
              · rw [sum_lt k3, sum_lt k3]
              · rw [sum_gt k3, sum_gt k3, sum_assoc r1 _ _ g1.2.2.1 hb hc, sum_lt k23]
      · rw [sum_gt k23]
        by_cases q : e1 = e2
        · subst q; rw [sum_eq, sum_gt k23, sum_eq]
        · rcases lt_total e1 e2 q with k | k
          · rw [sum_lt k, sum_lt k, sum_gt k23]
          · rw [sum_gt k, sum_gt (lt_trans _ _ _ k23 k), sum_gt k, sum_assoc r1 _ _ g1.2.2.1 hb hc, sum_gt k23]
def one : O := add z 1 z
/-- nothing between an ordinal and the next one -/
theorem lt_succ_iff : ∀ (a b : O), ok a = true → ok b = true → lt a b = true → lt b (sum a one) = false
  | z, b, _, hb, h => by
    rw [z_sum]
    cases b with
    | z => cases h
    | add e c r =>
      have g := ok_add.mp hb
      show (if e = z then (if c = 1 then lt r z else decide (c < 1)) else lt e z) = false
      rw [not_lt_nil, not_lt_nil]
      split
      · split
        · rfl
        · exact decide_eq_false (by omega)
      · rfl
  | add e c r, z, _, _, h => by cases h
  | add e c r, add e' c' r', ha, hb, h => by
    have g := ok_add.mp ha
    have g' := ok_add.mp hb
    by_cases qz : e = z
    · subst qz
      show lt _ (sum (add z c r) (add z 1 z)) = false
      rw [sum_eq]
      have hr : r = z := by
        cases r with
        | z => rfl
        | add x y w => have := g.2.2.2; rw [show under z (add x y w) = lt x z from rfl, not_lt_nil] at this; cases this
      subst hr
      by_cases q : z = e'
      · subst q
        have hc : c < c' ∨ (c = c' ∧ lt z r' = true) := by
          simp only [lt, if_true] at h
          by_cases x : c = c'
          · rw [if_pos x] at h; exact .inr ⟨x, h⟩
          · rw [if_neg x] at h; exact .inl (of_decide_eq_true h)
        rcases hc with x | ⟨x, y⟩
        · by_cases x2 : c + 1 = c'
          · rw [x2, lt_rest, not_lt_nil]
          · exact lt_asymm (lt_cnt (by omega))
        · have hr' : r' = z := by
            cases r' with
            | z => rfl
            | add x2 y2 w2 => have := g'.2.2.2; rw [show under z (add x2 y2 w2) = lt x2 z from rfl, not_lt_nil] at this; cases this
          rw [hr'] at y; cases y
      · exact lt_asymm (lt_head (nil_lt (fun x => q x.symm)))
    · have k : lt z e = true := nil_lt qz
      show lt _ (sum (add e c r) (add z 1 z)) = false
      rw [sum_gt k]
      by_cases q : e = e'
      · subst q
        by_cases x : c = c'
        · subst x
          rw [lt_rest] at h ⊢
          exact lt_succ_iff r r' g.2.2.1 g'.2.2.1 h
        · simp only [lt, if_true] at h
          rw [if_neg x] at h
          exact lt_asymm (lt_cnt (of_decide_eq_true h))
      · have : lt e e' = true := by simpa [lt, q] using h
        exact lt_asymm (lt_head this)
theorem ok_one : ok one = true := by decide
theorem lt_succ {a : O} (h : ok a = true) : lt a (sum a one) = true := by
  have := sum_mono a z one h rfl ok_one rfl
  rw [sum_z] at this
  exact this
end O
end Vw

set_option Elab.async false
set_option linter.all false
set_option maxRecDepth 100000
namespace Vw
open PySem PySem.W PyProof.Rows L2
namespace O
def toDs : O → List PyData
  | z => []
  | add e c r => .tuple [.tuple (toDs e), .int c] :: toDs r
def toD (o : O) : PyData := .tuple (toDs o)
def dp : O → Nat
  | z => 0
  | add e _ r => max (dp e + 2) (dp r)
theorem depth_toDs : ∀ o : O, PyData.depthAll (toDs o) = dp o
  | z => by simp [toDs, dp, PyData.depthAll]
  | add e c r => by
    have h1 := depth_toDs e
    have h2 := depth_toDs r
    simp only [toDs, dp, PyData.depthAll, PyData.depth, h1, h2]
    omega
theorem depth_toD (o : O) : (toD o).depth = dp o + 1 := by simp only [toD, PyData.depth, depth_toDs]
theorem lay_toDs : ∀ o : O, PyData.canLayAll0 (toDs o) = true
  | z => by simp [toDs, PyData.canLayAll0]
  | add e c r => by simp [toDs, PyData.canLayAll0, PyData.canLay0, lay_toDs e, lay_toDs r]
theorem lay_toD (o : O) : (toD o).canLay0 = true := by simp only [toD, PyData.canLay0, lay_toDs]
theorem shaped_toD {o : O} (h : dp o ≤ 60) : SeqAt.shaped (toD o) = true := by
  unfold SeqAt.shaped
  rw [lay_toD, depth_toD]
  simp; omega
theorem alike_toDs : ∀ a b : O, alikeAll (toDs a) (toDs b) = true
  | z, _ => by simp [toDs, alikeAll]
  | add _ _ _, z => by simp [toDs, alikeAll]
  | add e c r, add e' c' r' => by simp [toDs, alikeAll, alike, alike_toDs e e', alike_toDs r r']
theorem alike_toD (a b : O) : alike (toD a) (toD b) = true := by simp only [toD, alike, alike_toDs]
theorem eqv_toDs : ∀ a b : O, PyData.eqvAll (toDs a) (toDs b) = decide (a = b)
  | z, z => by simp [toDs, PyData.eqvAll]
  | z, add _ _ _ => by simp [toDs, PyData.eqvAll]
  | add _ _ _, z => by simp [toDs, PyData.eqvAll]
  | add e c r, add e' c' r' => by
    simp only [toDs, PyData.eqvAll, PyData.eqv, eqv_toDs e e', eqv_toDs r r']
    by_cases h1 : e = e' <;> by_cases h2 : c = c' <;> by_cases h3 : r = r' <;> simp [h1, h2, h3]
theorem eqv_toD (a b : O) : PyData.eqv (toD a) (toD b) = decide (a = b) := by simp only [toD, PyData.eqv, eqv_toDs]
/-- a term -/
def tD (p : O × Int) : PyData := .tuple [toD p.1, .int p.2]
theorem toDs_ts : ∀ o : O, toDs o = (ts o).map tD
  | z => rfl
  | add e c r => by show _ :: toDs r = _ :: _; rw [toDs_ts r]; rfl
theorem lt_toDs : ∀ a b : O, PyProof.Rows.lexLt itemOrd (keyToksAll (toDs a)) (keyToksAll (toDs b)) = lt a b
  | z, z => lex_irrefl _
  | z, add e c r => by
    simp only [toDs, toks_all_cons]
    simp only [keyToksAll]
    rw [lex_diff (O := itemOrd) (by simp)]
    rfl
  | add e c r, z => by
    simp only [toDs, toks_all_cons]
    simp only [keyToksAll]
    rw [lex_diff (O := itemOrd) (by simp)]
    rfl
  | add e c r, add e' c' r' => by
    have al : alike (.tuple [.tuple (toDs e), .int c]) (.tuple [.tuple (toDs e'), .int c']) = true := by simp [alikeAll, alike, alike_toDs e e']
    have ev : PyData.eqv (.tuple [.tuple (toDs e), .int c]) (.tuple [.tuple (toDs e'), .int c']) = decide (e = e' ∧ c = c') := by
      simp only [PyData.eqvAll, PyData.eqv, eqv_toDs e e']
      by_cases h1 : e = e' <;> by_cases h2 : c = c' <;> simp [h1, h2]
    simp only [toDs, lt]
    by_cases h1 : e = e'
    · by_cases h2 : c = c'
      · rw [dataLt_all_yes al (by rw [ev]; simp [h1, h2]), lt_toDs r r', if_pos h1, if_pos h2]
      · rw [dataLt_all_no al (by rw [ev]; simp [h1, h2]), if_pos h1, if_neg h2, dataLt_tuple, dataLt_all_yes (by simp [alike, alike_toDs e e']) (by subst h1; simp [PyData.eqv, eqv_toDs]), dataLt_all_no (by simp [alike]) (by simp [PyData.eqv, h2]), dataLt_int]
    · rw [dataLt_all_no al (by rw [ev]; simp [h1]), if_neg h1, dataLt_tuple, dataLt_all_no (by simp [alike, alike_toDs e e']) (by simp only [PyData.eqv, eqv_toDs e e']; simp [h1]), dataLt_tuple, lt_toDs e e']
theorem lt_toD (a b : O) : dataLt (toD a) (toD b) = lt a b := by rw [toD, toD, dataLt_tuple, lt_toDs]
end O
/-! ### < > <= >= of data -/
section
variable {X : Cx}
@[irreducible] def rCmp (g : PyData → PyData → Bool) (K : PySem.W.Frag) : R2 := fun x y H Q => ∃ d e, Dp K H x d ∧ Dp K H y e ∧ alike d e = true ∧ d ≠ .none ∧ d.depth ≤ 64 ∧ Q (.bl (g d e)) H
theorem op_ltD (hu : X.A.units + 64 < cLine) : OpR X (compareOp .Lt) (rCmp (fun d e => dataLt d e) X.K) := by
  intro pins s σ H x y v u Q I rx ry h
  unfold rCmp at h
  obtain ⟨d, e, hd, he, al, hn, hz, q⟩ := h
  obtain ⟨as, r1⟩ := Dp.reads I d x v hd rx
  obtain ⟨bs, r2⟩ := Dp.reads I e y u he ry
  exact lt_data r1 r2 al hn (by have := Nat.min_le_left d.depth e.depth; omega) ⟨.bl _, H, I, rfl, q⟩
theorem op_gtD (hu : X.A.units + 64 < cLine) : OpR X (compareOp .Gt) (rCmp (fun d e => dataLt e d) X.K) := by
  intro pins s σ H x y v u Q I rx ry h
  unfold rCmp at h
  obtain ⟨d, e, hd, he, al, hn, hz, q⟩ := h
  obtain ⟨as, r1⟩ := Dp.reads I d x v hd rx
  obtain ⟨bs, r2⟩ := Dp.reads I e y u he ry
  exact gt_data r1 r2 al hn (by have := Nat.min_le_left d.depth e.depth; omega) ⟨.bl _, H, I, rfl, q⟩
theorem op_leD (hu : X.A.units + 64 < cLine) : OpR X (compareOp .LtE) (rCmp (fun d e => !dataLt e d) X.K) := by
  intro pins s σ H x y v u Q I rx ry h
  unfold rCmp at h
  obtain ⟨d, e, hd, he, al, hn, hz, q⟩ := h
  obtain ⟨as, r1⟩ := Dp.reads I d x v hd rx
  obtain ⟨bs, r2⟩ := Dp.reads I e y u he ry
  exact le_data r1 r2 al hn (by have := Nat.min_le_left d.depth e.depth; omega) ⟨.bl _, H, I, rfl, q⟩
theorem op_geD (hu : X.A.units + 64 < cLine) : OpR X (compareOp .GtE) (rCmp (fun d e => !dataLt d e) X.K) := by
  intro pins s σ H x y v u Q I rx ry h
  unfold rCmp at h
  obtain ⟨d, e, hd, he, al, hn, hz, q⟩ := h
  obtain ⟨as, r1⟩ := Dp.reads I d x v hd rx
  obtain ⟨bs, r2⟩ := Dp.reads I e y u he ry
  exact ge_data r1 r2 al hn (by have := Nat.min_le_left d.depth e.depth; omega) ⟨.bl _, H, I, rfl, q⟩
end
end Vw

set_option Elab.async false
set_option linter.all false
set_option maxRecDepth 100000
namespace Vw
open PySem PySem.W PySem.SeqAt PyProof.Rows
section
variable {prog : Program} {w : World} {A : Around} {E : Value → Shared → Prop} {s : Shared}
theorem call_tuple_lt {Q : Value → Shared → Prop} {l b : Addr} {items items2 : Array Value} {e r : Nat → Bool} (hl : s.heap.IsTuple l items) (hb : s.heap.IsTuple b items2)
    (he : ∀ j (h1 : j < items.size) (h2 : j < items2.size), EqAt A.in1 s items[j] items2[j] (e j)) (hr : ∀ j (h1 : j < items.size) (h2 : j < items2.size), e j = false → RcLt A.in1 s items[j] items2[j] (r j))
    (h : Q (.bool (firstLt e r (decide (items.size < items2.size)) (List.range (min items.size items2.size)))) s) : wpAny (model prog w) A (call (.builtin "tuple.__lt__") [.ref l, .ref b]) Q E s := by
  obtain ⟨⟨cls, dd, data, sl⟩, ho, hc, n, hd⟩ := id hl
  obtain ⟨⟨cls2, dd2, data2, sl2⟩, ho2, hc2, n2, hd2⟩ := id hb
  simp only at hc hd hc2 hd2
  subst hc hd hc2 hd2
  exact call_meets F.slot_tuple_lt ⟨_, ho, rfl⟩ F.entry_tuple_lt (F.args_tuple_lt_2 _ _) (SeqAt.tuple_ltAt l b items items2 n n2 dd dd2 sl sl2 e r) ⟨ho, ho2, he, hr, h⟩
/-- two tuples by tuple's own less-than -/
theorem oneLt_tups {xs ys : List PyData} {a b : Value} {as bs : List Addr} {Q : Bool → Shared → Prop} (ra : Reads s.heap a (.tuple xs) as) (rb : Reads s.heap b (.tuple ys) bs) (h : alike (.tuple xs) (.tuple ys) = true)
    (hu : A.units + min (PyData.tuple xs).depth (PyData.tuple ys).depth < cLine) (hq : Q (dataLt (.tuple xs) (.tuple ys)) s) : wpAny (model prog w) A (oneLt' true a b) Q E s := by
  have hal : alikeAll xs ys = true := by simpa [alike] using h
  cases ra with
  | @tuple l o vs n _ as₁ h1 h2 h3 h4 =>
    cases rb with
    | @tuple l' o' vs' n' _ bs₁ k1 k2 k3 k4 =>
      have n1 : vs.size = xs.length := by simpa using ReadsAll.length _ _ _ h4
      have n2 : vs'.size = ys.length := by simpa using ReadsAll.length _ _ _ k4
      rw [dataLt_tuple, ← firstLt_toks xs ys hal, ← n1, ← n2] at hq
      rw [oneLt'_eq]
      simp only [if_true]
      refine wpAny_bind (wpAny_cRoomFor (room_here hu) ?_)
      refine wpAny_bind (wpAny_callSpecialIfBound?_slot (T := "tuple") ⟨_, h1, h2⟩ F.slot_tuple_lt (call_tuple_lt (e := pairEq xs ys) (r := fun j => dataLt (xs.getD j .none) (ys.getD j .none)) ⟨_, h1, h2, _, h3⟩ ⟨_, k1, k2, _, k3⟩ (fun j j1 j2 => ?_) (fun j j1 j2 hj => ?_) ?_))
      · have := eqAt_alikeAll xs ys A.in1 s vs.toList vs'.toList _ _ h4 k4 hal (room_in hu) j (by simpa using j1) (by simpa using j2)
        simpa using this
      · have := rcLt_alikeAll xs ys A.in1 s vs.toList vs'.toList _ _ h4 k4 hal (room_in hu) j (by simpa using j1) (by simpa using j2) hj
        simpa using this
      · exact wpAny_truthy_bool hq
theorem keyLt'_general (x y : Value) : keyLt' general' x y = oneLt' false x y := rfl
/-- a tuple with an item -/
def fullT : PyData → Bool
  | .tuple (_ :: _) => true
  | _ => false
theorem fullT_no {d : PyData} (h : d = .tuple []) : fullT d = false := by subst h; rfl
theorem fullT_yes {xs : List PyData} (h : ¬ PyData.tuple xs = .tuple []) : fullT (.tuple xs) = true := by
  cases xs with
  | nil => exact absurd rfl h
  | cons _ _ => rfl
/-- the first items -/
theorem firsts_any : ∀ {vs : List Value} {ds : List PyData}, EachIs (fun v d => ∃ as, Reads s.heap v d as) vs ds → (∀ d ∈ ds, ∃ xs, d = .tuple xs) →
    ∃ fs : List (Option Value), fs.map (·.isSome) = ds.map fullT ∧ ∀ (Q : List (Option Value) → Shared → Prop), Q fs s → wpAny (model prog w) A (vs.mapM firstOfTuple') Q E s
  | _, _, .nil, _ => ⟨[], rfl, fun Q q => by rw [List.mapM_nil]; exact wpAny_pure q⟩
  | _, _, .cons (a := v) (b := d) ⟨as, r⟩ t, ht => by
    obtain ⟨fs, h1, h2⟩ := firsts_any t fun d hd => ht d (List.mem_cons_of_mem _ hd)
    obtain ⟨xs, rfl⟩ := ht d (List.mem_cons_self ..)
    cases r with
    | @tuple a o vs n _ _ ho hc hd hr =>
      have hn : vs.size = xs.length := by simpa using ReadsAll.length _ _ _ hr
      refine ⟨vs[0]? :: fs, ?_, fun Q q => ?_⟩
      · rw [List.map_cons, List.map_cons, h1]
        congr 1
        cases xs with
        | nil =>
          have : vs.size = 0 := by simpa using hn
          simp [this, fullT]
        | cons x r =>
          have : 0 < vs.size := by simp at hn; omega
          simp [this, fullT]
      · rw [List.mapM_cons]
        refine wpAny_bind ?_
        rw [kas_first_eq]
        refine wpAny_bind (Looks.here (show Looks (model prog w) s.heap (typeOf (.ref a)) o.cls from (Looks.ld ho).andThen .now) ?_)
        rw [hc, if_neg (by first | decide | simp)]
        refine wpAny_bind (listItems_at ho hd (wpAny_pure ?_))
        exact wpAny_bind (h2 _ (wpAny_pure q))
/-- the kind of tuples of which some are empty -/
theorem kind_tups {vs : List Value} {ds : List PyData} (e : EachIs (fun v d => ∃ as, Reads s.heap v d as) vs ds) (ht : ∀ d ∈ ds, ∃ xs, d = .tuple xs) (hx : .tuple [] ∈ ds) :
    ∃ kd, (kd = oneType' ∨ kd = general') ∧ ∀ (E : Value → Shared → Prop) (Q : SortKind → Shared → Prop), Q kd s → wpAny (model prog w) A (keyKind' vs.toArray) Q E s := by
  have hall : ∀ fs : List (Option Value), fs.map (·.isSome) = ds.map fullT → ¬ (fs.toArray.all (·.isSome)) = true := fun fs hf hh => by
    simp only [List.all_toArray] at hh
    have h2 : (fs.map (·.isSome)).all id = true := by rw [List.all_map]; exact hh
    rw [hf, List.all_map, List.all_eq_true] at h2
    have := h2 _ hx
    simp [fullT] at this
  cases ds with
  | nil => cases hx
  | cons d₀ ds₀ =>
    have hsp : ∀ fs : List (Option Value), fs.map (·.isSome) = (d₀ :: ds₀).map fullT → (fs.toArray[0]?.bind id).isSome = fullT d₀ := fun fs hf => by
      cases fs with
      | nil => simp at hf
      | cons f r =>
        rw [List.map_cons, List.map_cons] at hf
        have := (List.cons.inj hf).1
        simpa using this
    by_cases h0 : d₀ = .tuple []
    · refine ⟨oneType', .inl rfl, fun E Q q => ?_⟩
      obtain ⟨fs, h1, h2⟩ := firsts_any (prog := prog) (w := w) (A := A) (E := E) (s := s) e ht
      rw [keyKind'_eq, List.mapM_toArray, map_eq_pure_bind]
      refine wpAny_bind (wpAny_bind (h2 _ (wpAny_pure ?_)))
      rw [if_neg (hall fs h1), if_neg (by rw [hsp fs h1, fullT_no h0]; exact Bool.false_ne_true)]
      rw [oneTypeOnly'_eq, List.mapM_toArray, map_eq_pure_bind]
      refine wpAny_bind (wpAny_bind (wpAny_bind (kas_mapM (r := Value.type "tuple") _ (fun v hv Q' hq => ?_) (wpAny_pure ?_))))
      · obtain ⟨d, hd, as, r⟩ := e.left v hv
        obtain ⟨xs, rfl⟩ := ht d hd
        exact (looks_reads r).here hq
      · have hne : vs ≠ [] := by rintro rfl; cases e
        obtain ⟨v0, vr, rfl⟩ : ∃ v0 vr, vs = v0 :: vr := by
          cases vs with
          | nil => exact absurd rfl hne
          | cons v0 vr => exact ⟨v0, vr, rfl⟩
        have hall3 : ((List.map (fun _ => Value.type "tuple") (v0 :: vr)).toArray.all fun x => x == Value.type "tuple") = true := by
          simp only [List.all_toArray, List.all_map, List.all_eq_true]
          intro _ _
          exact beq_self_eq_true _
        have h00 : (List.map (fun _ => Value.type "tuple") (v0 :: vr)).toArray[0]? = some (Value.type "tuple") := by simp
        rw [h00]
        simp only [hall3, if_true]
        exact wpAny_pure (wpAny_pure q)
    · refine ⟨general', .inr rfl, fun E Q q => ?_⟩
      obtain ⟨fs, h1, h2⟩ := firsts_any (prog := prog) (w := w) (A := A) (E := E) (s := s) e ht
      rw [keyKind'_eq, List.mapM_toArray, map_eq_pure_bind]
      refine wpAny_bind (wpAny_bind (h2 _ (wpAny_pure ?_)))
      rw [if_neg (hall fs h1), if_pos (by rw [hsp fs h1]; obtain ⟨xs, rfl⟩ := ht d₀ (List.mem_cons_self ..); exact fullT_yes h0)]
      exact wpAny_pure q
/-- tuples that are alike can be sorted, also where some are empty -/
theorem SortsAt.tups {vs : List Value} {ds : List PyData} (e : EachIs (fun v d => ∃ as, Reads s.heap v d as) vs ds) (hal : AllAlike ds) (ht : ∀ d ∈ ds, ∃ xs, d = .tuple xs) (hu : ∀ d, d ∈ ds → A.units + d.depth < cLine) : SortsAt prog w A s (dataKind s.heap ds) vs := by
  by_cases hx : .tuple [] ∈ ds
  · have room : ∀ {d d' : PyData}, d ∈ ds → A.units + min d.depth d'.depth < cLine := fun {d d'} hd => Nat.lt_of_le_of_lt (Nat.add_le_add_left (Nat.min_le_left _ _) _) (hu d hd)
    refine ⟨fun v hv => ?_, ?_⟩
    · obtain ⟨d, hd, as, r⟩ := e.left v hv
      exact ⟨_, dataKind_some hal hd r⟩
    · obtain ⟨kd, hk, h2⟩ := kind_tups (prog := prog) (w := w) (A := A) (s := s) e ht hx
      refine ⟨kd, ?_, fun _ E Q q => h2 E Q q⟩
      intro E x y a b Q ha hb hq
      obtain ⟨d, as, hd, ra, rfl⟩ := dataKind_inv ha
      obtain ⟨d', as', hd', rb, rfl⟩ := dataKind_inv hb
      have hdd := hal d hd d' hd'
      have hroom := room (d' := d') hd
      obtain ⟨x1, rfl⟩ := ht d hd
      obtain ⟨x2, rfl⟩ := ht d' hd'
      rcases hk with rfl | rfl
      · rw [keyLt'_oneType]
        exact oneLt_tups ra rb hdd hroom hq
      · rw [keyLt'_general]
        exact oneLt_alike (fun z => absurd z Bool.false_ne_true) ra rb hdd (fun z => by cases z) hroom hq
  · exact SortsAt.data e hal (.inl fun d hd => by
      obtain ⟨xs, rfl⟩ := ht d hd
      cases xs with
      | nil => exact absurd hd hx
      | cons x r => exact ⟨x, r, rfl⟩) hu
end
end Vw

set_option Elab.async false
set_option linter.all false
set_option maxRecDepth 100000
namespace Vw
open PySem PySem.W PyProof.Rows L2
/-! ### heaps -/
/-- all but the object at b stay -/
def Kp (b : Addr) (H H' : Hp) : Prop := ∀ a o, a ≠ b → H a = some o → H' a = some o
theorem Kp.refl {b : Addr} (H : Hp) : Kp b H H := fun _ _ _ h => h
theorem Kp.trans {b : Addr} {H H1 H2 : Hp} (x : Kp b H H1) (y : Kp b H1 H2) : Kp b H H2 := fun a o n h => y a o n (x a o n h)
theorem same_kp {b : Addr} {H H' : Hp} (x : Same H H') : Kp b H H' := fun a o _ h => x a o h
theorem Kp.upd {b : Addr} {H : Hp} {o : HO} : Kp b H (upd H b o) := fun a u n h => by rw [upd_ne n]; exact h
theorem same_new {H : Hp} {p : Addr} {o : HO} (h : H p = none) : Same H (upd H p o) := fun b u q => by rw [upd_ne (ne_of_none q h)]; exact q
/-- an object that H did not know may change -/
theorem same_mut {H H' : Hp} {p : Addr} {o : HO} (x : Same H H') (h : H p = none) : Same H (upd H' p o) := fun b u q => by rw [upd_ne (ne_of_none q h)]; exact x b u q
theorem kp_mut {b : Addr} {H H' : Hp} {p : Addr} {o : HO} (x : Kp b H H') (h : H p = none) : Kp b H (upd H' p o) := fun a u n q => by rw [upd_ne (ne_of_none q h)]; exact x a u n q
/-- all tuples stay -/
def Tp (H H' : Hp) : Prop := ∀ a xs, H a = some (.tup xs) → H' a = some (.tup xs)
theorem Tp.refl (H : Hp) : Tp H H := fun _ _ h => h
theorem Tp.trans {H H1 H2 : Hp} (x : Tp H H1) (y : Tp H1 H2) : Tp H H2 := fun a o h => y a o (x a o h)
theorem same_tp {H H' : Hp} (x : Same H H') : Tp H H' := fun a xs h => x a _ h
theorem Kp.tp {b : Addr} {H H' : Hp} {ys : List V} (x : Kp b H H') (hb : H b = some (.lst ys)) : Tp H H' := fun a xs h => x a _ (ne_of h hb (fun z => by cases z)) h
theorem tp_new {H : Hp} {p : Addr} {o : HO} (h : H p = none) : Tp H (upd H p o) := same_tp (same_new h)
theorem tp_lst {H : Hp} {p : Addr} {ys : List V} {o : HO} (h : H p = some (.lst ys)) : Tp H (upd H p o) := fun a xs q => by rw [upd_ne (ne_of q h (fun z => by cases z))]; exact q

/-! ### ordinals in the heap -/
def KT (K : PySem.W.Frag) (a : Addr) (xs : List V) : Prop := ∃ (o : Obj) (its : Array Value) (n : Nat), K.lookup a = some o ∧ o.cls = .type "tuple" ∧ o.data = .seq its n ∧ its.size ≤ sizeLine ∧ Vals xs its.toList
def TT (K : PySem.W.Frag) (H : Hp) (a : Addr) (xs : List V) : Prop := H a = some (.tup xs) ∨ KT K a xs
section
variable {K : PySem.W.Frag} {H H' : Hp}
theorem TT.tp {a : Addr} {xs : List V} (t : Tp H H') (h : TT K H a xs) : TT K H' a xs := h.imp (t a xs) id
theorem TT.sq {a : Addr} {xs : List V} (h : TT K H a xs) : SqT K H a xs := by
  rcases h with h | h
  · exact .inl (.inl h)
  · exact .inr h
theorem TT.of {a : Addr} {xs : List V} (h : H a = some (.tup xs)) : TT K H a xs := .inl h
theorem TT.ty {a : Addr} {xs : List V} (h : TT K H a xs) : TyX K H (.ref a) (.type "tuple") := by
  rcases h with h | ⟨o, its, n, h1, h2, _⟩
  · exact .base (.tup h)
  · exact .kTuple h1 h2
def TsA (K : PySem.W.Frag) (H : Hp) : List V → O → Prop
  | vs, .z => vs = []
  | vs, .add e c r => ∃ p q ws vr, vs = .ref p :: vr ∧ TT K H p [.ref q, .int c] ∧ TT K H q ws ∧ TsA K H ws e ∧ TsA K H vr r
def OA (K : PySem.W.Frag) (H : Hp) (v : V) (o : O) : Prop := ∃ a vs, v = .ref a ∧ TT K H a vs ∧ TsA K H vs o
/-- a term -/
def TmA (K : PySem.W.Frag) (H : Hp) (v : V) (t : O × Int) : Prop := ∃ p q, v = .ref p ∧ TT K H p [.ref q, .int t.2] ∧ OA K H (.ref q) t.1
theorem TsA.tp (t : Tp H H') : ∀ {o : O} {vs : List V}, TsA K H vs o → TsA K H' vs o
  | .z, _, h => h
  | .add e c r, _, h => by
    obtain ⟨p, q, ws, vr, rfl, h1, h2, h3, h4⟩ := h
    exact ⟨p, q, ws, vr, rfl, h1.tp t, h2.tp t, TsA.tp t h3, TsA.tp t h4⟩
theorem OA.tp {v : V} {o : O} (t : Tp H H') (h : OA K H v o) : OA K H' v o := by
  obtain ⟨a, vs, rfl, h1, h2⟩ := h
  exact ⟨a, vs, rfl, h1.tp t, h2.tp t⟩
theorem TmA.tp {v : V} {x : O × Int} (t : Tp H H') (h : TmA K H v x) : TmA K H' v x := by
  obtain ⟨p, q, rfl, h1, h2⟩ := h
  exact ⟨p, q, rfl, h1.tp t, h2.tp t⟩
theorem TsA.pair : ∀ {o : O} {vs : List V}, TsA K H vs o → Paired (TmA K H) vs (O.ts o)
  | .z, _, h => by cases h; exact .nil
  | .add e c r, _, h => by
    obtain ⟨p, q, ws, vr, rfl, h1, h2, h3, h4⟩ := h
    exact .cons ⟨p, q, rfl, h1, q, ws, rfl, h2, h3⟩ (TsA.pair h4)
theorem TsA.of : ∀ {l : List (O × Int)} {vs : List V}, Paired (TmA K H) vs l → TsA K H vs (O.of l)
  | _, _, .nil => rfl
  | _, _, .cons (b := (e, c)) ⟨p, q, h0, h1, q', ws, h2, h3, h4⟩ t => by
    cases h0
    cases h2
    exact ⟨p, q, ws, _, rfl, h1, h3, h4, TsA.of t⟩
theorem OA.of {a : Addr} {vs : List V} {l : List (O × Int)} (h : TT K H a vs) (p : Paired (TmA K H) vs l) : OA K H (.ref a) (O.of l) := ⟨a, vs, rfl, h, .of p⟩
theorem paired_mono {α β : Type} {F G : α → β → Prop} (h : ∀ a b, F a b → G a b) : ∀ {xs : List α} {ys : List β}, Paired F xs ys → Paired G xs ys
  | _, _, .nil => .nil
  | _, _, .cons a t => .cons (h _ _ a) (paired_mono h t)
theorem paired_app {α β : Type} {F : α → β → Prop} : ∀ {xs xs2 : List α} {ys ys2 : List β}, Paired F xs ys → Paired F xs2 ys2 → Paired F (xs ++ xs2) (ys ++ ys2)
  | _, _, _, _, .nil, t => t
  | _, _, _, _, .cons a t, u => .cons a (paired_app t u)
theorem paired_get {α β : Type} {F : α → β → Prop} : ∀ {xs : List α} {ys : List β} {i : Nat} {x : α}, Paired F xs ys → xs[i]? = some x → ∃ y, ys[i]? = some y ∧ F x y
  | _, _, _, _, .nil, h => by simp at h
  | _, _, 0, _, .cons a t, h => by
    simp at h; subst h
    exact ⟨_, rfl, a⟩
  | _, _, i + 1, _, .cons a t, h => by
    obtain ⟨y, h1, h2⟩ := paired_get (i := i) t (by simpa using h)
    exact ⟨y, by simpa using h1, h2⟩
theorem paired_get' {α β : Type} {F : α → β → Prop} : ∀ {xs : List α} {ys : List β} {i : Nat} {y : β}, Paired F xs ys → ys[i]? = some y → ∃ x, xs[i]? = some x ∧ F x y
  | _, _, _, _, .nil, h => by simp at h
  | _, _, 0, _, .cons a t, h => by
    simp at h; subst h
    exact ⟨_, rfl, a⟩
  | _, _, i + 1, _, .cons a t, h => by
    obtain ⟨y, h1, h2⟩ := paired_get' (i := i) t (by simpa using h)
    exact ⟨y, by simpa using h1, h2⟩
theorem paired_len {α β : Type} {F : α → β → Prop} : ∀ {xs : List α} {ys : List β}, Paired F xs ys → xs.length = ys.length
  | _, _, .nil => rfl
  | _, _, .cons _ t => congrArg Nat.succ (paired_len t)
theorem paired_take {α β : Type} {F : α → β → Prop} : ∀ {xs : List α} {ys : List β} (n : Nat), Paired F xs ys → Paired F (xs.take n) (ys.take n)
  | _, _, 0, _ => .nil
  | _, _, _ + 1, .nil => .nil
  | _, _, n + 1, .cons a t => .cons a (paired_take n t)
theorem paired_drop {α β : Type} {F : α → β → Prop} : ∀ {xs : List α} {ys : List β} (n : Nat), Paired F xs ys → Paired F (xs.drop n) (ys.drop n)
  | _, _, 0, h => h
  | _, _, _ + 1, .nil => .nil
  | _, _, n + 1, .cons a t => paired_drop n t
theorem paired_filter {α β : Type} {F : α → β → Prop} (f : α → Bool) (g : β → Bool) (h : ∀ a b, F a b → f a = g b) : ∀ {xs : List α} {ys : List β}, Paired F xs ys → Paired F (xs.filter f) (ys.filter g)
  | _, _, .nil => .nil
  | _, _, .cons (a := a) (b := b) x t => by
    rw [List.filter_cons, List.filter_cons, h a b x]
    cases g b with
    | true => exact .cons x (paired_filter f g h t)
    | false => exact paired_filter f g h t
mutual
theorem TsA.dp : ∀ {o : O} {vs : List V}, TsA K H vs o → DpAll K H vs (O.toDs o)
  | .z, _, h => by cases h; exact .nil
  | .add e c r, _, h => by
    obtain ⟨p, q, ws, vr, rfl, h1, h2, h3, h4⟩ := h
    exact .cons (.tup h1.sq (.cons (.tup h2.sq (TsA.dp h3)) (.cons (.int c) .nil))) (TsA.dp h4)
end
theorem OA.dp {v : V} {o : O} (h : OA K H v o) : Dp K H v (O.toD o) := by
  obtain ⟨a, vs, rfl, h1, h2⟩ := h
  exact .tup h1.sq h2.dp
theorem OA.ref {v : V} {o : O} (h : OA K H v o) : ∃ a, v = .ref a := by
  obtain ⟨a, vs, rfl, _⟩ := h
  exact ⟨a, rfl⟩
theorem OA.nil {a : Addr} (h : TT K H a []) : OA K H (.ref a) .z := ⟨a, [], rfl, h, rfl⟩
/-! ### what the comparisons ask -/
variable {x y : V} {a b : O} {Q : VK}
theorem rd_lt (ha : OA K H x a) (hb : OA K H y b) (h : O.dp a ≤ 60) (q : Q (.bl (O.lt a b)) H) : rCmp (fun d e => dataLt d e) K x y H Q := by
  unfold rCmp
  exact ⟨_, _, ha.dp, hb.dp, O.alike_toD a b, (fun z => by cases z), by rw [O.depth_toD]; omega, by show Q (.bl (dataLt _ _)) H; rw [O.lt_toD]; exact q⟩
theorem rd_gt (ha : OA K H x a) (hb : OA K H y b) (h : O.dp a ≤ 60) (q : Q (.bl (O.lt b a)) H) : rCmp (fun d e => dataLt e d) K x y H Q := by
  unfold rCmp
  exact ⟨_, _, ha.dp, hb.dp, O.alike_toD a b, (fun z => by cases z), by rw [O.depth_toD]; omega, by show Q (.bl (dataLt _ _)) H; rw [O.lt_toD]; exact q⟩
theorem rd_le (ha : OA K H x a) (hb : OA K H y b) (h : O.dp a ≤ 60) (q : Q (.bl (!O.lt b a)) H) : rCmp (fun d e => !dataLt e d) K x y H Q := by
  unfold rCmp
  exact ⟨_, _, ha.dp, hb.dp, O.alike_toD a b, (fun z => by cases z), by rw [O.depth_toD]; omega, by show Q (.bl (!dataLt _ _)) H; rw [O.lt_toD]; exact q⟩
theorem rd_ge (ha : OA K H x a) (hb : OA K H y b) (h : O.dp a ≤ 60) (q : Q (.bl (!O.lt a b)) H) : rCmp (fun d e => !dataLt d e) K x y H Q := by
  unfold rCmp
  exact ⟨_, _, ha.dp, hb.dp, O.alike_toD a b, (fun z => by cases z), by rw [O.depth_toD]; omega, by show Q (.bl (!dataLt _ _)) H; rw [O.lt_toD]; exact q⟩
@[irreducible] def rEqO (K : PySem.W.Frag) : R2 := rEqD K
@[irreducible] def rNeO (K : PySem.W.Frag) : R2 := rNeD K
theorem rd_eq (ha : OA K H x a) (hb : OA K H y b) (h : O.dp a ≤ 60) (h2 : O.dp b ≤ 60) (q : Q (.bl (decide (a = b))) H) : rEqO K x y H Q := by
  unfold rEqO
  exact ⟨_, _, ha.dp, hb.dp, O.shaped_toD h, O.shaped_toD h2, by rw [O.eqv_toD]; exact q⟩
theorem rd_ne (ha : OA K H x a) (hb : OA K H y b) (h : O.dp a ≤ 60) (h2 : O.dp b ≤ 60) (q : Q (.bl (!decide (a = b))) H) : rNeO K x y H Q := by
  unfold rNeO
  exact ⟨_, _, ha.dp, hb.dp, O.shaped_toD h, O.shaped_toD h2, by rw [O.eqv_toD]; exact q⟩
end
theorem op_eqO {X : Cx} (hu : X.A.units + 64 < cLine) : OpR X (compareOp .Eq) (rEqO X.K) := by unfold rEqO; exact op_eqD hu
theorem op_neO {X : Cx} (hu : X.A.units + 64 < cLine) : OpR X (compareOp .NotEq) (rNeO X.K) := by unfold rNeO; exact op_neD hu
/-! ### sorted(.., reverse=True) of ordinals -/
def rSortedO (K : PySem.W.Frag) : List V → List V → Hp → VK → Prop := fun vs zs H Q => ∃ (a : Addr) (xs : List V) (os : List O), vs = [V.ref a] ∧ zs = [.bl true] ∧ SqL K H a xs ∧ Paired (OA K H) xs os ∧ (∀ o ∈ os, O.dp o ≤ 60) ∧
  ∀ (ys : List V) (os' : List O) (p : Addr), Paired (OA K H) ys os' → os'.Perm os → os'.Pairwise (fun a b => O.lt a b = false) → H p = none → Q (.ref p) (upd H p (.lst ys))
theorem dataLe_toD (a b : O) : dataLe true O.toD a b = !O.lt a b := by
  show sortLe (listOrd itemOrd) true (fun b => keyToks (O.toD b)) a b = _
  rw [← O.lt_toD]
  rfl
section
variable {X : Cx}
theorem each_of {R : Value → O → Prop} {F : V → O → Prop} (h : ∀ x u o, F x o → RelV x u → R u o) : ∀ {xs : List V} {os : List O} {us : List Value}, Paired F xs os → Vals xs us → EachIs R us os
  | _, _, _, .nil, .nil => .nil
  | _, _, _, .cons a t, .cons b u => .cons (h _ _ _ a b) (each_of h t u)
theorem each_back {F : V → O → Prop} : ∀ {us : List Value} {os : List O}, EachIs (fun u o => ∃ x, RelV x u ∧ F x o) us os → ∃ ys, Vals ys us ∧ Paired F ys os
  | _, _, .nil => ⟨[], .nil, .nil⟩
  | _, _, .cons ⟨x, a, b⟩ t => by
    obtain ⟨ys, h1, h2⟩ := each_back t
    exact ⟨x :: ys, .cons a h1, .cons b h2⟩
theorem cr_sortedO (hu : X.A.units + 64 < cLine) : CallRK X (.builtin "sorted") [Str.ofString "reverse"] (rSortedO X.K) := by
  intro pins s σ H vs zs us ws Q I r rz h
  obtain ⟨a, xs, os, rfl, rfl, hs, hp, hd, q⟩ := h
  obtain rfl := Vals.ref1 r
  obtain ⟨w1, rfl, e1⟩ := vals1 rz
  obtain rfl : w1 = Value.bool true := e1
  obtain ⟨its, rv, hl, hz⟩ := I.list hs
  have e0 : EachIs (fun u o => ∃ x, RelV x u ∧ OA X.K H x o) its os := each_of (fun x u o a b => ⟨x, b, a⟩) hp rv
  have er : EachIs (fun v o => ∃ as, Reads s.heap v (O.toD o) as) its os := e0.mono fun u o ⟨x, rx, ox⟩ => Dp.reads I _ _ _ ox.dp rx
  have er' : EachIs (fun v o => ∃ as, Reads (sortingHeap (copyHeap s.heap its) (s.heap.objs.size + 1) its) v (O.toD o) as) its os := er.mono fun _ _ ⟨as, r⟩ => ⟨as, PyProof.Rows.Reads.keeps (fun _ _ => sorting_copy_old) r⟩
  have hal : AllAlike (os.map O.toD) := AllAlike.of O.alike_toD
  refine sorted_rev_vals (b := true) hl.isList (SortsAt.tups (s := { s with heap := sortingHeap (copyHeap s.heap its) (s.heap.objs.size + 1) its }) (each_map (R := fun v d => ∃ as, Reads (sortingHeap (copyHeap s.heap its) (s.heap.objs.size + 1) its) v d as) O.toD er') hal (fun d hd => ?_) (fun d hm => ?_)) (by rw [← rv.length]; exact hz) ?_
  · obtain ⟨o, _, rfl⟩ := List.mem_map.mp hd
    exact ⟨_, rfl⟩
  · obtain ⟨o, ho, rfl⟩ := List.mem_map.mp hm
    rw [O.depth_toD]
    have := hd o ho
    show X.A.units + 1 + 1 + _ < _
    omega
  · have e2 := sortVals_data (h' := sortingHeap (copyHeap s.heap its) (s.heap.objs.size + 1) its) (enc := O.toD) true e0 er' hal
    obtain ⟨ys, v1, v2⟩ := each_back e2
    obtain ⟨ep, he'⟩ := PyProof.Rows.sortedAll_at s.heap its (sortVals (dataKind (sortingHeap (copyHeap s.heap its) (s.heap.objs.size + 1) its) (os.map O.toD)) true its its).toArray
    have hlen : ys.length ≤ sizeLine := by
      rw [paired_len v2, (List.mergeSort_perm os _).length_eq, ← paired_len hp]
      exact hz
    refine ⟨.ref _, upd H (s.heap.objs.size + 1) (.lst ys), I.laid (t' := s.toks) (fun _ _ => PyProof.Rows.sortedAll_old) (Nat.le_succ _) ⟨hlen, _, ep, v1, he'⟩, rfl, q _ _ _ v2 (List.mergeSort_perm os _) ?_ (I.hok.fresh (Nat.le_succ _))⟩
    refine (List.pairwise_mergeSort (le := dataLe true O.toD) (fun a b c h1 h2 => ?_) (fun a b => ?_) os).imp fun {a b} h => ?_
    · rw [dataLe_toD] at h1 h2 ⊢
      simp only [Bool.not_eq_true'] at h1 h2 ⊢
      exact O.ge_trans h1 h2
    · rw [dataLe_toD, dataLe_toD]
      by_cases e : a = b
      · subst e; rw [O.lt_irrefl]; rfl
      · rcases O.lt_total a b e with k | k
        · rw [k, O.lt_asymm k]; rfl
        · rw [k, O.lt_asymm k]; rfl
    · rw [dataLe_toD] at h
      simpa using h
end
/-! ### f(k = v, ..) -/
section
variable {X : Cx} {CX : CXT} {k : Nat} {f : Addr} {fd : FuncData} {ps ks : List Str} {sp : Sp} {E : XK} {x : Str} {p pos : Pos} {kws : List Keyword} {tk : TA} {g : List Value → List Value → List Value} {gV : List V → List V → List V}
theorem pe_callK0 (F : FnOk X.prog X.w X.K X.mg X.base CX k f fd ps sp) (hr : Room k X.A) (hg : Gl X x) (hm : X.mg x = some (.ref f)) (hk : PySem.W.keepIn X.K (.ref f) = true) (hb : KBinds X.K fd ps ks g gV) (hx : Passes CX X E)
    (hkw : PK X kws tk) (hall : (backToKw pos (keywordEach kws X.env)).all (·.1.isSome) = true := by rfl) (hks : (backToKw pos (keywordEach kws X.env)).filterMap (·.1) = ks := by rfl)
    (hdb : (x == ("__debug__" : Str)) = false := by decide)
    (hpl : ((backTo pos (starEach [] X.env)).any (·.1) || (backToKw pos (keywordEach kws X.env)).any (·.1.isNone)) = false := by rfl) :
    PE X (.Call (.Name x p) [] kws pos) (tCallK sp gV E tNil tk) := by
  refine ⟨fun pins s σ H Q I h => ?_⟩
  refine wpAny_Call_Name_kw (ld_glob I hg hm ?_ hdb)
  refine PySem.W.callWith_KW0 (h₀ := X.base) I.ok.mod.kin hk hall ?_ hpl
  refine thn (hkw.run pos pins s σ H _ I h) fun ws s2 ⟨zs, H2, I2, rz, q2⟩ => ⟨I2.kIn, ?_⟩
  rw [hks]
  exact run_fnk (us := []) (vs := []) F hr hb hx I2 .nil rz q2
end
/-! ### a def that keeps its promise, as it is called -/
structure Cal (P : Program) (w : World) (K : PySem.W.Frag) (mg : Str → Option Value) (base : Heap) (k : Nat) (x : Str) (ps : List Str) (sp : Sp) (f : Addr) (fd : FuncData) : Prop where
  G : FnOk P w K mg base CX0 k f fd ps sp
  m : mg x = some (.ref f)
  kp : PySem.W.keepIn K (.ref f) = true
  b : Binds K fd ps []
end Vw

set_option Elab.async false
set_option linter.all false
set_option maxRecDepth 100000
namespace Vw
open PySem PySem.W PyProof.Rows L2
namespace O
def num (n : Int) : O := if 0 < n then add z n z else z
theorem ok_num (n : Int) : ok (num n) = true := by
  unfold num
  split
  · exact ok_add.mpr ⟨rfl, by omega, rfl, rfl⟩
  · rfl
theorem dp_num (n : Int) : dp (num n) ≤ 2 := by
  unfold num
  split
  · show max (0 + 2) 0 ≤ 2; omega
  · show 0 ≤ 2; omega
theorem len_num (n : Int) : (ts (num n)).length ≤ 1 := by
  unfold num
  split
  · exact Nat.le_refl _
  · exact Nat.zero_le _
def lastE (l : List (O × Int)) : Option O := l.getLast?.map (·.1)
theorem under_of {e : O} : ∀ {l : List (O × Int)}, l ≠ [] → under e (of l) = (match l with | [] => true | t :: _ => lt t.1 e)
  | [], h => absurd rfl h
  | t :: _, _ => rfl
theorem ok_snoc : ∀ (l : List (O × Int)) (p : O) (c : Int), ok (of l) = true → ok p = true → 1 ≤ c → (∀ t, l.getLast? = some t → lt p t.1 = true) → ok (of (l ++ [(p, c)])) = true
  | [], p, c, _, hp, hc, _ => ok_add.mpr ⟨hp, hc, rfl, rfl⟩
  | [t], p, c, h, hp, hc, hl => by
    have g := ok_add.mp h
    exact ok_add.mpr ⟨g.1, g.2.1, ok_add.mpr ⟨hp, hc, rfl, rfl⟩, hl t rfl⟩
  | t :: u :: r, p, c, h, hp, hc, hl => by
    have g := ok_add.mp h
    refine ok_add.mpr ⟨g.1, g.2.1, ok_snoc (u :: r) p c g.2.2.1 hp hc (fun x hx => hl x (by rw [List.getLast?_cons_cons]; exact hx)), g.2.2.2⟩
theorem dp_of : ∀ (l : List (O × Int)) (n : Nat), (∀ t ∈ l, dp t.1 + 2 ≤ n) → dp (of l) ≤ n
  | [], n, _ => Nat.zero_le _
  | t :: r, n, h => by
    have h1 := h t List.mem_cons_self
    have h2 := dp_of r n fun x hx => h x (List.mem_cons_of_mem _ hx)
    show max (dp t.1 + 2) (dp (of r)) ≤ n
    omega
/-- the greatest number of terms, however deep -/
def wd : O → Nat
  | z => 0
  | add e c r => max (wd e) (max ((ts r).length + 1) (wd r))
theorem len_wd : ∀ a : O, (ts a).length ≤ wd a
  | z => Nat.le_refl _
  | add e c r => by show (ts r).length + 1 ≤ max (wd e) (max ((ts r).length + 1) (wd r)); omega
theorem wd_mem : ∀ {o : O} {t : O × Int}, t ∈ ts o → wd t.1 ≤ wd o
  | z, t, h => by cases h
  | add e c r, t, h => by
    rcases List.mem_cons.mp h with q | q
    · subst q; show wd e ≤ max (wd e) (max _ (wd r)); omega
    · have := wd_mem q; show _ ≤ max (wd e) (max _ (wd r)); omega
theorem wd_of : ∀ (l : List (O × Int)) (n : Nat), l.length ≤ n → (∀ t ∈ l, wd t.1 ≤ n) → wd (of l) ≤ n
  | [], n, _, _ => Nat.zero_le _
  | t :: r, n, hl, h => by
    have h1 := h t List.mem_cons_self
    have hl : r.length + 1 ≤ n := hl
    have h2 := wd_of r n (by omega) fun x hx => h x (List.mem_cons_of_mem _ hx)
    show max (wd t.1) (max ((ts (of r)).length + 1) (wd (of r))) ≤ n
    rw [ts_of]
    omega
theorem wd_num (n : Int) : wd (num n) ≤ 1 := by
  unfold num
  split
  · exact Nat.le_refl _
  · exact Nat.zero_le _
theorem dp_mem : ∀ {o : O} {t : O × Int}, t ∈ ts o → dp t.1 + 2 ≤ dp o
  | z, t, h => by cases h
  | add e c r, t, h => by
    rcases List.mem_cons.mp h with q | q
    · subst q; show dp e + 2 ≤ max (dp e + 2) (dp r); omega
    · have := dp_mem q; show _ ≤ max (dp e + 2) (dp r); omega
theorem ok_mem : ∀ {o : O} {t : O × Int}, ok o = true → t ∈ ts o → ok t.1 = true ∧ 1 ≤ t.2
  | z, t, _, h => by cases h
  | add e c r, t, hk, h => by
    have g := ok_add.mp hk
    rcases List.mem_cons.mp h with q | q
    · subst q; exact ⟨g.1, g.2.1⟩
    · exact ok_mem g.2.2.1 q
theorem dp_sum : ∀ (a b : O), dp (sum a b) ≤ max (dp a) (dp b)
  | a, z => by rw [sum_z]; omega
  | z, b => by rw [z_sum]; omega
  | add e1 c1 r1, add e2 c2 r2 => by
    by_cases q : e1 = e2
    · subst q; rw [sum_eq]; show max (dp e1 + 2) (dp r2) ≤ max (max _ _) (max _ _); omega
    · rcases lt_total e1 e2 q with k | k
      · rw [sum_lt k]; omega
      · rw [sum_gt k]
        have := dp_sum r1 (add e2 c2 r2)
        show max (dp e1 + 2) (dp (sum r1 (add e2 c2 r2))) ≤ max (max (dp e1 + 2) (dp r1)) _
        omega
theorem len_sum : ∀ (a b : O), (ts (sum a b)).length ≤ (ts a).length + (ts b).length
  | a, z => by rw [sum_z]; omega
  | z, b => by rw [z_sum]; omega
  | add e1 c1 r1, add e2 c2 r2 => by
    by_cases q : e1 = e2
    · subst q; rw [sum_eq]; simp only [ts, List.length_cons]; omega
    · rcases lt_total e1 e2 q with k | k
      · rw [sum_lt k]; omega
      · rw [sum_gt k]
        have := len_sum r1 (add e2 c2 r2)
        simp only [ts, List.length_cons] at this ⊢
        omega
end O
/-! ### data by kind -/
def tyN : PyData → String
  | .none => "NoneType"
  | .bool _ => "bool"
  | .int _ => "int"
  | .str _ => "str"
  | .list _ => "list"
  | .tuple _ => "tuple"
  | .dict _ => "dict"
section
variable {K : PySem.W.Frag} {H H' : Hp}
theorem dp_ty {x : V} {d : PyData} (h : Dp K H x d) : TyX K H x (.type (tyN d)) := by
  cases h with
  | non => exact .base .non
  | bl b => exact .base (.bl b)
  | int i => exact .base (.int i)
  | str s => exact .base (.str s)
  | lst hs _ =>
    rcases hs with (h | ⟨o, h⟩) | ⟨o, its, n, h1, h2, _⟩
    · exact .base (.lst h)
    · exact .base (.frz h)
    · exact .kList h1 h2
  | tup hs _ =>
    rcases hs with (h | ⟨o, h⟩) | ⟨o, its, n, h1, h2, _⟩
    · exact .base (.tup h)
    · exact .fTuple h
    · exact .kTuple h1 h2
def isinN (n T : String) : Bool := n == T || (n == "bool" && T == "int")
def isin (d : PyData) (T : String) : Bool := isinN (tyN d) T
theorem kits {T : String} (h0 : kitB "NoneType" T = some (isinN "NoneType" T)) (h1 : kitB "bool" T = some (isinN "bool" T)) (h2 : kitB "int" T = some (isinN "int" T)) (h3 : kitB "str" T = some (isinN "str" T)) (h4 : kitB "list" T = some (isinN "list" T)) (h5 : kitB "tuple" T = some (isinN "tuple" T)) :
    ∀ d : PyData, (∀ kv, d ≠ .dict kv) → kitOne K (.type (tyN d)) (.type T) = some (isin d T)
  | .none, _ => kit_ty h0
  | .bool _, _ => kit_ty h1
  | .int _, _ => kit_ty h2
  | .str _, _ => kit_ty h3
  | .list _, _ => kit_ty h4
  | .tuple _, _ => kit_ty h5
  | .dict kv, h => absurd rfl (h kv)
theorem kit_list (d : PyData) (hd : ∀ kv, d ≠ .dict kv) : kitOne K (.type (tyN d)) (.type "list") = some (isin d "list") := kits (by decide +kernel) (by decide +kernel) (by decide +kernel) (by decide +kernel) (by decide +kernel) (by decide +kernel) d hd
theorem kit_tuple (d : PyData) (hd : ∀ kv, d ≠ .dict kv) : kitOne K (.type (tyN d)) (.type "tuple") = some (isin d "tuple") := kits (by decide +kernel) (by decide +kernel) (by decide +kernel) (by decide +kernel) (by decide +kernel) (by decide +kernel) d hd
theorem kit_bool (d : PyData) (hd : ∀ kv, d ≠ .dict kv) : kitOne K (.type (tyN d)) (.type "bool") = some (isin d "bool") := kits (by decide +kernel) (by decide +kernel) (by decide +kernel) (by decide +kernel) (by decide +kernel) (by decide +kernel) d hd
theorem kit_int (d : PyData) (hd : ∀ kv, d ≠ .dict kv) : kitOne K (.type (tyN d)) (.type "int") = some (isin d "int") := kits (by decide +kernel) (by decide +kernel) (by decide +kernel) (by decide +kernel) (by decide +kernel) (by decide +kernel) d hd
theorem kit_str (d : PyData) (hd : ∀ kv, d ≠ .dict kv) : kitOne K (.type (tyN d)) (.type "str") = some (isin d "str") := kits (by decide +kernel) (by decide +kernel) (by decide +kernel) (by decide +kernel) (by decide +kernel) (by decide +kernel) d hd
theorem dp_nodict {x : V} {d : PyData} (h : Dp K H x d) : ∀ kv, d ≠ .dict kv := fun kv e => by subst e; cases h
@[irreducible] def rIsD (K : PySem.W.Frag) : List V → Hp → VK → Prop := rIsi K
@[irreducible] def rIsDT (K : PySem.W.Frag) : List V → Hp → VK → Prop := rIsiT K
theorem call_isD {X : Cx} : CallR X (.builtin "isinstance") (rIsD X.K) := by unfold rIsD; exact call_isi
theorem call_isDT {X : Cx} : CallR X (.builtin "isinstance") (rIsDT X.K) := by unfold rIsDT; exact call_isiT
variable {Q : VK} {x : V} {d : PyData}
theorem rd_list (h : Dp K H x d) (q : Q (.bl (isin d "list")) H) : rIsD K [x, .ty "list"] H Q := by unfold rIsD; exact ⟨x, _, _, _, _, rfl, .ty _, dp_ty h, kit_list d (dp_nodict h), q⟩
theorem rd_tuple (h : Dp K H x d) (q : Q (.bl (isin d "tuple")) H) : rIsD K [x, .ty "tuple"] H Q := by unfold rIsD; exact ⟨x, _, _, _, _, rfl, .ty _, dp_ty h, kit_tuple d (dp_nodict h), q⟩
theorem rd_bool (h : Dp K H x d) (q : Q (.bl (isin d "bool")) H) : rIsD K [x, .ty "bool"] H Q := by unfold rIsD; exact ⟨x, _, _, _, _, rfl, .ty _, dp_ty h, kit_bool d (dp_nodict h), q⟩
theorem rd_int (h : Dp K H x d) (q : Q (.bl (isin d "int")) H) : rIsD K [x, .ty "int"] H Q := by unfold rIsD; exact ⟨x, _, _, _, _, rfl, .ty _, dp_ty h, kit_int d (dp_nodict h), q⟩
theorem rd_str (h : Dp K H x d) (q : Q (.bl (isin d "str")) H) : rIsD K [x, .ty "str"] H Q := by unfold rIsD; exact ⟨x, _, _, _, _, rfl, .ty _, dp_ty h, kit_str d (dp_nodict h), q⟩
def isLT : PyData → Bool
  | .list _ => true
  | .tuple _ => true
  | _ => false
theorem rd_lt2 {tp : Addr} (h : Dp K H x d) (ht : H tp = some (.tup [.ty "list", .ty "tuple"])) (q : Q (.bl (isLT d)) H) : rIsDT K [x, .ref tp] H Q := by
  unfold rIsDT
  refine ⟨x, tp, _, _, [.type "list", .type "tuple"], isLT d, rfl, ht, .cons (.ty _) (.cons (.ty _) .nil), dp_ty h, ?_, q⟩
  refine kitAny_cons (kit_list d (dp_nodict h)) (fun e => kitAny_cons (kit_tuple d (dp_nodict h)) (fun e2 => ?_) fun e2 => ?_) fun e => ?_
  · rw [kitAny_nil]
    cases d <;> first | rfl | (revert e e2; show _ = false → _ = false → _; decide +revert) | exact absurd e (by show ¬ (isinN "list" "list" = false); decide) | exact absurd e2 (by show ¬ (isinN "tuple" "tuple" = false); decide)
  · cases d <;> first | rfl | exact absurd e2 (by show ¬ (isinN "NoneType" "tuple" = true); decide) | exact absurd e2 (by show ¬ (isinN "bool" "tuple" = true); decide) | exact absurd e2 (by show ¬ (isinN "int" "tuple" = true); decide) | exact absurd e2 (by show ¬ (isinN "str" "tuple" = true); decide) | exact absurd e2 (by show ¬ (isinN "dict" "tuple" = true); decide)
  · cases d <;> first | rfl | exact absurd e (by show ¬ (isinN "NoneType" "list" = true); decide) | exact absurd e (by show ¬ (isinN "bool" "list" = true); decide) | exact absurd e (by show ¬ (isinN "int" "list" = true); decide) | exact absurd e (by show ¬ (isinN "str" "list" = true); decide) | exact absurd e (by show ¬ (isinN "dict" "list" = true); decide)
theorem same_sqt {a : Addr} {xs : List V} (e : Same H H') (h : SqT K H a xs) : SqT K H' a xs := by
  rcases h with (h | ⟨o, h⟩) | h
  · exact .inl (.inl (e _ _ h))
  · exact .inl (.inr ⟨o, e _ _ h⟩)
  · exact .inr h
mutual
theorem dp_same (e : Same H H') : ∀ {d : PyData} {v : V}, Dp K H v d → Dp K H' v d
  | _, _, .non => .non
  | _, _, .bl b => .bl b
  | _, _, .int i => .int i
  | _, _, .str x => .str x
  | _, _, .lst h t => .lst (e.seq h) (dpall_same e t)
  | _, _, .tup h t => .tup (same_sqt e h) (dpall_same e t)
theorem dpall_same (e : Same H H') : ∀ {ds : List PyData} {vs : List V}, DpAll K H vs ds → DpAll K H' vs ds
  | _, _, .nil => .nil
  | _, _, .cons h t => .cons (dp_same e h) (dpall_same e t)
end
theorem dpall_len : ∀ {ds : List PyData} {vs : List V}, DpAll K H vs ds → vs.length = ds.length
  | _, _, .nil => rfl
  | _, _, .cons h t => congrArg Nat.succ (dpall_len t)
theorem dpall_get : ∀ {ds : List PyData} {vs : List V} {i : Nat} {v : V}, DpAll K H vs ds → vs[i]? = some v → ∃ d, ds[i]? = some d ∧ Dp K H v d
  | _, _, _, _, .nil, h => by simp at h
  | _, _, 0, _, .cons a t, h => by
    simp at h; subst h
    exact ⟨_, rfl, a⟩
  | _, _, i + 1, _, .cons a t, h => by
    obtain ⟨y, h1, h2⟩ := dpall_get (i := i) t (by simpa using h)
    exact ⟨y, by simpa using h1, h2⟩
theorem depth_get : ∀ {ds : List PyData} {i : Nat} {d : PyData}, ds[i]? = some d → d.depth ≤ PyData.depthAll ds
  | [], _, _, h => by simp at h
  | x :: r, 0, d, h => by
    simp at h; subst h
    simp only [PyData.depthAll]; omega
  | x :: r, i + 1, d, h => by
    have := depth_get (ds := r) (i := i) (by simpa using h)
    simp only [PyData.depthAll]; omega
theorem atI_ex {xs : List V} {i : Int} (h0 : 0 ≤ i) (h : i < (xs.length : Int)) : ∃ v, xs[i.toNat]? = some v ∧ atI xs i = some v := by
  obtain ⟨j, rfl⟩ := Int.eq_ofNat_of_zero_le h0
  have hj : j < xs.length := by omega
  exact ⟨xs[j], List.getElem?_eq_getElem hj, atI_nat (List.getElem?_eq_getElem hj)⟩
end
/-! ### len, with the bound that the model keeps -/
@[irreducible] def rLenB (K : PySem.W.Frag) : List V → Hp → VK → Prop := fun vs H Q => ∃ p ys, vs = [.ref p] ∧ (SqL K H p ys ∨ SqT K H p ys) ∧ (ys.length ≤ sizeLine → Q (.int (ys.length : Nat)) H)
theorem call_lenB {X : Cx} : CallR X (.builtin "len") (rLenB X.K) := by
  intro pins s σ H xs us Q I r h
  unfold rLenB at h
  obtain ⟨p, ys, rfl, hs, q⟩ := h
  have hz : ys.length ≤ sizeLine := by
    rcases hs with hs | hs
    · obtain ⟨_, _, _, z⟩ := I.list hs; exact z
    · obtain ⟨_, _, _, z⟩ := I.tuple hs; exact z
  exact call_len_seq pins s σ H _ us Q I r ⟨p, ys, rfl, hs, q hz⟩
theorem rd_len {K : PySem.W.Frag} {H : Hp} {Q : VK} {p : Addr} {ys : List V} (h : SqL K H p ys ∨ SqT K H p ys) (q : ys.length ≤ sizeLine → Q (.int (ys.length : Nat)) H) : rLenB K [.ref p] H Q := by
  unfold rLenB
  exact ⟨p, ys, rfl, h, q⟩
theorem line62 {n : Nat} (h : n ≤ sizeLine) : -(2 ^ 62) ≤ (n : Int) ∧ (n : Int) < 2 ^ 62 := by
  have : sizeLine ≤ 2 ^ 40 := by decide
  omega
/-! ### the bag of numbers -/
def Bag (l : Addr) (H : Hp) (b : Addr) : Prop := ∃ (ns : List Int) (i g s k : Int), l ≠ b ∧ H b = some (.lst [.ref l, .int i, .int g, .int s, .int k]) ∧ H l = some (.lst (ns.map V.int)) ∧ ns.length ≤ 63 ∧ 0 ≤ i ∧ 0 ≤ s ∧ s < 2147483647
theorem Bag.same {l : Addr} {H H' : Hp} {b : Addr} (x : Same H H') (h : Bag l H b) : Bag l H' b := by
  obtain ⟨ns, i, g, s, k, h1, h2, h3, h4⟩ := h
  exact ⟨ns, i, g, s, k, h1, x _ _ h2, x _ _ h3, h4⟩
theorem Bag.tp {l : Addr} {H H' : Hp} {b : Addr} (h : Bag l H b) (x : Kp b H H') : Tp H H' := by
  obtain ⟨ns, i, g, s, k, h1, h2, h3, h4⟩ := h
  exact x.tp h2
theorem Bag.ne {l : Addr} {H : Hp} {b p : Addr} (h : Bag l H b) (hp : H p = none) : p ≠ b := by
  obtain ⟨ns, i, g, s, k, h1, h2, h3, h4⟩ := h
  exact (ne_of_none h2 hp).symm
theorem Bag.nl {l : Addr} {H : Hp} {b p : Addr} (h : Bag l H b) (hp : H p = none) : p ≠ l := by
  obtain ⟨ns, i, g, s, k, h1, h2, h3, h4⟩ := h
  exact (ne_of_none h3 hp).symm
theorem Bag.mut {l : Addr} {H : Hp} {b p : Addr} {o : HO} (h : Bag l H b) (h1 : p ≠ b) (h2 : p ≠ l) : Bag l (upd H p o) b := by
  obtain ⟨ns, i, g, s, k, e1, e2, e3, e4⟩ := h
  exact ⟨ns, i, g, s, k, e1, by rw [upd_ne h1.symm]; exact e2, by rw [upd_ne h2.symm]; exact e3, e4⟩
def spBag (K : PySem.W.Frag) : Sp := fun vs H Q _ => ∃ (a : Addr) (ns : List Int), vs = [.ref a] ∧ SqL K H a (ns.map V.int) ∧ ns.length ≤ 63 ∧ ∀ (l b : Addr) (H' : Hp), H b = none → Same H H' → Bag l H' b → Q (.ref b) H'
/-- one number of the bag, below n -/
def spPull : Sp := fun vs H Q _ => ∃ (l b : Addr) (n : Int), vs = [.ref b, .int n] ∧ 1 ≤ n ∧ n < 2 ^ 100 ∧ Bag l H b ∧ ∀ (r : Int) (H' : Hp), 0 ≤ r → r < n → Kp b H H' → Bag l H' b → Q (.int r) H'
/-- one of some -/
def spOf (K : PySem.W.Frag) : Sp := fun vs H Q _ => ∃ (l b a : Addr) (xs : List V), vs = [.ref b, .ref a] ∧ Bag l H b ∧ ((a ≠ b ∧ H a = some (.lst xs)) ∨ TT K H a xs) ∧ xs ≠ [] ∧ ∀ (x : V) (H' : Hp), x ∈ xs → Kp b H H' → Bag l H' b → Q x H'
def spNum (K : PySem.W.Frag) : Sp := fun vs H Q _ => ∃ n : Int, vs = [.int n] ∧ ∀ (v : V) (H' : Hp), Same H H' → OA K H' v (O.num n) → Q v H'
/-- equal data are the same -/
def spSame (K : PySem.W.Frag) (n : Nat) : Sp := fun vs H Q _ => ∃ (x y : V) (d : PyData), vs = [x, y] ∧ Dp K H x d ∧ Dp K H y d ∧ d.depth < n ∧ ∀ H', Same H H' → Q (.bl true) H'
/-- a drawn ordinal -/
def spOrd (K : PySem.W.Frag) (d : Nat) : Sp := fun vs H Q _ => ∃ (l b : Addr), vs = [.ref b, .int (d : Int)] ∧ Bag l H b ∧ ∀ (o : O) (v : V) (H' : Hp), O.ok o = true → O.dp o ≤ 2 * d + 2 → O.wd o ≤ 3 → OA K H' v o → Kp b H H' → Bag l H' b → Q v H'
theorem cut_map (ns : List Int) (lo hi : Option Int) : ∃ ms : List Int, cutV (ns.map V.int) lo hi = ms.map V.int ∧ ms.length ≤ ns.length := by
  refine ⟨(ns.drop (HT.sIx (ns.map V.int).length 0 lo)).take (HT.sIx (ns.map V.int).length (ns.map V.int).length hi - HT.sIx (ns.map V.int).length 0 lo), ?_, ?_⟩
  · unfold cutV
    rw [List.map_take, List.map_drop]
  · rw [List.length_take, List.length_drop]; omega
/-- a def that keeps its promise, as it is called -/
theorem none_left {P : Program} {w : World} {K : PySem.W.Frag} {mg : Str → Option Value} {base : Heap} {f : Addr} {fd : FuncData} {ps : List Str} {sp : Sp} (no : ∀ vs H Q E, ¬ sp vs H Q E) : FnOk P w K mg base CX0 0 f fd ps sp :=
  ⟨fun vs H Q E h => absurd h (no vs H Q E), fun A outer s H args us vs Q E _ _ _ _ h => absurd h (no vs H Q E)⟩
/-- if, what holds behind the test said once -/
def tIfBy (c : L2.TT) (t u : TS) : TS := fun D σ H => ∃ A B : Hp → Prop, (c σ H fun b H1 => if b = true then A H1 else B H1) ∧ (∀ H1, A H1 → t D σ H1) ∧ ∀ H1, B H1 → u D σ H1
theorem ps_ifBy {X : Cx} {c : Expr} {a b : List Stmt} {tc : L2.TT} {t u : TS} {pos : Pos} (hc : PT X c tc) (ha : PSs X a t) (hb : PSs X b u) : PS X (.If c a b pos) (tIfBy tc t u) := by
  refine ⟨fun pins s σ H D I h => ?_⟩
  obtain ⟨A, B, h, h1, h2⟩ := h
  refine wpAny_If (thn (hc.run pins s σ H _ I h) fun d s1 ⟨H1, I1, q1⟩ => ?_)
  cases d with
  | true =>
    rw [if_pos rfl] at q1
    exact ha.run pins s1 σ H1 D I1 (h1 _ q1)
  | false =>
    rw [if_neg Bool.false_ne_true] at q1
    exact hb.run pins s1 σ H1 D I1 (h2 _ q1)
theorem eqv_nil (l : List PyData) : PyData.eqv (.list l) (.list []) = l.isEmpty := by
  cases l <;> simp [PyData.eqv, PyData.eqvAll]
theorem lay_terms : ∀ l : List (O × Int), PyData.canLayAll0 (l.map O.tD) = true
  | [] => by simp [PyData.canLayAll0]
  | t :: r => by simp [PyData.canLayAll0, O.tD, PyData.canLay0, O.lay_toD, lay_terms r]
theorem depth_terms (n : Nat) : ∀ l : List (O × Int), (∀ t ∈ l, O.dp t.1 + 2 ≤ n) → PyData.depthAll (l.map O.tD) ≤ n
  | [], _ => by simp [PyData.depthAll]
  | t :: r, h => by
    have h1 := h t List.mem_cons_self
    have h2 := depth_terms n r fun x hx => h x (List.mem_cons_of_mem _ hx)
    simp only [List.map_cons, PyData.depthAll, O.tD, PyData.depth, O.depth_toD]
    omega
theorem shaped_terms {l : List (O × Int)} (h : ∀ t ∈ l, O.dp t.1 ≤ 50) : SeqAt.shaped (.list (l.map O.tD)) = true := by
  have := depth_terms 52 l fun t ht => by have := h t ht; omega
  unfold SeqAt.shaped
  rw [show (PyData.list (l.map O.tD)).canLay0 = true by simp [PyData.canLay0, lay_terms], show (PyData.list (l.map O.tD)).depth = PyData.depthAll (l.map O.tD) + 1 by simp [PyData.depth], Bool.true_and, decide_eq_true_eq]
  omega
theorem shaped_nil : SeqAt.shaped (.list []) = true := by unfold SeqAt.shaped; simp [PyData.canLay0, PyData.canLayAll0, PyData.depth, PyData.depthAll]
section
variable {K : PySem.W.Frag} {H : Hp}
theorem TmA.dp {v : V} {t : O × Int} (h : TmA K H v t) : Dp K H v (O.tD t) := by
  obtain ⟨p, q, rfl, h1, h2⟩ := h
  exact .tup h1.sq (.cons h2.dp (.cons (.int _) .nil))
theorem terms_dp : ∀ {xs : List V} {l : List (O × Int)}, Paired (TmA K H) xs l → DpAll K H xs (l.map O.tD)
  | _, _, .nil => .nil
  | _, _, .cons a t => .cons a.dp (terms_dp t)
/-- a list of terms against the empty one -/
theorem rd_eqNil {x y : V} {p p2 : Addr} {xs : List V} {l : List (O × Int)} {Q : VK} (h1 : SqL K H p xs) (h2 : Paired (TmA K H) xs l) (h3 : SqL K H p2 []) (hd : ∀ t ∈ l, O.dp t.1 ≤ 50) (q : Q (.bl l.isEmpty) H) : rEqO K (.ref p) (.ref p2) H Q := by
  unfold rEqO
  refine ⟨_, _, .lst h1 (terms_dp h2), .lst h3 .nil, shaped_terms hd, shaped_nil, ?_⟩
  rw [eqv_nil]
  cases l <;> exact q
theorem rd_neNil {x y : V} {p p2 : Addr} {xs : List V} {l : List (O × Int)} {Q : VK} (h1 : SqL K H p xs) (h2 : Paired (TmA K H) xs l) (h3 : SqL K H p2 []) (hd : ∀ t ∈ l, O.dp t.1 ≤ 50) (q : Q (.bl (!l.isEmpty)) H) : rNeO K (.ref p) (.ref p2) H Q := by
  unfold rNeO
  refine ⟨_, _, .lst h1 (terms_dp h2), .lst h3 .nil, shaped_terms hd, shaped_nil, ?_⟩
  rw [eqv_nil]
  cases l <;> exact q
theorem paired_tp {H' : Hp} (t : Tp H H') {xs : List V} {os : List O} (h : Paired (OA K H) xs os) : Paired (OA K H') xs os := paired_mono (fun _ _ a => a.tp t) h
theorem terms_tp {H' : Hp} (t : Tp H H') {xs : List V} {l : List (O × Int)} (h : Paired (TmA K H) xs l) : Paired (TmA K H') xs l := paired_mono (fun _ _ a => a.tp t) h
theorem TmA.new {p q : Addr} {c : Int} {e : O} (h : OA K H (.ref q) e) (hp : H p = some (.tup [.ref q, .int c])) : TmA K H (.ref p) (e, c) := ⟨p, q, rfl, .of hp, h⟩
end
/-! ### tuples joined, cut -/
section
variable {K : PySem.W.Frag} {H : Hp} {Q : VK}
@[irreducible] def rCatO (K : PySem.W.Frag) : R2 := rCatA K
theorem op_catO {X : Cx} : OpR X (binaryOp .Add) (rCatO X.K) := by unfold rCatO; exact op_catA
theorem rd_cat {a b : Addr} {xs ys : List V} (ha : TT K H a xs) (hb : TT K H b ys) (hz : xs.length + ys.length ≤ 10000000) (q : ∀ (p : Addr) (H' : Hp), Same H H' → TT K H' p (xs ++ ys) → Q (.ref p) H') : rCatO K (.ref a) (.ref b) H Q := by
  unfold rCatO
  refine ⟨a, b, xs, ys, rfl, rfl, ha.sq, hb.sq, Nat.le_trans hz (by decide), fun e => q b H (Same.refl H) (by rw [e]; exact hb), fun _ e => q a H (Same.refl H) (by rw [e, List.append_nil]; exact ha), fun _ _ p np => q p _ (same_new np) (.of upd_same)⟩
@[irreducible] def rSlO (K : PySem.W.Frag) : V → Option Int → Option Int → Hp → VK → Prop := rSlA K
theorem sl_tupO {X : Cx} : SlR X (rSlO X.K) := by unfold rSlO; exact sl_tupA
theorem cut_from {α : Type} (xs : List V) (k : Nat) : cutV xs (some (k : Int)) none = xs.drop k := by
  unfold cutV
  rw [HT.sIx_nat, HT.sIx_none]
  rcases Nat.le_total k xs.length with h | h
  · rw [Nat.min_eq_left h, List.take_of_length_le (by rw [List.length_drop]; omega)]
  · rw [Nat.min_eq_right h, List.drop_of_length_le (Nat.le_refl _), List.drop_of_length_le h]; simp
theorem cut_to {α : Type} (xs : List V) (k : Nat) : cutV xs none (some (k : Int)) = xs.take k := by
  unfold cutV
  rw [HT.sIx_nat, HT.sIx_none, List.drop_zero, Nat.sub_zero]
  rcases Nat.le_total k xs.length with h | h
  · rw [Nat.min_eq_left h]
  · rw [Nat.min_eq_right h, List.take_of_length_le h, List.take_of_length_le (Nat.le_refl _)]
theorem rd_sl {a : Addr} {xs : List V} {lo hi : Option Int} (ha : TT K H a xs) (q : ∀ (p : Addr) (H' : Hp), Same H H' → TT K H' p (cutV xs lo hi) → Q (.ref p) H') : rSlO K (.ref a) lo hi H Q := by
  unfold rSlO
  refine ⟨a, xs, rfl, ha.sq, fun e => q a H (Same.refl H) ?_, fun _ p np => q p _ (same_new np) (.of upd_same)⟩
  have : cutV xs lo hi = xs := by
    unfold cutV
    rw [e.1, e.2, List.drop_zero, Nat.sub_zero, List.take_length]
  rw [this]; exact ha
theorem rd_from {a : Addr} {xs : List V} (k : Nat) (ha : TT K H a xs) (q : ∀ (p : Addr) (H' : Hp), Same H H' → TT K H' p (xs.drop k) → Q (.ref p) H') : rSlO K (.ref a) (some (k : Int)) none H Q := rd_sl ha fun p H' s t => q p H' s (by rw [cut_from (α := Nat)] at t; exact t)
theorem rd_to {a : Addr} {xs : List V} (k : Nat) (ha : TT K H a xs) (q : ∀ (p : Addr) (H' : Hp), Same H H' → TT K H' p (xs.take k) → Q (.ref p) H') : rSlO K (.ref a) none (some (k : Int)) H Q := rd_sl ha fun p H' s t => q p H' s (by rw [cut_to (α := Nat)] at t; exact t)
theorem take_filter {α : Type} (l : List α) (f : α → Bool) (i : Nat) (t : α) (h : l[i]? = some t) : (l.take (i + 1)).filter f = (l.take i).filter f ++ (if f t = true then [t] else []) := by
  rw [List.take_add_one, h, List.filter_append]
  congr 1
  show [t].filter f = _
  rw [List.filter_cons]
  split <;> rfl
theorem OA.tt {a : Addr} {o : O} (h : OA K H (.ref a) o) : ∃ vs, TT K H a vs ∧ Paired (TmA K H) vs (O.ts o) := by
  obtain ⟨a', vs, e, h1, h2⟩ := h
  cases e
  exact ⟨vs, h1, h2.pair⟩
theorem TmA.un {v : V} {t : O × Int} (h : TmA K H v t) : ∃ p q, v = .ref p ∧ TT K H p [.ref q, .int t.2] ∧ OA K H (.ref q) t.1 := h
theorem Same.tt {H' : Hp} {a : Addr} {xs : List V} (s : Same H H') (h : TT K H a xs) : TT K H' a xs := h.tp (same_tp s)
theorem OA.same {H' : Hp} {v : V} {o : O} (h : OA K H v o) (s : Same H H') : OA K H' v o := h.tp (same_tp s)
theorem TT.same {H' : Hp} {a : Addr} {xs : List V} (h : TT K H a xs) (s : Same H H') : TT K H' a xs := h.tp (same_tp s)
theorem TmA.same {H' : Hp} {v : V} {t : O × Int} (h : TmA K H v t) (s : Same H H') : TmA K H' v t := h.tp (same_tp s)
theorem terms_same {H' : Hp} {xs : List V} {l : List (O × Int)} (h : Paired (TmA K H) xs l) (s : Same H H') : Paired (TmA K H') xs l := paired_mono (fun _ _ a => a.same s) h
end
/-- the program's sum -/
theorem small40k {n : Nat} (h : n ≤ 4000000) : n < sizeLine := Nat.lt_of_le_of_lt h (by decide)
def spPlus (K : PySem.W.Frag) : Sp := fun vs H Q _ => ∃ (x y : V) (a b : O), vs = [x, y] ∧ OA K H x a ∧ OA K H y b ∧ O.ok a = true ∧ O.dp a ≤ 50 ∧ O.dp b ≤ 50 ∧ (O.ts a).length ≤ 4000000 ∧ (O.ts b).length ≤ 4000000 ∧ ∀ (v : V) (H' : Hp), Same H H' → OA K H' v (O.sum a b) → Q v H'
/-- a function of one ordinal -/
def spO1 (K : PySem.W.Frag) (g : O → O) : Sp := fun vs H Q _ => ∃ (x : V) (a : O), vs = [x] ∧ OA K H x a ∧ O.ok a = true ∧ O.dp a ≤ 50 ∧ (O.ts a).length ≤ 4000000 ∧ ∀ (v : V) (H' : Hp), Same H H' → OA K H' v (g a) → Q v H'
def endO (o : O) : O := match (O.ts o).getLast? with
  | some t => t.1
  | none => .z
theorem endO_last {o : O} {t : O × Int} (h : (O.ts o).getLast? = some t) : endO o = t.1 := by
  unfold endO
  rw [h]
theorem last_ex {o : O} (h : o ≠ .z) : ∃ t, (O.ts o).getLast? = some t := by
  cases o with
  | z => exact absurd rfl h
  | add e c r =>
    cases q : (O.ts (.add e c r)).getLast? with
    | some t => exact ⟨t, rfl⟩
    | none => exact absurd (List.getLast?_eq_none_iff.mp q) (by intro z; cases z)
section
variable {K : PySem.W.Frag} {H : Hp} {Q : VK}
/-- the last term -/
theorem last_term {xs : List V} {l : List (O × Int)} {t : O × Int} (h : Paired (TmA K H) xs l) (ht : l.getLast? = some t) : ∃ p q, atI xs (-1) = some (.ref p) ∧ TT K H p [.ref q, .int t.2] ∧ OA K H (.ref q) t.1 ∧ xs ≠ [] := by
  obtain ⟨v, hv, vt⟩ : ∃ v, xs.getLast? = some v ∧ TmA K H v t := by
    rw [List.getLast?_eq_getElem?] at ht
    obtain ⟨v, h1, h2⟩ := paired_get' h ht
    rw [← paired_len h] at h1
    exact ⟨v, by rw [List.getLast?_eq_getElem?]; exact h1, h2⟩
  obtain ⟨p, q, rfl, g1, g2⟩ := vt
  have hn : xs ≠ [] := fun z => by rw [z] at hv; cases hv
  refine ⟨p, q, ?_, g1, g2, hn⟩
  have : xs = xs.dropLast ++ [.ref p] := by
    rw [List.getLast?_eq_some_getLast hn] at hv
    have := Option.some.inj hv
    rw [← this, List.dropLast_concat_getLast]
  rw [this]; exact atI_last _ _
theorem cut_m1 {α : Type} (xs : List V) : cutV xs none (some (-1)) = xs.dropLast := by
  unfold cutV
  rw [HT.sIx_none, List.drop_zero, Nat.sub_zero]
  have : HT.sIx xs.length xs.length (some (-1)) = xs.length - 1 := by
    show (if (-1 : Int) < 0 then ((-1 : Int) + (xs.length : Int)).toNat else min (-1 : Int).toNat xs.length) = _
    rw [if_pos (by decide)]
    omega
  rw [this, List.dropLast_eq_take]
theorem paired_dropLast {α β : Type} {F : α → β → Prop} {xs : List α} {ys : List β} (h : Paired F xs ys) : Paired F xs.dropLast ys.dropLast := by
  rw [List.dropLast_eq_take, List.dropLast_eq_take, paired_len h]
  exact paired_take _ h
end
/-! ### levels, alternatives -/
section
variable {P : Program} {w : World} {K : PySem.W.Frag} {mg : Str → Option Value} {base : Heap} {f : Addr} {fd : FuncData} {ps : List Str} {k k' : Nat} {x : Str} {sp sp' : Sp}
theorem fn_mono (G : FnOk P w K mg base CX0 k f fd ps sp) (h : k ≤ k') : FnOk P w K mg base CX0 k' f fd ps sp :=
  ⟨G.len, fun A outer s H args us vs Q E a b c e h' => G.run A outer s H args us vs Q E (a.mono h) b c e h'⟩
theorem fn_some {ι : Type} {p : ι → Prop} {sps : ι → Sp} (G : ∀ i, p i → FnOk P w K mg base CX0 k f fd ps (sps i)) : FnOk P w K mg base CX0 k f fd ps (fun vs H Q E => ∃ i, p i ∧ sps i vs H Q E) :=
  ⟨fun vs H Q E ⟨i, hi, h⟩ => (G i hi).len vs H Q E h, fun A outer s H args us vs Q E a b c e ⟨i, hi, h⟩ => (G i hi).run A outer s H args us vs Q E a b c e h⟩
/-- drawn ordinals up to m deep -/
def spOrdTo (K : PySem.W.Frag) (m : Nat) : Sp := fun vs H Q E => ∃ d, d ≤ m ∧ spOrd K d vs H Q E
theorem kb_of {qual : Str} {st : Stmt} {ks : List Str} (F : Fun K x qual st f fd) (g : List Value → List Value → List Value) (gV : List V → List V → List V)
    (rel : ∀ {vs : List V} {us : List Value} {zs : List V} {ws : List Value}, Vals vs us → Vals zs ws → Vals (gV vs zs) (g us ws))
    (h : ∀ (kV doc pm : Value) (an : Option Addr) (cdv ct : Value) (us ws : List Value), (g us ws).length = ps.length → bindArgs (PySem.W.fnOf x qual (defArgs st) (defBody st) (defScope st) .none kV doc pm an cdv ct) ⟨us, ks.zip ws⟩ = pure (ps.zip (g us ws))) : KBinds K fd ps ks g gV := by
  obtain ⟨oc, od, kV, doc, pm, an, cdv, ct, osl, rfl, lk, hcd⟩ := F.ex
  exact ⟨fun s us ws _ hl => .of_eq (h kV doc pm an cdv ct us ws hl), rel⟩
/-- f(b=.., a=..) of a def f(a, b) -/
def swapG {α : Type} : List α → List α → List α
  | [], [a, b] => [b, a]
  | _, _ => []
theorem swap_rel {vs : List V} {us : List Value} {zs : List V} {ws : List Value} (h1 : Vals vs us) (h2 : Vals zs ws) : Vals (swapG vs zs) (swapG us ws) := by
  cases h1 with
  | cons _ _ => exact .nil
  | nil =>
    cases h2 with
    | nil => exact .nil
    | cons a t => cases t with
      | nil => exact .nil
      | cons b u => cases u with
        | nil => exact .cons b (.cons a .nil)
        | cons _ _ => exact .nil
end
end Vw

set_option Elab.async false
set_option linter.all false
set_option maxRecDepth 100000
/-! for i, x in enumerate(t), t a tuple: the layer's own enumerate is for lists -/
namespace PySem
open Sem (wp)
open AutoSeq1 (wpAny_loadPart')
theorem enumT_new (t : Addr) (its : Array Value) (n : Nat) (dd : Option Addr) (sl : Array (Option Value)) :
    Meets (Builtin.«enumerate.__new__» ⟨[.type "enumerate", .ref t], []⟩) (fun _ R s => s.heap.get? t = some { cls := .type "tuple", dict := dd, data := .seq its n, slots := sl } ∧
      R (.ok (.ret (.ref (s.heap.push { cls := .type "tuple_iterator", data := .fields #[.ref t, .int 0 0] }).objs.size)))
        { s with heap := (s.heap.push { cls := .type "tuple_iterator", data := .fields #[.ref t, .int 0 0] }).push { cls := .type "enumerate", data := .fields #[.none, .bool false, .ref s.heap.objs.size, rawInt 0, .none, .none] } }) :=
  .of_wp fun prog w A R s h => by
    obtain ⟨hp, g, d, tk, os⟩ := s
    obtain ⟨ht, h⟩ := h
    have hs1 := sub_enumerate
    have hT : Heap.IsTuple (Shared.heap ⟨hp, g, d, tk, os⟩) t its := ⟨_, ht, rfl, n, rfl⟩
    wp_walk using wpAny_loadPart' ht
    refine wpAny_stack_any fun st => wpAny_pure ?_
    split
    · rename_i c _ _ _ _ _
      cases (c == Value.type "enumerate") <;> (wp_walk using wpAny_loadPart' ht, wpAny_pyIter_tuple hT; exact ⟨_, rfl, h⟩)
    · wp_walk using wpAny_loadPart' ht, wpAny_pyIter_tuple hT
      exact ⟨_, rfl, h⟩
theorem enumT_call {prog : Program} {w : World} {A : Around} {E : Value → Shared → Prop} {s : Shared} {t : Addr} {its : Array Value} {Q : Value → Shared → Prop} (ht : s.heap.IsTuple t its)
    (h : ∀ h', IsEnum h' (s.heap.objs.size + 1) s.heap.objs.size 0 .none → h'.IsTupleIter s.heap.objs.size t 0 → (∀ b o, s.heap.get? b = some o → h'.get? b = some o) → Q (.ref (s.heap.objs.size + 1)) { s with heap := h' }) :
    wpAny (model prog w) A (call (.type "enumerate") [.ref t]) Q E s := by
  obtain ⟨⟨c, dct, dt, sl⟩, hl, hc, n, hd⟩ := ht
  obtain rfl : c = .type "tuple" := hc
  obtain rfl : dt = .seq its n := hd
  refine callType_new F.called_enumerate (by decide) (F.typeCall_enumerate_1 _) (F.newCall_enumerate_1 _) (fun obj => F.args_object_init_2 obj _) F.entry_enumerate_new (enumT_new t its n dct sl) ⟨hl, ?_⟩
  have hz : (s.heap.push { cls := .type "tuple_iterator", data := .fields #[.ref t, .int 0 0] }).objs.size = s.heap.objs.size + 1 := Heap.size_push ..
  have he : IsEnum ((s.heap.push { cls := .type "tuple_iterator", data := .fields #[.ref t, .int 0 0] }).push { cls := .type "enumerate", data := .fields #[.none, .bool false, .ref s.heap.objs.size, rawInt 0, .none, .none] }) (s.heap.objs.size + 1) s.heap.objs.size 0 .none := by
    have q := Heap.get?_push_size (s.heap.push { cls := .type "tuple_iterator", data := .fields #[.ref t, .int 0 0] }) (o := { cls := .type "enumerate", data := .fields #[.none, .bool false, .ref s.heap.objs.size, rawInt 0, .none, .none] }) rfl
    rw [hz] at q
    exact q
  show _ ∧ _
  rw [hz]
  exact ⟨⟨_, he, rfl⟩, h _ he ⟨_, Heap.get?_push_of_some _ (Heap.get?_push_size _ rfl), rfl, rfl⟩ fun b o x => Heap.get?_push_of_some _ (Heap.get?_push_of_some _ x)⟩
end PySem
namespace Vw
open PySem PySem.W PyProof.Rows L2
/-- the tuple at a, each item in a new pair -/
def IteT (K : PySem.W.Frag) (a : Addr) : It :=
  ⟨fun i H => ∃ (xs : List V) (x : V), SqT K H a xs ∧ xs[i]? = some x, fun i H v H' => ∃ T x, v = .ref T ∧ H T = none ∧ H' = upd H T (.tup [.int (i : Nat), x]) ∧ ∀ xs, SqT K H a xs → xs[i]? = some x, fun i H => ∃ xs : List V, SqT K H a xs ∧ xs.length ≤ i⟩
theorem turn_enumT {P : Program} {w : World} {K : PySem.W.Frag} {elts : List Expr} {kk : Nat} {tpos : Pos} (a e it : Addr) (hea : e ≠ a) (hia : a ≠ it) (hei : e ≠ it) :
    Turn P w K (.Tuple elts kk tpos) (IteT K a) [e, it] e (fun i h => (∃ old, IsEnum h e it ((i : Nat) : Int) old) ∧ h.IsTupleIter it a i) where
  mem := List.mem_cons_self
  obj := fun i h st b hb => by
    obtain ⟨⟨old, he⟩, o, ho, hc, hd⟩ := st
    rcases List.mem_cons.mp hb with rfl | hb
    · exact ⟨_, he, fun v q => nomatch q⟩
    · rw [List.mem_singleton.mp hb]
      exact ⟨o, ho, fun v q => by rw [hd] at q; cases q⟩
  keep := fun i h h' st k => ⟨st.1.imp fun old he => k e List.mem_cons_self _ he, st.2.at fun o q => k it (List.mem_cons_of_mem _ (List.mem_singleton.mpr rfl)) o q⟩
  item := by
    intro X hP hw hK hc i pins s σ H E I hf st hg
    subst hP hw hK
    obtain ⟨⟨old, he⟩, hit⟩ := st
    obtain ⟨xs, x, hq, hx⟩ := hg
    obtain ⟨its, rv, p, hz⟩ := I.tuple hq
    have pT : s.heap.IsTuple a its.toArray := p
    have hel : e < s.heap.objs.size := Heap.lt_size he
    have hil : it < s.heap.objs.size := by obtain ⟨_, q, _⟩ := hit; exact Heap.lt_size q
    have hi : i < its.toArray.size := by
      have h1 := (List.getElem?_eq_some_iff.mp hx).1
      have h2 := rv.length
      rw [List.size_toArray]; omega
    refine wpAny_pyNext_enum_itemD (Draws.tuple (prog := X.prog) (w := X.w) (A := X.A.in1) (I.ok.hd hc) it a hia its.toArray) he ⟨hit, pT⟩ hi hei (by simp [hei, hea]) fun u h' tk hu ho hst hT hsz hk => ?_
    have hu' : its[i]? = some u := by simpa using hu
    obtain ⟨u2, hu2, ru⟩ := rv.get hx
    rw [hu'] at hu2
    obtain rfl : u = u2 := Option.some.inj hu2
    refine ⟨_, rfl, wpAny_letOwnedTupleGo_enum (s := { s with heap := h', toks := tk + 1 }) ho fun h'' he' sb => ?_⟩
    have hT2 : h''.get? s.heap.objs.size = some { cls := .type "tuple", data := .seq #[.int i tk, u] } := (sb.2 _ (Nat.ne_of_gt hel)).trans hT
    have new : ObjOk X.prog X.w (upd H s.heap.objs.size (.tup [.int (i : Nat), x])) h'' s.heap.objs.size (.tup [.int (i : Nat), x]) :=
      ⟨by show 2 ≤ sizeLine; decide, [.int i tk, u], .cons ⟨_, rfl⟩ (.cons ru .nil), ⟨_, hT2, rfl, _, rfl⟩⟩
    have I1 : Inv X pins σ (upd H s.heap.objs.size (.tup [.int (i : Nat), x])) { s with heap := h'', toks := tk + 1 } :=
      I.turnedNew (ch := [e, it]) (fun b ob hb q => (sb.2 b (fun z => hb (by simp [z]))).trans (hk b ob (fun z => hb (by simp [z])) (fun z => hb (by simp [z])) q)) hf (Nat.le_refl _) new
    refine ⟨.ref s.heap.objs.size, _, I1, rfl, ⟨_, x, rfl, I.hok.fresh (Nat.le_refl _), rfl, fun ys hy => by rw [I.tuple_inj hy hq]; exact hx⟩, ⟨⟨u, ?_⟩, hst.1.at fun o q => (sb.2 it (Ne.symm hei)).trans q⟩, fun b hb => ?_⟩
    · have e1 : ((i + 1 : Nat) : Int) = (i : Int) + 1 := by omega
      rw [e1]; exact he'
    · have hb' : b < s.heap.objs.size := by
        rcases List.mem_cons.mp hb with rfl | hb
        · exact hel
        · rw [List.mem_singleton.mp hb]; exact hil
      rw [upd_ne (Nat.ne_of_lt hb')]
      exact (hf b hb).1
  done := by
    intro X hP hw hK hc i pins s σ H E I hf st hg
    subst hP hw hK
    obtain ⟨⟨old, he⟩, hit⟩ := st
    obtain ⟨xs, hq, hx⟩ := hg
    obtain ⟨its, rv, p, hz⟩ := I.tuple hq
    have pT : s.heap.IsTuple a its.toArray := p
    obtain ⟨f0, f1, f2, f3, f4, f5⟩ := hf it (List.mem_cons_of_mem _ (List.mem_singleton.mpr rfl))
    have hT : s.TypeIs (.ref e) "enumerate" := ⟨_, he, rfl⟩
    have hl : its.toArray.size ≤ i := by rw [List.size_toArray]; have := rv.length; omega
    -- past the end as at the end
    have D : Draws X.prog X.w X.A.in1 it [it, a] i (fun _ _ => False) (fun j h => j = i ∧ h.IsTupleIter it a i ∧ h.IsTuple a its.toArray) :=
      { live := fun _ _ st => let ⟨o, ho, _⟩ := st.2.1; ⟨o, ho⟩
        frame := fun _ _ _ st hk => ⟨st.1, st.2.1.at fun o e => hk it (by simp) o e, st.2.2.at fun o e => hk a (by simp) o e⟩
        item := fun j s Q E hj st _ => absurd st.1 (Nat.ne_of_lt hj)
        done := fun s Q E st hE => wpAny_nextOf_tuple_end (I.ok.hd hc) st.2.1 st.2.2 (by simpa using hl) hE }
    exact wpAny_pyNext_enum_endD D he ⟨rfl, hit, pT⟩ fun h' eb => ⟨rfl, I.turned (t' := s.toks) (fun b o hb q => eb b o hb q) f0 f1 f3 f4 f5⟩
  self := fun A i s Q E st h => let ⟨⟨_, he⟩, _⟩ := st; wpAny_pyIter_enum he h
def iEnumT (K : PySem.W.Frag) (ta : L2.TA) : TI := fun σ H R => ta σ H fun vs H1 => ∃ a xs, vs = [.ref a] ∧ SqT K H1 a xs ∧ R (IteT K a) H1
theorem pi_enumT {X : Cx} {e : Expr} {ta : L2.TA} {p pos tpos : Pos} {elts : List Expr} {kk : Nat} (hg : Gl X "enumerate") (hm : X.mg "enumerate" = none) (ha : PA X [e] ta) (hs : starEach [e] X.env = [(false, eval e X.env)] := by rfl) :
    PI X (.Tuple elts kk tpos) (.Call (.Name "enumerate" p) [e] [] pos) (iEnumT X.K ta) := by
  refine ⟨fun pins s σ H R I h => ?_⟩
  refine Call_ (ld_blt I hg hm boot_enumerate (PyProof.Rows.callWith_type1 (thn (ha.run pos pins s σ H _ I h) fun us s1 ⟨vs, H1, I1, r1, q1⟩ => ?_) hs rfl))
  obtain ⟨a, xs, rfl, hq, q⟩ := q1
  obtain rfl := Vals.ref1 r1
  obtain ⟨its, rv, p', hz⟩ := I1.tuple hq
  have pT : s1.heap.IsTuple a its.toArray := p'
  have hal : a < s1.heap.objs.size := by obtain ⟨_, q, _⟩ := pT; exact Heap.lt_size q
  refine enumT_call pT fun h' he hit hk => wpAny_pyIter_enum he ?_
  have I2 : Inv X pins σ H1 { s1 with heap := h' } := I1.kept (t' := s1.toks) hk
  refine ⟨s1.heap.objs.size + 1, [s1.heap.objs.size + 1, s1.heap.objs.size], _, _, H1, rfl, I2, turn_enumT a (s1.heap.objs.size + 1) s1.heap.objs.size (fun z => by rw [← z] at hal; exact absurd hal (Nat.not_lt.mpr (Nat.le_succ _))) (Nat.ne_of_lt hal) (Nat.succ_ne_self _), ⟨⟨.none, he⟩, hit⟩, fun b hb => ?_, q⟩
  have hle : s1.heap.objs.size ≤ b := by
    rcases List.mem_cons.mp hb with z | z
    · rw [z]; exact Nat.le_add_right _ _
    · rw [List.mem_singleton.mp z]; exact Nat.le_refl _
  exact I1.fpOk hle (I1.hok.fresh hle)
theorem for_enumT {K : PySem.W.Frag} {a : Addr} {xs : List V} {g : L2.TG} {tb : L2.TS} {D : Ends} {σ : L2.St} {H : Hp} (Pv : Nat → L2.St → Hp → Prop) (h0 : Pv 0 σ H) (hl : ∀ i σ H, i ≤ xs.length → Pv i σ H → SqT K H a xs)
    (hs : ∀ i x T σ H, xs[i]? = some x → Pv i σ H → H T = none → g (.ref T) σ (upd H T (.tup [.int (i : Nat), x])) fun σ2 H2 => tb { D with nx := Pv (i + 1), ct := Pv (i + 1), bk := D.nx } σ2 H2) (hd : ∀ σ H, Pv xs.length σ H → D.nx σ H) :
    ∃ W : Nat → Nat → L2.St → Hp → Prop, (∃ m, W 0 m σ H) ∧ ∀ i m σ H, W i m σ H →
      ((IteT K a).stop i H ∧ D.nx σ H) ∨ ((IteT K a).go i H ∧ ∃ N : L2.St → Hp → Prop, (∀ σ' H', N σ' H' → ∃ m', m' < m ∧ W (i + 1) m' σ' H') ∧ ∀ x H', (IteT K a).yld i H x H' → g x σ H' fun σ2 H2 => tb { D with nx := N, ct := N, bk := D.nx } σ2 H2) := by
  refine ⟨fun i m σ H => m = xs.length - i ∧ i ≤ xs.length ∧ Pv i σ H, ⟨xs.length, by simp, Nat.zero_le _, h0⟩, ?_⟩
  rintro i m σ H ⟨rfl, hi, p⟩
  have q := hl i σ H hi p
  by_cases hlt : i < xs.length
  · refine .inr ⟨⟨xs, xs[i], q, List.getElem?_eq_getElem hlt⟩, Pv (i + 1), fun σ' H' p' => ⟨xs.length - (i + 1), by omega, rfl, hlt, p'⟩, fun v H' y => ?_⟩
    obtain ⟨T, x, rfl, nT, rfl, hx⟩ := y
    exact hs i x T σ H (hx xs q) p nT
  · obtain rfl : i = xs.length := by omega
    exact .inl ⟨⟨xs, q, Nat.le_refl _⟩, hd σ H p⟩
end Vw

set_option Elab.async false
set_option linter.all false
set_option maxRecDepth 100000
namespace Vw
open PySem PySem.W PyProof.Rows L2
namespace O
theorem toDs_inj : ∀ {a b : O}, toDs a = toDs b → a = b
  | z, z, _ => rfl
  | z, add _ _ _, h => by cases h
  | add _ _ _, z, h => by cases h
  | add e c r, add e' c' r', h => by
    simp only [toDs, List.cons.injEq, PyData.tuple.injEq, PyData.int.injEq, and_true] at h
    rw [toDs_inj h.1.1, h.1.2, toDs_inj h.2]
theorem toD_inj {a b : O} (h : toD a = toD b) : a = b := by
  unfold toD at h
  exact toDs_inj (PyData.tuple.inj h)
/-- neighbours descend -/
theorem ok_desc : ∀ {o : O} {i : Nat} {t u : O × Int}, ok o = true → (ts o)[i]? = some t → (ts o)[i + 1]? = some u → lt u.1 t.1 = true
  | z, i, t, u, _, h, _ => by simp [ts] at h
  | add e c r, 0, t, u, hk, h1, h2 => by
    have g := ok_add.mp hk
    have e1 : (e, c) = t := by simpa [ts] using h1
    subst e1
    cases r with
    | z => simp [ts] at h2
    | add e' c' r' =>
      have e2 : (e', c') = u := by simpa [ts] using h2
      subst e2
      exact g.2.2.2
  | add e c r, i + 1, t, u, hk, h1, h2 => ok_desc (o := r) (i := i) (ok_add.mp hk).2.2.1 (by simpa [ts] using h1) (by simpa [ts] using h2)
end O
def IsOrd (d : PyData) : Prop := ∃ o : O, O.toD o = d ∧ O.ok o = true
def IsTerm (d : PyData) : Prop := ∃ (e : O) (c : Int), d = O.tD (e, c) ∧ O.ok e = true ∧ 1 ≤ c
noncomputable def isOrdB (d : PyData) : Bool := open Classical in decide (IsOrd d)
noncomputable def isTermB (d : PyData) : Bool := open Classical in decide (IsTerm d)
def isCntB : PyData → Bool
  | .int n => decide (1 ≤ n)
  | _ => false
open Classical in
theorem isOrd_t {d : PyData} (h : IsOrd d) : isOrdB d = true := by unfold isOrdB; exact decide_eq_true h
open Classical in
theorem isOrd_f {d : PyData} (h : ¬ IsOrd d) : isOrdB d = false := by unfold isOrdB; exact decide_eq_false h
open Classical in
theorem isOrd_of {d : PyData} (h : isOrdB d = true) : IsOrd d := by unfold isOrdB at h; exact of_decide_eq_true h
open Classical in
theorem isTerm_t {d : PyData} (h : IsTerm d) : isTermB d = true := by unfold isTermB; exact decide_eq_true h
open Classical in
theorem isTerm_f {d : PyData} (h : ¬ IsTerm d) : isTermB d = false := by unfold isTermB; exact decide_eq_false h
open Classical in
theorem isTerm_of {d : PyData} (h : isTermB d = true) : IsTerm d := by unfold isTermB at h; exact of_decide_eq_true h
theorem isTerm_no {d : PyData} (h : isTermB d = false) : ¬ IsTerm d := fun z => by rw [isTerm_t z] at h; cases h
theorem isOrd_toD {o : O} (h : O.ok o = true) : isOrdB (O.toD o) = true := isOrd_t ⟨o, rfl, h⟩
theorem isTerm_two (a b : PyData) : isTermB (.tuple [a, b]) = (isCntB b && isOrdB a) := by
  cases h : isCntB b && isOrdB a with
  | true =>
    rw [Bool.and_eq_true] at h
    obtain ⟨o, rfl, ho⟩ := isOrd_of h.2
    cases b with
    | int n => exact isTerm_t ⟨o, n, rfl, ho, of_decide_eq_true h.1⟩
    | _ => cases h.1
  | false =>
    refine isTerm_f fun ⟨e, c, h1, h2, h3⟩ => ?_
    have h4 : a = O.toD e ∧ b = .int c := by simpa [O.tD] using h1
    rw [h4.1, h4.2, isOrd_toD h2, show isCntB (.int c) = true from decide_eq_true h3] at h
    cases h
theorem isTerm_other {d : PyData} (h : ∀ a b, d ≠ .tuple [a, b]) : isTermB d = false := isTerm_f fun ⟨e, c, h1, _⟩ => h _ _ h1
theorem isOrd_other {d : PyData} (h : ∀ ds, d ≠ .tuple ds) : isOrdB d = false := isOrd_f fun ⟨o, h1, _⟩ => h _ h1.symm
/-- the first i terms are right -/
def Pref (ds : List PyData) (l : List (O × Int)) (i : Nat) : Prop := ds.take i = l.map O.tD ∧ O.ok (O.of l) = true ∧ l.length = i
theorem pref_nil (ds : List PyData) : Pref ds [] 0 := ⟨rfl, rfl, rfl⟩
theorem pref_at {ds : List PyData} {l : List (O × Int)} {i j : Nat} (h : Pref ds l i) (hj : j < i) : ∃ t, l[j]? = some t ∧ ds[j]? = some (O.tD t) := by
  obtain ⟨h1, _, h3⟩ := h
  have hl : j < l.length := by omega
  refine ⟨l[j], List.getElem?_eq_getElem hl, ?_⟩
  have : (ds.take i)[j]? = some (O.tD l[j]) := by rw [h1, List.getElem?_map, List.getElem?_eq_getElem hl]; rfl
  rw [List.getElem?_take] at this
  rw [if_pos hj] at this
  exact this
theorem pref_last {ds : List PyData} {l : List (O × Int)} {i : Nat} (h : Pref ds l (i + 1)) : ∃ t, l.getLast? = some t ∧ ds[i]? = some (O.tD t) := by
  obtain ⟨t, h1, h2⟩ := pref_at h (Nat.lt_succ_self i)
  refine ⟨t, ?_, h2⟩
  rw [List.getLast?_eq_getElem?, h.2.2]
  exact h1
theorem pref_step {ds : List PyData} {l : List (O × Int)} {i : Nat} {e : O} {c : Int} (h : Pref ds l i) (hd : ds[i]? = some (O.tD (e, c))) (he : O.ok e = true) (hc : 1 ≤ c) (hl : ∀ t, l.getLast? = some t → O.lt e t.1 = true) : Pref ds (l ++ [(e, c)]) (i + 1) := by
  obtain ⟨h1, h2, h3⟩ := h
  refine ⟨?_, O.ok_snoc l e c h2 he hc hl, by rw [List.length_append, h3]; rfl⟩
  rw [List.take_add_one, hd, h1, List.map_append]
  rfl
theorem ord_term {ds : List PyData} (h : IsOrd (.tuple ds)) {i : Nat} {d : PyData} (hd : ds[i]? = some d) : IsTerm d := by
  obtain ⟨o, h1, h2⟩ := h
  have h3 : O.toDs o = ds := PyData.tuple.inj h1
  rw [← h3, O.toDs_ts, List.getElem?_map] at hd
  obtain ⟨t, ht, rfl⟩ := Option.map_eq_some_iff.mp hd
  have := O.ok_mem h2 (List.mem_of_getElem? ht)
  exact ⟨t.1, t.2, rfl, this.1, this.2⟩
theorem bad_term {ds : List PyData} {i : Nat} {d : PyData} (hd : ds[i]? = some d) (h : ¬ IsTerm d) : isOrdB (.tuple ds) = false := isOrd_f fun z => h (ord_term z hd)
theorem tD_inj {a b : O × Int} (h : O.tD a = O.tD b) : a = b := by
  obtain ⟨e, c⟩ := a
  obtain ⟨e', c'⟩ := b
  have : O.toD e = O.toD e' ∧ c = c' := by simpa [O.tD] using h
  rw [O.toD_inj this.1, this.2]
theorem bad_order {ds : List PyData} {i : Nat} {t u : O × Int} (h1 : ds[i]? = some (O.tD t)) (h2 : ds[i + 1]? = some (O.tD u)) (h : O.lt u.1 t.1 = false) : isOrdB (.tuple ds) = false := isOrd_f fun ⟨o, e1, e2⟩ => by
  have h3 : O.toDs o = ds := PyData.tuple.inj e1
  rw [← h3, O.toDs_ts, List.getElem?_map] at h1 h2
  obtain ⟨t', ht, a1⟩ := Option.map_eq_some_iff.mp h1
  obtain ⟨u', hu, a2⟩ := Option.map_eq_some_iff.mp h2
  have := O.ok_desc e2 ht hu
  rw [tD_inj a1, tD_inj a2, h] at this
  cases this
theorem pref_end {ds : List PyData} {l : List (O × Int)} (h : Pref ds l ds.length) : isOrdB (.tuple ds) = true := by
  obtain ⟨h1, h2, h3⟩ := h
  rw [List.take_length] at h1
  refine isOrd_t ⟨O.of l, ?_, h2⟩
  unfold O.toD
  rw [O.toDs_ts, O.ts_of, h1]
/-! ### comparisons of data that are ordinals -/
section
variable {K : PySem.W.Frag} {H : Hp} {x y : V} {a b : O} {Q : VK}
theorem rd_ltD (ha : Dp K H x (O.toD a)) (hb : Dp K H y (O.toD b)) (h : O.dp a ≤ 60) (q : Q (.bl (O.lt a b)) H) : rCmp (fun d e => dataLt d e) K x y H Q := by
  unfold rCmp
  exact ⟨_, _, ha, hb, O.alike_toD a b, (fun z => by cases z), by rw [O.depth_toD]; omega, by show Q (.bl (dataLt _ _)) H; rw [O.lt_toD]; exact q⟩
theorem rd_gtD (ha : Dp K H x (O.toD a)) (hb : Dp K H y (O.toD b)) (h : O.dp a ≤ 60) (q : Q (.bl (O.lt b a)) H) : rCmp (fun d e => dataLt e d) K x y H Q := by
  unfold rCmp
  exact ⟨_, _, ha, hb, O.alike_toD a b, (fun z => by cases z), by rw [O.depth_toD]; omega, by show Q (.bl (dataLt _ _)) H; rw [O.lt_toD]; exact q⟩
theorem rd_leD (ha : Dp K H x (O.toD a)) (hb : Dp K H y (O.toD b)) (h : O.dp a ≤ 60) (q : Q (.bl (!O.lt b a)) H) : rCmp (fun d e => !dataLt e d) K x y H Q := by
  unfold rCmp
  exact ⟨_, _, ha, hb, O.alike_toD a b, (fun z => by cases z), by rw [O.depth_toD]; omega, by show Q (.bl (!dataLt _ _)) H; rw [O.lt_toD]; exact q⟩
theorem rd_geD (ha : Dp K H x (O.toD a)) (hb : Dp K H y (O.toD b)) (h : O.dp a ≤ 60) (q : Q (.bl (!O.lt a b)) H) : rCmp (fun d e => !dataLt d e) K x y H Q := by
  unfold rCmp
  exact ⟨_, _, ha, hb, O.alike_toD a b, (fun z => by cases z), by rw [O.depth_toD]; omega, by show Q (.bl (!dataLt _ _)) H; rw [O.lt_toD]; exact q⟩
/-- a tuple of data -/
theorem dp_tup {ds : List PyData} (h : Dp K H x (.tuple ds)) : ∃ p xs, x = .ref p ∧ SqT K H p xs ∧ DpAll K H xs ds := by
  cases h with
  | tup h1 h2 => exact ⟨_, _, rfl, h1, h2⟩
theorem dp_list {ds : List PyData} (h : Dp K H x (.list ds)) : ∃ p xs, x = .ref p ∧ SqL K H p xs ∧ DpAll K H xs ds := by
  cases h with
  | lst h1 h2 => exact ⟨_, _, rfl, h1, h2⟩
/-- a pair -/
theorem dp_two {a b : PyData} (h : Dp K H x (.tuple [a, b])) : ∃ p u v, x = .ref p ∧ SqT K H p [u, v] ∧ Dp K H u a ∧ Dp K H v b := by
  obtain ⟨p, xs, rfl, h1, h2⟩ := dp_tup h
  cases h2 with
  | cons g1 t => cases t with
    | cons g2 t2 =>
      cases t2
      exact ⟨p, _, _, rfl, h1, g1, g2⟩
end
theorem depth_tD (t : O × Int) : (O.tD t).depth = O.dp t.1 + 2 := by
  unfold O.tD
  simp only [PyData.depth, PyData.depthAll, O.depth_toD]; omega
def spCnt (K : PySem.W.Frag) : Sp := fun vs H Q _ => ∃ (x : V) (d : PyData), vs = [x] ∧ Dp K H x d ∧ ∀ H', Same H H' → Q (.bl (isCntB d)) H'
def spIsOrd (K : PySem.W.Frag) (n : Nat) : Sp := fun vs H Q _ => ∃ (x : V) (d : PyData), vs = [x] ∧ Dp K H x d ∧ d.depth < n ∧ ∀ H', Same H H' → Q (.bl (isOrdB d)) H'
def spIsTerm (K : PySem.W.Frag) (n : Nat) : Sp := fun vs H Q _ => ∃ (x : V) (d : PyData), vs = [x] ∧ Dp K H x d ∧ d.depth < n ∧ ∀ H', Same H H' → Q (.bl (isTermB d)) H'
end Vw

set_option Elab.async false
set_option linter.all false
set_option maxRecDepth 100000
namespace Vw
open PySem PySem.W PyProof.Rows L2
namespace O
theorem endO_z : endO z = z := rfl
theorem endO_one (e : O) (c : Int) : endO (add e c z) = e := rfl
theorem endO_add (e : O) (c : Int) {r : O} (h : r ≠ z) : endO (add e c r) = endO r := by
  cases r with
  | z => exact absurd rfl h
  | add e2 c2 r2 =>
    unfold endO
    show (match ((e, c) :: (e2, c2) :: ts r2).getLast? with | some t => t.1 | none => z) = _
    rw [List.getLast?_cons_cons]
    rfl
/-- the power e, once -/
def pw (e : O) : O := add e 1 z
theorem ok_pw {e : O} (h : ok e = true) : ok (pw e) = true := ok_add.mpr ⟨h, Int.le_refl _, rfl, rfl⟩
theorem end_sum (e : O) (c : Int) : ∀ a : O, endO (sum a (add e c z)) = e
  | z => by rw [z_sum]; rfl
  | add e1 c1 r1 => by
    by_cases q : e1 = e
    · subst q; rw [sum_eq]; rfl
    · rcases lt_total e1 e q with k | k
      · rw [sum_lt k]; rfl
      · rw [sum_gt k, endO_add _ _ (sum_add_ne r1 e c z)]
        exact end_sum e c r1
/-- all exponents are at least the end -/
theorem end_le : ∀ {a : O} {t : O × Int}, ok a = true → t ∈ ts a → lt t.1 (endO a) = false
  | z, t, _, h => by cases h
  | add e c z, t, _, h => by
    rcases List.mem_cons.mp h with q | q
    · subst q; exact lt_irrefl _
    · cases q
  | add e c (add e2 c2 r2), t, hk, h => by
    have g := ok_add.mp hk
    rw [endO_add _ _ (by intro q; cases q)]
    rcases List.mem_cons.mp h with q | q
    · subst q
      have h1 := end_le (a := add e2 c2 r2) (t := (e2, c2)) g.2.2.1 List.mem_cons_self
      exact ge_trans (b := e2) (lt_asymm g.2.2.2) h1
    · exact end_le g.2.2.1 q
theorem end_mem : ∀ {a : O}, a ≠ z → ∃ c, (endO a, c) ∈ ts a
  | z, h => absurd rfl h
  | add e c z, _ => ⟨c, List.mem_cons_self⟩
  | add e c (add e2 c2 r2), _ => by
    obtain ⟨c', h⟩ := end_mem (a := add e2 c2 r2) (by intro q; cases q)
    rw [endO_add _ _ (by intro q; cases q)]
    exact ⟨c', List.mem_cons_of_mem _ h⟩
theorem ok_end : ∀ {a : O}, ok a = true → ok (endO a) = true := fun {a} h => by
  by_cases q : a = z
  · subst q; rfl
  · obtain ⟨c, hc⟩ := end_mem q
    exact (ok_mem h hc).1
theorem dp_end (a : O) : dp (endO a) ≤ dp a := by
  by_cases q : a = z
  · subst q; exact Nat.le_refl _
  · obtain ⟨c, hc⟩ := end_mem q
    have := dp_mem hc
    show dp (endO a, c).1 ≤ _
    omega
/-- the least ordinal at least a whose end is at least e -/
def raisedO (a e : O) : O := if lt (endO a) e = true then sum a (pw e) else a
theorem ok_raised {a e : O} (h : ok a = true) (h2 : ok e = true) : ok (raisedO a e) = true := by
  unfold raisedO
  split
  · exact ok_sum _ _ h (ok_pw h2)
  · exact h
theorem dp_raised (a e : O) : dp (raisedO a e) ≤ max (dp a) (dp e + 2) := by
  unfold raisedO
  split
  · have := dp_sum a (pw e)
    have h2 : dp (pw e) = max (dp e + 2) 0 := rfl
    omega
  · omega
theorem len_raised (a e : O) : (ts (raisedO a e)).length ≤ (ts a).length + 1 := by
  unfold raisedO
  split
  · exact len_sum a (pw e)
  · omega
theorem end_raised (a e : O) : lt (endO (raisedO a e)) e = false := by
  unfold raisedO
  split
  · rw [pw, end_sum]; exact lt_irrefl _
  · rename_i h; exact Bool.eq_false_iff.mpr h
theorem raised_ge {a e : O} (h : ok a = true) (h2 : ok e = true) : lt (raisedO a e) a = false := by
  unfold raisedO
  split
  · exact sum_ge_left h (ok_pw h2)
  · exact lt_irrefl _
/-- what has an end of at least e and something before it is at least the power -/
theorem pw_le {x e : O} (hx : ok x = true) (he : lt z e = true) (h : lt (endO x) e = false) : lt x (pw e) = false := by
  cases x with
  | z => rw [endO_z, he] at h; cases h
  | add e2 c2 r2 =>
    have g := ok_add.mp hx
    have h1 := end_le hx (t := (e2, c2)) List.mem_cons_self
    have h2 : lt e2 e = false := ge_trans h1 h
    show (if e2 = e then (if c2 = 1 then lt r2 z else decide (c2 < 1)) else lt e2 e) = false
    split
    · split
      · exact not_lt_nil _
      · exact decide_eq_false (by omega)
    · exact h2
/-- no ordinal between would do -/
theorem raised_least : ∀ {a x e : O}, ok a = true → ok x = true → lt (endO a) e = true → lt x a = false → lt (endO x) e = false → lt x (sum a (pw e)) = false
  | z, x, e, _, hx, h1, _, h3 => by rw [z_sum]; exact pw_le hx h1 h3
  | add e1 c1 r1, x, e, ha, hx, h1, h2, h3 => by
    have ga := ok_add.mp ha
    have ez : lt z e = true := by
      by_cases q : e = z
      · subst q; rw [not_lt_nil] at h1; cases h1
      · exact nil_lt q
    cases x with
    | z => cases h2
    | add e2 c2 r2 =>
      have gx := ok_add.mp hx
      have e2e : lt e2 e = false := ge_trans (end_le hx (t := (e2, c2)) List.mem_cons_self) h3
      by_cases q : e1 = e
      · subst q
        have hr1 : r1 ≠ z := fun z1 => by subst z1; rw [endO_one, lt_irrefl] at h1; cases h1
        show lt _ (sum (add e1 c1 r1) (add e1 1 z)) = false
        rw [sum_eq]
        by_cases q2 : e2 = e1
        · subst q2
          have hr2 : r2 = z := by
            cases r2 with
            | z => rfl
            | add e5 c5 r5 =>
              have h5 := end_le hx (t := (e5, c5)) (List.mem_cons_of_mem _ List.mem_cons_self)
              have := ge_trans h5 h3
              rw [show lt e5 e2 = true from gx.2.2.2] at this
              cases this
          subst hr2
          have hc : ¬ c2 ≤ c1 := fun hc => by
            have : lt (add e2 c2 z) (add e2 c1 r1) = true := by
              by_cases hcc : c2 = c1
              · subst hcc; rw [lt_rest]; exact nil_lt hr1
              · exact lt_cnt (by omega)
            rw [h2] at this; cases this
          by_cases hcc : c2 = c1 + 1
          · subst hcc; rw [lt_irrefl]
          · exact lt_asymm (lt_cnt (by omega))
        · exact lt_asymm (lt_head (lt_of_ge e2e q2))
      · rcases lt_total e1 e q with k | k
        · show lt _ (sum (add e1 c1 r1) (add e 1 z)) = false
          rw [sum_lt k]
          exact pw_le hx ez h3
        · have hr1 : r1 ≠ z := fun z1 => by subst z1; rw [endO_one, lt_asymm k] at h1; cases h1
          rw [endO_add _ _ hr1] at h1
          show lt _ (sum (add e1 c1 r1) (add e 1 z)) = false
          rw [sum_gt k]
          by_cases q2 : e2 = e1
          · subst q2
            by_cases hcc : c2 = c1
            · subst hcc
              rw [lt_rest] at h2 ⊢
              have hr2 : r2 ≠ z := fun z2 => by
                subst z2
                rw [nil_lt hr1] at h2; cases h2
              rw [endO_add _ _ hr2] at h3
              exact raised_least ga.2.2.1 gx.2.2.1 h1 h2 h3
            · by_cases hc : c2 < c1
              · rw [lt_cnt hc] at h2; cases h2
              · exact lt_asymm (lt_cnt (by omega))
          · have h5 : lt e2 e1 = false := by
              cases h6 : lt e2 e1 with
              | false => rfl
              | true => rw [lt_head h6] at h2; cases h2
            exact lt_asymm (lt_head (lt_of_ge h5 q2))
/-- the terms at least e -/
def keep (e a : O) : O := of ((ts a).filter fun t => !lt t.1 e)
theorem keep_add (e e1 : O) (c1 : Int) (r1 : O) : keep e (add e1 c1 r1) = if lt e1 e = true then keep e r1 else add e1 c1 (keep e r1) := by
  unfold keep
  show of (((e1, c1) :: ts r1).filter _) = _
  rw [List.filter_cons]
  cases lt e1 e <;> rfl
theorem keep_none {e : O} : ∀ {r : O}, (∀ t ∈ ts r, lt t.1 e = true) → keep e r = z
  | r, h => by
    unfold keep
    rw [filter_none fun x hx => by rw [h x hx]; rfl]
    rfl
theorem ts_keep (e a : O) : ts (keep e a) = (ts a).filter fun t => !lt t.1 e := ts_of _
theorem under_keep {x e : O} : ∀ {a : O}, ok a = true → under x a = true → under x (keep e a) = true
  | z, _, _ => rfl
  | add e1 c1 r1, h, hu => by
    have g := ok_add.mp h
    rw [keep_add]
    split
    · refine under_keep g.2.2.1 ?_
      cases r1 with
      | z => rfl
      | add e2 c2 r2 => exact lt_trans _ _ _ g.2.2.2 hu
    · exact hu
theorem ok_keep {e : O} : ∀ {a : O}, ok a = true → ok (keep e a) = true
  | z, _ => rfl
  | add e1 c1 r1, h => by
    have g := ok_add.mp h
    rw [keep_add]
    split
    · exact ok_keep g.2.2.1
    · exact ok_add.mpr ⟨g.1, g.2.1, ok_keep g.2.2.1, under_keep g.2.2.1 g.2.2.2⟩
theorem dp_keep (e : O) : ∀ a : O, dp (keep e a) ≤ dp a
  | z => Nat.le_refl _
  | add e1 c1 r1 => by
    have := dp_keep e r1
    rw [keep_add]
    split
    · show _ ≤ max _ _; omega
    · show max _ _ ≤ max _ _; omega
theorem len_keep (e a : O) : (ts (keep e a)).length ≤ (ts a).length := by
  rw [ts_keep]; exact List.length_filter_le _ _
/-- the sum forgets the terms below -/
theorem sum_keep {e : O} {c : Int} {r : O} : ∀ {a : O}, ok a = true → sum (keep e a) (add e c r) = sum a (add e c r)
  | z, _ => rfl
  | add e1 c1 r1, h => by
    have g := ok_add.mp h
    rw [keep_add]
    by_cases k : lt e1 e = true
    · rw [if_pos k, sum_lt k, sum_keep g.2.2.1]
      have : ∀ t ∈ ts r1, lt t.1 e = true := fun t ht => lt_trans _ _ _ (under_all g.2.2.1 g.2.2.2 t ht) k
      rw [← sum_keep g.2.2.1, keep_none this, z_sum]
    · rw [if_neg k]
      by_cases q : e1 = e
      · subst q; rw [sum_eq, sum_eq]
      · have k2 : lt e e1 = true := lt_of_ge (Bool.eq_false_iff.mpr k) q
        rw [sum_gt k2, sum_gt k2, sum_keep g.2.2.1]
theorem keep_all {e : O} : ∀ {a : O}, (∀ t ∈ ts a, lt t.1 e = false) → keep e a = a
  | z, _ => rfl
  | add e1 c1 r1, h => by
    rw [keep_add, h (e1, c1) List.mem_cons_self, if_neg Bool.false_ne_true, keep_all fun t ht => h t (List.mem_cons_of_mem _ ht)]
/-- what the law's own raising does -/
theorem raised_law {a e : O} (ha : ok a = true) : (if e = z ∨ (keep e a = a ∧ a ≠ z) then a else sum (keep e a) (pw e)) = raisedO a e := by
  unfold raisedO
  by_cases he : e = z
  · rw [if_pos (.inl he)]
    subst he
    rw [not_lt_nil, if_neg Bool.false_ne_true]
  · by_cases hz : a = z
    · subst hz
      rw [if_neg (fun h => h.elim he fun h => h.2 rfl), endO_z, if_pos (nil_lt he)]
      rfl
    · cases k : lt (endO a) e with
      | false =>
        have : keep e a = a := keep_all fun t ht => ge_trans (end_le ha ht) k
        rw [if_pos (.inr ⟨this, hz⟩), if_neg Bool.false_ne_true]
      | true =>
        have : keep e a ≠ a := fun h => by
          obtain ⟨c, hc⟩ := end_mem hz
          have hc2 : (endO a, c) ∈ (ts a).filter fun t => !lt t.1 e := by rw [← ts_keep, h]; exact hc
          have := (List.mem_filter.mp hc2).2
          rw [show lt (endO a, c).1 e = true from k] at this
          cases this
        rw [if_neg (fun h => h.elim he fun h => this h.1), if_pos rfl]
        exact sum_keep ha
/-- the first terms -/
theorem ok_take : ∀ (a : O) (k : Nat), ok a = true → ok (of ((ts a).take k)) = true
  | _, 0, _ => rfl
  | z, _ + 1, _ => rfl
  | add e c r, k + 1, h => by
    have g := ok_add.mp h
    refine ok_add.mpr ⟨g.1, g.2.1, ok_take r k g.2.2.1, ?_⟩
    cases r with
    | z => cases k <;> rfl
    | add e2 c2 r2 => cases k with
      | zero => rfl
      | succ k => exact g.2.2.2
theorem dp_take (a : O) (k : Nat) : dp (of ((ts a).take k)) ≤ dp a := dp_of _ _ fun t ht => dp_mem (List.mem_of_mem_take ht)
theorem len_take (a : O) (k : Nat) : (ts (of ((ts a).take k))).length ≤ (ts a).length := by
  rw [ts_of, List.length_take]; omega
/-- so many times the power -/
def pwN (e : O) (n : Int) : O := if n = 0 then z else add e n z
end O
def spPow (K : PySem.W.Frag) : Sp := fun vs H Q _ => ∃ (x : V) (e : O) (n : Int), vs = [x, .int n] ∧ OA K H x e ∧ ∀ (v : V) (H' : Hp), Same H H' → OA K H' v (O.pwN e n) → Q v H'
/-- a function of two ordinals -/
def spO2 (K : PySem.W.Frag) (g : O → O → O) : Sp := fun vs H Q _ => ∃ (x y : V) (a b : O), vs = [x, y] ∧ OA K H x a ∧ OA K H y b ∧ O.ok a = true ∧ O.ok b = true ∧ O.dp a ≤ 46 ∧ O.dp b ≤ 46 ∧ (O.ts a).length ≤ 3600000 ∧ (O.ts b).length ≤ 3600000 ∧ ∀ (v : V) (H' : Hp), Same H H' → OA K H' v (g a b) → Q v H'
end Vw

set_option Elab.async false
set_option linter.all false
set_option maxRecDepth 100000
namespace Vw
open PySem PySem.W PyProof.Rows L2
namespace O
/-- what makes b when it is added to a -/
def gap : O → O → O
  | z, b => b
  | add _ _ _, z => z
  | add e c r, add e' c' r' => if e = e' then (if c = c' then gap r r' else add e' (c' - c) r') else add e' c' r'
theorem ok_gap : ∀ {a b : O}, ok a = true → ok b = true → lt a b = true → ok (gap a b) = true
  | z, b, _, hb, _ => by cases b <;> exact hb
  | add _ _ _, z, _, _, _ => rfl
  | add e c r, add e' c' r', ha, hb, h => by
    have ga := ok_add.mp ha
    have gb := ok_add.mp hb
    unfold gap
    simp only [lt] at h
    split
    · rename_i he; rw [if_pos he] at h
      split
      · rename_i hc; rw [if_pos hc] at h
        exact ok_gap ga.2.2.1 gb.2.2.1 h
      · rename_i hc; rw [if_neg hc] at h
        have := of_decide_eq_true h
        exact ok_add.mpr ⟨gb.1, by omega, gb.2.2.1, gb.2.2.2⟩
    · exact hb
theorem gap_ne : ∀ {a b : O}, lt a b = true → gap a b ≠ z
  | z, b, h => by cases b <;> first | (cases h; done) | (intro q; cases q)
  | add e c r, z, h => by cases h
  | add e c r, add e' c' r', h => by
    unfold gap
    simp only [lt] at h
    split
    · rename_i he; rw [if_pos he] at h
      split
      · rename_i hc; rw [if_pos hc] at h
        exact gap_ne h
      · intro q; cases q
    · intro q; cases q
/-- the exponents of the gap are exponents of b -/
theorem gap_exp : ∀ {a b : O} {t : O × Int}, t ∈ ts (gap a b) → ∃ c, (t.1, c) ∈ ts b
  | z, b, t, h => ⟨t.2, by cases b <;> exact h⟩
  | add e c r, z, t, h => by cases h
  | add e c r, add e' c' r', t, h => by
    unfold gap at h
    split at h
    · split at h
      · obtain ⟨c2, h2⟩ := gap_exp h
        exact ⟨c2, List.mem_cons_of_mem _ h2⟩
      · rcases List.mem_cons.mp h with q | q
        · subst q; exact ⟨c', List.mem_cons_self⟩
        · exact ⟨t.2, List.mem_cons_of_mem _ q⟩
    · exact ⟨t.2, h⟩
theorem sum_gap : ∀ {a b : O}, ok a = true → ok b = true → lt a b = true → sum a (gap a b) = b
  | z, b, _, _, _ => by cases b <;> (unfold gap; rw [z_sum])
  | add _ _ _, z, _, _, h => by cases h
  | add e c r, add e' c' r', ha, hb, h => by
    have ga := ok_add.mp ha
    have gb := ok_add.mp hb
    unfold gap
    simp only [lt] at h
    split
    · rename_i he; rw [if_pos he] at h
      subst he
      split
      · rename_i hc; rw [if_pos hc] at h
        subst hc
        have ih := sum_gap ga.2.2.1 gb.2.2.1 h
        have hne := gap_ne h
        cases hg : gap r r' with
        | z => exact absurd hg hne
        | add e2 c2 r2 =>
          rw [hg] at ih
          obtain ⟨c5, h5⟩ := gap_exp (a := r) (b := r') (t := (e2, c2)) (by rw [hg]; exact List.mem_cons_self)
          have := under_all gb.2.2.1 gb.2.2.2 _ h5
          rw [sum_gt this, ih]
      · rename_i hc; rw [if_neg hc] at h
        rw [sum_eq]
        congr 1
        omega
    · rename_i he; rw [if_neg he] at h
      rw [sum_lt h]
theorem dp_gap (a b : O) : dp (gap a b) ≤ dp b := by
  rw [← of_ts (gap a b)]
  refine dp_of _ _ fun t ht => ?_
  obtain ⟨c, h⟩ := gap_exp ht
  exact dp_mem (t := (t.1, c)) h
theorem len_gap : ∀ a b : O, (ts (gap a b)).length ≤ (ts b).length
  | z, b => by cases b <;> exact Nat.le_refl _
  | add _ _ _, z => Nat.zero_le _
  | add e c r, add e' c' r' => by
    unfold gap
    split
    · split
      · have := len_gap r r'; show _ ≤ (ts r').length + 1; omega
      · exact Nat.le_refl _
    · exact Nat.le_refl _
/-- the exponent of the first term -/
def headE : O → O
  | z => z
  | add e _ _ => e
theorem dp_headE (a : O) : dp (headE a) ≤ dp a := by
  cases a with
  | z => exact Nat.le_refl _
  | add e c r => show dp e ≤ max (dp e + 2) (dp r); omega
theorem ok_headE {a : O} (h : ok a = true) : ok (headE a) = true := by
  cases a with
  | z => rfl
  | add e c r => exact (ok_add.mp h).1
theorem len_headE {a : O} : (ts (headE a)).length ≤ wd a := by
  cases a with
  | z => exact Nat.zero_le _
  | add e c r =>
    have := len_wd e
    show (ts e).length ≤ max (wd e) (max ((ts r).length + 1) (wd r)); omega
def maxO (a b : O) : O := if lt a b = true then b else a
theorem maxO_ge1 (a b : O) : lt (maxO a b) a = false := by
  unfold maxO; split
  · rename_i h; exact lt_asymm h
  · exact lt_irrefl _
theorem maxO_ge2 (a b : O) : lt (maxO a b) b = false := by
  unfold maxO; split
  · exact lt_irrefl _
  · rename_i h; exact Bool.eq_false_iff.mpr h
theorem maxO_or (a b : O) : maxO a b = a ∨ maxO a b = b := by unfold maxO; split <;> simp
theorem maxO_le {a b c : O} (h1 : lt c a = false) (h2 : lt c b = false) : lt c (maxO a b) = false := by
  rcases maxO_or a b with h | h <;> rw [h] <;> assumption
/-- the least ordinal above the ends of all from a on, before b -/
def endLim (a b : O) : O := maxO (sum (endO a) one) (if gap a b = pw (headE (gap a b)) then headE (gap a b) else sum (headE (gap a b)) one)
theorem succ_ne (a : O) : sum a one ≠ z := sum_add_ne _ _ _ _
theorem succ_le {a b : O} (ha : ok a = true) (hb : ok b = true) (h : lt a b = true) : lt b (sum a one) = false := lt_succ_iff a b ha hb h
theorem lt_of_succ {a b : O} (ha : ok a = true) (h : lt b (sum a one) = false) : lt a b = true := lt_ge (lt_succ ha) h
theorem pw_lt {e x : O} (h : lt e (headE x) = true) : lt (pw e) x = true := by
  cases x with
  | z => rw [show headE z = z from rfl, not_lt_nil] at h; cases h
  | add e2 c2 r2 => exact lt_head h
theorem lt_pw {e x : O} (hx : x ≠ z) (h : lt (headE x) e = true) : lt x (pw e) = true := by
  cases x with
  | z => exact absurd rfl hx
  | add e2 c2 r2 => exact lt_head h
theorem pw_head {x : O} (hx : ok x = true) (hz : x ≠ z) : lt x (pw (headE x)) = false := by
  cases x with
  | z => exact absurd rfl hz
  | add e c r =>
    have g := ok_add.mp hx
    show lt (add e c r) (add e 1 z) = false
    by_cases hc : c = 1
    · subst hc; rw [lt_rest]; exact not_lt_nil _
    · exact lt_asymm (lt_cnt (by omega))
section
variable {a b : O} (ha : ok a = true) (hb : ok b = true) (h : lt a b = true)
include ha hb h
theorem lim_gt : lt (endO a) (endLim a b) = true := lt_of_succ (ok_end ha) (maxO_ge1 _ _)
theorem lim_ne : endLim a b ≠ z := fun q => by
  have := lim_gt ha hb h
  rw [q, not_lt_nil] at this; cases this
/-- the raised one is not before b -/
theorem lim_raised : lt (raisedO a (endLim a b)) b = false := by
  unfold raisedO
  rw [if_pos (lim_gt ha hb h)]
  have hg := ok_gap ha hb h
  have e := sum_gap ha hb h
  have hF : ok (endLim a b) = true := by
    unfold endLim
    rcases maxO_or (sum (endO a) one) (if gap a b = pw (headE (gap a b)) then headE (gap a b) else sum (headE (gap a b)) one) with q | q <;> rw [q]
    · exact ok_sum _ _ (ok_end ha) ok_one
    · split
      · exact ok_headE hg
      · exact ok_sum _ _ (ok_headE hg) ok_one
  have key : lt (pw (endLim a b)) (gap a b) = false := by
    have h2 := maxO_ge2 (sum (endO a) one) (if gap a b = pw (headE (gap a b)) then headE (gap a b) else sum (headE (gap a b)) one)
    have h2 : lt (endLim a b) (if gap a b = pw (headE (gap a b)) then headE (gap a b) else sum (headE (gap a b)) one) = false := h2
    split at h2
    · rename_i hp
      rw [hp]
      have hh : headE (pw (headE (gap a b))) = headE (gap a b) := rfl
      by_cases q : endLim a b = headE (gap a b)
      · rw [q]; exact lt_irrefl _
      · exact lt_asymm (lt_head (lt_of_ge h2 q))
    · exact lt_asymm (lt_pw (gap_ne h) (lt_of_succ (ok_headE hg) h2))
  have m := sum_mono_iff ha (ok_pw hF) hg
  rw [e] at m
  rw [m]; exact key
/-- the least such -/
theorem lim_least {e : O} (he : ok e = true) (hz : e ≠ z) (hr : lt (raisedO a e) b = false) : lt e (endLim a b) = false := by
  have hg := ok_gap ha hb h
  have es := sum_gap ha hb h
  unfold raisedO at hr
  split at hr
  · rename_i h1
    have m := sum_mono_iff ha (ok_pw he) hg
    rw [es, hr] at m
    have m : lt (pw e) (gap a b) = false := m.symm
    refine maxO_le (succ_le (ok_end ha) he h1) ?_
    have h3 : lt e (headE (gap a b)) = false := by
      cases q : lt e (headE (gap a b)) with
      | false => rfl
      | true => rw [pw_lt q] at m; cases m
    split
    · exact h3
    · rename_i hp
      refine succ_le (ok_headE hg) he (lt_of_ge h3 fun q => hp ?_)
      subst q
      exact eq_of (pw_head hg (gap_ne h)) m
  · rw [h] at hr; cases hr
/-- it is among the exponents of b, their successors, and 1 -/
theorem lim_some : endLim a b = one ∨ (∃ c, (endLim a b, c) ∈ ts b) ∨ ∃ e c, (e, c) ∈ ts b ∧ endLim a b = sum e one := by
  have hg := ok_gap ha hb h
  have hne := gap_ne h
  obtain ⟨c0, h0⟩ : ∃ c, (headE (gap a b), c) ∈ ts b := by
    cases q : gap a b with
    | z => exact absurd q hne
    | add e c r => exact gap_exp (a := a) (t := (e, c)) (by rw [q]; exact List.mem_cons_self)
  rcases maxO_or (sum (endO a) one) (if gap a b = pw (headE (gap a b)) then headE (gap a b) else sum (headE (gap a b)) one) with q | q
  · have q : endLim a b = sum (endO a) one := q
    by_cases hz : a = z
    · subst hz; left; rw [q]; rfl
    · right
      by_cases h5 : lt (endO a) (headE (gap a b)) = true
      · -- then the successor of the end is at most the head
        have h6 := succ_le (ok_end ha) (ok_headE hg) h5
        have h7 := maxO_ge2 (sum (endO a) one) (if gap a b = pw (headE (gap a b)) then headE (gap a b) else sum (headE (gap a b)) one)
        have h7 : lt (endLim a b) (if gap a b = pw (headE (gap a b)) then headE (gap a b) else sum (headE (gap a b)) one) = false := h7
        rw [q] at h7
        split at h7
        · have := eq_of h6 h7
          left
          refine ⟨c0, ?_⟩
          rw [q, ← this]; exact h0
        · have := lt_of_succ (ok_headE hg) h7
          rw [h6] at this; cases this
      · right
        have h5 := Bool.eq_false_iff.mpr h5
        -- the end of a stays an exponent of b
        obtain ⟨c, hc⟩ : ∃ c, (endO a, c) ∈ ts b := by
          rw [← sum_gap ha hb h]
          cases q2 : gap a b with
          | z => exact absurd q2 hne
          | add e2 c2 r2 =>
            rw [q2] at h5
            obtain ⟨c1, m1⟩ := end_mem hz
            by_cases q3 : endO a = e2
            · clear q h5 hg hne h0 q2
              have : ∀ x : O, ∃ c, (e2, c) ∈ ts (sum x (add e2 c2 r2)) := fun x => by
                induction x with
                | z => exact ⟨c2, by rw [z_sum]; exact List.mem_cons_self⟩
                | add e c r _ ih =>
                  by_cases k : e = e2
                  · subst k; rw [sum_eq]; exact ⟨_, List.mem_cons_self⟩
                  · rcases lt_total e e2 k with k | k
                    · rw [sum_lt k]; exact ⟨_, List.mem_cons_self⟩
                    · rw [sum_gt k]
                      obtain ⟨c', h'⟩ := ih
                      exact ⟨c', List.mem_cons_of_mem _ h'⟩
              rw [q3]; exact this a
            · have k : lt e2 (endO a) = true := lt_of_ge h5 q3
              have : ∀ x : O, ok x = true → (endO a, c1) ∈ ts x → (endO a, c1) ∈ ts (sum x (add e2 c2 r2)) := fun x hx hm => by
                induction x with
                | z => cases hm
                | add e c r _ ih =>
                  have gx := ok_add.mp hx
                  have k2 : lt e2 e = true := by
                    rcases List.mem_cons.mp hm with k3 | k3
                    · cases k3; exact k
                    · exact lt_trans _ _ _ k (under_all gx.2.2.1 gx.2.2.2 _ k3)
                  rw [sum_gt k2]
                  rcases List.mem_cons.mp hm with k3 | k3
                  · rw [k3]; exact List.mem_cons_self
                  · exact List.mem_cons_of_mem _ (ih gx.2.2.1 k3)
              exact ⟨c1, this a ha m1⟩
        exact ⟨_, _, hc, q⟩
  · have q : endLim a b = (if gap a b = pw (headE (gap a b)) then headE (gap a b) else sum (headE (gap a b)) one) := q
    right
    split at q
    · left; exact ⟨c0, by rw [q]; exact h0⟩
    · right; exact ⟨_, _, h0, q⟩
/-- none from a on before b ends so -/
theorem lim_above {x : O} (hx : ok x = true) (h1 : lt x a = false) (h2 : lt x b = true) : lt (endO x) (endLim a b) = true := by
  cases q : lt (endO x) (endLim a b) with
  | true => rfl
  | false =>
    have h3 := raised_least ha hx (lim_gt ha hb h) h1 q
    have h4 := lim_raised ha hb h
    unfold raisedO at h4
    rw [if_pos (lim_gt ha hb h)] at h4
    rw [ge_trans h3 h4] at h2; cases h2
end
end O
end Vw

set_option Elab.async false
set_option linter.all false
set_option maxRecDepth 100000
namespace Vw
open PySem PySem.W PyProof.Rows L2
/-! ### max(a, b), min(list) of ordinals -/
theorem O.alikeAll (os : List O) : AlikeAll (os.map O.toD) :=
  ⟨fun x hx y hy => by
    obtain ⟨a, _, rfl⟩ := List.mem_map.mp hx
    obtain ⟨b, _, rfl⟩ := List.mem_map.mp hy
    exact O.alike_toD a b, fun x hx e => by
    obtain ⟨a, _, rfl⟩ := List.mem_map.mp hx
    cases e⟩
theorem O.depthAll {n : Nat} : ∀ {os : List O}, (∀ o ∈ os, O.dp o ≤ n) → PyData.depthAll (os.map O.toD) ≤ n + 1
  | [], _ => Nat.zero_le _
  | o :: r, h => by
    have h1 := h o List.mem_cons_self
    have h2 := O.depthAll (os := r) fun x hx => h x (List.mem_cons_of_mem _ hx)
    show max (O.toD o).depth (PyData.depthAll (r.map O.toD)) ≤ n + 1
    rw [O.depth_toD]
    omega
section
variable {prog : Program} {w : World} {A : Around} {E : Value → Shared → Prop} {s : Shared}
theorem max_two_data {u v : Value} {d e : PyData} {as bs : List Addr} {Q : Value → Shared → Prop} (hh : A.handled = none) (r1 : Reads s.heap u d as) (r2 : Reads s.heap v e bs) (ha : AlikeAll [d, e]) (hu : A.units + 1 + PyData.depthAll [d, e] < cLine)
    (h : ∀ h' tk, (∀ b o, s.heap.get? b = some o → h'.get? b = some o) → Q (if dataLt d e = true then v else u) { s with heap := h', toks := tk }) : wpAny (model prog w) A (call (.builtin "max") [u, v]) Q E s := by
  have hname : (toString "max" ++ toString ".loop" : String) = "max.loop" := by decide
  refine call_function_tree F.kind_max F.plain_max F.entry_max (F.args_max2 _ _) ?_
  show wpAny _ A.in1 (Builtin.Builtins.bindParams "max" ["key", "default"] 0 ⟨[], []⟩ >>= _) _ _ s
  refine wpAny_bind (wpAny_of_eq (show Builtin.Builtins.bindParams "max" ["key", "default"] 0 ⟨[], []⟩ = pure [none, none] from rfl) ?_)
  show wpAny _ A.in1 (newTuple [u, v] >>= _) _ _ s
  refine wpAny_bind (wpAny_newObj_type ?_)
  have hT : (s.heap.push { cls := .type "tuple", data := .seq #[u, v] }).IsTuple s.heap.objs.size #[u, v] := ⟨_, Heap.get?_push_size _ rfl, rfl, 0, rfl⟩
  have hold : ∀ b o, s.heap.get? b = some o → (s.heap.push { cls := .type "tuple", data := .seq #[u, v] }).get? b = some o := fun b o e => Heap.get?_push_of_some _ e
  have hr : ReadsAll (s.heap.push { cls := .type "tuple", data := .seq #[u, v] }) (#[u, v] : Array Value).toList [d, e] (as ++ (bs ++ [])) := .cons (reads_keeps hold r1) (.cons (reads_keeps hold r2) .nil)
  refine wpAny_bind (iter_tupleW (A := A.in1) (s := { s with heap := s.heap.push { cls := .type "tuple", data := .seq #[u, v] } }) hh hT fun s₂ es W st hfp hw hk => ?_)
  refine wpAny_bind (wpAny_newObj_type ?_)
  have hSf : s₂.heap.objs.size ∉ [(s.heap.push { cls := .type "tuple", data := .seq #[u, v] }).objs.size, s.heap.objs.size] := fun hm => Nat.lt_irrefl _ (hfp _ hm)
  have hcmp := cmpIn_gt (prog := prog) (w := w) (A := A.in1) (s := { s with heap := s.heap.push { cls := .type "tuple", data := .seq #[u, v] } }) (vs := #[u, v]) hr ha (by show A.units + 1 + _ < _; exact hu)
  rw [hname]
  refine wpAny_pure ⟨plainId_quiet F.plain_max_loop _, codeAny_max_loop_firstH W (s.heap.push { cls := .type "tuple", data := .seq #[u, v] }) hw _ hcmp s₂.heap.objs.size hSf (fresh_in hk) _ (show 0 < 2 by decide) (fun b o e => Heap.get?_push_of_some _ (hk b o e)) (W.frame 0 s₂ _ s₂.toks st (Nat.le_refl _) fun b _ o e => Heap.get?_push_of_some _ e) (Heap.get?_push_size _ rfl) fun x s' hP hm => ?_⟩
  have hm := Moved.drop_new (tk := s₂.toks) hm (Nat.le_refl _)
  obtain ⟨h', tk, rfl, hk'⟩ := moved_old es rfl hm
  have q := h h' tk fun b o e => hk' b o (hold b o e)
  have hv : x = if dataLt d e = true then v else u := by
    have hP' : (#[u, v] : Array Value)[argBest (fun i j => dataLt ([d, e].getD j .none) ([d, e].getD i .none)) 1]? = some x := hP
    have hb : argBest (fun i j => dataLt ([d, e].getD j .none) ([d, e].getD i .none)) 1 = if dataLt d e = true then 1 else 0 := rfl
    rw [hb] at hP'
    by_cases g : dataLt d e = true
    · rw [if_pos g] at hP' ⊢; exact (Option.some.inj hP').symm
    · rw [if_neg g] at hP' ⊢; exact (Option.some.inj hP').symm
  rw [hv]; exact q
theorem min_list_at {l : Addr} {vs : Array Value} {x : PyData} {xs : List PyData} {as : List Addr} {Q : Value → Shared → Prop} (hh : A.handled = none) (hl : s.heap.IsList l vs) (hr : ReadsAll s.heap vs.toList (x :: xs) as) (ha : AlikeAll (x :: xs)) (hu : A.units + 1 + PyData.depthAll (x :: xs) < cLine)
    (h : ∀ (i : Nat) v h' tk, vs[i]? = some v → (x :: xs).getD i .none = minD x xs → (∀ b o, s.heap.get? b = some o → h'.get? b = some o) → Q v { s with heap := h', toks := tk }) :
    wpAny (model prog w) A (call (.builtin "min") [.ref l]) Q E s := by
  have hn : vs.size = xs.length + 1 := readsAll_len hr
  refine call_min_walkH (iter_listW (A := A.in1) hh hl fun s₂ e W st hfp hw hk => ?_)
  refine ⟨_, _, _, _, _, _, _, s.heap, _, rfl, W, st, hfp, by omega, hw, hk, cmpIn_lt (A := A.in1) hr ha (by show A.units + 1 + _ < _; exact hu), fun v s' hP m => ?_⟩
  obtain ⟨h', tk, rfl, hk'⟩ := moved_old e rfl m
  have e1 : vs.size - 1 = xs.length := by omega
  have e2 := (argBest_fold dataLt PyData.none x xs xs.length (Nat.le_refl _)).2
  rw [List.take_length] at e2
  refine h _ v h' tk hP ?_ hk'
  rw [e1]
  exact e2
end
def minO (x : O) (xs : List O) : O := xs.foldl (fun a y => if O.lt y a = true then y else a) x
theorem minD_toD (x : O) : ∀ xs : List O, minD (O.toD x) (xs.map O.toD) = O.toD (minO x xs) := fun xs => by
  unfold minD minO
  induction xs generalizing x with
  | nil => rfl
  | cons y ys ih =>
    rw [List.map_cons, List.foldl_cons, List.foldl_cons, O.lt_toD, ← ih]
    congr 1
    split <;> rfl
theorem minO_le : ∀ (xs : List O) (x : O), O.lt x (minO x xs) = false ∧ ∀ y ∈ xs, O.lt y (minO x xs) = false
  | [], x => ⟨O.lt_irrefl _, fun y h => by cases h⟩
  | y :: ys, x => by
    have ih := minO_le ys (if O.lt y x = true then y else x)
    have e : minO x (y :: ys) = minO (if O.lt y x = true then y else x) ys := rfl
    rw [e]
    by_cases g : O.lt y x = true
    · rw [if_pos g] at ih ⊢
      refine ⟨O.ge_trans (O.lt_asymm g) ih.1, fun z hz => ?_⟩
      rcases List.mem_cons.mp hz with h | h
      · subst h; exact ih.1
      · exact ih.2 z h
    · rw [if_neg g] at ih ⊢
      refine ⟨ih.1, fun z hz => ?_⟩
      rcases List.mem_cons.mp hz with h | h
      · subst h; exact O.ge_trans (Bool.eq_false_iff.mpr g) ih.1
      · exact ih.2 z h
theorem vals_at : ∀ {xs : List V} {us : List Value} {i : Nat} {u : Value}, Vals xs us → us[i]? = some u → ∃ x, xs[i]? = some x ∧ RelV x u
  | _, _, _, _, .nil, h => by simp at h
  | _, _, 0, _, .cons a t, h => by
    simp at h; subst h
    exact ⟨_, rfl, a⟩
  | _, _, i + 1, _, .cons a t, h => by
    obtain ⟨x, h1, h2⟩ := vals_at (i := i) t (by simpa using h)
    exact ⟨x, by simpa using h1, h2⟩
theorem dpAll_of {K : PySem.W.Frag} {H : Hp} : ∀ {xs : List V} {os : List O}, Paired (OA K H) xs os → DpAll K H xs (os.map O.toD)
  | _, _, .nil => .nil
  | _, _, .cons a t => .cons a.dp (dpAll_of t)
@[irreducible] def rMaxO (K : PySem.W.Frag) : List V → Hp → VK → Prop := fun vs H Q => ∃ (x y : V) (a b : O), vs = [x, y] ∧ OA K H x a ∧ OA K H y b ∧ O.dp a ≤ 60 ∧ O.dp b ≤ 60 ∧ Q (if O.lt a b = true then y else x) H
@[irreducible] def rMinO (K : PySem.W.Frag) : List V → Hp → VK → Prop := fun vs H Q => ∃ (l : Addr) (xs : List V) (os : List O), vs = [.ref l] ∧ SqL K H l xs ∧ Paired (OA K H) xs os ∧ os ≠ [] ∧ (∀ o ∈ os, O.dp o ≤ 60) ∧ ∀ (v : V) (m : O), m ∈ os → OA K H v m → (∀ o ∈ os, O.lt o m = false) → Q v H
section
variable {X : Cx}
theorem cr_maxO (hc : X.calm = true) (hu : X.A.units + 64 < cLine) : CallR X (.builtin "max") (rMaxO X.K) := by
  intro pins s σ H vs us Q I r h
  unfold rMaxO at h
  obtain ⟨x, y, a, b, rfl, hx, hy, da, db, q⟩ := h
  obtain ⟨u, v, rfl, rx, ry⟩ := vals2 r
  obtain ⟨as, r1⟩ := Dp.reads I _ x u hx.dp rx
  obtain ⟨bs, r2⟩ := Dp.reads I _ y v hy.dp ry
  have hd := O.depthAll (n := 60) (os := [a, b]) fun o ho => by
    simp only [List.mem_cons, List.not_mem_nil, or_false] at ho
    rcases ho with h | h <;> subst h <;> assumption
  have hd : PyData.depthAll [O.toD a, O.toD b] ≤ 61 := hd
  refine max_two_data (I.ok.hd hc) r1 r2 (O.alikeAll [a, b]) (by omega) fun h' tk hk => ⟨_, H, I.kept hk, ?_, q⟩
  rw [O.lt_toD]
  split <;> assumption
theorem cr_minO (hc : X.calm = true) (hu : X.A.units + 64 < cLine) : CallR X (.builtin "min") (rMinO X.K) := by
  intro pins s σ H vs us Q I r h
  unfold rMinO at h
  obtain ⟨l, xs, os, rfl, hs, hp, hne, hd, q⟩ := h
  obtain rfl := Vals.ref1 r
  obtain ⟨its, rv, hl, hz⟩ := I.list hs
  obtain ⟨as, ra⟩ := Dp.readsAll I _ _ _ (dpAll_of hp) rv
  have hdd := O.depthAll hd
  cases os with
  | nil => exact absurd rfl hne
  | cons o os =>
    refine min_list_at (I.ok.hd hc) hl.isList ra (O.alikeAll (o :: os)) (by show X.A.units + 1 + PyData.depthAll ((o :: os).map O.toD) < cLine; omega) fun i v h' tk hv hm hk => ?_
    rw [minD_toD] at hm
    have hv : its[i]? = some v := by simpa using hv
    obtain ⟨y, hy, ry⟩ := vals_at rv hv
    obtain ⟨m, hm2, om⟩ := paired_get hp hy
    have e : ((o :: os).map O.toD).getD i .none = O.toD m := by
      rw [List.getD_eq_getElem?_getD, List.getElem?_map, hm2]; rfl
    have e : O.toD o :: os.map O.toD = (o :: os).map O.toD := rfl
    rw [e, List.getD_eq_getElem?_getD, List.getElem?_map, hm2] at hm
    have hm : m = minO o os := O.toD_inj hm
    have hle := minO_le os o
    refine ⟨y, H, I.kept hk, ry, q y m (List.mem_of_getElem? hm2) om fun z hz => ?_⟩
    rw [hm]
    rcases List.mem_cons.mp hz with h | h
    · subst h; exact hle.1
    · exact hle.2 z h
end
section
variable {K : PySem.W.Frag} {H : Hp} {Q : VK}
theorem rd_max {x y : V} {a b : O} (hx : OA K H x a) (hy : OA K H y b) (da : O.dp a ≤ 60) (db : O.dp b ≤ 60) (q : ∀ v, OA K H v (O.maxO a b) → Q v H) : rMaxO K [x, y] H Q := by
  unfold rMaxO
  refine ⟨x, y, a, b, rfl, hx, hy, da, db, q _ ?_⟩
  unfold O.maxO
  split <;> assumption
theorem rd_min {l : Addr} {xs : List V} {os : List O} (hs : SqL K H l xs) (hp : Paired (OA K H) xs os) (hd : ∀ o ∈ os, O.dp o ≤ 60) (hn : os ≠ []) (q : ∀ v m, m ∈ os → OA K H v m → (∀ o ∈ os, O.lt o m = false) → Q v H) : rMinO K [.ref l] H Q := by
  unfold rMinO
  exact ⟨l, xs, os, rfl, hs, hp, hn, hd, q⟩
end
end Vw

set_option Elab.async false
set_option linter.all false
set_option maxRecDepth 100000
namespace Vw
open PySem PySem.W PyProof.Rows L2
namespace O
theorem drop_cons {a : O} {i : Nat} {t : O × Int} (h : (ts a)[i]? = some t) : of ((ts a).drop i) = add t.1 t.2 (of ((ts a).drop (i + 1))) := by
  obtain ⟨hi, e⟩ := List.getElem?_eq_some_iff.mp h
  rw [List.drop_eq_getElem_cons hi, e]
  rfl
theorem drop_nil {a : O} {i : Nat} (h : (ts a)[i]? = none) : of ((ts a).drop i) = z := by
  rw [List.drop_eq_nil_iff.mpr (List.getElem?_eq_none_iff.mp h)]
  rfl
/-- what the walk over equal terms keeps -/
def GapAt (a b : O) (i : Nat) : Prop := gap a b = gap (of ((ts a).drop i)) (of ((ts b).drop i)) ∧ lt (of ((ts a).drop i)) (of ((ts b).drop i)) = true
theorem GapAt.zero {a b : O} (h : lt a b = true) : GapAt a b 0 := by
  unfold GapAt
  rw [List.drop_zero, List.drop_zero, of_ts, of_ts]
  exact ⟨rfl, h⟩
theorem GapAt.other {a b : O} {i : Nat} {t : O × Int} (g : GapAt a b i) (h : (ts a)[i]? = some t) : ∃ t', (ts b)[i]? = some t' := by
  cases q : (ts b)[i]? with
  | some t' => exact ⟨t', rfl⟩
  | none =>
    have := g.2
    rw [drop_nil q, not_lt_nil] at this
    cases this
theorem GapAt.next {a b : O} {i : Nat} {t : O × Int} (g : GapAt a b i) (h : (ts a)[i]? = some t) (h2 : (ts b)[i]? = some t) : GapAt a b (i + 1) := by
  obtain ⟨g1, g2⟩ := g
  rw [drop_cons h, drop_cons h2] at g1 g2
  rw [lt_rest] at g2
  refine ⟨g1.trans ?_, g2⟩
  show (if t.1 = t.1 then (if t.2 = t.2 then _ else _) else _) = _
  rw [if_pos rfl, if_pos rfl]
theorem GapAt.short {a b : O} {i : Nat} (g : GapAt a b i) (h : (ts a)[i]? = none) : gap a b = of ((ts b).drop i) := by
  obtain ⟨g1, _⟩ := g
  rw [g1, drop_nil h]
  cases of ((ts b).drop i) <;> rfl
theorem GapAt.count {a b : O} {i : Nat} {t t' : O × Int} (g : GapAt a b i) (h : (ts a)[i]? = some t) (h2 : (ts b)[i]? = some t') (n : t ≠ t') (e : t.1 = t'.1) : gap a b = of ((t'.1, t'.2 - t.2) :: (ts b).drop (i + 1)) := by
  obtain ⟨g1, _⟩ := g
  rw [g1, drop_cons h, drop_cons h2]
  show (if t.1 = t'.1 then (if t.2 = t'.2 then _ else _) else _) = _
  rw [if_pos e, if_neg fun e2 => n (Prod.ext e e2)]
  rfl
theorem GapAt.exp {a b : O} {i : Nat} {t t' : O × Int} (g : GapAt a b i) (h : (ts a)[i]? = some t) (h2 : (ts b)[i]? = some t') (e : t.1 ≠ t'.1) : gap a b = of ((ts b).drop i) := by
  obtain ⟨g1, _⟩ := g
  rw [g1, drop_cons h, drop_cons h2]
  show (if t.1 = t'.1 then (if t.2 = t'.2 then _ else _) else _) = _
  rw [if_neg e]
theorem sum_exp : ∀ {a b : O} {t : O × Int}, t ∈ ts (sum a b) → (∃ c, (t.1, c) ∈ ts a) ∨ ∃ c, (t.1, c) ∈ ts b
  | a, z, t, h => by rw [sum_z] at h; exact .inl ⟨t.2, h⟩
  | z, b, t, h => by rw [z_sum] at h; exact .inr ⟨t.2, h⟩
  | add e c r, add e' c' r', t, h => by
    by_cases q : e = e'
    · subst q
      rw [sum_eq] at h
      rcases List.mem_cons.mp h with k | k
      · subst k; exact .inl ⟨c, List.mem_cons_self⟩
      · exact .inr ⟨t.2, List.mem_cons_of_mem _ k⟩
    · rcases lt_total e e' q with k | k
      · rw [sum_lt k] at h; exact .inr ⟨t.2, h⟩
      · rw [sum_gt k] at h
        rcases List.mem_cons.mp h with k2 | k2
        · subst k2; exact .inl ⟨c, List.mem_cons_self⟩
        · rcases sum_exp k2 with ⟨c2, h2⟩ | h2
          · exact .inl ⟨c2, List.mem_cons_of_mem _ h2⟩
          · exact .inr h2
theorem wd_sum (a b : O) : wd (sum a b) ≤ wd a + wd b := by
  rw [← of_ts (sum a b)]
  refine wd_of _ _ ?_ fun t ht => ?_
  · have := len_sum a b
    have := len_wd a
    have := len_wd b
    omega
  · rcases sum_exp ht with ⟨c, h⟩ | ⟨c, h⟩
    · have : wd t.1 ≤ wd a := wd_mem (t := (t.1, c)) h
      omega
    · have : wd t.1 ≤ wd b := wd_mem (t := (t.1, c)) h
      omega
theorem wd_pw (e : O) : wd (pw e) ≤ wd e + 1 := by
  show max (wd e) (max (0 + 1) 0) ≤ _
  omega
theorem wd_raised (a e : O) : wd (raisedO a e) ≤ wd a + wd e + 1 := by
  unfold raisedO
  split
  · have := wd_sum a (pw e)
    have := wd_pw e
    omega
  · omega
theorem wd_take (a : O) (k : Nat) : wd (of ((ts a).take k)) ≤ wd a := by
  refine wd_of _ _ ?_ fun t ht => wd_mem (List.mem_of_mem_take ht)
  have := len_wd a
  rw [List.length_take]; omega
theorem wd_end (a : O) : wd (endO a) ≤ wd a := by
  by_cases q : a = z
  · subst q; exact Nat.le_refl _
  · obtain ⟨c, hc⟩ := end_mem q
    exact wd_mem hc
theorem dp_max (a b : O) : dp (maxO a b) ≤ max (dp a) (dp b) := by
  rcases maxO_or a b with h | h <;> rw [h] <;> omega
theorem wd_max (a b : O) : wd (maxO a b) ≤ max (wd a) (wd b) := by
  rcases maxO_or a b with h | h <;> rw [h] <;> omega
theorem wd_headE (a : O) : wd (headE a) ≤ wd a := by
  cases a with
  | z => exact Nat.le_refl _
  | add e c r => show wd e ≤ max (wd e) _; omega
theorem wd_gap (a b : O) : wd (gap a b) ≤ wd b := by
  rw [← of_ts (gap a b)]
  refine wd_of _ _ ?_ fun t ht => ?_
  · have := len_gap a b
    have := len_wd b
    omega
  · obtain ⟨c, h⟩ := gap_exp ht
    exact wd_mem (t := (t.1, c)) h
theorem dp_lim (a b : O) : dp (endLim a b) ≤ max (max (dp a) (dp b)) 2 := by
  unfold endLim
  have h1 := dp_max (sum (endO a) one) (if gap a b = pw (headE (gap a b)) then headE (gap a b) else sum (headE (gap a b)) one)
  have h2 := dp_sum (endO a) one
  have h3 := dp_end a
  have h4 : dp one = 2 := by decide
  have h5 := dp_headE (gap a b)
  have h6 := dp_gap a b
  have h7 := dp_sum (headE (gap a b)) one
  by_cases hp : gap a b = pw (headE (gap a b))
  · rw [if_pos hp] at h1 ⊢; omega
  · rw [if_neg hp] at h1 ⊢; omega
theorem wd_lim (a b : O) : wd (endLim a b) ≤ wd a + wd b + 1 := by
  unfold endLim
  have h1 := wd_max (sum (endO a) one) (if gap a b = pw (headE (gap a b)) then headE (gap a b) else sum (headE (gap a b)) one)
  have h2 := wd_sum (endO a) one
  have h3 := wd_end a
  have h4 : wd one = 1 := by decide
  have h5 := wd_headE (gap a b)
  have h6 := wd_gap a b
  have h7 := wd_sum (headE (gap a b)) one
  by_cases hp : gap a b = pw (headE (gap a b))
  · rw [if_pos hp] at h1 ⊢; omega
  · rw [if_neg hp] at h1 ⊢; omega
end O
theorem eqv_tD (s t : O × Int) : PyData.eqv (O.tD s) (O.tD t) = decide (s = t) := by
  obtain ⟨a, c⟩ := s
  obtain ⟨b, d⟩ := t
  unfold O.tD
  simp only [PyData.eqv, PyData.eqvAll, O.eqv_toD, Bool.and_true, Prod.mk.injEq, Bool.decide_and]
  rfl
theorem shaped_tD {t : O × Int} (h : O.dp t.1 ≤ 50) : SeqAt.shaped (O.tD t) = true := by
  have h1 := O.lay_toD t.1
  have h2 := O.depth_toD t.1
  unfold SeqAt.shaped O.tD
  simp only [PyData.canLay0, PyData.canLayAll0, PyData.depth, PyData.depthAll, h1, h2, Bool.and_true, Bool.true_and, decide_eq_true_eq]
  omega
theorem rd_eqT {K : PySem.W.Frag} {H : Hp} {x y : V} {s t : O × Int} {Q : VK} (ha : TmA K H x s) (hb : TmA K H y t) (h : O.dp s.1 ≤ 50) (h2 : O.dp t.1 ≤ 50) (q : Q (.bl (decide (s = t))) H) : rEqO K x y H Q := by
  unfold rEqO
  exact ⟨_, _, ha.dp, hb.dp, shaped_tD h, shaped_tD h2, by rw [eqv_tD]; exact q⟩
/-- a function of one ordinal and a greater one -/
def spLim (K : PySem.W.Frag) (g : O → O → O) : Sp := fun vs H Q _ => ∃ (x y : V) (a b : O), vs = [x, y] ∧ OA K H x a ∧ OA K H y b ∧ O.ok a = true ∧ O.ok b = true ∧ O.lt a b = true ∧ O.dp a ≤ 40 ∧ O.dp b ≤ 40 ∧ O.wd a ≤ 1600000 ∧ O.wd b ≤ 1600000 ∧ ∀ (v : V) (H' : Hp), Same H H' → OA K H' v (g a b) → Q v H'
end Vw

set_option Elab.async false
set_option linter.all false
set_option maxRecDepth 100000
namespace Vw
open PySem PySem.W PyProof.Rows L2
/-! ### rows -/
def RowA (K : PySem.W.Frag) (H : Hp) (v : V) (os : List O) : Prop := ∃ a xs, v = .ref a ∧ TT K H a xs ∧ Paired (OA K H) xs os
def rowD (os : List O) : PyData := .tuple (os.map O.toD)
theorem eqvAll_toD : ∀ os ps : List O, PyData.eqvAll (os.map O.toD) (ps.map O.toD) = decide (os = ps)
  | [], [] => by simp [PyData.eqvAll]
  | [], p :: ps => by simp [PyData.eqvAll]
  | o :: os, [] => by simp [PyData.eqvAll]
  | o :: os, p :: ps => by
    simp only [List.map_cons, PyData.eqvAll, eqvAll_toD os ps, O.eqv_toD, List.cons.injEq, Bool.decide_and]
theorem eqv_rowD (os ps : List O) : PyData.eqv (rowD os) (rowD ps) = decide (os = ps) := by
  unfold rowD
  simp only [PyData.eqv, eqvAll_toD]
theorem lay_all : ∀ os : List O, PyData.canLayAll0 (os.map O.toD) = true
  | [] => rfl
  | o :: os => by simp only [List.map_cons, PyData.canLayAll0, O.lay_toD, lay_all os, Bool.and_self]
theorem shaped_rowD {os : List O} (h : ∀ o ∈ os, O.dp o ≤ 50) : SeqAt.shaped (rowD os) = true := by
  have h1 := lay_all os
  have h2 := O.depthAll h
  unfold SeqAt.shaped rowD
  rw [Bool.and_eq_true, decide_eq_true_eq]
  refine ⟨by simp only [PyData.canLay0, h1], ?_⟩
  have : (PyData.tuple (os.map O.toD)).depth = PyData.depthAll (os.map O.toD) + 1 := by simp only [PyData.depth]
  omega
/-- what the ordinals of a drawn row are -/
def Good (os : List O) : Prop := ∀ o ∈ os, O.ok o = true ∧ O.dp o ≤ 14 ∧ O.wd o ≤ 12
theorem Good.dp {os : List O} (h : Good os) : ∀ o ∈ os, O.dp o ≤ 50 := fun o ho => by have := (h o ho).2.1; omega
theorem Good.take {os : List O} (h : Good os) (k : Nat) : Good (os.take k) := fun o ho => h o (List.mem_of_mem_take ho)
theorem Good.app {os ps : List O} (h : Good os) (h2 : Good ps) : Good (os ++ ps) := fun o ho => (List.mem_append.mp ho).elim (h o) (h2 o)
section
variable {K : PySem.W.Frag} {H H' : Hp} {v x y : V} {os ps : List O} {Q : VK}
theorem RowA.tp (t : Tp H H') (h : RowA K H v os) : RowA K H' v os := by
  obtain ⟨a, xs, rfl, h1, h2⟩ := h
  exact ⟨a, xs, rfl, h1.tp t, paired_tp t h2⟩
theorem RowA.same (h : RowA K H v os) (s : Same H H') : RowA K H' v os := h.tp (same_tp s)
theorem RowA.dp (h : RowA K H v os) : Dp K H v (rowD os) := by
  obtain ⟨a, xs, rfl, h1, h2⟩ := h
  exact .tup h1.sq (dpAll_of h2)
theorem RowA.of {a : Addr} {xs : List V} (h : TT K H a xs) (p : Paired (OA K H) xs os) : RowA K H (.ref a) os := ⟨a, xs, rfl, h, p⟩
theorem rd_eqRow (hx : RowA K H x os) (hy : RowA K H y ps) (g : Good os) (g2 : Good ps) (q : Q (.bl (decide (os = ps))) H) : rEqO K x y H Q := by
  unfold rEqO
  exact ⟨_, _, hx.dp, hy.dp, shaped_rowD g.dp, shaped_rowD g2.dp, by rw [eqv_rowD]; exact q⟩
theorem rd_eqNilO {p p2 : Addr} {xs : List V} (h1 : SqL K H p xs) (h2 : Paired (OA K H) xs os) (h3 : SqL K H p2 []) (g : Good os) (q : Q (.bl os.isEmpty) H) : rEqO K (.ref p) (.ref p2) H Q := by
  unfold rEqO
  refine ⟨_, _, .lst h1 (dpAll_of h2), .lst h3 .nil, ?_, shaped_nil, ?_⟩
  · have e1 := lay_all os
    have e2 := O.depthAll g.dp
    unfold SeqAt.shaped
    rw [Bool.and_eq_true, decide_eq_true_eq]
    refine ⟨by simp only [PyData.canLay0, e1], ?_⟩
    have : (PyData.list (os.map O.toD)).depth = PyData.depthAll (os.map O.toD) + 1 := by simp only [PyData.depth]
    omega
  · rw [eqv_nil]
    cases os <;> exact q
end
/-- what is_below says -/
def below (k : Nat) (os ps : List O) : Bool := decide (os.take k = ps.take k) && O.lt (ps.getD k .z) (os.getD k .z)
theorem below_trans {k : Nat} {os ps qs : List O} (h1 : below k os ps = true) (h2 : below k ps qs = true) : below k os qs = true := by
  unfold below at *
  rw [Bool.and_eq_true, decide_eq_true_eq] at *
  exact ⟨h1.1.trans h2.1, O.lt_trans _ _ _ h2.2 h1.2⟩
theorem below_low {k j : Nat} {os ps qs : List O} (h1 : below k os ps = true) (hj : j < k) : below j os qs = below j ps qs := by
  unfold below at *
  rw [Bool.and_eq_true, decide_eq_true_eq] at h1
  have e1 : os.take j = ps.take j := by
    have := congrArg (List.take j) h1.1
    rw [List.take_take, List.take_take, Nat.min_eq_left (by omega)] at this
    exact this
  have e2 : os.getD j .z = ps.getD j .z := by
    have := congrArg (fun l => l[j]?) h1.1
    simp only [List.getElem?_take, if_pos hj] at this
    rw [List.getD_eq_getElem?_getD, List.getD_eq_getElem?_getD, this]
  rw [e1, e2]
@[irreducible] def spBelow (K : PySem.W.Frag) : Sp := fun vs H Q _ => ∃ (x y : V) (os ps : List O) (k m : Nat), vs = [.int (k : Nat), x, y] ∧ RowA K H x os ∧ RowA K H y ps ∧ Good os ∧ Good ps ∧ os.length = m ∧ ps.length = m ∧ k < m ∧ ∀ H', Same H H' → Q (.bl (below k os ps)) H'
/-- each ordinal but the first is at most the end of the one before -/
def Steps (os : List O) : Prop := ∀ i o p, os[i]? = some o → os[i + 1]? = some p → O.lt (endO o) p = false
theorem steps_nil : Steps [] := fun i o p h => by cases h
theorem steps_one (o : O) : Steps [o] := fun i o p h h2 => by
  cases i <;> cases h2
theorem steps_cons {o p : O} {os : List O} (h : O.lt (endO o) p = false) (hs : Steps (p :: os)) : Steps (o :: p :: os) := fun i a b h1 h2 => by
  cases i with
  | zero =>
    cases h1
    cases h2
    exact h
  | succ i => exact hs i a b h1 h2
/-- a row of m ordinals is drawn -/
def spRow (K : PySem.W.Frag) : Sp := fun vs H Q _ => ∃ (l b : Addr) (m : Nat), vs = [.ref b, .int (m : Nat)] ∧ m ≤ 3 ∧ Bag l H b ∧ ∀ (v : V) (os : List O) (H' : Hp), RowA K H' v os → os.length = m → Good os → Steps os → Kp b H H' → Bag l H' b → Q v H'
/-- some answer: yes or no -/
def spSome (K : PySem.W.Frag) : Sp := fun vs H Q _ => ∃ (x : V) (os : List O) (m : Nat), vs = [.int (m : Nat), x] ∧ RowA K H x os ∧ Good os ∧ os.length = m ∧ m ≤ 3 ∧ ∀ (r : Bool) (H' : Hp), Same H H' → Q (.bl r) H'
/-- an expression, what it answers said once -/
def tCutE (t : TE) : TE := fun σ H Q => ∃ Mid : V → Hp → Prop, t σ H Mid ∧ ∀ v H', Mid v H' → Q v H'
theorem pe_cut {X : Cx} {e : Expr} {t : TE} (h : PE X e t) : PE X e (tCutE t) := ⟨fun pins s σ H Q I ⟨Mid, h1, h2⟩ =>
  thn (h.run pins s σ H Mid I h1) fun u s1 ⟨v, H', J, r, q⟩ => ⟨v, H', J, r, h2 v H' q⟩⟩
end Vw

set_option Elab.async false
set_option linter.all false
set_option maxRecDepth 100000
set_option maxHeartbeats 4000000
namespace Vw
open PySem PySem.Spec PySem.W PyProof.Rows L2
/-! ### tuple * int, once or oftener -/
theorem tuple_mulW1 (l : Addr) (items : Array Value) (n : Nat) (dd : Option Addr) (sl : Array (Option Value)) (u : Tok) :
    Meets (Builtin.«tuple.__mul__» ⟨[.ref l, .int 1 u], []⟩) (fun _ R s => s.heap.get? l = some { cls := .type "tuple", dict := dd, data := .seq items n, slots := sl } ∧ R (.ok (.ret (Value.ref l))) s) :=
  .of_wp fun prog w A R s h => by
    obtain ⟨hp, g, d, tk, os⟩ := s
    obtain ⟨hl, h⟩ := h
    have f1 := AutoSeq1.idx_int
    have c0 : (decide ((1 : Int) < -(2 ^ 63)) || decide ((1 : Int) ≥ 2 ^ 63)) = false := by decide
    have c1 : (items.isEmpty || (1 : Int) == 1) = true := by simp
    wp_walk using wpAny_loadPart' hl
    repeat (first
      | (refine wpAny_ite_false (decide_eq_false (by rw [c0]; exact Bool.false_ne_true)) ?_; wp_walk using wpAny_loadPart' hl)
      | (refine wpAny_ite_true (decide_eq_true (by rw [c1])) ?_; wp_walk using wpAny_loadPart' hl))
    exact ⟨_, rfl, h⟩
@[irreducible] def rRepO (K : PySem.W.Frag) : R2 := fun x y H Q => ∃ l k xs, x = .ref l ∧ y = .int k ∧ TT K H l xs ∧ xs ≠ [] ∧ 1 ≤ k ∧ k ≤ 1000 ∧ xs.length ≤ 1000 ∧ ∀ p H', Same H H' → TT K H' p (List.replicate k.toNat xs).flatten → Q (.ref p) H'
theorem op_repO {X : Cx} : OpR X (binaryOp .Mult) (rRepO X.K) := by
  intro pins s σ H x y v u Q I rx ry h
  unfold rRepO at h
  obtain ⟨l, k, xs, rfl, rfl, hT, hne, h1, h2, hz, q⟩ := h
  by_cases h3 : k = 1
  · subst h3
    cases rx
    obtain ⟨t, rfl⟩ := ry
    obtain ⟨its, r, ⟨⟨cls, dd, data, sl⟩, ho, hc, n, hd⟩, hs⟩ := I.tuple hT.sq
    simp only at hc hd
    subst hc hd
    refine wpAny_binaryOp_repeat_ref (T := "tuple") (U := "int") (by decide) ⟨_, ho, rfl⟩ (fun s' => typeIs_int s' 1 t) noFill_tuple_mul F.fills_int_mul F.slot_int_rmul repeat_tuple F.slot_int_index.lookup
      (call_meets F.slot_int_rmul (typeIs_int s 1 t) F.entry_int_rmul (F.args_int_rmul_2 _ _) (int_rmul_tuple 1 t l its.toArray n dd sl)
        ⟨ho, rfl, ⟨_, ho, rfl⟩, call_meets F.slot_tuple_mul ⟨_, ho, rfl⟩ F.entry_tuple_mul (F.args_tuple_mul_2 _ _) (tuple_mulW1 l its.toArray n dd sl t) ⟨ho, ?_⟩⟩)
    have e : (List.replicate (1 : Int).toNat xs).flatten = xs := by simp
    rw [e] at q
    exact ⟨.ref l, H, I, rfl, q l H (Same.refl H) hT⟩
  · exact op_repT pins s σ H _ _ v u Q I rx ry ⟨l, k, xs, rfl, rfl, hT.sq, hne, by omega, h2, hz, fun p np => q p _ (same_new np) (.of upd_same)⟩
theorem rd_rep {K : PySem.W.Frag} {H : Hp} {Q : VK} {l : Addr} {x : V} {k : Int} (h : TT K H l [x]) (h1 : 1 ≤ k) (h2 : k ≤ 1000) (q : ∀ p H', Same H H' → TT K H' p (List.replicate k.toNat x) → Q (.ref p) H') : rRepO K (.ref l) (.int k) H Q := by
  unfold rRepO
  refine ⟨l, k, [x], rfl, rfl, h, by simp, h1, h2, (show 1 ≤ 1000 by decide), fun p H' s t => q p H' s ?_⟩
  have : (List.replicate k.toNat [x]).flatten = List.replicate k.toNat x := by simp
  rw [this] at t
  exact t
end Vw
namespace Vw
open PySem PySem.Spec PySem.W PyProof.Rows L2
def turnG {α : Type} : List α → List α → List α
  | [], [o, r, l] => [l, r, o]
  | _, _ => []
theorem turn_rel {vs : List V} {us : List Value} {zs : List V} {ws : List Value} (h1 : Vals vs us) (h2 : Vals zs ws) : Vals (turnG vs zs) (turnG us ws) := by
  cases h1 with
  | cons a t => exact .nil
  | nil =>
    cases h2 with
    | nil => exact .nil
    | cons a t => cases t with
      | nil => exact .nil
      | cons b t => cases t with
        | nil => exact .nil
        | cons c t => cases t with
          | nil => exact .cons c (.cons b (.cons a .nil))
          | cons d t => exact .nil
end Vw

set_option Elab.async false
set_option linter.all false
set_option maxRecDepth 100000
set_option maxHeartbeats 4000000
namespace Vw
open PySem PySem.Spec PySem.W PyProof.Rows L2
/-! ### tuple[::-1] -/
theorem adjust_rev (n : Nat) : Builtin.Slice.sliceAdjust none none (-1) (n : Int) = ((n : Int) - 1, -1) := by
  unfold Builtin.Slice.sliceAdjust
  simp
theorem places_rev (n : Nat) : Builtin.Slice.slicePlaces ((n : Int) - 1) (-1) (-1) = n := by
  unfold Builtin.Slice.slicePlaces
  have h1 : ¬ ((-1 : Int) > 0) := by omega
  simp only [h1, if_false]
  split <;> (try simp) <;> omega
theorem pick_rev (xs : List Value) : ((List.range xs.length).filterMap fun (m : Nat) => xs.toArray[(((xs.length : Nat) : Int) - 1 + (m : Int) * (-1)).toNat]?) = xs.reverse := by
  have e : ∀ k, k ≤ xs.length → ((List.range k).filterMap fun (m : Nat) => xs.toArray[(((xs.length : Nat) : Int) - 1 + (m : Int) * (-1)).toNat]?) = xs.reverse.take k := by
    intro k
    induction k with
    | zero => intro _; rfl
    | succ k ih =>
      intro hk
      rw [List.range_succ, List.filterMap_append, ih (by omega), List.take_add_one]
      congr 1
      have h1 : (((xs.length : Nat) : Int) - 1 + (k : Int) * (-1)).toNat = xs.length - 1 - k := by omega
      simp only [List.filterMap_cons, List.filterMap_nil]
      rw [h1, List.getElem?_reverse (by omega)]
      rw [List.getElem?_toArray]
      cases xs[xs.length - 1 - k]? <;> rfl
  have := e xs.length (Nat.le_refl _)
  rw [this, List.take_of_length_le (by rw [List.length_reverse]; exact Nat.le_refl _)]
section
variable {prog : Program} {w : World} {A : Around} {E : Value → Shared → Prop} {s : Shared}
theorem sliceApplied_rev {sl : Addr} {u : Tok} {n : Nat} {Q : Int × Int × Nat → Shared → Prop} (hs : s.heap.IsSliceOf sl .none .none (.int (-1) u))
    (h : Q ((n : Int) - 1, -1, n) s) : wpAny (model prog w) A (Builtin.Slice.sliceApplied (.ref sl) (pure (n : Int))) Q E s := by
  obtain ⟨os, hos, hcs, hds⟩ := id hs
  unfold Builtin.Slice.sliceApplied Builtin.Slice.sliceFields
  refine wpAny_bind (wpAny_bind (wpAny_field hos hds (x := .none) rfl (wpAny_bind (wpAny_field hos hds (x := .none) rfl (wpAny_bind (wpAny_field hos hds (x := .int (-1) u) rfl (wpAny_pure ?_)))))))
  refine wpAny_bind (PyProof.Rows.slicePart_int ?_)
  show wpAny _ _ (if ((-1 : Int) == 0) = true then _ else _) _ _ s
  rw [if_neg (by decide)]
  refine wpAny_bind (PyProof.Rows.slicePart_none (wpAny_bind (PyProof.Rows.slicePart_none (wpAny_bind (wpAny_pure ?_)))))
  show wpAny _ _ (match Builtin.Slice.sliceAdjust none none (-1) (n : Int) with | (lo, hi) => pure (lo, (-1 : Int), Builtin.Slice.slicePlaces lo hi (-1))) _ _ s
  rw [adjust_rev n]
  show wpAny _ _ (pure ((n : Int) - 1, (-1 : Int), Builtin.Slice.slicePlaces ((n : Int) - 1) (-1) (-1))) _ _ s
  rw [places_rev]
  exact wpAny_pure h
theorem getItem_tuple_rev {t sl : Addr} {items : List Value} {u : Tok} {Q : Value → Shared → Prop} (ht : IsTup s.heap t items.toArray) (hs : s.heap.IsSliceOf sl .none .none (.int (-1) u))
    (h : Q (.ref s.heap.objs.size) { s with heap := s.heap.push { cls := .type "tuple", data := .seq items.reverse.toArray } }) (hsz : items.length ≤ sizeLine) : wpAny (model prog w) A (getItem (.ref t) (.ref sl)) Q E s := by
  have htake : sizeOk (.seq items.reverse.toArray) := by
    show items.reverse.toArray.size ≤ sizeLine
    rw [List.size_toArray, List.length_reverse]; exact hsz
  obtain ⟨os, hos, hcs, hds⟩ := id hs
  have hTs : s.TypeIs (.ref sl) "slice" := ⟨os, hos, hcs⟩
  unfold getItem
  try with_reducible refine wpAny_holding ?_
  first | refine wpAny_bind (wpAny_pure ?_) | skip
  refine wpAny_bind (wpAny_sequenceKey ht.typeIs (by decide) ?_)
  refine wpAny_bind (wpAny_callSpecial?_slot (name := Str.ofString "__getitem__") ht.typeIs PyProof.Rows.slot_tuple_getitem
    (wpAny_call_entry PyProof.Rows.slot_tuple_getitem ht.typeIs PyProof.Rows.entry_tuple_getitem ?_ (PyProof.Rows.args_tuple_getitem _ _)))
  show wpAny _ _ (Builtin.Tuple.tupleItemsOf (.ref t) >>= _) _ _ s
  refine wpAny_bind (PyProof.Rows.tupleItemsOf_ ht ?_)
  refine wpAny_bind (wpAny_typeOf hTs ?_)
  rw [if_pos (by decide)]
  refine wpAny_bind (sliceApplied_rev (n := items.toArray.size) hs ?_)
  have hno : ¬ ((((items.toArray.size : Nat) : Int) - 1 == 0 && (-1 : Int) == 1 && items.toArray.size == items.toArray.size) = true) := by simp
  show wpAny _ _ (if ((((items.toArray.size : Nat) : Int) - 1 == 0 && (-1 : Int) == 1 && items.toArray.size == items.toArray.size) = true) then _ else _) _ _ s
  rw [if_neg hno]
  have hp : ((List.range items.toArray.size).filterMap fun (k : Nat) => items.toArray[(((items.toArray.size : Nat) : Int) - 1 + (k : Int) * (-1)).toNat]?).toArray = items.reverse.toArray := by
    rw [List.size_toArray]
    exact congrArg List.toArray (pick_rev items)
  rw [hp]
  first
    | exact wpAny_bind (m := Builtin.Tuple.tupleExact _) (wpAny_newObj_type (wpAny_pure ⟨_, rfl, wpAny_pure h⟩) htake)
    | exact wpAny_bind (m := Builtin.Tuple.tupleExact _) (wpAny_newObj_type (wpAny_bind (wpAny_pure (wpAny_pure ⟨_, rfl, wpAny_pure h⟩))) htake)
    | exact wpAny_bind (wpAny_bind (m := Builtin.Tuple.tupleExact _) (wpAny_newObj_type (wpAny_pure (wpAny_pure ⟨_, rfl, wpAny_pure h⟩)) htake))
    | exact wpAny_bind (wpAny_bind (m := Builtin.Tuple.tupleExact _) (wpAny_newObj_type (wpAny_pure ⟨_, rfl, wpAny_pure h⟩) htake))
end
section
variable {X : Cx}
def tRevT (K : PySem.W.Frag) (te : TE) : TE := fun σ H Q => te σ H fun x H1 => ∃ a xs, x = .ref a ∧ TT K H1 a xs ∧ ∀ p H', Same H1 H' → TT K H' p xs.reverse → Q (.ref p) H'
theorem pe_revT {e : Expr} {te : TE} {k : Nat} {p1 p2 p3 pos : Pos} (he : PE X e te) : PE X (.Subscript e (.Slice none none (some (.UnaryOp .USub (.Constant (.int 1) k p1) p2)) p3) pos) (tRevT X.K te) := by
  refine ⟨fun pins s σ H Q I h => ?_⟩
  refine Subscript_ (thn (he.run pins s σ H _ I h) fun v s1 ⟨x, H1, I1, r1, q1⟩ => ?_)
  obtain ⟨a, xs, ex, hx, q⟩ := q1
  subst ex
  cases r1
  have hst : PO X (some (.UnaryOp .USub (.Constant (.int 1) k p1) p2)) (tPart (tUn (rU fun i => .int (-i)) (tC (.int 1)))) := po_some (pe_un un_neg pe_int)
  refine wpAny_Slice (thn (po_none.run pins s1 σ H1 (fun o H2 => o = none ∧ H2 = H1) I1 ⟨rfl, rfl⟩) fun vl s2 ⟨l, H2, I2, pl, el, e2⟩ => ?_)
  subst el e2
  refine thn (po_none.run pins s2 σ H2 (fun o H3 => o = none ∧ H3 = H2) I2 ⟨rfl, rfl⟩) fun vu s3 ⟨u, H3, I3, pu, eu, e3⟩ => ?_
  subst eu e3
  refine thn (hst.run pins s3 σ H3 (fun o H4 => o = some (-1) ∧ H4 = H3) I3 ⟨1, rfl, -1, rfl, rfl, rfl⟩) fun vs s4 ⟨o, H4, I4, ps, eo, e4⟩ => ?_
  subst eo e4
  have I5 : Inv X pins σ H4 { s4 with heap := s4.heap.push { cls := .type "slice", data := .fields #[vl, vu, vs] } } := I4.kept (t' := s4.toks) fun b ob q => Heap.get?_push_of_some _ q
  obtain ⟨its, r, ht, hz⟩ := I5.tuple hx.sq
  cases pl
  cases pu
  cases ps
  show wpAny (model X.prog X.w) X.A (subscriptTail e (.Slice none none (some (.UnaryOp .USub (.Constant (.int 1) k p1) p2)) p3) (.ref a) (.ref s4.heap.objs.size)) (EP X pins σ Q) X.xe _
  refine tail_any (ops := [.ref a, .ref s4.heap.objs.size]) ht.typeIs (PyProof.Rows.slot_tuple_getitem.lookup) ?_ (by with_unfolding_all rfl)
  refine getItem_tuple_rev ht (Heap.IsSliceOf.new _ _ _ _) ?_ (by rw [← r.length]; exact hz)
  have np := I5.hok.fresh (Nat.le_refl (({ s4 with heap := s4.heap.push { cls := .type "slice", data := .fields #[.none, .none, .int (-1) _] } } : Shared).heap.objs.size))
  refine ⟨.ref _, _, I5.laid (t' := s4.toks) (o := .tup xs.reverse) (fun b ob q => Heap.get?_push_of_some _ q) (Nat.le_refl _) ?_, rfl, q _ _ (same_new np) (.of upd_same)⟩
  exact ⟨by rw [List.length_reverse]; exact hz, _, r.reverse, IsTup.new _ _⟩
end
end Vw

set_option Elab.async false
set_option linter.all false
set_option maxRecDepth 100000
namespace Vw
open PySem PySem.W PyProof.Rows L2
/-! ### data of bounded depth -/
def EltD (K : PySem.W.Frag) (H : Hp) (n : Nat) (v : V) : Prop := ∃ d, Dp K H v d ∧ d.depth ≤ n
section
variable {K : PySem.W.Frag} {H H' : Hp} {n m : Nat} {v : V}
theorem EltD.same (s : Same H H') (h : EltD K H n v) : EltD K H' n v := by
  obtain ⟨d, h1, h2⟩ := h
  exact ⟨d, dp_same s h1, h2⟩
theorem EltD.mono (h : EltD K H n v) (l : n ≤ m) : EltD K H m v := by
  obtain ⟨d, h1, h2⟩ := h
  exact ⟨d, h1, Nat.le_trans h2 l⟩
theorem EltD.int (i : Int) : EltD K H n (.int i) := ⟨_, .int i, by simp only [PyData.depth]; omega⟩
theorem EltD.bl (b : Bool) : EltD K H n (.bl b) := ⟨_, .bl b, by simp only [PyData.depth]; omega⟩
theorem EltD.str (x : Str) : EltD K H n (.str x) := ⟨_, .str x, by simp only [PyData.depth]; omega⟩
theorem EltD.non : EltD K H n .non := ⟨_, .non, by simp only [PyData.depth]; omega⟩
theorem EltD.ord {o : O} (h : OA K H v o) (l : O.dp o + 1 ≤ n) : EltD K H n v := ⟨_, h.dp, by rw [O.depth_toD]; exact l⟩
theorem EltD.term {t : O × Int} (h : TmA K H v t) (l : O.dp t.1 + 2 ≤ n) : EltD K H n v := ⟨_, h.dp, by rw [depth_tD]; exact l⟩
theorem elts_all : ∀ {xs : List V}, (∀ v ∈ xs, EltD K H n v) → ∃ ds, DpAll K H xs ds ∧ PyData.depthAll ds ≤ n
  | [], _ => ⟨[], .nil, Nat.zero_le _⟩
  | x :: xs, h => by
    obtain ⟨d, h1, h2⟩ := h x List.mem_cons_self
    obtain ⟨ds, h3, h4⟩ := elts_all (xs := xs) fun v hv => h v (List.mem_cons_of_mem _ hv)
    exact ⟨d :: ds, .cons h1 h3, by show max d.depth (PyData.depthAll ds) ≤ n; omega⟩
theorem EltD.tup {p : Addr} {xs : List V} (h : TT K H p xs) (hx : ∀ v ∈ xs, EltD K H n v) : EltD K H (n + 1) (.ref p) := by
  obtain ⟨ds, h1, h2⟩ := elts_all hx
  exact ⟨.tuple ds, .tup h.sq h1, by simp only [PyData.depth]; omega⟩
theorem EltD.lst {p : Addr} {xs : List V} (h : SqL K H p xs) (hx : ∀ v ∈ xs, EltD K H n v) : EltD K H (n + 1) (.ref p) := by
  obtain ⟨ds, h1, h2⟩ := elts_all hx
  exact ⟨.list ds, .lst h h1, by simp only [PyData.depth]; omega⟩
theorem elts_terms {xs : List V} {l : List (O × Int)} (h : Paired (TmA K H) xs l) (hl : ∀ t ∈ l, O.dp t.1 + 2 ≤ n) : ∀ v ∈ xs, EltD K H n v := fun v hv => by
  obtain ⟨i, hi, e⟩ := List.getElem_of_mem hv
  obtain ⟨t, ht, tv⟩ := paired_get h (List.getElem?_eq_some_iff.mpr ⟨hi, e⟩)
  exact .term tv (hl t (List.mem_of_getElem? ht))
end
/-- data of tuples alone: it stands as long as tuples do -/
def EltT (K : PySem.W.Frag) (H : Hp) (n : Nat) (v : V) : Prop := ∃ d, d.depth ≤ n ∧ ∀ H', Tp H H' → Dp K H' v d
/-- data that stands as long as all but b stays -/
def EltB (K : PySem.W.Frag) (H : Hp) (b : Addr) (n : Nat) (v : V) : Prop := ∃ d, d.depth ≤ n ∧ ∀ H', Kp b H H' → Dp K H' v d
section
variable {K : PySem.W.Frag} {H H' : Hp} {n m : Nat} {v : V} {b l : Addr}
theorem EltT.tp (h : EltT K H n v) (t : Tp H H') : EltT K H' n v := by
  obtain ⟨d, h1, h2⟩ := h
  exact ⟨d, h1, fun H2 t2 => h2 H2 (t.trans t2)⟩
theorem EltT.same (s : Same H H') (h : EltT K H n v) : EltT K H' n v := h.tp (same_tp s)
theorem EltT.mono (h : EltT K H n v) (l : n ≤ m) : EltT K H m v := by
  obtain ⟨d, h1, h2⟩ := h
  exact ⟨d, Nat.le_trans h1 l, h2⟩
theorem EltT.int (i : Int) : EltT K H n (.int i) := ⟨.int i, by simp only [PyData.depth]; omega, fun _ _ => .int i⟩
theorem EltT.bl (b : Bool) : EltT K H n (.bl b) := ⟨.bool b, by simp only [PyData.depth]; omega, fun _ _ => .bl b⟩
theorem EltT.str (x : Str) : EltT K H n (.str x) := ⟨.str x, by simp only [PyData.depth]; omega, fun _ _ => .str x⟩
theorem EltT.non : EltT K H n .non := ⟨.none, by simp only [PyData.depth]; omega, fun _ _ => .non⟩
theorem EltT.ord {o : O} (h : OA K H v o) (l : O.dp o + 1 ≤ n) : EltT K H n v := ⟨_, by rw [O.depth_toD]; exact l, fun _ t => (h.tp t).dp⟩
theorem EltT.term {t : O × Int} (h : TmA K H v t) (l : O.dp t.1 + 2 ≤ n) : EltT K H n v := ⟨_, by rw [depth_tD]; exact l, fun _ x => (h.tp x).dp⟩
theorem eltT_all : ∀ {xs : List V}, (∀ v ∈ xs, EltT K H n v) → ∃ ds, PyData.depthAll ds ≤ n ∧ ∀ H', Tp H H' → DpAll K H' xs ds
  | [], _ => ⟨[], Nat.zero_le _, fun _ _ => .nil⟩
  | x :: xs, h => by
    obtain ⟨d, h1, h2⟩ := h x List.mem_cons_self
    obtain ⟨ds, h3, h4⟩ := eltT_all (xs := xs) fun v hv => h v (List.mem_cons_of_mem _ hv)
    exact ⟨d :: ds, by show max d.depth (PyData.depthAll ds) ≤ n; omega, fun H' t => .cons (h2 H' t) (h4 H' t)⟩
theorem eltB_all : ∀ {xs : List V}, (∀ v ∈ xs, EltB K H b n v) → ∃ ds, PyData.depthAll ds ≤ n ∧ ∀ H', Kp b H H' → DpAll K H' xs ds
  | [], _ => ⟨[], Nat.zero_le _, fun _ _ => .nil⟩
  | x :: xs, h => by
    obtain ⟨d, h1, h2⟩ := h x List.mem_cons_self
    obtain ⟨ds, h3, h4⟩ := eltB_all (xs := xs) fun v hv => h v (List.mem_cons_of_mem _ hv)
    exact ⟨d :: ds, by show max d.depth (PyData.depthAll ds) ≤ n; omega, fun H' t => .cons (h2 H' t) (h4 H' t)⟩
theorem EltT.tup {p : Addr} {xs : List V} (h : TT K H p xs) (hx : ∀ v ∈ xs, EltT K H n v) : EltT K H (n + 1) (.ref p) := by
  obtain ⟨ds, h1, h2⟩ := eltT_all hx
  exact ⟨.tuple ds, by simp only [PyData.depth]; omega, fun H' t => .tup (h.tp t).sq (h2 H' t)⟩
theorem eltT_terms {xs : List V} {l : List (O × Int)} (h : Paired (TmA K H) xs l) (hl : ∀ t ∈ l, O.dp t.1 + 2 ≤ n) : ∀ v ∈ xs, EltT K H n v := fun v hv => by
  obtain ⟨i, hi, e⟩ := List.getElem_of_mem hv
  obtain ⟨t, ht, tv⟩ := paired_get h (List.getElem?_eq_some_iff.mpr ⟨hi, e⟩)
  exact .term tv (hl t (List.mem_of_getElem? ht))
theorem Bag.tpK (B : Bag l H b) (k : Kp b H H') : Tp H H' := B.tp k
theorem EltT.toB (h : EltT K H n v) (B : Bag l H b) : EltB K H b n v := by
  obtain ⟨d, h1, h2⟩ := h
  exact ⟨d, h1, fun H' k => h2 H' (B.tp k)⟩
theorem EltB.kp {H' : Hp} (h : EltB K H b n v) (k : Kp b H H') : EltB K H' b n v := by
  obtain ⟨d, h1, h2⟩ := h
  exact ⟨d, h1, fun H2 k2 => h2 H2 (k.trans k2)⟩
theorem EltB.same (s : Same H H') (h : EltB K H b n v) : EltB K H' b n v := h.kp (same_kp s)
theorem EltB.mono (h : EltB K H b n v) (l : n ≤ m) : EltB K H b m v := by
  obtain ⟨d, h1, h2⟩ := h
  exact ⟨d, Nat.le_trans h1 l, h2⟩
theorem EltB.elt (h : EltB K H b n v) : EltD K H n v := by
  obtain ⟨d, h1, h2⟩ := h
  exact ⟨d, h2 H (Kp.refl H), h1⟩
theorem EltT.elt (h : EltT K H n v) : EltD K H n v := by
  obtain ⟨d, h1, h2⟩ := h
  exact ⟨d, h2 H (Tp.refl H), h1⟩
theorem EltB.tup {p : Addr} {xs : List V} (B : Bag l H b) (h : TT K H p xs) (hx : ∀ v ∈ xs, EltB K H b n v) : EltB K H b (n + 1) (.ref p) := by
  obtain ⟨ds, h1, h2⟩ := eltB_all hx
  exact ⟨.tuple ds, by simp only [PyData.depth]; omega, fun H' k => .tup (h.tp (B.tp k)).sq (h2 H' k)⟩
theorem EltB.lst {p : Addr} {xs : List V} (hb : p ≠ b) (h : H p = some (.lst xs)) (hx : ∀ v ∈ xs, EltB K H b n v) : EltB K H b (n + 1) (.ref p) := by
  obtain ⟨ds, h1, h2⟩ := eltB_all hx
  exact ⟨.list ds, by simp only [PyData.depth]; omega, fun H' k => .lst (SqL.of (k _ _ hb h)) (h2 H' k)⟩
end
/-- a bent ordinal: any data, not deep -/
def spBent (K : PySem.W.Frag) (n : Nat) : Sp := fun vs H Q _ => ∃ (l b : Addr) (x : V) (o : O), vs = [.ref b, x] ∧ Bag l H b ∧ OA K H x o ∧ O.dp o < n ∧ O.dp o ≤ 40 ∧ O.wd o ≤ 100 ∧ ∀ (v : V) (H' : Hp), EltB K H' b (O.dp o + 5) v → Kp b H H' → Bag l H' b → Q v H'
/-- a number from 0 on, as an ordinal -/
def spNat (K : PySem.W.Frag) : Sp := fun vs H Q _ => ∃ n : Int, vs = [.int n] ∧ 0 ≤ n ∧ ∀ (v : V) (H' : Hp), Same H H' → OA K H' v (O.num n) → Q v H'
theorem O.pwN_num {n : Int} (h : 0 ≤ n) : O.pwN .z n = O.num n := by
  unfold O.pwN O.num
  by_cases e : n = 0
  · subst e; rfl
  · rw [if_neg e, if_pos (by omega)]
/-- a def with keyword-only defaults, as it is called -/
structure CalK (P : Program) (w : World) (K : PySem.W.Frag) (mg : Str → Option Value) (base : Heap) (k : Nat) (x : Str) (ps : List Str) (sp : Sp) (f : Addr) (fd : FuncData) : Prop where
  G : FnOk P w K mg base CX0 k f fd ps sp
  m : mg x = some (.ref f)
  kp : PySem.W.keepIn K (.ref f) = true
theorem kb_ofD {K : PySem.W.Frag} {x qual : Str} {st : Stmt} {kws : List (Str × V)} {f : Addr} {fd : FuncData} {ps ks : List Str} (F : FunD K x qual (defArgs st) (defBody st) (defScope st) [] kws f fd) (g : List Value → List Value → List Value) (gV : List V → List V → List V)
    (rel : ∀ {vs : List V} {us : List Value} {zs : List V} {ws : List Value}, Vals vs us → Vals zs ws → Vals (gV vs zs) (g us ws)) (hk : kws ≠ [])
    (h : ∀ (D : Addr) (doc pm : Value) (an : Option Addr) (cdv ct : Value) (us ws : List Value), (g us ws).length = ps.length → bindArgs (PySem.W.fnOf x qual (defArgs st) (defBody st) (defScope st) .none (.ref D) doc pm an cdv ct) ⟨us, ks.zip ws⟩ = pure (ps.zip (g us ws))) : KBinds K fd ps ks g gV := by
  obtain ⟨oc, od, dV, kV, doc, pm, an, cdv, ct, osl, rfl, lk, hcd, hD, hK⟩ := F.ex
  rcases hD with ⟨_, rfl⟩ | ⟨e, _⟩
  · rcases hK with e | ⟨D, rfl, hq⟩
    · exact absurd e hk
    · exact ⟨fun s us ws _ hl => .of_eq (h D doc pm an cdv ct us ws hl), rel⟩
  · exact absurd rfl e
def oneG {α : Type} : List α → List α → List α
  | [a], [b] => [a, b]
  | _, _ => []
theorem one_rel {vs : List V} {us : List Value} {zs : List V} {ws : List Value} (h1 : Vals vs us) (h2 : Vals zs ws) : Vals (oneG vs zs) (oneG us ws) := by
  cases h1 with
  | nil => exact .nil
  | cons a t => cases t with
    | cons b t => exact .nil
    | nil => cases h2 with
      | nil => exact .nil
      | cons b t => cases t with
        | nil => exact .cons a (.cons b .nil)
        | cons c t => exact .nil
/-- the power one, once -/
def O.omega : O := O.add O.one 1 .z
/-! ### the great ordinals -/
def wideO : O := O.of ((List.range 12).map fun k => (O.num (11 - (k : Nat)), 1 + (k : Nat)))
def deepO : Nat → O
  | 0 => O.num 2
  | k + 1 => O.of [(deepO k, 2), (.z, 1)]
def spGreat (K : PySem.W.Frag) : Sp := fun vs H Q _ => vs = [] ∧ ∀ (D : Addr) (x y : V) (H' : Hp), Same H H' → H' D = some (.lst [x, y]) → OA K H' x wideO → OA K H' y (deepO 5) → Q (.ref D) H'
theorem ok_wide : O.ok wideO = true := by decide
theorem ok_deep : O.ok (deepO 5) = true := by decide
/-- the last term twice is no ordinal -/
theorem twice_no {o : O} {t : O × Int} (h : (O.ts o).getLast? = some t) : isOrdB (.tuple (O.toDs o ++ [O.tD t])) = false := by
  have hl : 0 < (O.ts o).length := by
    cases e : O.ts o with
    | nil => rw [e] at h; cases h
    | cons a b => exact Nat.succ_pos _
  have h1 : (O.toDs o ++ [O.tD t])[(O.ts o).length - 1]? = some (O.tD t) := by
    rw [List.getElem?_append_left (by rw [O.toDs_ts, List.length_map]; omega), O.toDs_ts, List.getElem?_map]
    rw [List.getLast?_eq_getElem?] at h
    rw [h]; rfl
  have h2 : (O.toDs o ++ [O.tD t])[(O.ts o).length - 1 + 1]? = some (O.tD t) := by
    rw [show (O.ts o).length - 1 + 1 = (O.toDs o).length from by rw [O.toDs_ts, List.length_map]; omega]
    simp
  exact bad_order h1 h2 (O.lt_irrefl _)
/-- turned round, it is none -/
theorem rev_no {ds : List PyData} {t u : O × Int} {r : List PyData} (h : ds = O.tD t :: O.tD u :: r) (hl : O.lt u.1 t.1 = false) : isOrdB (.tuple ds) = false := by
  subst h
  exact bad_order (i := 0) rfl rfl hl
end Vw

set_option Elab.async false
set_option linter.all false
set_option maxRecDepth 100000
namespace Vw
open PySem PySem.W PyProof.Rows L2
/-! ### which data are rows -/
/-- each ordinal is at most the end of the one ahead of it -/
def IsRow (m : Int) (d : PyData) : Prop := ∃ os : List O, rowD os = d ∧ (os.length : Int) = m ∧ (∀ o ∈ os, O.ok o = true) ∧ Steps os
noncomputable def isRowB (m : Int) (d : PyData) : Bool := open Classical in decide (IsRow m d)
open Classical in
theorem isRow_t {m : Int} {d : PyData} (h : IsRow m d) : isRowB m d = true := by unfold isRowB; exact decide_eq_true h
open Classical in
theorem isRow_f {m : Int} {d : PyData} (h : ¬ IsRow m d) : isRowB m d = false := by unfold isRowB; exact decide_eq_false h
theorem isRow_other {m : Int} {d : PyData} (h : ∀ ds, d ≠ .tuple ds) : isRowB m d = false := isRow_f fun ⟨os, h1, _⟩ => h _ h1.symm
theorem isRow_len {m : Int} {ds : List PyData} (h : (ds.length : Int) ≠ m) : isRowB m (.tuple ds) = false := isRow_f fun ⟨os, h1, h2, _⟩ => h (by
  have : os.map O.toD = ds := PyData.tuple.inj h1
  rw [← this, List.length_map]; exact h2)
/-- the first i ordinals are right -/
def RPref (ds : List PyData) (os : List O) (i : Nat) : Prop := ds.take i = os.map O.toD ∧ (∀ o ∈ os, O.ok o = true) ∧ Steps os ∧ os.length = i
theorem rpref_nil (ds : List PyData) : RPref ds [] 0 := by
  refine ⟨rfl, ?_, ?_, rfl⟩
  · intro o h; cases h
  · intro i o p h; simp at h
theorem rpref_at {ds : List PyData} {os : List O} {i j : Nat} (h : RPref ds os i) (hj : j < i) : ∃ o, os[j]? = some o ∧ ds[j]? = some (O.toD o) := by
  obtain ⟨h1, _, _, h3⟩ := h
  have hl : j < os.length := by omega
  refine ⟨os[j], List.getElem?_eq_getElem hl, ?_⟩
  have : (ds.take i)[j]? = some (O.toD os[j]) := by rw [h1, List.getElem?_map, List.getElem?_eq_getElem hl]; rfl
  rw [List.getElem?_take, if_pos hj] at this
  exact this
theorem rpref_step {ds : List PyData} {os : List O} {i : Nat} {p : O} (h : RPref ds os i) (hd : ds[i]? = some (O.toD p)) (hp : O.ok p = true) (hl : ∀ o, os[i - 1]? = some o → 0 < i → O.lt (endO o) p = false) : RPref ds (os ++ [p]) (i + 1) := by
  obtain ⟨h1, h2, h3, h4⟩ := h
  refine ⟨by rw [List.take_add_one, hd, h1, List.map_append]; rfl, fun o ho => ?_, fun j o q ho hq => ?_, by rw [List.length_append, h4]; rfl⟩
  · rcases List.mem_append.mp ho with h | h
    · exact h2 o h
    · rw [List.mem_singleton.mp h]; exact hp
  · have hj : j + 1 < i + 1 := by
      have := (List.getElem?_eq_some_iff.mp hq).1
      rw [List.length_append, h4] at this
      exact this
    rw [List.getElem?_append_left (by omega)] at ho
    by_cases e : j + 1 = i
    · have hi : i - 1 = j := by omega
      rw [List.getElem?_append_right (by omega), h4, e, Nat.sub_self] at hq
      have hq : p = q := by simpa using hq
      subst hq
      exact hl o (by rw [hi]; exact ho) (by omega)
    · rw [List.getElem?_append_left (by omega)] at hq
      exact h3 j o q ho hq
theorem rpref_end {ds : List PyData} {os : List O} (h : RPref ds os ds.length) : isRowB (ds.length : Nat) (.tuple ds) = true := by
  obtain ⟨h1, h2, h3, h4⟩ := h
  rw [List.take_length] at h1
  exact isRow_t ⟨os, by unfold rowD; rw [h1], by rw [h4], h2, h3⟩
theorem row_ord {m : Int} {ds : List PyData} {i : Nat} {d : PyData} (hd : ds[i]? = some d) (h : isOrdB d = false) : isRowB m (.tuple ds) = false := isRow_f fun ⟨os, h1, _, h2, _⟩ => by
  have h3 : os.map O.toD = ds := PyData.tuple.inj h1
  rw [← h3, List.getElem?_map] at hd
  obtain ⟨o, ho, rfl⟩ := Option.map_eq_some_iff.mp hd
  rw [isOrd_toD (h2 o (List.mem_of_getElem? ho))] at h
  cases h
theorem row_step {m : Int} {ds : List PyData} {i : Nat} {o p : O} (h1 : ds[i]? = some (O.toD o)) (h2 : ds[i + 1]? = some (O.toD p)) (h : O.lt (endO o) p = true) : isRowB m (.tuple ds) = false := isRow_f fun ⟨os, e1, _, _, e2⟩ => by
  have h3 : os.map O.toD = ds := PyData.tuple.inj e1
  rw [← h3, List.getElem?_map] at h1 h2
  obtain ⟨o', ho, a1⟩ := Option.map_eq_some_iff.mp h1
  obtain ⟨p', hp, a2⟩ := Option.map_eq_some_iff.mp h2
  have := e2 i o' p' ho hp
  rw [O.toD_inj a1, O.toD_inj a2, h] at this
  cases this
/-- an ordinal as data: its end asked of data -/
def spEndD (K : PySem.W.Frag) : Sp := fun vs H Q _ => ∃ (x : V) (a : O), vs = [x] ∧ Dp K H x (O.toD a) ∧ O.dp a ≤ 50 ∧ ∀ (v : V) (H' : Hp), Same H H' → Dp K H' v (O.toD (endO a)) → Q v H'
theorem rd_eqD {K : PySem.W.Frag} {H : Hp} {x y : V} {a b : O} {Q : VK} (ha : Dp K H x (O.toD a)) (hb : Dp K H y (O.toD b)) (h : O.dp a ≤ 60) (h2 : O.dp b ≤ 60) (q : Q (.bl (decide (a = b))) H) : rEqO K x y H Q := by
  unfold rEqO
  exact ⟨_, _, ha, hb, O.shaped_toD h, O.shaped_toD h2, by rw [O.eqv_toD]; exact q⟩
def spIsRow (K : PySem.W.Frag) : Sp := fun vs H Q _ => ∃ (m : Int) (x : V) (d : PyData), vs = [.int m, x] ∧ Dp K H x d ∧ d.depth ≤ 50 ∧ ∀ H', Same H H' → Q (.bl (isRowB m d)) H'
end Vw

set_option Elab.async false
set_option linter.all false
set_option maxRecDepth 100000
namespace Vw
open PySem PySem.W PyProof.Rows L2
/-- a whole number's global name -/
theorem pe_globI {X : Cx} {x : Str} {n : Int} {pos : Pos} (hg : Gl X x) (hm : ∃ t, X.mg x = some (.int n t)) (hd : (x == ("__debug__" : Str)) = false := by decide) : PE X (.Name x pos) (tC (.int n)) := by
  obtain ⟨t, h⟩ := hm
  exact pe_glob hg h ⟨t, rfl⟩ hd
def resv : List V := [.str "true", .str "false", .str "not", .str "and", .str "or", .str "then", .str "shown"]
def isLow (c : Nat) : Bool := decide (97 ≤ c) && decide (c ≤ 122)
/-- names: 1 to 6 small letters, no reserved word -/
def isNm (z : Str) : Bool := !inV (.str z) resv && (decide (1 ≤ z.length) && (decide (z.length ≤ 6) && z.cps.toList.all isLow))
def spNm : Sp := fun vs H Q _ => ∃ z : Str, vs = [.str z] ∧ z.length ≤ 100000 ∧ ∀ H', Same H H' → Q (.bl (isNm z)) H'
theorem lt_one (c d : Nat) : decide ([c] < [d]) = decide (c < d) := by
  by_cases h : c < d
  · rw [decide_eq_true h]; exact decide_eq_true (List.Lex.rel h)
  · rw [decide_eq_false h]
    refine decide_eq_false fun e => ?_
    cases e with
    | rel h' => exact h h'
    | cons h' => cases h'
theorem take_succ_get {α : Type} {xs : List α} {i : Nat} {c : α} (h : xs[i]? = some c) : xs.take (i + 1) = xs.take i ++ [c] := by
  rw [List.take_succ, h]; rfl
theorem cps_get {z : Str} {i : Nat} {c : Nat} (h : z.cps[i]? = some c) : z.cps.toList[i]? = some c := by rw [Array.getElem?_toList]; exact h
theorem mem_letters (c : Nat) : decide (c ∈ ("abcdefghijklmnopqrstuvwxyz" : Str).cps.toList) = isLow c := by
  have e : ("abcdefghijklmnopqrstuvwxyz" : Str).cps.toList = [97, 98, 99, 100, 101, 102, 103, 104, 105, 106, 107, 108, 109, 110, 111, 112, 113, 114, 115, 116, 117, 118, 119, 120, 121, 122] := by decide +kernel
  rw [e]
  unfold isLow
  by_cases h : 97 ≤ c ∧ c ≤ 122
  · obtain ⟨h1, h2⟩ := h
    have : c ∈ [97, 98, 99, 100, 101, 102, 103, 104, 105, 106, 107, 108, 109, 110, 111, 112, 113, 114, 115, 116, 117, 118, 119, 120, 121, 122] := by
      simp only [List.mem_cons, List.not_mem_nil, or_false]; omega
    rw [decide_eq_true this, decide_eq_true h1, decide_eq_true h2]; rfl
  · have : c ∉ [97, 98, 99, 100, 101, 102, 103, 104, 105, 106, 107, 108, 109, 110, 111, 112, 113, 114, 115, 116, 117, 118, 119, 120, 121, 122] := by
      simp only [List.mem_cons, List.not_mem_nil, or_false]; omega
    rw [decide_eq_false this]
    by_cases h1 : 97 ≤ c
    · have h2 : ¬ c ≤ 122 := fun x => h ⟨h1, x⟩
      rw [decide_eq_true h1, decide_eq_false h2]; rfl
    · rw [decide_eq_false h1]; rfl
theorem atI_exG {α : Type} {xs : List α} {i : Int} (h0 : 0 ≤ i) (h : i < (xs.length : Int)) : ∃ v, v ∈ xs ∧ atI xs i = some v := by
  obtain ⟨j, rfl⟩ := Int.eq_ofNat_of_zero_le h0
  have hj : j < xs.length := by omega
  exact ⟨xs[j], List.getElem_mem hj, atI_nat (List.getElem?_eq_getElem hj)⟩
theorem joinL_len : ∀ parts : List (List Nat), (∀ p ∈ parts, p.length ≤ 1) → (TL.joinL [] parts).length ≤ parts.length
  | [], _ => Nat.le_refl _
  | [p], h => h p (List.mem_singleton.mpr rfl)
  | p :: q :: r, h => by
    have ih := joinL_len (q :: r) fun x hx => h x (List.mem_cons_of_mem _ hx)
    have h1 := h p List.mem_cons_self
    show (p ++ ([] ++ TL.joinL [] (q :: r))).length ≤ r.length + 1 + 1
    rw [List.length_append, List.nil_append]
    have : (q :: r).length = r.length + 1 := rfl
    omega
theorem join_len (ys : List Str) (h : ∀ y ∈ ys, y.length = 1) : (Txt.join "" ys).length ≤ ys.length := by
  rw [TL.join_eq, TL.len_tl, TL.tl_join]
  have e : TL.tl ("" : Str) = [] := by decide +kernel
  rw [e]
  have := joinL_len (ys.map TL.tl) fun p hp => by
    obtain ⟨y, hy, rfl⟩ := List.mem_map.mp hp
    rw [← TL.len_tl, h y hy]; exact Nat.le_refl _
  rw [List.length_map] at this
  exact this
theorem sum_ones : ∀ ys : List Str, (∀ y ∈ ys, y.length = 1) → (ys.map (·.length)).sum = ys.length
  | [], _ => rfl
  | y :: ys, h => by
    rw [List.map_cons, List.sum_cons, h y List.mem_cons_self, sum_ones ys fun x hx => h x (List.mem_cons_of_mem _ hx), List.length_cons]; omega
theorem len_app (x y : Str) : (x ++ y).length = x.length + y.length := by
  rw [TL.len_tl, TL.len_tl, TL.len_tl, TL.tl_append, List.length_append]
end Vw

set_option Elab.async false
set_option linter.all false
set_option maxRecDepth 100000
namespace Vw
open PySem PySem.W PyProof.Rows L2
/-! ### sorted(..) of ordinals, ascending -/
def rSortedA (K : PySem.W.Frag) : List V → Hp → VK → Prop := fun vs H Q => ∃ (a : Addr) (xs : List V) (os : List O), vs = [V.ref a] ∧ SqL K H a xs ∧ Paired (OA K H) xs os ∧ (∀ o ∈ os, O.dp o ≤ 60) ∧
  ∀ (ys : List V) (os' : List O) (p : Addr), Paired (OA K H) ys os' → os'.Perm os → os'.Pairwise (fun a b => O.lt b a = false) → H p = none → Q (.ref p) (upd H p (.lst ys))
theorem dataLe_toDA (a b : O) : dataLe false O.toD a b = !O.lt b a := by
  show sortLe (listOrd itemOrd) false (fun b => keyToks (O.toD b)) a b = _
  rw [← O.lt_toD]
  rfl
theorem cr_sortedA {X : Cx} (hu : X.A.units + 64 < cLine) : CallR X (.builtin "sorted") (rSortedA X.K) := by
  intro pins s σ H vs us Q I r h
  obtain ⟨a, xs, os, rfl, hs, hp, hd, q⟩ := h
  obtain rfl := Vals.ref1 r
  obtain ⟨its, rv, hl, hz⟩ := I.list hs
  have e0 : EachIs (fun u o => ∃ x, RelV x u ∧ OA X.K H x o) its os := each_of (fun x u o a b => ⟨x, b, a⟩) hp rv
  have er : EachIs (fun v o => ∃ as, Reads s.heap v (O.toD o) as) its os := e0.mono fun u o ⟨x, rx, ox⟩ => Dp.reads I _ _ _ ox.dp rx
  have er' : EachIs (fun v o => ∃ as, Reads (sortingHeap (copyHeap s.heap its) (s.heap.objs.size + 1) its) v (O.toD o) as) its os := er.mono fun _ _ ⟨as, r⟩ => ⟨as, PyProof.Rows.Reads.keeps (fun _ _ => sorting_copy_old) r⟩
  have hal : AllAlike (os.map O.toD) := AllAlike.of O.alike_toD
  refine sorted_vals hl.isList (SortsAt.tups (s := { s with heap := sortingHeap (copyHeap s.heap its) (s.heap.objs.size + 1) its }) (each_map (R := fun v d => ∃ as, Reads (sortingHeap (copyHeap s.heap its) (s.heap.objs.size + 1) its) v d as) O.toD er') hal (fun d hd => ?_) (fun d hm => ?_)) (by rw [← rv.length]; exact hz) ?_
  · obtain ⟨o, _, rfl⟩ := List.mem_map.mp hd
    exact ⟨_, rfl⟩
  · obtain ⟨o, ho, rfl⟩ := List.mem_map.mp hm
    rw [O.depth_toD]
    have := hd o ho
    show X.A.units + 1 + 1 + _ < _
    omega
  · have e2 := sortVals_data (h' := sortingHeap (copyHeap s.heap its) (s.heap.objs.size + 1) its) (enc := O.toD) false e0 er' hal
    obtain ⟨ys, v1, v2⟩ := each_back e2
    obtain ⟨ep, he'⟩ := PyProof.Rows.sortedAll_at s.heap its (sortVals (dataKind (sortingHeap (copyHeap s.heap its) (s.heap.objs.size + 1) its) (os.map O.toD)) false its its).toArray
    have hlen : ys.length ≤ sizeLine := by
      rw [paired_len v2, (List.mergeSort_perm os _).length_eq, ← paired_len hp]
      exact hz
    refine ⟨.ref _, upd H (s.heap.objs.size + 1) (.lst ys), I.laid (t' := s.toks) (fun _ _ => PyProof.Rows.sortedAll_old) (Nat.le_succ _) ⟨hlen, _, ep, v1, he'⟩, rfl, q _ _ _ v2 (List.mergeSort_perm os _) ?_ (I.hok.fresh (Nat.le_succ _))⟩
    refine (List.pairwise_mergeSort (le := dataLe false O.toD) (fun a b c h1 h2 => ?_) (fun a b => ?_) os).imp fun {a b} h => ?_
    · rw [dataLe_toDA] at h1 h2 ⊢
      simp only [Bool.not_eq_true'] at h1 h2 ⊢
      exact O.ge_trans h2 h1
    · rw [dataLe_toDA, dataLe_toDA]
      by_cases e : a = b
      · subst e; rw [O.lt_irrefl]; rfl
      · rcases O.lt_total a b e with k | k
        · rw [k, O.lt_asymm k]; rfl
        · rw [k, O.lt_asymm k]; rfl
    · rw [dataLe_toDA] at h
      simpa using h
/-! ### stairs of n levels -/
def SD : Nat → Type
  | 0 => Bool
  | n + 1 => List (O × SD n)
def SD.dflt : (n : Nat) → SD n
  | 0 => false
  | _ + 1 => ([] : List _)
/-- the last inner stair whose begin is at most o: as the law walks -/
def pickGo {α : Type} (o : O) : α → List (O × α) → α
  | d, [] => d
  | d, t :: r => pickGo o (if O.lt o t.1 = true then d else t.2) r
/-- as the program walks -/
def pickBr {α : Type} (o : O) : α → List (O × α) → α
  | d, [] => d
  | d, t :: r => if O.lt o t.1 = true then d else pickBr o t.2 r
def firstS {n : Nat} : List (O × SD n) → SD n
  | [] => SD.dflt n
  | t :: _ => t.2
def pickS {n : Nat} (l : List (O × SD n)) (o : O) : SD n := pickGo o (firstS l) l
def Asc {α : Type} (l : List (O × α)) : Prop := l.Pairwise fun a b => O.lt a.1 b.1 = true
theorem pickGo_above {α : Type} {o : O} : ∀ {l : List (O × α)} {d : α}, (∀ t ∈ l, O.lt o t.1 = true) → pickGo o d l = d
  | [], _, _ => rfl
  | t :: r, d, h => by
    show pickGo o (if O.lt o t.1 = true then d else t.2) r = d
    rw [if_pos (h t List.mem_cons_self)]
    exact pickGo_above fun x hx => h x (List.mem_cons_of_mem _ hx)
theorem pick_eq {α : Type} {o : O} : ∀ {l : List (O × α)} {d : α}, Asc l → pickBr o d l = pickGo o d l
  | [], _, _ => rfl
  | t :: r, d, h => by
    have h' := List.pairwise_cons.mp h
    show (if O.lt o t.1 = true then d else pickBr o t.2 r) = pickGo o (if O.lt o t.1 = true then d else t.2) r
    by_cases e : O.lt o t.1 = true
    · rw [if_pos e, if_pos e]
      exact (pickGo_above fun x hx => O.lt_trans _ _ _ e (h'.1 x hx)).symm
    · rw [if_neg e, if_neg e]
      exact pick_eq h'.2
def okS : (n : Nat) → SD n → Prop
  | 0, _ => True
  | n + 1, (l : List (O × SD n)) => l ≠ [] ∧ Asc l ∧ (∀ t ∈ l, O.ok t.1 = true ∧ O.dp t.1 ≤ 8 ∧ O.wd t.1 ≤ 3) ∧ (∀ t ∈ l, okS n t.2) ∧ l.length ≤ 4 ∧ l.head?.map (·.1) = some O.z
def valS : (n : Nat) → SD n → List O → Bool
  | 0, (b : Bool), _ => b
  | n + 1, (l : List (O × SD n)), os => valS n (pickS l (os.headD .z)) os.tail
def oppS : (n : Nat) → SD n → SD n
  | 0, (b : Bool) => !b
  | n + 1, (l : List (O × SD n)) => l.map fun t => (t.1, oppS n t.2)
theorem pickGo_map {α : Type} (f : α → α) {o : O} : ∀ {l : List (O × α)} {d : α}, pickGo o (f d) (l.map fun t => (t.1, f t.2)) = f (pickGo o d l)
  | [], _ => rfl
  | t :: r, d => by
    show pickGo o (if O.lt o t.1 = true then f d else f t.2) _ = f (pickGo o (if O.lt o t.1 = true then d else t.2) r)
    by_cases e : O.lt o t.1 = true
    · rw [if_pos e, if_pos e]; exact pickGo_map f
    · rw [if_neg e, if_neg e]; exact pickGo_map f
theorem pickGo_mem {α : Type} {o : O} : ∀ {l : List (O × α)} {d : α}, pickGo o d l = d ∨ ∃ t ∈ l, pickGo o d l = t.2
  | [], _ => .inl rfl
  | t :: r, d => by
    show pickGo o (if O.lt o t.1 = true then d else t.2) r = d ∨ ∃ x ∈ t :: r, pickGo o (if O.lt o t.1 = true then d else t.2) r = x.2
    by_cases e : O.lt o t.1 = true
    · rw [if_pos e]
      rcases pickGo_mem (l := r) (d := d) with h | ⟨x, hx, h⟩
      · exact .inl h
      · exact .inr ⟨x, List.mem_cons_of_mem _ hx, h⟩
    · rw [if_neg e]
      rcases pickGo_mem (l := r) (d := t.2) with h | ⟨x, hx, h⟩
      · exact .inr ⟨t, List.mem_cons_self, h⟩
      · exact .inr ⟨x, List.mem_cons_of_mem _ hx, h⟩
theorem okS_pick {n : Nat} {l : List (O × SD n)} {o : O} (h : okS (n + 1) l) : okS n (pickS l o) := by
  have h4 : ∀ t ∈ l, okS n t.2 := h.2.2.2.1
  rcases pickGo_mem (o := o) (l := l) (d := firstS l) with e | ⟨t, ht, e⟩
  · have e' : pickS l o = firstS l := e
    rw [e']
    match l, h, h4 with
    | [], h, _ => exact absurd rfl h.1
    | t :: r, _, h4 => exact h4 t List.mem_cons_self
  · have e' : pickS l o = t.2 := e
    rw [e']; exact h4 t ht
theorem firstS_opp {n : Nat} {l : List (O × SD n)} (h : l ≠ []) : firstS (l.map fun t => (t.1, oppS n t.2)) = oppS n (firstS l) := by
  match l, h with
  | [], h => exact absurd rfl h
  | t :: r, _ => rfl
theorem okS_opp : ∀ (n : Nat) (s : SD n), okS n s → okS n (oppS n s)
  | 0, _, _ => trivial
  | n + 1, (l : List (O × SD n)), h => by
    obtain ⟨h1, h2, h3, h4, h5, h6⟩ := (h : l ≠ [] ∧ Asc l ∧ (∀ t ∈ l, O.ok t.1 = true ∧ O.dp t.1 ≤ 8 ∧ O.wd t.1 ≤ 3) ∧ (∀ t ∈ l, okS n t.2) ∧ l.length ≤ 4 ∧ l.head?.map (·.1) = some O.z)
    show (l.map fun t => (t.1, oppS n t.2)) ≠ [] ∧ Asc (l.map fun t => (t.1, oppS n t.2)) ∧ (∀ t ∈ (l.map fun t => (t.1, oppS n t.2)), O.ok t.1 = true ∧ O.dp t.1 ≤ 8 ∧ O.wd t.1 ≤ 3) ∧ (∀ t ∈ (l.map fun t => (t.1, oppS n t.2)), okS n t.2) ∧ (l.map fun t => (t.1, oppS n t.2)).length ≤ 4 ∧ (l.map fun t => (t.1, oppS n t.2)).head?.map (·.1) = some O.z
    refine ⟨fun z => h1 (List.map_eq_nil_iff.mp z), List.pairwise_map.mpr (h2.imp fun h => h), fun t ht => ?_, fun t ht => ?_, by rw [List.length_map]; exact h5, by rw [List.head?_map, Option.map_map]; exact h6⟩
    · obtain ⟨x, hx, rfl⟩ := List.mem_map.mp ht
      exact h3 x hx
    · obtain ⟨x, hx, rfl⟩ := List.mem_map.mp ht
      exact okS_opp n _ (h4 x hx)
theorem valS_opp : ∀ (n : Nat) (s : SD n) (os : List O), okS n s → valS n (oppS n s) os = !valS n s os
  | 0, _, _, _ => rfl
  | n + 1, (l : List (O × SD n)), os, h => by
    have e : pickS (l.map fun t => (t.1, oppS n t.2)) (os.headD .z) = oppS n (pickS l (os.headD .z)) := by
      unfold pickS
      rw [firstS_opp h.1]
      exact pickGo_map (oppS n)
    show valS n (pickS (l.map fun t => (t.1, oppS n t.2)) (os.headD .z)) os.tail = !valS n (pickS l (os.headD .z)) os.tail
    rw [e]
    exact valS_opp n _ _ (okS_pick h)
/-! ### as they stand in a heap: tuples alone -/
def SA (K : PySem.W.Frag) (H : Hp) : (n : Nat) → V → SD n → Prop
  | 0, v, (b : Bool) => v = .bl b
  | n + 1, v, (l : List (O × SD n)) => ∃ a xs, v = .ref a ∧ TT K H a xs ∧ Paired (fun x (t : O × SD n) => ∃ p u w, x = .ref p ∧ TT K H p [u, w] ∧ OA K H u t.1 ∧ SA K H n w t.2) xs l
def StA (K : PySem.W.Frag) (H : Hp) (n : Nat) (x : V) (t : O × SD n) : Prop := ∃ p u w, x = .ref p ∧ TT K H p [u, w] ∧ OA K H u t.1 ∧ SA K H n w t.2
section
variable {K : PySem.W.Frag} {H H' : Hp}
theorem SA.tp (t : Tp H H') : ∀ {n : Nat} {v : V} {s : SD n}, SA K H n v s → SA K H' n v s
  | 0, _, _, h => h
  | n + 1, _, _, ⟨a, xs, e, h1, h2⟩ => ⟨a, xs, e, h1.tp t, paired_mono (fun x y ⟨p, u, w, e1, e2, e3, e4⟩ => ⟨p, u, w, e1, e2.tp t, e3.tp t, SA.tp t e4⟩) h2⟩
theorem StA.tp {n : Nat} {x : V} {y : O × SD n} (t : Tp H H') (h : StA K H n x y) : StA K H' n x y := by
  obtain ⟨p, u, w, e1, e2, e3, e4⟩ := h
  exact ⟨p, u, w, e1, e2.tp t, e3.tp t, e4.tp t⟩
theorem steps_tp {n : Nat} {xs : List V} {l : List (O × SD n)} (t : Tp H H') (h : Paired (StA K H n) xs l) : Paired (StA K H' n) xs l := paired_mono (fun _ _ h => StA.tp t h) h
theorem SA.same {n : Nat} {v : V} {s : SD n} (h : SA K H n v s) (x : Same H H') : SA K H' n v s := h.tp (same_tp x)
theorem SA.un {n : Nat} {v : V} {l : List (O × SD n)} (h : SA K H (n + 1) v l) : ∃ a xs, v = .ref a ∧ TT K H a xs ∧ Paired (StA K H n) xs l := h
theorem SA.mk {n : Nat} {a : Addr} {xs : List V} {l : List (O × SD n)} (h : TT K H a xs) (p : Paired (StA K H n) xs l) : SA K H (n + 1) (.ref a) l := ⟨a, xs, rfl, h, p⟩
def stD : (n : Nat) → SD n → PyData
  | 0, (b : Bool) => .bool b
  | n + 1, (l : List (O × SD n)) => .tuple (l.map fun t => .tuple [O.toD t.1, stD n t.2])
theorem steps_dp {n : Nat} (ih : ∀ (v : V) (s : SD n), SA K H n v s → Dp K H v (stD n s)) : ∀ {xs : List V} {l : List (O × SD n)}, Paired (StA K H n) xs l → DpAll K H xs (l.map fun t => .tuple [O.toD t.1, stD n t.2])
  | _, _, .nil => .nil
  | _, _, .cons ⟨p, u, w, e1, e2, e3, e4⟩ t => by
    subst e1
    exact .cons (.tup e2.sq (.cons e3.dp (.cons (ih _ _ e4) .nil))) (steps_dp ih t)
theorem SA.dp : ∀ {n : Nat} {v : V} {s : SD n}, SA K H n v s → Dp K H v (stD n s)
  | 0, _, _, h => by
    have h : _ = V.bl _ := h
    rw [h]; exact .bl _
  | n + 1, _, _, ⟨a, xs, e, h1, h2⟩ => by
    subst e
    exact .tup h1.sq (steps_dp (fun _ _ h => SA.dp h) h2)
end
theorem rd_eqNilD {K : PySem.W.Frag} {H : Hp} {Q : VK} {os : List O} {p p2 : Addr} {xs : List V} (h1 : SqL K H p xs) (h2 : Paired (OA K H) xs os) (h3 : SqL K H p2 []) (g : ∀ o ∈ os, O.dp o ≤ 50) (q : Q (.bl os.isEmpty) H) : rEqO K (.ref p) (.ref p2) H Q := by
  unfold rEqO
  refine ⟨_, _, .lst h1 (dpAll_of h2), .lst h3 .nil, ?_, shaped_nil, ?_⟩
  · have e1 := lay_all os
    have e2 := O.depthAll g
    unfold SeqAt.shaped
    rw [Bool.and_eq_true, decide_eq_true_eq]
    refine ⟨by simp only [PyData.canLay0, e1], ?_⟩
    have : (PyData.list (os.map O.toD)).depth = PyData.depthAll (os.map O.toD) + 1 := by simp only [PyData.depth]
    omega
  · rw [eqv_nil]
    cases os <;> exact q
/-- a row near the begins of a stair -/
def spNear (K : PySem.W.Frag) : Sp := fun vs H Q _ => ∃ (l b L : Addr) (m : Nat) (v : V) (s : SD m), vs = [.ref b, .int (m : Nat), .ref L] ∧ H L = some (.lst [v]) ∧ L ≠ b ∧ SA K H m v s ∧ okS m s ∧ m ≤ 3 ∧ Bag l H b ∧ ∀ (w : V) (os : List O) (H' : Hp), RowA K H' w os → os.length = m → (∀ o ∈ os, O.ok o = true ∧ O.dp o ≤ 14) → Kp b H H' → Bag l H' b → Q w H'
/-- a drawn stair -/
def spStair (K : PySem.W.Frag) (j : Nat) : Sp := fun vs H Q _ => ∃ (l b : Addr) (n : Nat), vs = [.ref b, .int (n : Nat)] ∧ n < j ∧ j ≤ 10 ∧ Bag l H b ∧ ∀ (v : V) (s : SD n) (H' : Hp), SA K H' n v s → okS n s → Kp b H H' → Bag l H' b → Q v H'
/-- drawn begins: 0, then ascending -/
def spSteps (K : PySem.W.Frag) : Sp := fun vs H Q _ => ∃ (l b : Addr) (d : Nat), vs = [.ref b, .int (d : Nat)] ∧ d ≤ 3 ∧ Bag l H b ∧ ∀ (D : Addr) (xs : List V) (os : List O) (H' : Hp), H D = none → D ≠ b → D ≠ l → H' D = some (.lst xs) → Paired (OA K H') xs os → os.head? = some .z → os.length ≤ 4 → os.Pairwise (fun a b => O.lt a b = true) → (∀ o ∈ os, O.ok o = true ∧ O.dp o ≤ 8 ∧ O.wd o ≤ 3) → Kp b H H' → Bag l H' b → Q (.ref D) H'
/-- the inner stair at an ordinal -/
def spPick (K : PySem.W.Frag) : Sp := fun vs H Q _ => ∃ (v x : V) (n : Nat) (l : List (O × SD n)) (o : O), vs = [v, x] ∧ SA K H (n + 1) v l ∧ okS (n + 1) l ∧ OA K H x o ∧ O.dp o ≤ 50 ∧ ∀ (w : V) (H' : Hp), Same H H' → SA K H' n w (pickS l o) → Q w H'
/-- whether a row is in a stair's set -/
def spVal (K : PySem.W.Frag) : Sp := fun vs H Q _ => ∃ (v x : V) (n : Nat) (s : SD n) (os : List O), vs = [v, x] ∧ SA K H n v s ∧ okS n s ∧ RowA K H x os ∧ os.length = n ∧ (∀ o ∈ os, O.dp o ≤ 50) ∧ ∀ H', Same H H' → Q (.bl (valS n s os)) H'
def spOpp (K : PySem.W.Frag) (j : Nat) : Sp := fun vs H Q _ => ∃ (v : V) (n : Nat) (s : SD n), vs = [v] ∧ SA K H n v s ∧ okS n s ∧ n < j ∧ ∀ (w : V) (H' : Hp), Same H H' → SA K H' n w (oppS n s) → Q w H'
/-- some of the begins -/
def spBegins (K : PySem.W.Frag) (j : Nat) : Sp := fun vs H Q _ => ∃ (v : V) (n d : Nat) (s : SD n), vs = [v, .int (d : Nat)] ∧ SA K H n v s ∧ okS n s ∧ d < n ∧ n < j ∧ j ≤ 10 ∧ ∀ (D : Addr) (xs : List V) (os : List O) (H' : Hp), Same H H' → H' D = some (.lst xs) → H D = none → Paired (OA K H') xs os → os.length ≤ 4 ^ (d + 1) → (∀ o ∈ os, O.ok o = true ∧ O.dp o ≤ 8 ∧ O.wd o ≤ 3) → Q (.ref D) H'
end Vw

set_option Elab.async false
set_option linter.all false
set_option maxRecDepth 100000
namespace Vw
open PySem PySem.W PyProof.Rows L2
/-! ### stairs among any data -/
/-- the first i items are right steps with these begins -/
structure SPre (p : PyData → Prop) (ds : List PyData) (os : List O) (i : Nat) : Prop where
  len : os.length = i
  at_ : ∀ (j : Nat) (o : O), os[j]? = some o → ∃ inner, ds[j]? = some (PyData.tuple [O.toD o, inner]) ∧ O.ok o = true ∧ p inner
  asc : os.Pairwise fun a b => O.lt a b = true
  first : ∀ o : O, os.head? = some o → o = .z
def IsSt : Nat → PyData → Prop
  | 0, d => ∃ b, d = .bool b
  | n + 1, d => ∃ ds os, d = .tuple ds ∧ ds ≠ [] ∧ SPre (IsSt n) ds os ds.length
def IsStep (n : Nat) (d : PyData) : Prop := ∃ o inner, d = .tuple [O.toD o, inner] ∧ O.ok o = true ∧ IsSt n inner
noncomputable def isStB (n : Nat) (d : PyData) : Bool := open Classical in decide (IsSt n d)
noncomputable def isStepB (n : Nat) (d : PyData) : Bool := open Classical in decide (IsStep n d)
open Classical in
theorem isSt_t {n : Nat} {d : PyData} (h : IsSt n d) : isStB n d = true := by unfold isStB; exact decide_eq_true h
open Classical in
theorem isSt_f {n : Nat} {d : PyData} (h : ¬ IsSt n d) : isStB n d = false := by unfold isStB; exact decide_eq_false h
open Classical in
theorem isSt_of {n : Nat} {d : PyData} (h : isStB n d = true) : IsSt n d := by unfold isStB at h; exact of_decide_eq_true h
open Classical in
theorem isStep_t {n : Nat} {d : PyData} (h : IsStep n d) : isStepB n d = true := by unfold isStepB; exact decide_eq_true h
open Classical in
theorem isStep_f {n : Nat} {d : PyData} (h : ¬ IsStep n d) : isStepB n d = false := by unfold isStepB; exact decide_eq_false h
open Classical in
theorem isStep_of {n : Nat} {d : PyData} (h : isStepB n d = true) : IsStep n d := by unfold isStepB at h; exact of_decide_eq_true h
theorem isStep_no {n : Nat} {d : PyData} (h : isStepB n d = false) : ¬ IsStep n d := fun z => by rw [isStep_t z] at h; cases h
theorem isSt_no {n : Nat} {d : PyData} (h : isStB n d = false) : ¬ IsSt n d := fun z => by rw [isSt_t z] at h; cases h
theorem isSt_zero (d : PyData) : isStB 0 d = isin d "bool" := by
  cases d with
  | bool b => exact (isSt_t (n := 0) ⟨b, rfl⟩).trans rfl
  | _ => exact (isSt_f (n := 0) fun ⟨b, h⟩ => by cases h).trans rfl
theorem isSt_other {n : Nat} {d : PyData} (h : ∀ ds, d ≠ .tuple ds) : isStB (n + 1) d = false := isSt_f fun ⟨ds, os, h1, _⟩ => h _ h1
theorem isSt_empty {n : Nat} : isStB (n + 1) (.tuple []) = false := isSt_f fun ⟨ds, os, h1, h2, _⟩ => by
  cases h1; exact h2 rfl
theorem isStep_other {n : Nat} {d : PyData} (h : ∀ a b, d ≠ .tuple [a, b]) : isStepB n d = false := isStep_f fun ⟨o, i, h1, _⟩ => h _ _ h1
theorem isStep_two {n : Nat} (a b : PyData) : isStepB n (.tuple [a, b]) = (isOrdB a && isStB n b) := by
  cases h : isOrdB a && isStB n b with
  | true =>
    rw [Bool.and_eq_true] at h
    obtain ⟨o, rfl, ho⟩ := isOrd_of h.1
    exact isStep_t ⟨o, b, rfl, ho, isSt_of h.2⟩
  | false =>
    refine isStep_f fun ⟨o, i, h1, h2, h3⟩ => ?_
    have h4 : a = O.toD o ∧ b = i := by simpa using h1
    rw [h4.1, h4.2, isOrd_toD h2, isSt_t h3] at h
    cases h
section
variable {n : Nat} {ds : List PyData} {os : List O} {p : PyData → Prop} {i : Nat}
theorem full_at (h : SPre p ds os ds.length) {d : PyData} (hd : ds[i]? = some d) : ∃ o inner, os[i]? = some o ∧ d = .tuple [O.toD o, inner] ∧ O.ok o = true ∧ p inner := by
  have hi : i < os.length := by rw [h.len]; exact (List.getElem?_eq_some_iff.mp hd).1
  obtain ⟨inner, h1, h2, h3⟩ := h.at_ i _ (List.getElem?_eq_getElem hi)
  rw [hd] at h1
  exact ⟨_, inner, List.getElem?_eq_getElem hi, Option.some.inj h1, h2, h3⟩
theorem bad_step {d : PyData} (hd : ds[i]? = some d) (h : ¬ IsStep n d) : isStB (n + 1) (.tuple ds) = false := isSt_f fun ⟨ds', os, h1, _, h3⟩ => by
  cases h1
  obtain ⟨o, inner, _, e, h4, h5⟩ := full_at h3 hd
  exact h ⟨o, inner, e, h4, h5⟩
theorem two_inj {o o' : O} {a b : PyData} (h : PyData.tuple [O.toD o, a] = .tuple [O.toD o', b]) : o = o' := by
  have : O.toD o = O.toD o' ∧ a = b := by simpa using h
  exact O.toD_inj this.1
theorem bad_first {o : O} {a : PyData} (hd : ds[0]? = some (PyData.tuple [O.toD o, a])) (h : o ≠ .z) : isStB (n + 1) (.tuple ds) = false := isSt_f fun ⟨ds', os, h1, _, h3⟩ => by
  cases h1
  obtain ⟨o', inner, ho, e, _, _⟩ := full_at h3 hd
  refine h ((two_inj e).trans (h3.first o' ?_))
  rw [List.head?_eq_getElem?]; exact ho
theorem bad_asc {o1 o2 : O} {a b : PyData} (h1 : ds[i]? = some (PyData.tuple [O.toD o1, a])) (h2 : ds[i + 1]? = some (PyData.tuple [O.toD o2, b])) (h : O.lt o1 o2 = false) : isStB (n + 1) (.tuple ds) = false := isSt_f fun ⟨ds', os, e1, _, h3⟩ => by
  cases e1
  obtain ⟨p1, _, g1, e1, _, _⟩ := full_at h3 h1
  obtain ⟨p2, _, g2, e2, _, _⟩ := full_at h3 h2
  obtain ⟨i1, f1⟩ := List.getElem?_eq_some_iff.mp g1
  obtain ⟨i2, f2⟩ := List.getElem?_eq_some_iff.mp g2
  have := List.pairwise_iff_getElem.mp h3.asc i (i + 1) i1 i2 (Nat.lt_succ_self i)
  rw [f1, f2, ← two_inj e1, ← two_inj e2, h] at this
  cases this
theorem spre_nil (ds : List PyData) : SPre p ds [] 0 := ⟨rfl, (fun j o h => by cases h), List.Pairwise.nil, (fun o h => by cases h)⟩
theorem spre_last (h : SPre p ds os (i + 1)) : ∃ o inner, os.getLast? = some o ∧ ds[i]? = some (PyData.tuple [O.toD o, inner]) := by
  have hi : i < os.length := by rw [h.len]; exact Nat.lt_succ_self i
  obtain ⟨inner, h1, _⟩ := h.at_ i _ (List.getElem?_eq_getElem hi)
  refine ⟨os[i], inner, ?_, h1⟩
  rw [List.getLast?_eq_getElem?, h.len]
  exact List.getElem?_eq_getElem hi
theorem spre_step {o : O} {inner : PyData} (h : SPre p ds os i) (hd : ds[i]? = some (PyData.tuple [O.toD o, inner])) (ho : O.ok o = true) (hp : p inner) (h0 : i = 0 → o = .z) (hl : ∀ o', os.getLast? = some o' → O.lt o' o = true) : SPre p ds (os ++ [o]) (i + 1) := by
  refine ⟨by rw [List.length_append, h.len]; rfl, fun j o' hj => ?_, ?_, fun o' h' => ?_⟩
  · by_cases hji : j < i
    · rw [List.getElem?_append_left (by rw [h.len]; exact hji)] at hj
      exact h.at_ j o' hj
    · have hj2 : j < (os ++ [o]).length := (List.getElem?_eq_some_iff.mp hj).1
      rw [List.length_append, h.len] at hj2
      have : j = i := by have : j < i + 1 := hj2; omega
      subst this
      rw [List.getElem?_append_right (by rw [h.len]; exact Nat.le_refl _), h.len, Nat.sub_self] at hj
      cases hj
      exact ⟨inner, hd, ho, hp⟩
  · refine List.pairwise_append.mpr ⟨h.asc, List.pairwise_singleton _ _, fun a ha c hc => ?_⟩
    rw [List.mem_singleton.mp hc]
    obtain ⟨l, hlast⟩ : ∃ l, os.getLast? = some l := by
      cases e : os.getLast? with
      | some l => exact ⟨l, rfl⟩
      | none => rw [List.getLast?_eq_none_iff.mp e] at ha; cases ha
    have hlo := hl l hlast
    have hne : os ≠ [] := fun z => by rw [z] at ha; cases ha
    have es : os = os.dropLast ++ [l] := by
      rw [List.getLast?_eq_some_getLast hne] at hlast
      have := Option.some.inj hlast
      rw [← this, List.dropLast_concat_getLast]
    have hasc := h.asc
    rw [es] at hasc ha
    rcases List.mem_append.mp ha with h1 | h1
    · exact O.lt_trans _ _ _ ((List.pairwise_append.mp hasc).2.2 a h1 l (List.mem_singleton.mpr rfl)) hlo
    · rw [List.mem_singleton.mp h1]; exact hlo
  · cases os with
    | nil =>
      cases h'
      exact h0 h.len.symm
    | cons a r => exact h.first o' h'
theorem spre_end (h : SPre (IsSt n) ds os ds.length) (hne : ds ≠ []) : isStB (n + 1) (.tuple ds) = true := isSt_t ⟨ds, os, rfl, hne, h⟩
end
/-- stairs are stairs -/
theorem isSt_stD : ∀ (n : Nat) (s : SD n), okS n s → IsSt n (stD n s)
  | 0, (b : Bool), _ => ⟨b, rfl⟩
  | n + 1, (l : List (O × SD n)), h => by
    obtain ⟨h1, h2, h3, h4, h5, h6⟩ := (h : l ≠ [] ∧ Asc l ∧ (∀ t ∈ l, O.ok t.1 = true ∧ O.dp t.1 ≤ 8 ∧ O.wd t.1 ≤ 3) ∧ (∀ t ∈ l, okS n t.2) ∧ l.length ≤ 4 ∧ l.head?.map (·.1) = some O.z)
    refine ⟨l.map fun t => .tuple [O.toD t.1, stD n t.2], l.map (·.1), rfl, fun z => h1 (List.map_eq_nil_iff.mp z), ⟨by rw [List.length_map, List.length_map], fun j o hj => ?_, (by have h2' : l.Pairwise fun a b => O.lt a.1 b.1 = true := h2; exact List.pairwise_map.mpr h2'), fun o ho => ?_⟩⟩
    · rw [List.getElem?_map] at hj
      obtain ⟨t, ht, rfl⟩ := Option.map_eq_some_iff.mp hj
      have hm := List.mem_of_getElem? ht
      exact ⟨stD n t.2, by rw [List.getElem?_map, ht]; rfl, (h3 t hm).1, isSt_stD n t.2 (h4 t hm)⟩
    · rw [List.head?_map, h6] at ho
      exact (Option.some.inj ho).symm
theorem depth_stD : ∀ (n : Nat) (s : SD n), okS n s → (stD n s).depth ≤ 11 + 2 * n
  | 0, (b : Bool), _ => by show (PyData.bool b).depth ≤ _; simp only [PyData.depth]; omega
  | n + 1, (l : List (O × SD n)), h => by
    have h3 : ∀ t ∈ l, O.ok t.1 = true ∧ O.dp t.1 ≤ 8 ∧ O.wd t.1 ≤ 3 := h.2.2.1
    have h4 : ∀ t ∈ l, okS n t.2 := h.2.2.2.1
    have key : ∀ l : List (O × SD n), (∀ t ∈ l, O.dp t.1 ≤ 8) → (∀ t ∈ l, okS n t.2) → PyData.depthAll (l.map fun t => .tuple [O.toD t.1, stD n t.2]) ≤ 12 + 2 * n := by
      intro l
      induction l with
      | nil => intro _ _; exact Nat.zero_le _
      | cons t r ih =>
        intro g1 g2
        have i1 := ih (fun x hx => g1 x (List.mem_cons_of_mem _ hx)) (fun x hx => g2 x (List.mem_cons_of_mem _ hx))
        have i2 := depth_stD n t.2 (g2 t List.mem_cons_self)
        have i3 := g1 t List.mem_cons_self
        simp only [List.map_cons, PyData.depthAll, PyData.depth, O.depth_toD]
        omega
    have := key l (fun t ht => (h3 t ht).2.1) h4
    show (PyData.tuple (l.map fun t => .tuple [O.toD t.1, stD n t.2])).depth ≤ _
    simp only [PyData.depth]
    omega
theorem rd_neD2 {K : PySem.W.Frag} {H : Hp} {x y : V} {a b : O} {Q : VK} (ha : Dp K H x (O.toD a)) (hb : Dp K H y (O.toD b)) (h : O.dp a ≤ 60) (h2 : O.dp b ≤ 60) (q : Q (.bl (!decide (a = b))) H) : rNeO K x y H Q := by
  unfold rNeO
  exact ⟨_, _, ha, hb, O.shaped_toD h, O.shaped_toD h2, by rw [O.eqv_toD]; exact q⟩
theorem nil_dp {K : PySem.W.Frag} {H : Hp} {a : Addr} (h : TT K H a []) : Dp K H (.ref a) (O.toD .z) := .tup h.sq .nil
/-- whether any data is a stair -/
def spIsSt (K : PySem.W.Frag) (j : Nat) : Sp := fun vs H Q _ => ∃ (m : Nat) (x : V) (d : PyData), vs = [.int (m : Nat), x] ∧ m < j ∧ Dp K H x d ∧ d.depth ≤ 55 ∧ ∀ H', Same H H' → Q (.bl (isStB m d)) H'
def spIsStep (K : PySem.W.Frag) (j : Nat) : Sp := fun vs H Q _ => ∃ (m : Nat) (x : V) (d : PyData), vs = [.int ((m + 1 : Nat) : Int), x] ∧ m < j ∧ Dp K H x d ∧ d.depth ≤ 55 ∧ ∀ H', Same H H' → Q (.bl (isStepB m d)) H'
/-- a bent stair -/
def spBentSt (K : PySem.W.Frag) (j : Nat) : Sp := fun vs H Q _ => ∃ (l b : Addr) (v : V) (n : Nat) (s : SD n), vs = [.ref b, v] ∧ Bag l H b ∧ SA K H n v s ∧ okS n s ∧ n < j ∧ j ≤ 5 ∧ ∀ (w : V) (H' : Hp), EltB K H' b (20 + 4 * n) w → Kp b H H' → Bag l H' b → Q w H'
theorem EltT.stair {K : PySem.W.Frag} {H : Hp} {n m : Nat} {v : V} {s : SD n} (h : SA K H n v s) (ok : okS n s) (l : 11 + 2 * n ≤ m) : EltT K H m v := ⟨_, Nat.le_trans (depth_stD n s ok) l, fun _ t => (h.tp t).dp⟩
/-- one step at each level -/
def flatS : (m : Nat) → Bool → SD m
  | 0, b => b
  | m + 1, b => ([(O.z, flatS m b)] : List (O × SD m))
theorem okS_flat : ∀ (m : Nat) (b : Bool), okS m (flatS m b)
  | 0, _ => trivial
  | m + 1, b => ⟨fun z => (by cases z), List.pairwise_singleton _ _, fun t ht => by rw [List.mem_singleton.mp ht]; exact (by decide : O.ok .z = true ∧ O.dp .z ≤ 8 ∧ O.wd .z ≤ 3), fun t ht => by rw [List.mem_singleton.mp ht]; exact okS_flat m b, (by show 1 ≤ 4; decide), rfl⟩
def spFlat (K : PySem.W.Frag) : Sp := fun vs H Q _ => ∃ (m : Nat) (v : Bool), vs = [.int (m : Nat), .bl v] ∧ m ≤ 10 ∧ ∀ (w : V) (H' : Hp), Same H H' → SA K H' m w (flatS m v) → Q w H'
end Vw

set_option Elab.async false
set_option linter.all false
set_option maxRecDepth 100000
set_option maxHeartbeats 4000000
/-! tables of texts at the top of a module; a list that takes in a tuple -/
namespace Vw
open PySem PyProof.Rows L2
/-- a module's own dict of whole numbers by texts -/
structure TabC (K : PySem.W.Frag) (w : World) (d : Addr) (T : List (Str × Int)) : Prop where
  kd : ∃ es n, L2.KDict K w d es n
  at_ : ∀ (x : Str) (v : Int), T.lookup x = some v → ∃ t, PySem.W.nsIn K d x = some (some (.int v t))
  out : ∀ x : Str, T.lookup x = none → PySem.W.nsIn K d x = some none
theorem isStr_eq {v : Value} {x y : Str} (h : v.isStr x = true) (h2 : v.isStr y = true) : x = y := by
  cases v <;> simp [Value.isStr] at h h2
  exact h.symm.trans h2
theorem tabC_mk {K : PySem.W.Frag} {w : World} {d : Addr} {T : List (Str × Int)} {es : Array DictEntry} {n : Nat} (hl : List.lookup d K = some {cls := .type "dict", data := .dict es n}) (kl : PySem.W.KeysLit w.params es.toList) (low : (d == sysModules) = false)
    (al : (es.toList.all fun e => T.any fun p => e.key.isStr p.1) = true) (nr : (es.toList.any fun e => e.refKey) = false) (at_ : ∀ (x : Str) (v : Int), T.lookup x = some v → ∃ t, PySem.W.nsIn K d x = some (some (.int v t))) : TabC K w d T := by
  refine ⟨⟨es, n, hl, kl, low⟩, at_, fun x hx => ?_⟩
  unfold PySem.W.nsIn
  rw [hl]
  dsimp only
  have : List.find? (fun e => e.key.isStr x) es.toList = none := by
    refine List.find?_eq_none.mpr fun e he hs => ?_
    obtain ⟨p, hp, hk⟩ := List.any_eq_true.mp (List.all_eq_true.mp al e he)
    have e1 := isStr_eq hk hs
    subst e1
    have := List.lookup_eq_none_iff.mp hx p hp
    simp at this
  rw [this]
  dsimp only
  rw [nr]
  rfl
def TabAll (K : PySem.W.Frag) (d : Addr) : List (Str × Int) → Prop
  | [] => True
  | p :: r => (∃ t, PySem.W.nsIn K d p.1 = some (some (.int p.2 t))) ∧ TabAll K d r
theorem tab_at {K : PySem.W.Frag} {d : Addr} : ∀ {T : List (Str × Int)}, TabAll K d T → ∀ (x : Str) (v : Int), T.lookup x = some v → ∃ t, PySem.W.nsIn K d x = some (some (.int v t))
  | [], _, _, _, e => by cases e
  | (y, u) :: r, h, x, v, e => by
    rw [List.lookup_cons] at e
    by_cases hx : x = y
    · subst hx
      rw [beq_self_eq_true] at e
      have e : some u = some v := e
      cases e
      exact h.1
    · rw [beq_false_of_ne hx] at e
      exact tab_at h.2 x v e
def rNotInT (d : Addr) (T : List (Str × Int)) : R2 := fun x y H Q => ∃ z, x = .str z ∧ y = .ref d ∧ Q (.bl (!(T.lookup z).isSome)) H
theorem op_notInT {X : Cx} {d : Addr} {T : List (Str × Int)} (h : TabC X.K X.w d T) : OpR X (compareOp .NotIn) (rNotInT d T) := by
  obtain ⟨es, n, D⟩ := h.kd
  intro pins s σ H x y v u Q I rx ry hh
  refine L2.op_notIn_kd D pins s σ H x y v u Q I rx ry ?_
  obtain ⟨z, rfl, rfl, q⟩ := hh
  cases e : T.lookup z with
  | none => exact ⟨z, none, rfl, rfl, h.out z e, by rw [e] at q; exact q⟩
  | some v =>
    obtain ⟨t, ht⟩ := h.at_ z v e
    exact ⟨z, _, rfl, rfl, ht, by rw [e] at q; exact q⟩
def rItT (d : Addr) (T : List (Str × Int)) : R2 := fun x y H Q => ∃ z v, x = .ref d ∧ y = .str z ∧ T.lookup z = some v ∧ Q (.int v) H
theorem ix_tab {X : Cx} {d : Addr} {T : List (Str × Int)} (h : TabC X.K X.w d T) : IxR X (rItT d T) := by
  obtain ⟨es, n, D⟩ := h.kd
  intro a1 a2 a3 a4 a5 a6 a7 a8 a9 a10 a11 a12 a13 a14 hh he
  refine L2.ix_kdict a1 a2 a3 a4 a5 a6 a7 a8 a9 a10 a11 a12 a13 a14 ?_ he
  obtain ⟨z, i, rfl, rfl, hz, q⟩ := hh
  obtain ⟨t, ht⟩ := h.at_ z i hz
  exact ⟨d, z, .int i, rfl, rfl, ⟨es, n, _, D.at_, D.lit, ht, ⟨_, rfl⟩⟩, q⟩
theorem extend_tup (l : Addr) (xs : Array Value) (n : Nat) (b : Addr) (ys : Array Value) (m : Nat) (dc : Option Addr) (sl : Array (Option Value)) (h0 : ¬(!xs.isEmpty && Builtin.List.listTooLong (xs.size + ys.size)) = true) (h1 : xs.size ≤ sizeLine)
    (h2 : xs.size + ys.size ≤ sizeLine + 1) : Meets (Builtin.«list.extend» ⟨[.ref l, .ref b], []⟩) (fun _ R s =>
      s.heap.get? l = some { cls := .type "list", dict := none, data := .seq xs n, slots := #[] } ∧ s.heap.get? b = some { cls := .type "tuple", dict := dc, data := .seq ys m, slots := sl } ∧
      R (.ok (.ret Value.none)) { s with heap := s.heap.update l (Obj.mapSeq fun x => x ++ ys), toks := s.toks }) :=
  .of_wp fun prog w A R s h => by
    obtain ⟨hp, g, d, tk, os⟩ := s
    obtain ⟨hl, hb, h⟩ := h
    have f1 := AutoSeq1.sub_tuple_tuple
    have f2 := AutoSeq1.sub_list_list
    have f3 := AutoSeq1.sub_tuple_list
    have f4 := AutoSeq1.sub_list_tuple
    have hz : (xs ++ ys).size ≤ sizeLine + 1 := by rw [Array.size_append]; exact h2
    wp_walk using (wpAny_updateSeq hl rfl (hz := h1) (_hz' := hz)), wpAny_loadPart' hl, wpAny_loadPart' hb
    exact ⟨_, rfl, h⟩
theorem mt_extendT {X : Cx} : MtM X "list.extend" (fun x vs H Q => ∃ l b xs zs, x = .ref l ∧ vs = [.ref b] ∧ H l = some (.lst xs) ∧ SqT X.K H b zs ∧ xs.length + zs.length ≤ sizeLine ∧ Q .non (upd H l (.lst (xs ++ zs)))) := by
  intro pins s σ H x vs v us Q I rx rv h
  obtain ⟨l, b, xs, zs, rfl, rfl, hH, hB, hz, q⟩ := h
  cases rx
  obtain ⟨u, rfl, ru⟩ := rv.one
  cases ru
  obtain ⟨z, its, n, r, hl, e⟩ := I.lstM hH
  obtain ⟨its2, r2, ⟨o2, e2, hc2, n2, hd2⟩, hl2⟩ := I.tuple hB
  obtain ⟨c2, dc2, dd2, sl2⟩ := o2
  have hc2 : c2 = .type "tuple" := hc2
  have hd2 : dd2 = .seq its2.toArray n2 := hd2
  subst hc2 hd2
  have h1 := r.length
  have h2 := r2.length
  have hsz : its.toArray.size + its2.toArray.size ≤ sizeLine := by rw [List.size_toArray, List.size_toArray]; omega
  have hlong : ¬ (!its.toArray.isEmpty && Builtin.List.listTooLong (its.toArray.size + its2.toArray.size)) = true := by
    rw [notLongL hsz, Bool.and_false]
    exact Bool.false_ne_true
  refine call_meets F.slot_list_extend ⟨_, e, rfl⟩ F.entry_list_extend (F.args_list_extend_2 _ _)
    (extend_tup l its.toArray n b its2.toArray n2 dc2 sl2 hlong (by rw [List.size_toArray]; omega) (by omega)) ⟨e, e2, ?_⟩
  refine ⟨.non, _, I.lset (its' := its ++ its2) hH e (by simp) (r.append r2) ?_, rfl, q⟩
  rw [List.length_append]
  omega
end Vw

set_option Elab.async false
set_option linter.all false
set_option maxRecDepth 100000
/-! sentences among any data -/
namespace Vw
open PySem PySem.W PyProof.Rows L2
def headT : List (Str × Int) := [("true", 1), ("false", 1), ("name", 2), ("not", 1), ("and", 1), ("or", 1), ("then", 1), ("shown", 2)]
def partT : List (Str × Int) := [("true", 0), ("false", 0), ("name", 0), ("not", 1), ("and", 2), ("or", 2), ("then", 2), ("shown", 1)]
mutual
def sOk : PyData → Prop
  | .str x => x.length ≤ 100000
  | .list l => sOkA l
  | .tuple l => sOkA l
  | _ => True
def sOkA : List PyData → Prop
  | [] => True
  | d :: r => sOk d ∧ sOkA r
end
mutual
def psz : PyData → Nat
  | .list l => pszA l + 1
  | .tuple l => pszA l + 1
  | _ => 1
def pszA : List PyData → Nat
  | [] => 0
  | d :: r => psz d + pszA r
end
theorem sOkA_mem : ∀ {l : List PyData} {d : PyData}, sOkA l → d ∈ l → sOk d
  | _ :: _, _, h, .head _ => h.1
  | _ :: _, _, h, .tail _ m => sOkA_mem h.2 m
theorem sOkA_of : ∀ {l : List PyData}, (∀ d ∈ l, sOk d) → sOkA l
  | [], _ => trivial
  | d :: r, h => ⟨h d List.mem_cons_self, sOkA_of fun x hx => h x (List.mem_cons_of_mem _ hx)⟩
theorem psz_append : ∀ (l r : List PyData), pszA (l ++ r) = pszA l + pszA r
  | [], r => by simp [pszA]
  | d :: l, r => by
    show psz d + pszA (l ++ r) = psz d + pszA l + pszA r
    rw [psz_append l r]; omega
theorem psz_drop : ∀ (k : Nat) (l : List PyData), pszA (l.drop k) ≤ pszA l
  | 0, l => Nat.le_refl _
  | k + 1, [] => Nat.le_refl _
  | k + 1, d :: r => by
    show pszA (r.drop k) ≤ psz d + pszA r
    have := psz_drop k r
    omega
def nmD : PyData → Bool
  | .str x => isNm x
  | _ => false
def levD (m : Int) : PyData → Bool
  | .int i => decide (0 ≤ i) && decide (i < m)
  | _ => false
/-- the rest of a word, when the lengths are right -/
def restB (m : Int) (x : Str) (r : List PyData) : Bool := if x = "name" then nmD (r.headD .none) else if x = "shown" then levD m (r.headD .none) else true
/-- one node, its parts aside -/
def nodeB (m : Int) : PyData → Bool
  | .tuple (.str x :: r) => match headT.lookup x, partT.lookup x with
    | some h, some p => decide ((r.length : Int) + 1 = h + p) && restB m x r
    | _, _ => false
  | _ => false
def partsD : PyData → List PyData
  | .tuple (.str x :: r) => ((PyData.str x :: r) : List PyData).drop ((headT.lookup x).getD 0).toNat
  | _ => []
inductive IsSe (m : Int) : PyData → Prop
  | mk (d : PyData) : nodeB m d = true → (∀ p ∈ partsD d, IsSe m p) → IsSe m d
theorem isSe_iff {m : Int} {d : PyData} : IsSe m d ↔ nodeB m d = true ∧ ∀ p ∈ partsD d, IsSe m p := ⟨fun h => by cases h with | mk _ h1 h2 => exact ⟨h1, h2⟩, fun h => .mk d h.1 h.2⟩
noncomputable def isSeB (m : Int) (d : PyData) : Bool := open Classical in decide (IsSe m d)
open Classical in
theorem isSe_t {m : Int} {d : PyData} (h : IsSe m d) : isSeB m d = true := by unfold isSeB; exact decide_eq_true h
open Classical in
theorem isSe_f {m : Int} {d : PyData} (h : ¬ IsSe m d) : isSeB m d = false := by unfold isSeB; exact decide_eq_false h
theorem node_shape {m : Int} {d : PyData} (h : nodeB m d = true) : ∃ x r hd pt, d = .tuple (.str x :: r) ∧ headT.lookup x = some hd ∧ partT.lookup x = some pt ∧ (r.length : Int) + 1 = hd + pt ∧ restB m x r = true := by
  unfold nodeB at h
  split at h
  · rename_i x r
    split at h
    · rename_i a b e1 e2
      rw [Bool.and_eq_true, decide_eq_true_eq] at h
      exact ⟨x, r, a, b, rfl, e1, e2, h.1, h.2⟩
    · cases h
  · cases h
theorem head_pos {x : Str} {h : Int} (e : headT.lookup x = some h) : 1 ≤ h ∧ h ≤ 2 := by
  have : ∀ p ∈ headT, 1 ≤ p.2 ∧ p.2 ≤ 2 := by decide
  obtain ⟨l1, l2, e1, _⟩ := List.lookup_eq_some_iff.mp e
  exact this (x, h) (by rw [e1]; simp)
theorem parts_size {m : Int} {d : PyData} (h : nodeB m d = true) : pszA (partsD d) < psz d := by
  obtain ⟨x, r, hd, pt, rfl, e1, _, _, _⟩ := node_shape h
  show pszA (List.drop ((headT.lookup x).getD 0).toNat (PyData.str x :: r)) < _
  rw [e1]
  have := psz_drop hd.toNat (.str x :: r)
  show pszA (List.drop hd.toNat (PyData.str x :: r)) < _
  have e2 : psz (.tuple (.str x :: r)) = pszA (.str x :: r) + 1 := by simp [psz]
  omega
theorem rd_fromS {K : PySem.W.Frag} {H : Hp} {Q : VK} {a : Addr} {xs : List V} (k : Nat) (ha : SqT K H a xs) (q : ∀ (p : Addr) (H' : Hp), Same H H' → SqT K H' p (xs.drop k) → Q (.ref p) H') : rSlO K (.ref a) (some (k : Int)) none H Q := by
  unfold rSlO
  refine ⟨a, xs, rfl, ha, fun e => q a H (Same.refl H) ?_, fun _ p np => q p _ (same_new np) ?_⟩
  · have : cutV xs (some (k : Int)) none = xs := by
      unfold cutV
      rw [e.1, e.2, List.drop_zero, Nat.sub_zero, List.take_length]
    rw [cut_from (α := Nat)] at this
    rw [this]; exact ha
  · rw [cut_from (α := Nat)]
    exact .of upd_same
/-- the parts of a node -/
def spParts (K : PySem.W.Frag) : Sp := fun vs H Q _ => ∃ (p : Addr) (x : Str) (xs : List V) (h : Int), vs = [.ref p] ∧ SqT K H p xs ∧ xs[0]? = some (.str x) ∧ headT.lookup x = some h ∧ ∀ (p2 : Addr) (H' : Hp), Same H H' → SqT K H' p2 (xs.drop h.toNat) → Q (.ref p2) H'
def spLev (K : PySem.W.Frag) : Sp := fun vs H Q _ => ∃ (m : Int) (x : V) (d : PyData), vs = [.int m, x] ∧ Dp K H x d ∧ ∀ H', Same H H' → Q (.bl (levD m d)) H'
def spNode (K : PySem.W.Frag) : Sp := fun vs H Q _ => ∃ (m : Int) (x : V) (d : PyData), vs = [.int m, x] ∧ Dp K H x d ∧ sOk d ∧ ∀ H', Same H H' → Q (.bl (nodeB m d)) H'
def spIsSe (K : PySem.W.Frag) : Sp := fun vs H Q _ => ∃ (m : Int) (x : V) (d : PyData), vs = [.int m, x] ∧ Dp K H x d ∧ sOk d ∧ psz d ≤ 100000 ∧ ∀ H', Same H H' → Q (.bl (isSeB m d)) H'
/-- a name, or any data -/
def spNmD (K : PySem.W.Frag) : Sp := fun vs H Q _ => ∃ (x : V) (d : PyData), vs = [x] ∧ Dp K H x d ∧ sOk d ∧ ∀ H', Same H H' → Q (.bl (nmD d)) H'
end Vw

set_option Elab.async false
set_option linter.all false
set_option maxRecDepth 100000
/-! drawn sentences -/
namespace Vw
open PySem PySem.W PyProof.Rows L2
inductive Se where
  | t
  | f
  | nm (x : Str)
  | nt (a : Se)
  | bin (w : Str) (a b : Se)
  | sh (k : Nat) (a : Se)
namespace Se
def toD : Se → PyData
  | .t => .tuple [.str "true"]
  | .f => .tuple [.str "false"]
  | .nm x => .tuple [.str "name", .str x]
  | .nt a => .tuple [.str "not", a.toD]
  | .bin w a b => .tuple [.str w, a.toD, b.toD]
  | .sh k a => .tuple [.str "shown", .int (k : Nat), a.toD]
def opW (w : Str) : Prop := w = "and" ∨ w = "or" ∨ w = "then"
def ok (m : Int) : Se → Prop
  | .t => True
  | .f => True
  | .nm x => isNm x = true ∧ x.length ≤ 6
  | .nt a => a.ok m
  | .bin w a b => opW w ∧ a.ok m ∧ b.ok m
  | .sh k a => (k : Int) < m ∧ a.ok m
/-- how deep a sentence is nested -/
def nest : Se → Nat
  | .t => 0
  | .f => 0
  | .nm _ => 0
  | .nt a => a.nest + 1
  | .bin _ a b => max a.nest b.nest + 1
  | .sh _ a => a.nest + 1
end Se
def SeA (K : PySem.W.Frag) (H : Hp) : V → Se → Prop
  | v, .t => ∃ p, v = .ref p ∧ TT K H p [.str "true"]
  | v, .f => ∃ p, v = .ref p ∧ TT K H p [.str "false"]
  | v, .nm x => ∃ p, v = .ref p ∧ TT K H p [.str "name", .str x]
  | v, .nt a => ∃ p u, v = .ref p ∧ TT K H p [.str "not", u] ∧ SeA K H u a
  | v, .bin w a b => ∃ p u1 u2, v = .ref p ∧ TT K H p [.str w, u1, u2] ∧ SeA K H u1 a ∧ SeA K H u2 b
  | v, .sh k a => ∃ p u, v = .ref p ∧ TT K H p [.str "shown", .int (k : Nat), u] ∧ SeA K H u a
section
variable {K : PySem.W.Frag} {H H' : Hp}
theorem SeA.tp (t : Tp H H') : ∀ {v : V} {s : Se}, SeA K H v s → SeA K H' v s
  | _, .t, ⟨p, e, h⟩ => ⟨p, e, h.tp t⟩
  | _, .f, ⟨p, e, h⟩ => ⟨p, e, h.tp t⟩
  | _, .nm _, ⟨p, e, h⟩ => ⟨p, e, h.tp t⟩
  | _, .nt _, ⟨p, u, e, h, g⟩ => ⟨p, u, e, h.tp t, SeA.tp t g⟩
  | _, .bin _ _ _, ⟨p, u1, u2, e, h, g1, g2⟩ => ⟨p, u1, u2, e, h.tp t, SeA.tp t g1, SeA.tp t g2⟩
  | _, .sh _ _, ⟨p, u, e, h, g⟩ => ⟨p, u, e, h.tp t, SeA.tp t g⟩
theorem SeA.same {v : V} {s : Se} (h : SeA K H v s) (x : Same H H') : SeA K H' v s := h.tp (same_tp x)
theorem SeA.dp : ∀ {v : V} {s : Se}, SeA K H v s → Dp K H v s.toD
  | _, .t, ⟨p, e, h⟩ => by subst e; exact .tup h.sq (.cons (.str _) .nil)
  | _, .f, ⟨p, e, h⟩ => by subst e; exact .tup h.sq (.cons (.str _) .nil)
  | _, .nm _, ⟨p, e, h⟩ => by subst e; exact .tup h.sq (.cons (.str _) (.cons (.str _) .nil))
  | _, .nt _, ⟨p, u, e, h, g⟩ => by subst e; exact .tup h.sq (.cons (.str _) (.cons g.dp .nil))
  | _, .bin _ _ _, ⟨p, u1, u2, e, h, g1, g2⟩ => by subst e; exact .tup h.sq (.cons (.str _) (.cons g1.dp (.cons g2.dp .nil)))
  | _, .sh _ _, ⟨p, u, e, h, g⟩ => by subst e; exact .tup h.sq (.cons (.str _) (.cons (.int _) (.cons g.dp .nil)))
end
theorem op_len {w : Str} (h : Se.opW w) : w.length ≤ 100000 := by
  rcases h with h | h | h <;> subst h <;> decide +kernel
theorem Se.sOk {m : Int} : ∀ {s : Se}, s.ok m → sOk s.toD
  | .t, _ => by simp only [Se.toD, Vw.sOk, sOkA, and_true]; decide +kernel
  | .f, _ => by simp only [Se.toD, Vw.sOk, sOkA, and_true]; decide +kernel
  | .nm x, h => by simp only [Se.toD, Vw.sOk, sOkA, and_true]; exact ⟨by decide +kernel, Nat.le_trans h.2 (by decide)⟩
  | .nt a, h => by
    have := Se.sOk (s := a) h
    simp only [Se.toD, Vw.sOk, sOkA, and_true]; exact ⟨by decide +kernel, this⟩
  | .bin w a b, h => by
    have h1 := Se.sOk (s := a) h.2.1
    have h2 := Se.sOk (s := b) h.2.2
    simp only [Se.toD, Vw.sOk, sOkA, and_true]; exact ⟨op_len h.1, h1, h2⟩
  | .sh k a, h => by
    have h1 := Se.sOk (s := a) h.2
    simp only [Se.toD, Vw.sOk, sOkA, and_true, true_and]; exact ⟨by decide +kernel, h1⟩
theorem Se.psz_le : ∀ s : Se, psz s.toD + 4 ≤ 7 * 2 ^ s.nest
  | .t => by simp [Se.toD, psz, pszA, Se.nest]
  | .f => by simp [Se.toD, psz, pszA, Se.nest]
  | .nm x => by simp [Se.toD, psz, pszA, Se.nest]
  | .nt a => by
    have := Se.psz_le a
    simp only [Se.toD, psz, pszA, Se.nest, Nat.pow_succ]; omega
  | .bin w a b => by
    have h1 := Se.psz_le a
    have h2 := Se.psz_le b
    have h3 : 2 ^ a.nest ≤ 2 ^ max a.nest b.nest := Nat.pow_le_pow_right (by decide) (Nat.le_max_left _ _)
    have h4 : 2 ^ b.nest ≤ 2 ^ max a.nest b.nest := Nat.pow_le_pow_right (by decide) (Nat.le_max_right _ _)
    simp only [Se.toD, psz, pszA, Se.nest, Nat.pow_succ]; omega
  | .sh k a => by
    have := Se.psz_le a
    simp only [Se.toD, psz, pszA, Se.nest, Nat.pow_succ]; omega
theorem node_mk {m : Int} {x : Str} {r : List PyData} {h p : Int} (e1 : headT.lookup x = some h) (e2 : partT.lookup x = some p) (e3 : (r.length : Int) + 1 = h + p) (e4 : restB m x r = true) : nodeB m (.tuple (.str x :: r)) = true := by
  show (match headT.lookup x, partT.lookup x with
    | some h, some p => decide ((r.length : Int) + 1 = h + p) && restB m x r
    | _, _ => false) = true
  rw [e1, e2]
  show (decide ((r.length : Int) + 1 = h + p) && restB m x r) = true
  rw [decide_eq_true e3, e4]; rfl
theorem parts_mk {x : Str} {r : List PyData} {h : Int} (e1 : headT.lookup x = some h) : partsD (.tuple (.str x :: r)) = (PyData.str x :: r).drop h.toNat := by
  show (PyData.str x :: r).drop ((headT.lookup x).getD 0).toNat = _
  rw [e1]; rfl
theorem Se.isSe {m : Int} : ∀ {s : Se}, s.ok m → IsSe m s.toD
  | .t, _ => isSe_iff.mpr ⟨node_mk (h := 1) (p := 0) (by decide +kernel) (by decide +kernel) rfl (by unfold restB; rw [if_neg (by decide +kernel), if_neg (by decide +kernel)]), fun p hp => by
      rw [show partsD Se.t.toD = [] from parts_mk (h := 1) (by decide +kernel)] at hp; cases hp⟩
  | .f, _ => isSe_iff.mpr ⟨node_mk (h := 1) (p := 0) (by decide +kernel) (by decide +kernel) rfl (by unfold restB; rw [if_neg (by decide +kernel), if_neg (by decide +kernel)]), fun p hp => by
      rw [show partsD Se.f.toD = [] from parts_mk (h := 1) (by decide +kernel)] at hp; cases hp⟩
  | .nm x, h => isSe_iff.mpr ⟨node_mk (h := 2) (p := 0) (by decide +kernel) (by decide +kernel) rfl (by unfold restB; rw [if_pos rfl]; exact h.1), fun p hp => by
      rw [show partsD (Se.nm x).toD = [] from parts_mk (h := 2) (by decide +kernel)] at hp; cases hp⟩
  | .nt a, h => isSe_iff.mpr ⟨node_mk (h := 1) (p := 1) (by decide +kernel) (by decide +kernel) rfl (by unfold restB; rw [if_neg (by decide +kernel), if_neg (by decide +kernel)]), fun p hp => by
      rw [show partsD (Se.nt a).toD = [a.toD] from parts_mk (h := 1) (by decide +kernel)] at hp
      rw [List.mem_singleton.mp hp]; exact Se.isSe (s := a) h⟩
  | .bin w a b, h => by
    have hw : headT.lookup w = some 1 ∧ partT.lookup w = some 2 ∧ w ≠ "name" ∧ w ≠ "shown" := by
      rcases h.1 with e | e | e <;> subst e <;> decide +kernel
    refine isSe_iff.mpr ⟨node_mk hw.1 hw.2.1 rfl (by unfold restB; rw [if_neg hw.2.2.1, if_neg hw.2.2.2]), fun p hp => ?_⟩
    rw [show partsD (Se.bin w a b).toD = [a.toD, b.toD] from parts_mk hw.1] at hp
    simp only [List.mem_cons, List.not_mem_nil, or_false] at hp
    rcases hp with e | e <;> subst e
    · exact Se.isSe (s := a) h.2.1
    · exact Se.isSe (s := b) h.2.2
  | .sh k a, h => isSe_iff.mpr ⟨node_mk (h := 2) (p := 1) (by decide +kernel) (by decide +kernel) rfl (by
      unfold restB; rw [if_neg (by decide +kernel), if_pos rfl]
      show (decide (0 ≤ ((k : Nat) : Int)) && decide (((k : Nat) : Int) < m)) = true
      rw [decide_eq_true h.1, decide_eq_true (by omega)]; rfl), fun p hp => by
      rw [show partsD (Se.sh k a).toD = [a.toD] from parts_mk (h := 2) (by decide +kernel)] at hp
      rw [List.mem_singleton.mp hp]; exact Se.isSe (s := a) h.2⟩
theorem strs_dp {K : PySem.W.Frag} {H : Hp} : ∀ xs : List Str, DpAll K H (xs.map V.str) (xs.map PyData.str)
  | [] => .nil
  | x :: r => .cons (.str x) (strs_dp r)
theorem nm_strOk {x : Str} (h : isNm x = true) : PyData.strOk x = true := by
  unfold isNm at h
  simp only [Bool.and_eq_true] at h
  have h1 := h.2.2.2
  unfold PyData.strOk
  rw [← Array.all_toList, List.all_eq_true]
  intro c hc
  have h2 := List.all_eq_true.mp h1 c hc
  unfold isLow at h2
  rw [Bool.and_eq_true, decide_eq_true_eq, decide_eq_true_eq] at h2
  exact decide_eq_true (by omega)
theorem lay_strs : ∀ xs : List Str, (∀ x ∈ xs, PyData.strOk x = true) → PyData.canLayAll0 (xs.map PyData.str) = true
  | [], _ => by simp [PyData.canLayAll0]
  | x :: r, h => by simp [PyData.canLayAll0, PyData.canLay0, h x List.mem_cons_self, lay_strs r fun y hy => h y (List.mem_cons_of_mem _ hy)]
theorem depth_strs : ∀ xs : List Str, PyData.depthAll (xs.map PyData.str) ≤ 1
  | [] => by simp [PyData.depthAll]
  | x :: r => by
    have := depth_strs r
    simp only [List.map_cons, PyData.depthAll, PyData.depth]; omega
theorem shaped_strs (xs : List Str) (h : ∀ x ∈ xs, PyData.strOk x = true) : SeqAt.shaped (.list (xs.map PyData.str)) = true := by
  have h1 := depth_strs xs
  have h2 : (PyData.list (xs.map PyData.str)).depth = PyData.depthAll (xs.map PyData.str) + 1 := by simp only [PyData.depth]
  have h3 : (PyData.list (xs.map PyData.str)).canLay0 = true := by simp only [PyData.canLay0, lay_strs xs h]
  unfold SeqAt.shaped
  rw [h3, h2, Bool.true_and]
  exact decide_eq_true (by omega)
theorem rd_ne_strs {K : PySem.W.Frag} {H : Hp} {Q : VK} {D D2 : Addr} {xs : List Str} (h : H D = some (.lst (xs.map V.str))) (h2 : H D2 = some (.lst [])) (hne : xs ≠ []) (ho : ∀ x ∈ xs, PyData.strOk x = true) (q : Q (.bl true) H) : rNeO K (.ref D) (.ref D2) H Q := by
  unfold rNeO
  refine ⟨.list (xs.map PyData.str), .list [], .lst (SqL.of h) (strs_dp xs), .lst (SqL.of h2) .nil, shaped_strs xs ho, shaped_strs [] (fun _ h => by cases h), ?_⟩
  cases xs with
  | nil => exact absurd rfl hne
  | cons x r =>
    have : PyData.eqv (.list ((x :: r).map PyData.str)) (.list []) = false := by simp [PyData.eqv, PyData.eqvAll]
    rw [this]; exact q
/-- drawn names -/
def spNames : Sp := fun vs H Q _ => ∃ (l b : Addr) (n : Nat), vs = [.ref b, .int (n : Nat)] ∧ n ≤ 20 ∧ Bag l H b ∧ ∀ (D : Addr) (xs : List Str) (H' : Hp), D ≠ b → D ≠ l → H' D = some (.lst (xs.map V.str)) → xs.length = n → (∀ x ∈ xs, isNm x = true ∧ x.length ≤ 6) → Kp b H H' → Bag l H' b → Q (.ref D) H'
/-- a drawn sentence -/
def spSaid (K : PySem.W.Frag) (j : Nat) : Sp := fun vs H Q _ => ∃ (l b D : Addr) (m n : Nat) (xs : List Str) (c : Bool), vs = [.ref b, .int (m : Nat), .ref D, .int (n : Nat), .bl c] ∧ 1 ≤ m ∧ m ≤ 1000 ∧ n < j ∧ Bag l H b ∧ D ≠ b ∧ H D = some (.lst (xs.map V.str)) ∧ xs.length ≤ 20 ∧ (∀ x ∈ xs, isNm x = true ∧ x.length ≤ 6) ∧ xs ≠ [] ∧
  ∀ (v : V) (s : Se) (H' : Hp), SeA K H' v s → s.ok m → s.nest ≤ n → Kp b H H' → Bag l H' b → Q v H'
end Vw

set_option Elab.async false
set_option linter.all false
set_option maxRecDepth 100000
set_option maxHeartbeats 4000000
/-! dicts whose keys are tuples of tuples -/
namespace Vw
open PySem PySem.W PyProof.Rows L2
mutual
/-- the value v is the key k, by the heap that is known -/
inductive NKV (K : PySem.W.Frag) (H : Hp) : NestedKey → V → Prop
  | num (i : Int) : NKV K H (.num i) (.int i)
  | text (x : Str) : NKV K H (.text x) (.str x)
  | tup {p : Addr} {vs : List V} {ks : List NestedKey} : TT K H p vs → NKA K H ks vs → NKV K H (.tup ks) (.ref p)
inductive NKA (K : PySem.W.Frag) (H : Hp) : List NestedKey → List V → Prop
  | nil : NKA K H [] []
  | cons {k : NestedKey} {v : V} {ks : List NestedKey} {vs : List V} : NKV K H k v → NKA K H ks vs → NKA K H (k :: ks) (v :: vs)
end
section
variable {K : PySem.W.Frag} {H H' : Hp}
mutual
theorem NKV.tp (t : Tp H H') : ∀ (k : NestedKey) (v : V), NKV K H k v → NKV K H' k v
  | .num i, _, h => by cases h; exact .num i
  | .text x, _, h => by cases h; exact .text x
  | .none, _, h => by cases h
  | .tup ks, _, h => by
    cases h with
    | tup h1 h2 => exact .tup (h1.tp t) (NKA.tp t ks _ h2)
theorem NKA.tp (t : Tp H H') : ∀ (ks : List NestedKey) (vs : List V), NKA K H ks vs → NKA K H' ks vs
  | [], _, h => by cases h; exact .nil
  | k :: ks, _, h => by
    cases h with
    | cons h1 h2 => exact .cons (NKV.tp t k _ h1) (NKA.tp t ks _ h2)
end
end
section
variable {X : Cx} {pins : List (Addr × Obj)} {σ : L2.St} {H : Hp} {s : Shared}
mutual
theorem nkv_is (I : Inv X pins σ H s) : ∀ (k : NestedKey) (v : V) (u : Value), NKV X.K H k v → RelV v u → NestedIs s.heap k u
  | .num i, _, u, h, r => by
    cases h
    obtain ⟨t, rfl⟩ := r
    exact .int i t
  | .text x, _, u, h, r => by
    cases h
    obtain ⟨t, rfl⟩ := r
    exact .text x t
  | .none, _, _, h, _ => by cases h
  | .tup ks, _, u, h, r => by
    cases h with
    | @tup p vs _ h1 h2 =>
      obtain rfl : u = Value.ref p := r
      obtain ⟨its, rv, ⟨o, ho, hc, n, hd⟩, hz⟩ := I.tuple h1.sq
      exact .tup ho hc hd (nka_is I ks vs _ h2 (by simpa using rv))
theorem nka_is (I : Inv X pins σ H s) : ∀ (ks : List NestedKey) (vs : List V) (us : List Value), NKA X.K H ks vs → Vals vs us → NestedAll s.heap ks us
  | [], _, us, h, r => by cases h; cases r; exact .nil
  | k :: ks, _, us, h, r => by
    cases h with
    | cons h1 h2 =>
      cases r with
      | cons r1 r2 => exact .cons (nkv_is I k _ _ h1 r1) (nka_is I ks _ _ h2 r2)
end
end
/-- the one object at d -/
def ndO (d : Addr) (o : Obj) : HO := .ext fun h => h.get? d = some o
/-- an entry of the dict and what is known of it -/
def NdE (K : PySem.W.Frag) (H : Hp) (p : NestedKey × V) (q : NestedKey × Addr × Value) : Prop := p.1 = q.1 ∧ NKV K H p.1 (.ref q.2.1) ∧ p.1.depth ≤ 8 ∧ RelV p.2 q.2.2
/-- at d stands a dict with the keys and values kvs -/
def ND (P : Program) (w : World) (K : PySem.W.Frag) (H : Hp) (d : Addr) (kvs : List (NestedKey × V)) : Prop :=
  ∃ o es ep xs, H d = some (ndO d o) ∧ (d == sysModules) = false ∧ o.ExactDict ∧ o.data = .dict es ep ∧ es.toList = xs.map (entryOfKey (nestedKind P w)) ∧ (xs.map (·.1)).Nodup ∧ Paired (NdE K H) kvs xs
theorem nd_keys {K : PySem.W.Frag} {H : Hp} : ∀ {kvs : List (NestedKey × V)} {xs : List (NestedKey × Addr × Value)}, Paired (NdE K H) kvs xs → kvs.map (·.1) = xs.map (·.1)
  | _, _, .nil => rfl
  | _, _, .cons a t => by rw [List.map_cons, List.map_cons, nd_keys t, a.1]
theorem ND.mono {P : Program} {w : World} {K : PySem.W.Frag} {H H' : Hp} {d : Addr} {kvs : List (NestedKey × V)} (h : ND P w K H d kvs) (t : Tp H H') (e : H' d = H d) : ND P w K H' d kvs := by
  obtain ⟨o, es, ep, xs, h1, h2, h3, h4, h5, h6, h7⟩ := h
  exact ⟨o, es, ep, xs, e.trans h1, h2, h3, h4, h5, h6, paired_mono (fun a b x => ⟨x.1, NKV.tp t _ _ x.2.1, x.2.2⟩) h7⟩
theorem ND.same {P : Program} {w : World} {K : PySem.W.Frag} {H H' : Hp} {d : Addr} {kvs : List (NestedKey × V)} (h : ND P w K H d kvs) (x : Same H H') : ND P w K H' d kvs := by
  obtain ⟨o, es, ep, xs, h1, h2, h3, h4, h5, h6, h7⟩ := h
  exact ⟨o, es, ep, xs, x _ _ h1, h2, h3, h4, h5, h6, paired_mono (fun a b z => ⟨z.1, NKV.tp (same_tp x) _ _ z.2.1, z.2.2⟩) h7⟩
theorem ND.nodup {P : Program} {w : World} {K : PySem.W.Frag} {H : Hp} {d : Addr} {kvs : List (NestedKey × V)} (h : ND P w K H d kvs) : (kvs.map (·.1)).Nodup := by
  obtain ⟨o, es, ep, xs, h1, h2, h3, h4, h5, h6, h7⟩ := h
  rw [nd_keys h7]; exact h6
section
variable {X : Cx} {pins : List (Addr × Obj)} {σ : L2.St} {H : Hp} {s : Shared} {d : Addr} {kvs : List (NestedKey × V)}
theorem nd_of (I : Inv X pins σ H s) (h : ND X.prog X.w X.K H d kvs) : ∃ o es ep xs, H d = some (ndO d o) ∧ s.heap.get? d = some o ∧ (d == sysModules) = false ∧ o.ExactDict ∧ o.data = .dict es ep ∧ es.toList = xs.map (entryOfKey (nestedKind X.prog X.w)) ∧ Paired (NdE X.K H) kvs xs ∧ s.heap.DictOfH (nestedKind X.prog X.w) d xs := by
  obtain ⟨o, es, ep, xs, h1, h2, h3, h4, h5, h6, h7⟩ := h
  have ho : s.heap.get? d = some o := (show ObjOk X.prog X.w H s.heap d (ndO d o) from I.hok d _ h1).1
  refine ⟨o, es, ep, xs, h1, ho, h2, h3, h4, h5, h7, o, es, ep, ho, h3, h4, h5, fun x hx => ?_, h6⟩
  obtain ⟨i, hi⟩ := List.mem_iff_getElem?.mp hx
  obtain ⟨y, hy, e1, e2, e3, e4⟩ := paired_get' h7 hi
  rw [← e1]
  exact ⟨nkv_is I _ _ _ e2 rfl, e3⟩
theorem nd_key (I : Inv X pins σ H s) {k : NestedKey} {a : Addr} (h : NKV X.K H k (.ref a)) (hd : k.depth ≤ 8) : (nestedKind X.prog X.w).is s.heap k a := ⟨nkv_is I _ _ _ h rfl, hd⟩
theorem nd_new (h : Heap) (hb : sysModules < h.objs.size) {H' : Hp} : ObjOk X.prog X.w H' (h.push { cls := .type "dict", data := .dict #[] }) h.objs.size (ndO h.objs.size { cls := .type "dict", data := .dict #[] }) :=
  ⟨Heap.get?_push_size _ rfl, ⟨_, Heap.get?_push_size _ rfl⟩, fun h1 h2 a b => b _ a⟩
/-- {} -/
def tNNew (P : Program) (w : World) (K : PySem.W.Frag) : TE := fun _ H Q => ∀ p o, H p = none → ND P w K (upd H p (ndO p o)) p [] → Q (.ref p) (upd H p (ndO p o))
theorem pe_nnew {pos : Pos} : PE X (.Dict [] [] pos) (tNNew X.prog X.w X.K) := ⟨fun pins s σ H Q I h => by
  have hn := I.hok.fresh (Nat.le_refl s.heap.objs.size)
  refine wpAny_Dict_empty ⟨.ref s.heap.objs.size, _, I.laid (a := s.heap.objs.size) (o := ndO s.heap.objs.size { cls := .type "dict", data := .dict #[] }) (t' := s.toks) (fun _ _ q => Heap.get?_push_of_some _ q) (Nat.le_refl _) (nd_new s.heap I.big), rfl, h _ _ hn ?_⟩
  exact ⟨_, #[], 0, [], upd_same, beq_eq_false_iff_ne.mpr (Ne.symm (Nat.ne_of_lt I.big)), ⟨rfl, rfl, rfl⟩, rfl, rfl, List.nodup_nil, .nil⟩⟩
/-- x not in d -/
def rNNot (P : Program) (w : World) (K : PySem.W.Frag) : R2 := fun x y H Q => ∃ d kvs k a, x = .ref a ∧ y = .ref d ∧ ND P w K H d kvs ∧ NKV K H k (.ref a) ∧ k.depth ≤ 8 ∧ Q (.bl (decide (k ∉ kvs.map (·.1)))) H
theorem op_nnot (hu : X.A.units + 9 < cLine) : OpR X (compareOp .NotIn) (rNNot X.prog X.w X.K) := by
  intro pins s σ H x y v u Q I rx ry h
  obtain ⟨d, kvs, k, a, rfl, rfl, hd, hk, h8, q⟩ := h
  obtain rfl : v = Value.ref a := rx
  obtain rfl : u = Value.ref d := ry
  obtain ⟨o, es, ep, xs, h1, ho, h2, h3, h4, h5, h7, D⟩ := nd_of I hd
  refine notIn_keyed (knd := nestedKind X.prog X.w) (kvs := pairsH xs) (by show X.A.in1.units + 8 < cLine; rw [Around.in1_units]; omega) (nd_key I hk h8) h2 ⟨xs, D, rfl⟩ ⟨_, H, I.tok _, ?_, q⟩
  have e : (!(valueAt (pairsH xs) k).isSome) = decide (k ∉ kvs.map (·.1)) := by
    rw [nd_keys h7]
    by_cases hm : k ∈ xs.map (·.1)
    · obtain ⟨y, hy, rfl⟩ := List.mem_map.mp hm
      obtain ⟨i, hi⟩ := List.mem_iff_getElem?.mp hy
      rw [valueAt_pairsH, atKey_of_get (p := y.2) D.nodup hi]
      simp [hm]
    · have : atKey xs k = none := atKey_none_of_get fun j p hj => hm (List.mem_map.mpr ⟨_, List.mem_of_getElem? hj, rfl⟩)
      rw [valueAt_pairsH, this]
      simp [hm]
  rw [e]; rfl
/-- d[x] = v, x a new key -/
def rNSet (P : Program) (w : World) (K : PySem.W.Frag) : V → V → V → Hp → (Hp → Prop) → Prop := fun o i v H Q => ∃ d kvs k a, o = .ref d ∧ i = .ref a ∧ ND P w K H d kvs ∧ NKV K H k (.ref a) ∧ k.depth ≤ 8 ∧ k ∉ kvs.map (·.1) ∧ kvs.length < sizeLine ∧
  ∀ ob, ND P w K (upd H d (ndO d ob)) d (kvs ++ [(k, v)]) → Q (upd H d (ndO d ob))
theorem set_nd (hu : X.A.units + 9 < cLine) : PSet X (rNSet X.prog X.w X.K) := by
  intro pins s σ H o i v ov iv u Q I ro ri rv h
  obtain ⟨d, kvs, k, a, rfl, rfl, hd, hk, h8, hm, hz, q⟩ := h
  obtain rfl : ov = Value.ref d := ro
  obtain rfl : iv = Value.ref a := ri
  obtain ⟨o, es, ep, xs, h1, ho, h2, h3, h4, h5, h7, D⟩ := nd_of I hd
  have hl := paired_len h7
  rw [nd_keys h7] at hm
  have hn : atKey xs k = none := atKey_none_of_get fun j p hj => hm (List.mem_map.mpr ⟨_, List.mem_of_getElem? hj, rfl⟩)
  refine wpAny_setItem_heap (knd := nestedKind X.prog X.w) (hsz := by omega) (by show X.A.in1.units + 8 < cLine; rw [Around.in1_units]; omega) (nd_key I hk h8) D fun h' D' hs => ?_
  rw [storedH_new hn] at D'
  obtain ⟨o2, es2, ep2, g1, g3, g4, g5, _, g6⟩ := D'
  have tp : Tp H (upd H d (ndO d o2)) := fun b ys q => by rw [upd_ne (ne_of q h1 (fun z => by cases z))]; exact q
  refine ⟨_, d_write I (ob := ndO d o2) (by rw [h1]; exact True.intro) hs ⟨_, g1⟩ ⟨g1, ⟨_, g1⟩, fun h1 h2 a b => b _ a⟩, q o2 ⟨o2, es2, ep2, _, upd_same, h2, g3, g4, g5, g6, ?_⟩⟩
  exact paired_app (paired_mono (fun a b z => ⟨z.1, NKV.tp tp _ _ z.2.1, z.2.2⟩) h7) (.cons ⟨rfl, NKV.tp tp _ _ hk, h8, rv⟩ .nil)
/-- d[x], x a key -/
def rNGet (P : Program) (w : World) (K : PySem.W.Frag) : R2 := fun x y H Q => ∃ d kvs k a v, x = .ref d ∧ y = .ref a ∧ ND P w K H d kvs ∧ NKV K H k (.ref a) ∧ k.depth ≤ 8 ∧ (k, v) ∈ kvs ∧ Q v H
theorem ix_nd (hu : X.A.units + 9 < cLine) : IxR X (rNGet X.prog X.w X.K) := by
  intro value slice pins s σ H x y v u Q I rx ry h hs
  obtain ⟨d, kvs, k, a, z, rfl, rfl, hd, hk, h8, hm, q⟩ := h
  obtain rfl : v = Value.ref d := rx
  obtain rfl : u = Value.ref a := ry
  obtain ⟨o, es, ep, xs, h1, ho, h2, h3, h4, h5, h7, D⟩ := nd_of I hd
  obtain ⟨i, hi⟩ := List.mem_iff_getElem?.mp hm
  obtain ⟨⟨k', b, r⟩, hy, e1, e2, e3, e4⟩ := paired_get h7 hi
  obtain rfl : k = k' := e1
  refine tail_any D.typeIs slot_dict_getitem.lookup (wpAny_getItem_heap (knd := nestedKind X.prog X.w) (p := (b, r)) (by show X.A.in1.units + 8 < cLine; rw [Around.in1_units]; omega) (nd_key I hk h8) D (atKey_of_get D.nodup hy) ⟨z, H, I.tok _, e4, q⟩) hs
/-- len(d) -/
def rNLen (P : Program) (w : World) (K : PySem.W.Frag) : List V → Hp → VK → Prop := fun xs H Q => ∃ d kvs, xs = [.ref d] ∧ ND P w K H d kvs ∧ kvs.length ≤ sizeLine ∧ Q (.int ((kvs.length : Nat) : Int)) H
theorem call_len_nd : CallR X (.builtin "len") (rNLen X.prog X.w X.K) := by
  intro pins s σ H xs us Q I r h
  obtain ⟨p, kvs, rfl, hp, hz, q⟩ := h
  obtain ⟨u, rfl, rx⟩ := vals1 r
  obtain rfl : u = .ref p := rx
  obtain ⟨o, es, ep, xs, h1, ho, h2, h3, h4, h5, h7, D⟩ := nd_of I hp
  have hl : kvs.length = xs.length := paired_len h7
  refine call_len_dictH h2 D (by rw [← hl]; rw [sizeLine_eq] at hz; omega) ?_
  rw [← hl]
  exact ⟨.int ((kvs.length : Nat) : Int), H, I.tok _, ⟨_, rfl⟩, q⟩
/-- list(d) -/
def rNList (P : Program) (w : World) (K : PySem.W.Frag) : List V → Hp → VK → Prop := fun xs H Q => ∃ d kvs, xs = [.ref d] ∧ ND P w K H d kvs ∧ kvs.length ≤ sizeLine ∧ ∀ p bs, H p = none → Paired (fun (x : NestedKey × V) b => NKV K H x.1 (.ref b)) kvs bs → Q (.ref p) (upd H p (.lst (bs.map V.ref)))
theorem call_list_nd (hc : X.calm = true) : CallR X (.type "list") (rNList X.prog X.w X.K) := by
  intro pins s σ H xs us Q I r h
  obtain ⟨d, kvs, rfl, hd, hsz, q⟩ := h
  obtain ⟨u, rfl, rx⟩ := r.one
  cases rx
  obtain ⟨o, es, ep, ks, h1, ho, hs, hx, hdt, he, pr, D⟩ := nd_of I hd
  have l1 : es.size = ks.length := size_of_entries he
  have l2 : kvs.length = ks.length := paired_len pr
  refine PySem.W.kdl_call (kdl_raw hs hx hdt) (I.ok.hd hc) ho (by omega) fun h' tk acc' c' kp e it => ?_
  have ea : acc'.toList = ks.map fun x => Value.ref x.2.1 := by
    have hl : acc'.toList.length = ks.length := by rw [Array.length_toList, it.1]; exact l1
    apply List.ext_getElem?
    intro j
    rw [List.getElem?_map]
    cases hj : acc'.toList[j]? with
    | none =>
      have h1 := List.getElem?_eq_none_iff.mp hj
      rw [List.getElem?_eq_none (by omega)]
      all_goals rfl
    | some v =>
      obtain ⟨en, hen, hv⟩ := it.2 j v (by rw [← Array.getElem?_toList]; exact hj)
      have qe := entry_at he j
      rw [hen] at qe
      cases hb : ks[j]? with
      | none =>
        rw [hb] at qe
        exact nomatch (show some en = none from qe)
      | some b =>
        rw [hb] at qe
        have e2 : en = entryOfKey (nestedKind X.prog X.w) b := Option.some.inj qe
        rw [hv, e2]
        all_goals rfl
  have eb : acc'.toList = (ks.map fun x => x.2.1).map Value.ref := by rw [ea, List.map_map]; all_goals rfl
  have rv : Vals ((ks.map fun x => x.2.1).map V.ref) acc'.toList := by rw [eb]; exact vals_refs _
  have hz : ((ks.map fun x => x.2.1).map V.ref).length ≤ sizeLine := by rw [List.length_map, List.length_map]; omega
  refine ⟨.ref s.heap.objs.size, _, I.laid (t' := tk) (o := .lst ((ks.map fun x => x.2.1).map V.ref)) kp (Nat.le_refl _) ?_, rfl, q _ _ (I.hok.fresh (Nat.le_refl _)) ?_⟩
  · exact ⟨hz, acc'.toList, c', rv, by rw [Array.toArray_toList]; exact e⟩
  · clear q rv eb ea l1 l2 hz he D hd hsz
    induction pr with
    | nil => exact .nil
    | cons a t ih => exact .cons a.2.1 ih
end
end Vw

set_option Elab.async false
set_option linter.all false
set_option maxRecDepth 100000
set_option maxHeartbeats 4000000
/-! sentences numbered: list[::-1], a generator def that is called, nodes from the left, numbers of sentences -/
namespace Vw
open PySem PySem.W PyProof.Rows L2
/-! ### list[::-1] -/
theorem slicePick_rev (its : List Value) : slicePick its.toArray none none (some (-1)) = its.reverse.toArray := by
  unfold slicePick sliceBounds sliceRange
  have h1 : ¬ ((-1 : Int) > 0) := by decide
  simp only [Option.getD_some, h1, if_false, List.size_toArray]
  rw [List.filterMap_map, ← pick_rev its]
  have e : (if ((its.length : Nat) : Int) - 1 > -1 then (((its.length : Nat) : Int) - 1 - -1 - -1 - 1) / - -1 else 0).toNat = its.length := by
    split
    · rename_i h
      rw [show (- -1 : Int) = 1 from rfl, Int.ediv_one]; omega
    · rename_i h
      show 0 = its.length
      omega
  rw [e]
  refine congrArg (fun f => (List.filterMap f (List.range its.length)).toArray) (funext fun m => ?_)
  show its.toArray[(((its.length : Nat) : Int) - 1 + -1 * (m : Int)).toNat]? = _
  rw [show (-1 : Int) * (m : Int) = (m : Int) * (-1) by omega]
section
variable {X : Cx}
def tRevL (K : PySem.W.Frag) (te : TE) : TE := fun σ H Q => te σ H fun x H1 => ∃ a xs, x = .ref a ∧ SqL K H1 a xs ∧ ∀ p, H1 p = none → Q (.ref p) (upd H1 p (.lst xs.reverse))
theorem pe_revL {e : Expr} {te : TE} {k : Nat} {p1 p2 p3 pos : Pos} (he : PE X e te) : PE X (.Subscript e (.Slice none none (some (.UnaryOp .USub (.Constant (.int 1) k p1) p2)) p3) pos) (tRevL X.K te) := by
  refine ⟨fun pins s σ H Q I h => ?_⟩
  refine Subscript_ (thn (he.run pins s σ H _ I h) fun v s1 ⟨x, H1, I1, r1, q1⟩ => ?_)
  obtain ⟨a, xs, ex, hx, q⟩ := q1
  subst ex
  cases r1
  have hst : PO X (some (.UnaryOp .USub (.Constant (.int 1) k p1) p2)) (tPart (tUn (rU fun i => .int (-i)) (tC (.int 1)))) := po_some (pe_un un_neg pe_int)
  refine wpAny_Slice (thn (po_none.run pins s1 σ H1 (fun o H2 => o = none ∧ H2 = H1) I1 ⟨rfl, rfl⟩) fun vl s2 ⟨l, H2, I2, pl, el, e2⟩ => ?_)
  subst el e2
  refine thn (po_none.run pins s2 σ H2 (fun o H3 => o = none ∧ H3 = H2) I2 ⟨rfl, rfl⟩) fun vu s3 ⟨u, H3, I3, pu, eu, e3⟩ => ?_
  subst eu e3
  refine thn (hst.run pins s3 σ H3 (fun o H4 => o = some (-1) ∧ H4 = H3) I3 ⟨1, rfl, -1, rfl, rfl, rfl⟩) fun vs s4 ⟨o, H4, I4, ps, eo, e4⟩ => ?_
  subst eo e4
  have I5 : Inv X pins σ H4 { s4 with heap := s4.heap.push { cls := .type "slice", data := .fields #[vl, vu, vs] } } := I4.kept (t' := s4.toks) fun b ob q => Heap.get?_push_of_some _ q
  obtain ⟨its, r, ht, hz⟩ := I5.list hx
  show wpAny (model X.prog X.w) X.A (subscriptTail e (.Slice none none (some (.UnaryOp .USub (.Constant (.int 1) k p1) p2)) p3) (.ref a) (.ref s4.heap.objs.size)) (EP X pins σ Q) X.xe _
  refine tail_any (ops := [.ref a, .ref s4.heap.objs.size]) ht.isList.typeIs slot_list_getitem.lookup ?_ (by with_unfolding_all rfl)
  refine wpAny_getItem_list_slice ht.isList (Heap.IsSliceOf.new _ _ _ _) pl pu ps (by decide) ?_ (by rw [List.size_toArray, ← r.length]; exact hz)
  rw [slicePick_rev]
  have np := I5.hok.fresh (Nat.le_refl (({ s4 with heap := s4.heap.push { cls := .type "slice", data := .fields #[vl, vu, vs] } } : Shared).heap.objs.size))
  refine ⟨.ref _, _, I5.laid (t' := s4.toks) (o := .lst xs.reverse) (fun b ob q => Heap.get?_push_of_some _ q) (Nat.le_refl _) ?_, rfl, q _ np⟩
  exact ⟨by rw [List.length_reverse]; exact hz, _, 0, r.reverse, Heap.get?_push_size _ rfl⟩
end
/-- o.m() within a comprehension's block -/
theorem pe_bm0K {X : Cx} {K : PySem.W.Frag} (hk : X.K = K) {o : Expr} {to : TE} {name : Str} {apos cpos : Pos} {T id : String} {r : V → List V → Hp → VK → Prop} (pa : PlainAttrs T) (slot : Slot T name id) (hty : typeOf (.builtin id) = pure (.type "method_descriptor")) (hm : MtR X id r) (ho : PE X o to)
    (hbase : attributeBase o name X.env (eval o X.env) = eval o X.env := by rfl) (hline : (apos.endLine == cpos.line) = true := by rfl) : PE X (.Call (.Attribute o name apos) [] [] cpos) (tBM0 K T r to) := by
  subst hk
  exact pe_bm0 pa slot hty hm ho hbase hline
/-- a generator def that may be called -/
structure CalG (P : Program) (w : World) (K : PySem.W.Frag) (mg : Str → Option Value) (base : Heap) (k : Nat) (x : Str) (ps : List Str) (sp : SpG) (f : Addr) (fd : FuncData) : Prop where
  G : GFn P w K mg base k f fd ps sp
  m : mg x = some (.ref f)
  kp : PySem.W.keepIn K (.ref f) = true
  b : Binds K fd ps []
theorem noStop0 {K : PySem.W.Frag} : NoStop K (fun _ _ _ => False) := fun _ _ _ h => h.elim
theorem passF {X : Cx} : Passes (CX X.prog X.w) X (fun _ _ _ => False) := fun pins σ H s e s' I h => by
  obtain ⟨_, _, _, _, _, _, _, _, _, _, _, _, hW⟩ := h
  exact hW.elim
/-! ### nodes from the left -/
noncomputable instance : DecidableEq Se := fun a b => Classical.propDecidable (a = b)
namespace Se
def parts : Se → List Se
  | .nt a => [a]
  | .bin _ a b => [a, b]
  | .sh _ a => [a]
  | _ => []
def pre : Se → List Se
  | .nt a => .nt a :: a.pre
  | .bin w a b => .bin w a b :: (a.pre ++ b.pre)
  | .sh k a => .sh k a :: a.pre
  | s => [s]
def size : Se → Nat
  | .nt a => a.size + 1
  | .bin _ a b => a.size + b.size + 1
  | .sh _ a => a.size + 1
  | _ => 1
theorem size_pos (s : Se) : 1 ≤ s.size := by cases s <;> simp [size]
theorem pre_len : ∀ s : Se, s.pre.length = s.size
  | .t => rfl
  | .f => rfl
  | .nm _ => rfl
  | .nt a => by simp [pre, size, pre_len a]
  | .bin _ a b => by simp [pre, size, pre_len a, pre_len b]
  | .sh _ a => by simp [pre, size, pre_len a]
theorem pre_cons (s : Se) : s.pre = s :: s.parts.flatMap pre := by cases s <;> simp [pre, parts]
theorem size_parts (s : Se) : (s.parts.map size).sum + 1 = s.size := by cases s <;> simp [parts, size]
theorem size_le : ∀ s : Se, s.size + 1 ≤ 2 ^ (s.nest + 1)
  | .t => by simp [size, nest]
  | .f => by simp [size, nest]
  | .nm _ => by simp [size, nest]
  | .nt a => by
    have := size_le a
    simp only [size, nest]; rw [Nat.pow_succ]
    omega
  | .bin _ a b => by
    have h1 := size_le a
    have h2 := size_le b
    have h3 : 2 ^ (a.nest + 1) ≤ 2 ^ (max a.nest b.nest + 1) := Nat.pow_le_pow_right (by decide) (by omega)
    have h4 : 2 ^ (b.nest + 1) ≤ 2 ^ (max a.nest b.nest + 1) := Nat.pow_le_pow_right (by decide) (by omega)
    simp only [size, nest]; rw [Nat.pow_succ]
    omega
  | .sh _ a => by
    have := size_le a
    simp only [size, nest]; rw [Nat.pow_succ]
    omega
theorem pre_size : ∀ (s : Se) {x : Se}, x ∈ s.pre → x = s ∨ x.size < s.size
  | .t, x, h => .inl (List.mem_singleton.mp h)
  | .f, x, h => .inl (List.mem_singleton.mp h)
  | .nm _, x, h => .inl (List.mem_singleton.mp h)
  | .nt a, x, h => by
    rcases List.mem_cons.mp h with h | h
    · exact .inl h
    · refine .inr ?_
      have := pre_size a h
      simp only [size]
      rcases this with e | e
      · rw [e]; omega
      · omega
  | .bin _ a b, x, h => by
    rcases List.mem_cons.mp h with h | h
    · exact .inl h
    · refine .inr ?_
      simp only [size]
      rcases List.mem_append.mp h with h | h
      · rcases pre_size a h with e | e
        · rw [e]; omega
        · omega
      · rcases pre_size b h with e | e
        · rw [e]; omega
        · omega
  | .sh _ a, x, h => by
    rcases List.mem_cons.mp h with h | h
    · exact .inl h
    · refine .inr ?_
      have := pre_size a h
      simp only [size]
      rcases this with e | e
      · rw [e]; omega
      · omega
/-- the head of a node -/
def hdK : Se → List NestedKey
  | .t => [.text "true"]
  | .f => [.text "false"]
  | .nm x => [.text "name", .text x]
  | .nt _ => [.text "not"]
  | .bin w _ _ => [.text w]
  | .sh k _ => [.text "shown", .num ((k : Nat) : Int)]
def hdV : Se → List V
  | .t => [.str "true"]
  | .f => [.str "false"]
  | .nm x => [.str "name", .str x]
  | .nt _ => [.str "not"]
  | .bin w _ _ => [.str w]
  | .sh k _ => [.str "shown", .int (k : Nat)]
def word : Se → Str
  | .t => "true"
  | .f => "false"
  | .nm _ => "name"
  | .nt _ => "not"
  | .bin w _ _ => w
  | .sh _ _ => "shown"
def hdN : Se → Nat
  | .nm _ => 2
  | .sh _ _ => 2
  | _ => 1
theorem head_word {m : Int} {s : Se} (h : s.ok m) : headT.lookup s.word = some (s.hdN : Int) := by
  cases s with
  | t => show headT.lookup ("true" : Str) = some 1; decide +kernel
  | f => show headT.lookup ("false" : Str) = some 1; decide +kernel
  | nm x => show headT.lookup ("name" : Str) = some 2; decide +kernel
  | nt a => show headT.lookup ("not" : Str) = some 1; decide +kernel
  | sh k a => show headT.lookup ("shown" : Str) = some 2; decide +kernel
  | bin w a b =>
    rcases h.1 with e | e | e <;> subst e
    · show headT.lookup ("and" : Str) = some 1; decide +kernel
    · show headT.lookup ("or" : Str) = some 1; decide +kernel
    · show headT.lookup ("then" : Str) = some 1; decide +kernel
theorem hdV_len (s : Se) : s.hdV.length = s.hdN := by cases s <;> rfl
theorem hdV_0 (s : Se) : s.hdV[0]? = some (.str s.word) := by cases s <;> rfl
/-- head and parts say which node it is -/
theorem ext {s t : Se} {m : Int} (hs : s.ok m) (ht : t.ok m) (h : s.hdK = t.hdK) (p : s.parts = t.parts) : s = t := by
  cases s <;> cases t <;> simp only [hdK, parts, List.cons.injEq, NestedKey.text.injEq, NestedKey.num.injEq, and_true, List.nil_eq, reduceCtorEq, and_false] at h p <;>
    first
    | rfl
    | (exact absurd h (by decide +kernel))
    | (obtain ⟨e, _⟩ := h; exact absurd e (by decide +kernel))
    | (obtain ⟨_, e⟩ := h; subst e; rfl)
    | (subst p; rfl)
    | (obtain ⟨e1, e2⟩ := p; subst e1 e2 h; rfl)
    | (obtain ⟨_, e⟩ := h; subst p; have : _ = _ := Int.ofNat.inj e; subst this; rfl)
    | skip
end Se
theorem SeA.node {K : PySem.W.Frag} {H : Hp} : ∀ {v : V} {s : Se}, SeA K H v s → ∃ p us, v = .ref p ∧ TT K H p (s.hdV ++ us) ∧ Paired (SeA K H) us s.parts
  | _, .t, ⟨p, e, h⟩ => ⟨p, [], e, h, .nil⟩
  | _, .f, ⟨p, e, h⟩ => ⟨p, [], e, h, .nil⟩
  | _, .nm _, ⟨p, e, h⟩ => ⟨p, [], e, h, .nil⟩
  | _, .nt _, ⟨p, u, e, h, g⟩ => ⟨p, [u], e, h, .cons g .nil⟩
  | _, .bin _ _ _, ⟨p, u1, u2, e, h, g1, g2⟩ => ⟨p, [u1, u2], e, h, .cons g1 (.cons g2 .nil)⟩
  | _, .sh _ _, ⟨p, u, e, h, g⟩ => ⟨p, [u], e, h, .cons g .nil⟩
/-! ### the stack of numbers, at the sentences -/
inductive Mach : List Se → List Se → Se → Prop
  | nil (e : Se) : Mach [] [e] e
  | cons {s : Se} {r st : List Se} {e : Se} : Mach r (st ++ [s]) e → Mach (s :: r) (st ++ s.parts.reverse) e
theorem mach_pre : ∀ (x : Se) {r st : List Se} {e : Se}, Mach r (st ++ [x]) e → Mach (x.pre.reverse ++ r) st e
  | .t, r, st, e, h => by have := Mach.cons h; simpa [Se.parts, Se.pre] using this
  | .f, r, st, e, h => by have := Mach.cons h; simpa [Se.parts, Se.pre] using this
  | .nm _, r, st, e, h => by have := Mach.cons h; simpa [Se.parts, Se.pre] using this
  | .nt a, r, st, e, h => by
    have h1 : Mach ([.nt a] ++ r) (st ++ [a]) e := Mach.cons h
    have := mach_pre a h1
    simpa [Se.pre] using this
  | .bin w a b, r, st, e, h => by
    have h1 : Mach ([.bin w a b] ++ r) (st ++ [b, a]) e := Mach.cons h
    have h2 : Mach (a.pre.reverse ++ ([.bin w a b] ++ r)) (st ++ [b]) e := mach_pre a (by simpa using h1)
    have := mach_pre b h2
    simpa [Se.pre] using this
  | .sh k a, r, st, e, h => by
    have h1 : Mach ([.sh k a] ++ r) (st ++ [a]) e := Mach.cons h
    have := mach_pre a h1
    simpa [Se.pre] using this
theorem mach_start (e : Se) : Mach e.pre.reverse [] e := by
  have := mach_pre e (r := []) (st := []) (Mach.nil e)
  simpa using this
/-! ### numbers of sentences -/
noncomputable def numS (ss : List Se) (s : Se) : V := .int ((ss.idxOf s : Nat) : Int)
noncomputable def keyS (ss : List Se) (s : Se) : NestedKey := .tup [.tup s.hdK, .tup (s.parts.map fun p => .num ((ss.idxOf p : Nat) : Int))]
noncomputable def kvS (ss : List Se) : List (NestedKey × V) := ss.map fun s => (keyS ss s, numS ss s)
noncomputable def addS (ss : List Se) (s : Se) : List Se := if s ∈ ss then ss else ss ++ [s]
structure GoodS (m : Int) (ss : List Se) : Prop where
  nd : ss.Nodup
  ok : ∀ s ∈ ss, s.ok m
  lo : ∀ (i : Nat) (s : Se), ss[i]? = some s → ∀ p ∈ s.parts, ∃ j, j < i ∧ ss[j]? = some p
theorem GoodS.sub {m : Int} {ss : List Se} (g : GoodS m ss) {s p : Se} (hs : s ∈ ss) (hp : p ∈ s.parts) : p ∈ ss := by
  obtain ⟨i, hi⟩ := List.mem_iff_getElem?.mp hs
  obtain ⟨j, _, hj⟩ := g.lo i s hi p hp
  exact List.mem_of_getElem? hj
theorem idx_app {ss : List Se} {s x : Se} (h : x ∈ ss) : (ss ++ [s]).idxOf x = ss.idxOf x := by rw [List.idxOf_append, if_pos h]
theorem idx_new {ss : List Se} {s : Se} (h : s ∉ ss) : (ss ++ [s]).idxOf s = ss.length := by rw [List.idxOf_append, if_neg h]; simp
theorem keyS_app {ss : List Se} {s x : Se} (h : ∀ p ∈ x.parts, p ∈ ss) : keyS (ss ++ [s]) x = keyS ss x := by
  unfold keyS
  rw [List.map_congr_left fun p hp => by rw [idx_app (h p hp)]]
theorem kvS_app {m : Int} {ss : List Se} {s : Se} (g : GoodS m ss) (hn : s ∉ ss) (hp : ∀ p ∈ s.parts, p ∈ ss) : kvS (ss ++ [s]) = kvS ss ++ [(keyS ss s, .int ((ss.length : Nat) : Int))] := by
  unfold kvS
  rw [List.map_append]
  congr 1
  · refine List.map_congr_left fun x hx => ?_
    rw [keyS_app fun p q => g.sub hx q]
    unfold numS
    rw [idx_app hx]
  · simp only [List.map_cons, List.map_nil]
    rw [keyS_app hp]
    unfold numS
    rw [idx_new hn]
theorem idx_inj {ss : List Se} {a b : Se} (ha : a ∈ ss) (hb : b ∈ ss) (h : ss.idxOf a = ss.idxOf b) : a = b := by
  have h1 := List.getElem_idxOf (List.idxOf_lt_length_of_mem ha)
  have h2 := List.getElem_idxOf (List.idxOf_lt_length_of_mem hb)
  simp only [h] at h1
  exact h1.symm.trans h2
theorem parts_inj {ss : List Se} : ∀ {ps qs : List Se}, (∀ p ∈ ps, p ∈ ss) → (∀ q ∈ qs, q ∈ ss) → (ps.map fun p => NestedKey.num ((ss.idxOf p : Nat) : Int)) = (qs.map fun p => NestedKey.num ((ss.idxOf p : Nat) : Int)) → ps = qs
  | [], [], _, _, _ => rfl
  | [], _ :: _, _, _, h => by cases h
  | _ :: _, [], _, _, h => by cases h
  | p :: ps, q :: qs, h1, h2, h => by
    simp only [List.map_cons, List.cons.injEq, NestedKey.num.injEq] at h
    obtain ⟨e, t⟩ := h
    have e : ss.idxOf p = ss.idxOf q := by omega
    rw [idx_inj (h1 p List.mem_cons_self) (h2 q List.mem_cons_self) e, parts_inj (fun x hx => h1 x (List.mem_cons_of_mem _ hx)) (fun x hx => h2 x (List.mem_cons_of_mem _ hx)) t]
theorem keyS_mem {m : Int} {ss : List Se} {s : Se} (g : GoodS m ss) (hk : s.ok m) (hp : ∀ p ∈ s.parts, p ∈ ss) : keyS ss s ∈ (kvS ss).map (·.1) ↔ s ∈ ss := by
  unfold kvS
  rw [List.map_map]
  constructor
  · intro h
    obtain ⟨x, hx, e⟩ := List.mem_map.mp h
    have e : keyS ss x = keyS ss s := e
    unfold keyS at e
    simp only [NestedKey.tup.injEq, List.cons.injEq, and_true] at e
    rw [← Se.ext (g.ok x hx) hk e.1 (parts_inj (fun p q => g.sub hx q) hp e.2)]
    exact hx
  · exact fun h => List.mem_map.mpr ⟨s, h, rfl⟩
theorem kvS_at {ss : List Se} {s : Se} (h : s ∈ ss) : (keyS ss s, numS ss s) ∈ kvS ss := List.mem_map.mpr ⟨s, h, rfl⟩
theorem GoodS.add {m : Int} {ss : List Se} {s : Se} (g : GoodS m ss) (hk : s.ok m) (hp : ∀ p ∈ s.parts, p ∈ ss) (hn : s ∉ ss) : GoodS m (ss ++ [s]) where
  nd := by
    rw [List.nodup_append]
    exact ⟨g.nd, by simp, fun a ha b hb e => hn (by rw [← List.mem_singleton.mp hb, ← e]; exact ha)⟩
  ok := fun x hx => by
    rcases List.mem_append.mp hx with h | h
    · exact g.ok x h
    · rw [List.mem_singleton.mp h]; exact hk
  lo := fun i x hx p hq => by
    by_cases hi : i < ss.length
    · rw [List.getElem?_append_left hi] at hx
      obtain ⟨j, h1, h2⟩ := g.lo i x hx p hq
      exact ⟨j, h1, by rw [List.getElem?_append_left (by omega)]; exact h2⟩
    · have hi2 : i = ss.length := by
        have := (List.getElem?_eq_some_iff.mp hx).1
        rw [List.length_append, List.length_singleton] at this; omega
      subst hi2
      rw [List.getElem?_append_right (Nat.le_refl _), Nat.sub_self] at hx
      obtain rfl : s = x := Option.some.inj hx
      obtain ⟨j, hj⟩ := List.mem_iff_getElem?.mp (hp p hq)
      have h1 := (List.getElem?_eq_some_iff.mp hj).1
      exact ⟨j, h1, by rw [List.getElem?_append_left h1]; exact hj⟩
theorem goodS_nil {m : Int} : GoodS m [] := ⟨List.nodup_nil, (fun _ h => by cases h), fun _ _ h => by cases h⟩
theorem addS_in {ss : List Se} {s : Se} (h : s ∈ ss) : addS ss s = ss := if_pos h
theorem addS_out {ss : List Se} {s : Se} (h : s ∉ ss) : addS ss s = ss ++ [s] := if_neg h
theorem mem_addS {ss : List Se} {s x : Se} (h : x ∈ addS ss s) : x ∈ ss ∨ x = s := by
  unfold addS at h
  split at h
  · exact .inl h
  · rcases List.mem_append.mp h with h | h
    · exact .inl h
    · exact .inr (List.mem_singleton.mp h)
theorem mem_fold : ∀ (l ss : List Se) {x : Se}, x ∈ l.foldl addS ss → x ∈ ss ∨ x ∈ l
  | [], _, _, h => .inl h
  | a :: r, ss, x, h => by
    rcases mem_fold r (addS ss a) h with h | h
    · rcases mem_addS h with h | h
      · exact .inl h
      · exact .inr (by rw [h]; exact List.mem_cons_self)
    · exact .inr (List.mem_cons_of_mem _ h)
theorem len_addS (ss : List Se) (s : Se) : (addS ss s).length ≤ ss.length + 1 := by
  unfold addS
  split
  · omega
  · simp
theorem len_fold : ∀ (l ss : List Se), (l.foldl addS ss).length ≤ ss.length + l.length
  | [], ss => by simp
  | a :: r, ss => by
    have h1 := len_fold r (addS ss a)
    have h2 := len_addS ss a
    simp only [List.foldl_cons, List.length_cons]; omega
/-- the whole sentence comes last -/
theorem fold_last (e : Se) : ∃ r, e.pre.reverse.foldl addS [] = r ++ [e] := by
  obtain ⟨tl, ht⟩ : ∃ tl, e.pre = e :: tl := ⟨_, Se.pre_cons e⟩
  rw [ht, List.reverse_cons, List.foldl_append]
  show ∃ r, addS (tl.reverse.foldl addS []) e = r ++ [e]
  refine ⟨_, addS_out fun h => ?_⟩
  rcases mem_fold _ _ h with h | h
  · cases h
  · have hc : tl.length = tl.length := rfl
    have hz : ∀ x ∈ e.parts.flatMap Se.pre, x.size < e.size := fun x hx => by
      obtain ⟨p, hp, hx⟩ := List.mem_flatMap.mp hx
      have h1 : p.size < e.size := by
        have := Se.size_parts e
        have h2 : p.size ≤ (e.parts.map Se.size).sum := by
          clear this hx h ht hc
          generalize e.parts = l at hp
          induction l with
          | nil => cases hp
          | cons a r ih =>
            rw [List.map_cons, List.sum_cons]
            rcases List.mem_cons.mp hp with h | h
            · subst h; omega
            · have := ih h; omega
        omega
      rcases Se.pre_size p hx with h | h
      · rw [h]; exact h1
      · omega
    have e2 : tl = e.parts.flatMap Se.pre := by
      have := ht.symm.trans (Se.pre_cons e)
      exact (List.cons.inj this).2
    have := hz e (by rw [← e2]; exact List.mem_reverse.mp h)
    omega
/-! ### in the heap -/
section
variable {K : PySem.W.Frag} {H : Hp}
theorem hd_nka : ∀ (s : Se), NKA K H s.hdK s.hdV
  | .t => .cons (.text _) .nil
  | .f => .cons (.text _) .nil
  | .nm _ => .cons (.text _) (.cons (.text _) .nil)
  | .nt _ => .cons (.text _) .nil
  | .bin _ _ _ => .cons (.text _) .nil
  | .sh _ _ => .cons (.text _) (.cons (.num _) .nil)
theorem num_nka {ss : List Se} : ∀ (ps : List Se), NKA K H (ps.map fun p => NestedKey.num ((ss.idxOf p : Nat) : Int)) (ps.map (numS ss))
  | [] => .nil
  | _ :: r => .cons (.num _) (num_nka r)
theorem key_nkv {ss : List Se} {s : Se} {b h q : Addr} (hb : TT K H b [.ref h, .ref q]) (hh : TT K H h s.hdV) (hq : TT K H q (s.parts.map (numS ss))) : NKV K H (keyS ss s) (.ref b) :=
  .tup hb (.cons (.tup hh (hd_nka s)) (.cons (.tup hq (num_nka _)) .nil))
theorem key_dep (ss : List Se) (s : Se) : (keyS ss s).depth ≤ 8 := by
  have h1 : ∀ l : List Se, NestedKey.depthAll (l.map fun p => NestedKey.num ((ss.idxOf p : Nat) : Int)) = 0 := by
    intro l
    induction l with
    | nil => rfl
    | cons a r ih => simp only [List.map_cons, NestedKey.depthAll, NestedKey.depth, ih]; rfl
  have h2 : NestedKey.depthAll s.hdK = 0 := by cases s <;> rfl
  simp only [keyS, NestedKey.depth, NestedKey.depthAll, h1, h2]
  decide
theorem nka_num {ss : List Se} : ∀ (ps : List Se) {vs : List V}, NKA K H (ps.map fun p => NestedKey.num ((ss.idxOf p : Nat) : Int)) vs → vs = ps.map (numS ss)
  | [], _, h => by cases h; rfl
  | _ :: r, _, h => by
    cases h with
    | cons h1 h2 =>
      cases h1
      rw [nka_num r h2]; rfl
theorem nka_hd : ∀ (s : Se) {vs : List V}, NKA K H s.hdK vs → vs = s.hdV := by
  intro s vs h
  cases s with
  | nm x => cases h with | cons h1 h2 => cases h1; cases h2 with | cons h3 h4 => cases h3; cases h4; rfl
  | sh k a => cases h with | cons h1 h2 => cases h1; cases h2 with | cons h3 h4 => cases h3; cases h4; rfl
  | _ => cases h with | cons h1 h2 => cases h1; cases h2; rfl
theorem nkv_key {ss : List Se} {s : Se} {b : Addr} (h : NKV K H (keyS ss s) (.ref b)) : ∃ h q, TT K H b [.ref h, .ref q] ∧ TT K H h s.hdV ∧ TT K H q (s.parts.map (numS ss)) := by
  unfold keyS at h
  cases h with
  | tup h1 h2 =>
    cases h2 with
    | cons g1 g2 =>
      cases g2 with
      | cons g2 g3 =>
        cases g3
        cases g1 with
        | tup a1 a2 =>
          cases g2 with
          | tup b1 b2 =>
            rw [nka_hd s a2] at a1
            rw [nka_num _ b2] at b1
            exact ⟨_, _, h1, a1, b1⟩
end
/-! ### what the defs promise -/
def spPartsT (K : PySem.W.Frag) : Sp := fun vs H Q _ => ∃ (p : Addr) (x : Str) (xs : List V) (h : Int), vs = [.ref p] ∧ TT K H p xs ∧ xs[0]? = some (.str x) ∧ headT.lookup x = some h ∧ ∀ (p2 : Addr) (H' : Hp), Same H H' → TT K H' p2 (xs.drop h.toNat) → Q (.ref p2) H'
def spNodes (K : PySem.W.Frag) : SpG := fun vs H Q _ => ∃ (v : V) (e : Se) (m : Int), vs = [v] ∧ SeA K H v e ∧ e.ok m ∧ e.nest ≤ 15 ∧ ∀ (ys : List V) (H' : Hp), Same H H' → Paired (SeA K H') ys e.pre → Q ys H'
def spNumb (K : PySem.W.Frag) : Sp := fun vs H Q _ => ∃ (v : V) (e : Se) (m : Int), vs = [v] ∧ SeA K H v e ∧ e.ok m ∧ e.nest ≤ 15 ∧ ∀ (D : Addr) (H' : Hp) (ss : List Se) (bs : List Addr), H D = none → Same H H' → H' D = some (.lst (bs.map V.ref)) →
  Paired (fun s b => NKV K H' (keyS ss s) (.ref b)) ss bs → GoodS m ss → (∃ r, ss = r ++ [e]) → ss.length ≤ 2 ^ 16 → Q (.ref D) H'
end Vw

set_option Elab.async false
set_option linter.all false
set_option maxRecDepth 100000
set_option maxHeartbeats 4000000
/-! tables of sentences by names: dicts of texts; names replaced -/
namespace Vw
open PySem PySem.W PyProof.Rows L2
section
variable {X : Cx}
/-- x in d, d[x], d[x] = v, x a text -/
def rInDk : R2 := fun x y H Q => ∃ z d kvs, x = .str z ∧ y = .ref d ∧ H d = some (.dK kvs) ∧ Q (.bl (valV kvs (.inr z)).isSome) H
theorem op_inDk (hu : X.A.units + 1 < cLine) : OpR X (compareOp .In) rInDk := by
  intro pins s σ H x y v u Q I rx ry h
  obtain ⟨z, d, kvs, rfl, rfl, hd, q⟩ := h
  obtain rfl : u = Value.ref d := ry
  exact d_in (y := .str z) hu I (DGet.k (k := .inr z) hd) rx fun s' I' => ⟨.bl _, H, I', rfl, q⟩
def rIxDk : R2 := fun x y H Q => ∃ d z kvs v, x = .ref d ∧ y = .str z ∧ H d = some (.dK kvs) ∧ valV kvs (.inr z) = some v ∧ Q v H
theorem ix_dk (hu : X.A.units + 1 < cLine) : IxR X rIxDk := by
  intro value slice pins s σ H x y v u Q I rx ry h hs
  obtain ⟨d, z, kvs, r, rfl, rfl, hd, hv, q⟩ := h
  obtain rfl : v = Value.ref d := rx
  have g : DGet H d (.str z) (some r) := by
    have := DGet.k (k := .inr z) hd
    rw [hv] at this; exact this
  exact tail_any (dict_typeIs I g) slot_dict_getitem.lookup (d_getItem hu I g ry fun w' s' I' rw' => ⟨r, H, I', rw', q⟩) hs
def rSetDk : V → V → V → Hp → (Hp → Prop) → Prop := fun o i v H Q => ∃ d z kvs, o = .ref d ∧ i = .str z ∧ H d = some (.dK kvs) ∧ kvs.length < sizeLine ∧ Q (upd H d (.dK (putK kvs (.inr z) v)))
theorem set_dk (hu : X.A.units + 1 < cLine) : PSet X rSetDk := by
  intro pins s σ H o i v ov iv u Q I ro ri rv h
  obtain ⟨d, z, kvs, rfl, rfl, hd, hz, q⟩ := h
  obtain rfl : ov = Value.ref d := ro
  exact d_setItem (y := .str z) hu I (DPut.k (k := .inr z) hd hz) ri rv fun s' I' => ⟨_, I', q⟩
theorem hits_same {A : Around} {s : Shared} {kvs : List (Key × V)} {vb : List (Key × Value)} (rb : KV kvs vb) {ks : List (Key × V)} {va : List (Key × Value)} (ra : KV ks va) :
    (∀ p ∈ ks, valV kvs p.1 = some p.2 ∧ ∃ a, p.2 = .ref a) → PySem.W.KeqHits A s vb va true := by
  unfold KV at ra
  induction ra with
  | nil => intro _; exact .nil
  | @cons p q ps qs h t ih =>
    intro hp
    obtain ⟨h1, h2⟩ := h
    obtain ⟨e, a, f⟩ := hp p List.mem_cons_self
    have rr : RelO (some p.2) (valueAt vb p.1) := by rw [← e]; exact rb.val p.1
    obtain ⟨y, hy, ry⟩ := rr.some_of
    obtain ⟨k, v⟩ := q
    have h1' : p.1 = k := h1
    rw [h1'] at hy
    rw [f] at h2 ry
    obtain rfl : v = Value.ref a := h2
    obtain rfl : y = Value.ref a := ry
    show PySem.W.KeqHits A s vb ((k, .ref a) :: qs) (true && true)
    exact .hit hy (SeqAt.EqAt.same _) (ih fun p' hm => hp p' (List.mem_cons_of_mem _ hm))
/-- x != y of two dicts with the same things -/
def rNeDS : R2 := fun x y H Q => ∃ a b ks, x = .ref a ∧ y = .ref b ∧ H a = some (.dK ks) ∧ H b = some (.dK ks) ∧ (∀ p ∈ ks, valV ks p.1 = some p.2 ∧ ∃ c, p.2 = .ref c) ∧ Q (.bl false) H
theorem op_neDS (hu : X.A.units < cLine) : OpR X (compareOp .NotEq) rNeDS := by
  intro pins s σ H x y v u Q I rx ry h
  obtain ⟨a, b, ks, rfl, rfl, ea, eb, hp, q⟩ := h
  obtain rfl : v = Value.ref a := rx
  obtain rfl : u = Value.ref b := ry
  obtain ⟨_, ya, va, ra, da⟩ := (show ObjOk X.prog X.w H s.heap a (.dK ks) from I.hok a _ ea)
  obtain ⟨_, yb, vb, rb, db⟩ := (show ObjOk X.prog X.w H s.heap b (.dK ks) from I.hok b _ eb)
  have hl : va.length = vb.length := by rw [← ra.length, ← rb.length]
  exact PySem.W.keq_ne (knd := mixKind X.prog X.w) (r := true) ya yb da db hu (fun _ => hits_same rb ra hp) (fin_bl I q (by simp [hl]))
end
/-- a table of sentences by names -/
structure TabN (K : PySem.W.Frag) (H : Hp) (m : Int) (n : Nat) (kvs : List (Key × V)) (t : Str → Option Se) : Prop where
  same : ∀ p ∈ kvs, valV kvs p.1 = some p.2 ∧ ∃ c, p.2 = .ref c
  some : ∀ x v, valV kvs (.inr x) = some v → ∃ e, t x = some e ∧ SeA K H v e ∧ e.ok m ∧ e.nest ≤ n
  none : ∀ x, valV kvs (.inr x) = none → t x = none
theorem SeA.isRef {K : PySem.W.Frag} {H : Hp} {v : V} {e : Se} (h : SeA K H v e) : ∃ c, v = .ref c := by
  obtain ⟨p, _, h, _⟩ := h.node
  exact ⟨p, h⟩
theorem TabN.tp {K : PySem.W.Frag} {H H' : Hp} {m : Int} {n : Nat} {kvs : List (Key × V)} {t : Str → Option Se} (h : TabN K H m n kvs t) (x : Tp H H') : TabN K H' m n kvs t :=
  ⟨h.same, fun z v e => let ⟨a, b, c, d⟩ := h.some z v e; ⟨a, b, c.tp x, d⟩, h.none⟩
theorem tabN_nil {K : PySem.W.Frag} {H : Hp} {m : Int} {n : Nat} : TabN K H m n [] (fun _ => none) := ⟨(fun _ h => by cases h), (fun _ _ h => by cases h), fun _ _ => rfl⟩
def putT (t : Str → Option Se) (x : Str) (e : Se) : Str → Option Se := fun y => if y = x then some e else t y
theorem TabN.put {K : PySem.W.Frag} {H : Hp} {m : Int} {n : Nat} {kvs : List (Key × V)} {t : Str → Option Se} (h : TabN K H m n kvs t) {x : Str} {v : V} {e : Se} (hv : SeA K H v e) (ok : e.ok m) (hn : e.nest ≤ n) : TabN K H m n (putK kvs (.inr x) v) (putT t x e) where
  same := fun p hp => by
    rw [valV_put]
    by_cases hx : p.1 = .inr x
    · rw [if_pos hx]
      have : p.2 = v := by
        unfold putK at hp
        split at hp
        · obtain ⟨q, hq, e⟩ := List.mem_map.mp hp
          by_cases hq1 : q.1 = .inr x
          · rw [if_pos hq1] at e; rw [← e]
          · rw [if_neg hq1] at e; rw [← e] at hx; exact absurd hx hq1
        · rename_i hno
          rcases List.mem_append.mp hp with hp | hp
          · have h1 := (h.same p hp).1
            rw [hx] at h1
            rw [valV_any, h1] at hno
            exact absurd rfl hno
          · rw [List.mem_singleton.mp hp]
      rw [this]
      exact ⟨rfl, hv.isRef⟩
    · rw [if_neg hx]
      unfold putK at hp
      split at hp
      · obtain ⟨q, hq, e⟩ := List.mem_map.mp hp
        by_cases hq1 : q.1 = .inr x
        · rw [if_pos hq1] at e; rw [← e] at hx; exact absurd hq1 hx
        · rw [if_neg hq1] at e; rw [← e]; exact h.same q hq
      · rcases List.mem_append.mp hp with hp | hp
        · exact h.same p hp
        · rw [List.mem_singleton.mp hp] at hx; exact absurd rfl hx
  some := fun z u hu => by
    rw [valV_put] at hu
    unfold putT
    by_cases hz : z = x
    · subst hz
      rw [if_pos rfl] at hu
      cases hu
      exact ⟨e, if_pos rfl, hv, ok, hn⟩
    · rw [if_neg (fun q => hz (Sum.inr.inj q))] at hu
      rw [if_neg hz]
      exact h.some z u hu
  none := fun z hu => by
    rw [valV_put] at hu
    unfold putT
    by_cases hz : z = x
    · subst hz
      rw [if_pos rfl] at hu; cases hu
    · rw [if_neg (fun q => hz (Sum.inr.inj q))] at hu
      rw [if_neg hz]
      exact h.none z hu
/-- names replaced -/
def Se.put (t : Str → Option Se) : Se → Se
  | .t => .t
  | .f => .f
  | .nm x => (t x).getD (.nm x)
  | .nt a => .nt (a.put t)
  | .bin w a b => .bin w (a.put t) (b.put t)
  | .sh k a => .sh k (a.put t)
theorem Se.put_none : ∀ (e : Se), e.put (fun _ => Option.none) = e
  | .t => rfl
  | .f => rfl
  | .nm _ => rfl
  | .nt a => by simp only [Se.put, put_none a]
  | .bin w a b => by simp only [Se.put, put_none a, put_none b]
  | .sh k a => by simp only [Se.put, put_none a]
theorem TabN.nest {K : PySem.W.Frag} {H : Hp} {m : Int} {n : Nat} {kvs : List (Key × V)} {t : Str → Option Se} (h : TabN K H m n kvs t) : ∀ (e : Se), (e.put t).nest ≤ e.nest + n
  | .t => Nat.zero_le _
  | .f => Nat.zero_le _
  | .nm x => by
    show ((t x).getD (.nm x)).nest ≤ 0 + n
    cases hx : valV kvs (.inr x) with
    | none => rw [h.none x hx]; exact Nat.zero_le _
    | some v =>
      obtain ⟨e, h1, _, _, h4⟩ := h.some x v hx
      rw [h1]
      show e.nest ≤ 0 + n
      omega
  | .nt a => by have := h.nest a; show (a.put t).nest + 1 ≤ a.nest + 1 + n; omega
  | .bin w a b => by
    have h1 := h.nest a
    have h2 := h.nest b
    show max (a.put t).nest (b.put t).nest + 1 ≤ max a.nest b.nest + 1 + n; omega
  | .sh k a => by have := h.nest a; show (a.put t).nest + 1 ≤ a.nest + 1 + n; omega
theorem Se.dep : ∀ (e : Se), e.toD.depth ≤ e.nest + 1
  | .t => by simp [Se.toD, PyData.depth, PyData.depthAll, Se.nest]
  | .f => by simp [Se.toD, PyData.depth, PyData.depthAll, Se.nest]
  | .nm _ => by simp [Se.toD, PyData.depth, PyData.depthAll, Se.nest]
  | .nt a => by have := Se.dep a; simp only [Se.toD, PyData.depth, PyData.depthAll, Se.nest]; omega
  | .bin w a b => by
    have h1 := Se.dep a
    have h2 := Se.dep b
    simp only [Se.toD, PyData.depth, PyData.depthAll, Se.nest]; omega
  | .sh k a => by have := Se.dep a; simp only [Se.toD, PyData.depth, PyData.depthAll, Se.nest]; omega
/-- a node of its head and its parts -/
theorem SeA.mk {K : PySem.W.Frag} {H : Hp} {p : Addr} {us : List V} (t : Str → Option Se) : ∀ (s : Se), (∀ x, s ≠ .nm x) → TT K H p (s.hdV ++ us) → Paired (SeA K H) us (s.parts.map (Se.put t)) → SeA K H (.ref p) (s.put t)
  | .t, _, h, g => by cases g; exact ⟨p, rfl, h⟩
  | .f, _, h, g => by cases g; exact ⟨p, rfl, h⟩
  | .nm x, n, _, _ => absurd rfl (n x)
  | .nt a, _, h, g => by
    cases g with
    | cons g1 g2 => cases g2; exact ⟨p, _, rfl, h, g1⟩
  | .bin w a b, _, h, g => by
    cases g with
    | cons g1 g2 => cases g2 with | cons g2 g3 => cases g3; exact ⟨p, _, _, rfl, h, g1, g2⟩
  | .sh k a, _, h, g => by
    cases g with
    | cons g1 g2 => cases g2; exact ⟨p, _, rfl, h, g1⟩
/-! ### what the defs promise -/
def spRepl (K : PySem.W.Frag) : Sp := fun vs H Q _ => ∃ (v : V) (d : Addr) (e : Se) (m : Int) (n : Nat) (kvs : List (Key × V)) (t : Str → Option Se), vs = [v, .ref d] ∧ SeA K H v e ∧ e.ok m ∧ e.nest ≤ 15 ∧ H d = some (.dK kvs) ∧ TabN K H m n kvs t ∧
  ∀ (u : V) (H' : Hp), Same H H' → SeA K H' u (e.put t) → Q u H'
def spPut (K : PySem.W.Frag) (j : Nat) : Sp := fun vs H Q _ => ∃ (v : V) (d : Addr) (e : Se) (m : Int) (n : Nat) (kvs : List (Key × V)) (t : Str → Option Se), vs = [v, .ref d] ∧ SeA K H v e ∧ e.ok m ∧ e.nest < j ∧ H d = some (.dK kvs) ∧ TabN K H m n kvs t ∧
  ∀ (u : V) (H' : Hp), Same H H' → SeA K H' u (e.put t) → Q u H'
end Vw

set_option Elab.async false
set_option linter.all false
set_option maxRecDepth 100000
set_option maxHeartbeats 4000000
namespace Vw
open PySem PySem.W PySem.Calls PyProof.Rows Builtin Builtin.ObjectAttr Builtin.Getset_descriptor
theorem nameC_dga (d tp : Value) (C : Addr) : descrGetArgs ⟨[d, .ref C, tp], []⟩ = pure (d, some (.ref C), given tp) := by kernel_rfl
section
variable {prog : Program} {w : World} {A : Around} {E : Value → Shared → Prop} {s : Shared} {K : Frag} {R : Result → Shared → Prop} {C : Addr}
theorem nameC_get {tp v : Value} {o : Obj} (hC : s.heap.get? C = some o) (ho : o.cls = .type "type") (h2 : (o.slots[2]?).join = some v) (h : R (.ok (.ret v)) s) :
    codeAny (model prog w) A (.call (.builtin "getset_descriptor.__get__") ⟨[.builtin "type.__name__", .ref C, tp], []⟩) R s := by
  obtain ⟨hh, g, dr, t, os⟩ := s
  have L0 : Looks (model prog w) hh (typeOf (.ref C)) (.type "type") := by
    have z : Looks (model prog w) hh (typeOf (.ref C)) o.cls := (Looks.ld hC).andThen .now
    rw [ho] at z
    exact z
  have L1 : Looks (model prog w) hh (isSubtype (.type "type") (.type "type")) true := Looks.of_pure (by rw [isSubtype_type]; kernel_rfl)
  refine codeAny_call_builtin KF.slot_gs.plain KF.entry_gs (KF.slot_gs.check _ _ _ _ _ _ _ _ ktyn_type (KF.args_gs _ _ _) ?_)
  unfold Builtin.«getset_descriptor.__get__» descrGet
  rw [nameC_dga]
  refine wpAny_bind (wpAny_pure ?_)
  unfold descrGetter descrCheckInstance descrNameAndClass isInstance
  simp only [ktyn_owner]
  repeat lk
  refine ⟨Code.quiet_builtin _ (by decide +kernel), codeAny_builtin ktyn_entry ?_⟩
  unfold Builtin.«type.__name__» keptObject
  dsimp only
  refine wpAny_bind ?_
  unfold slotAt
  refine wpAny_bind (wpAny_loadPart_at hC (wpAny_pure ?_))
  rw [h2]
  exact wpAny_pure h
theorem nameC_attr {expr : Bool} {v : Value} {o : Obj} {Q : Value → Shared → Prop} (X : K.In s.heap) (hC : K.lookup C = some o) (ho : o.cls = .type "type") (h2 : (o.slots[2]?).join = some v) (hv : handedOut v = pure v) (hop : nsIn K cStatics "thirdparty.any" = some none)
    (e : findCls K (.ref C) (.type "type") "__name__" = some (.get (.builtin "getset_descriptor.__get__") (.builtin "type.__name__") (.ref C) (.type "type")))
    (h : Q v { s with toks := s.toks + 1 }) : wpAny (model prog w) A (getAttr (.ref C) "__name__" expr) Q E s := by
  have LO : Looks (model prog w) s.heap (opaqueClassAbove (.ref C)) none := looks_opaque X hop
  have L0 : Looks (model prog w) s.heap (typeOf (.ref C)) (.type "type") := by
    have z : Looks (model prog w) s.heap (typeOf (.ref C)) o.cls := (Looks.ld (X _ _ hC)).andThen .now
    rw [ho] at z
    exact z
  have hg : findIn K (.type "type") "__getattribute__" = some (some (.builtin "type.__getattribute__")) := type_tga
  refine cls_open X LO L0 hg (looks_hook X (r := none) (by rfl)) (by show subIn K _ _ = _; rfl) e ?_
  show wpAny _ _ (do ret (← holding [Value.builtin "type.__name__"] (call (.builtin "getset_descriptor.__get__") [.builtin "type.__name__", .ref C, .type "type"]))) _ _ _
  refine wpAny_bind (wpAny_holding (wpAny_call (nameC_get (s := { s with toks := s.toks + 1 }) (X _ _ hC) ho h2 ?_)))
  refine wpAny_pure ?_
  show wpAny _ _ (handedOut v) _ _ _
  rw [hv]
  exact wpAny_pure h
theorem classE_attr {x D : Addr} {ox : Obj} {expr : Bool} {Q : Value → Shared → Prop} (hga : findIn K (.ref D) "__getattribute__" = some (some (.builtin "BaseException.__getattribute__"))) (hgt : findIn K (.ref D) "__getattr__" = some none) (hsub : subIn K (.ref D) (.type "BaseException") = some true)
    (hdct : hasDictIn K D = true) (ha : findIn K (.ref D) "__class__" = some (some (.builtin "object.__class__")))
    (hn : specialIn K (.builtin "object.__class__") "__get__" = some (some (.builtin "getset_descriptor.__get__"))) (htk : takesIn K (.builtin "object.__class__") = some true) (hm : mroIn K D (.type "object") = some true)
    (X : K.In s.heap) (I : InstAt s.heap x ox D none) (h : Q (.ref D) { s with toks := s.toks + 1 }) : wpAny (model prog w) A (getAttr (.ref x) "__class__" expr) Q E s := by
  have hf : findObj K D none "__class__" = some (.bind (.builtin "getset_descriptor.__get__") (.builtin "object.__class__")) := findObj_dataN (by obtain ⟨cd, hc, _⟩ := any_some hdct; rw [hc]; rfl) ha hn htk
  obtain ⟨hp, g, d, t, os⟩ := s
  have L0 := I.type (M := model prog w)
  have L1 := looks_findIn (M := model prog w) X hga
  have L2 := looks_findIn (M := model prog w) X hgt
  have L3 := looks_find (M := model prog w) X I hf
  have sub : Looks (model prog w) hp (isInstance (.ref x) (.type "BaseException")) true := L0.andThen (looks_subIn X hsub)
  have hx0 : (expr && onTheHeap (Value.builtin "BaseException.__getattribute__")) = false := Bool.and_false _
  have hx2 : (Value.builtin "BaseException.__getattribute__" == Value.builtin "object.__getattribute__") = false := by decide +kernel
  have hx1 : (onTheHeap (Value.ref D) && Value.builtin "BaseException.__getattribute__" == Value.builtin "object.__getattribute__") = false := by rw [hx2]; rfl
  refine wpAny_bind (wpAny_mkText (wpAny_holding (wpAny_bind (L0.at (wpAny_bind (L1.at ?_))))))
  dsimp only
  rw [hx1, if_neg (by decide)]
  refine wpAny_bind ?_
  unfold hookBefore
  rw [if_pos (show onTheHeap (Value.ref D) = true from rfl)]
  refine L2.at ?_
  refine wpAny_bind (wpAny_attempt (wpAny_holding ?_))
  unfold callGetattribute
  rw [hx0, if_neg Bool.false_ne_true]
  unfold boundAndCalled
  rw [PySem.F.excAttr_ValueError.ga.bind (.ref x)]
  refine wpAny_bind (wpAny_pure ?_)
  show wpAny _ _ (call (.builtin "BaseException.__getattribute__") [.ref x, .str "__class__" t]) _ _ _
  refine wpAny_call (codeAny_call_builtin PySem.F.excAttr_ValueError.ga.plain PySem.F.entry_bexc_ga ?_)
  refine @check_slot (model prog w) _ _ ⟨hp, g, d, t + 1, os⟩ "BaseException.__getattribute__" "BaseException" "__getattribute__" (.ref x) [.str "__class__" t] [] _ (by decide +kernel) (by decide +kernel) sub (PySem.F.args_bexc_ga (.ref x) (.str "__class__" t)) ?_
  unfold Builtin.«object.__getattribute__»
  refine wpAny_bind (wpAny_of_eq (a := ((Value.ref x : Value), [Value.str "__class__" t])) (by first | rfl | (simp only [slotArgs]; rfl)) ?_)
  refine wpAny_bind (wpAny_pure (wpAny_bind (L0.at (wpAny_bind (L3.at ?_)))))
  show wpAny _ _ (holding [Value.builtin "object.__class__"] (call (.builtin "getset_descriptor.__get__") [.builtin "object.__class__", .ref x, .ref D]) >>= ret) _ _ _
  refine wpAny_bind (wpAny_holding (wpAny_call (class_get (s := ⟨hp, g, d, t + 1, os⟩) (ox := ox) (od := none) X I hm ?_)))
  refine wpAny_pure ?_
  show wpAny _ _ (handedOut (.ref D)) _ _ _
  rw [handedOut_of (v := .ref D) rfl]
  exact wpAny_pure h
end
end Vw

set_option Elab.async false
set_option linter.all false
set_option maxRecDepth 100000
set_option maxHeartbeats 4000000
namespace Vw
open PySem PySem.Spec PySem.W PyProof.Rows L2
/-- what the written part says of the name of the class at C -/
structure NmC (K : PySem.W.Frag) (C : Addr) (nm : Str) : Prop where
  o : ∃ (o : Obj) (t : Tok), K.lookup C = some o ∧ o.cls = .type "type" ∧ (o.slots[2]?).join = some (.str nm t)
  op : nsIn K cStatics "thirdparty.any" = some none
  e : findCls K (.ref C) (.type "type") "__name__" = some (.get (.builtin "getset_descriptor.__get__") (.builtin "type.__name__") (.ref C) (.type "type"))
/-- x.__class__.__name__, x an exception that is being made -/
def tClsN (K : PySem.W.Frag) (to : TE) : TE := fun σ H Q => to σ H fun x H1 => ∃ (a C : Addr) (nm : Str), x = .ref a ∧ H1 a = some (exo a C none) ∧ ExcC K C ∧ NmC K C nm ∧ Q (.str nm) H1
section
variable {X : Cx} {e : Expr} {es : List Expr} {te : TE} {p p1 p2 pos : Pos}
theorem pe_clsN (he : PE X e te) (hb1 : attributeBase e "__class__" X.env (eval e X.env) = eval e X.env := by rfl) (hb2 : attributeBase (.Attribute e "__class__" p1) "__name__" X.env (eval (.Attribute e "__class__" p1) X.env) = eval (.Attribute e "__class__" p1) X.env := by rfl) :
    PE X (.Attribute (.Attribute e "__class__" p1) "__name__" p2) (tClsN X.K te) := by
  refine ⟨fun pins s σ H Q I h => ?_⟩
  refine attr_of hb2 (attr_of hb1 (thn (he.run pins s σ H _ I h) fun u s1 ⟨x, H1, I1, rx, a, C, nm, ex, ea, c, n, q⟩ => ?_))
  subst ex
  obtain rfl : u = Value.ref a := rx
  obtain ⟨t1, ho⟩ := exo_at I1.hok ea
  refine classE_attr c.hg c.hk c.hs c.hd c.ha c.hn c.ht c.hm I1.kIn (ox := _) ⟨ho, rfl, rfl, trivial⟩ ?_
  obtain ⟨o, t, n1, n2, n3⟩ := n.o
  refine nameC_attr (I1.tok _).kIn n1 n2 n3 rfl n.op n.e ?_
  exact ⟨.str nm, H1, (I1.tok _).tok _, ⟨t, rfl⟩, q⟩
/-- C(), C's own __init__ keeping sp -/
theorem pmk_oex0 {CX : CXT} {x : Str} {C fI : Addr} {k : Nat} {fd : FuncData} {ps : List Str} {sp : Sp} (T : OexC X.K C) (iC : PySem.W.findIn X.K (.ref C) "__init__" = some (some (.ref fI))) (tI : PySem.W.typeIn X.K (.ref fI) = some (.type "function"))
    (F1 : FnOk X.prog X.w X.K X.mg X.base CX k fI fd ps sp) (hr : Room (k + 1) X.A) (hb : Binds X.K fd ps []) (hx : Passes CX X (fun _ _ _ => False)) (hg : Gl X x) (hm : X.mg x = some (.ref C))
    (hdb : (x == ("__debug__" : Str)) = false := by decide) :
    PMk X (.Call (.Name x p) [] [] pos) (tMkO C sp [] tNil) := by
  intro pins s σ H Q I h
  obtain ⟨nm, q, N, bs, bm, sn, sub, ab, col, dd, k0, k1, k2, k3, k5, hC, hbm⟩ := T.cls
  refine wpAny_Call_Name_kw (ld_glob I hg hm ?_ hdb)
  refine PySem.W.callWith_K0 I.kIn T.kC ?_
  show wpAny _ _ (call (.ref C) []) _ _ _
  obtain ⟨hp, g, dr, tk, os⟩ := s
  obtain ⟨hz, q1⟩ := h
  have hsz : hp.objs.size ≤ hp.objs.size + 1 := Nat.le_succ _
  have hn : H (hp.objs.size + 1) = none := I.hok.fresh hsz
  have hq := q1 (hp.objs.size + 1) hn
  have kk : ∀ b o, hp.get? b = some o → ((hp.push (PySem.W.kdv_tup [])).push (PySem.HandSPX.excO C hp.objs.size)).get? b = some o := fun b o e => Heap.get?_push_of_some _ (Heap.get?_push_of_some _ e)
  have hget : ((hp.push (PySem.W.kdv_tup [])).push (PySem.HandSPX.excO C hp.objs.size)).get? (hp.objs.size + 1) = some (PySem.HandSPX.excO C hp.objs.size) := by heap_get
  have I2 : Inv X pins σ (upd H (hp.objs.size + 1) (exo (hp.objs.size + 1) C none)) ⟨(hp.push (PySem.W.kdv_tup [])).push (PySem.HandSPX.excO C hp.objs.size), g, dr, tk, os⟩ :=
    I.laid (t' := tk) (a := hp.objs.size + 1) (o := exo (hp.objs.size + 1) C none) (h' := (hp.push (PySem.W.kdv_tup [])).push (PySem.HandSPX.excO C hp.objs.size)) kk hsz (exo_ok hget)
  have r2 : Vals [V.ref (hp.objs.size + 1)] [Value.ref (hp.objs.size + 1)] := .cons rfl .nil
  have hl : ([Value.ref (hp.objs.size + 1)] : List Value).length = ps.length := F1.len _ _ _ _ hq
  refine wpAny_call (PySem.HandSPX.call_own F.excBase_ValueError (fun Y => PySem.HandSPX.refsVE_contains Y bm hbm) (I.kIn _ _ hC) (PySem.W.looks_findIn I.kIn iC) (fun self => PySem.W.bind_fn I.kIn self tI) (by show 0 ≤ sizeLine; decide)
    (codeAny_mono (F1.run _ X.stack _ _ ⟨[Value.ref (hp.objs.size + 1)], []⟩ [Value.ref (hp.objs.size + 1)] _ _ (fun _ _ _ => False) (hr.make C [] []) (I2.env0.make C [] []) (hb _ [Value.ref (hp.objs.size + 1)] I2.kIn hl) r2 hq) fun r s' hq' => ?_))
  cases r with
  | error er => exact hx pins σ _ _ er s' I2 hq'
  | ok fl =>
    cases fl with
    | ret u =>
      obtain ⟨v, H2, os2, bare2, un2, hok2, rv, ev, d, fs, ea, ed, hd1, q2⟩ := hq'
      subst ev
      obtain ⟨h2, g2, d2, t2, os'⟩ := s'
      exact ⟨rv, mk_end (raises_own T.exC T.tyC) I hsz kk un2 hok2 os2 bare2 ea ed hd1 q2⟩
    | next => exact False.elim hq'
    | brk => exact False.elim hq'
    | cont => exact False.elim hq'
end
end Vw

set_option Elab.async false
set_option linter.all false
set_option maxRecDepth 100000
set_option maxHeartbeats 4000000
/-! except (x1, x2, x3) as n: after the library's rule for one name -/
namespace Vw
open PySem PySem.Spec PyProof.Rows L2
theorem flying_more {B h h' : Heap} {l : List Env} {a : Addr} {Z : Obj → Prop} (k : ∀ b o, h.get? b = some o → h'.get? b = some o) (x : HandSPX.FlyingZ B l a Z h) : HandSPX.FlyingZ B l a Z h' := by
  obtain ⟨f1, f2, f3, oe, vs, T, oT, ts, he, hz, hd, h1, hnT, hTe, hT, hdT, h3⟩ := x
  exact ⟨fun b ob q => k _ _ (f1 b ob q), f2, f3.of_keeps fun b o q _ => ⟨o, k b o q, rfl⟩, oe, vs, T, oT, ts, k _ _ he, hz, hd, h1, hnT, hTe, k _ _ hT, hdT, h3⟩
/-- what the clause wishes of an exception of the body -/
def wAs3 (K : PySem.W.Frag) (cs : List Value) (i : Nat) (ts : Addr → Value → Option Addr → TS) (Wout : WX) (D : Ends) : WX := fun cls d σ H =>
  ∃ b, PySem.W.exmAny K cls cs = some b ∧ (b = true → ∀ a, H a = none → ts a cls d { nx := fun σ' H' => D.nx (σ'.set i none) H', rt := D.rt, bk := fun σ' H' => D.bk (σ'.set i none) H', ct := fun σ' H' => D.ct (σ'.set i none) H' } (σ.set i (some (.ref a))) H) ∧
    (b = false → Wout cls d σ H)
section
variable {X : Cx} {x1 x2 x3 n : Str} {c1 c2 c3 : Value} {i kk : Nat} {body suite : List Stmt} {b₀ : Stmt} {p1 p2 p3 tpos pos pos' : Pos} {tb : WX → TS} {ts : Addr → Value → Option Addr → TS} {Wout : WX}
theorem ps_try_as3 (hs : X.stack = X.env :: X.outer) (hf : X.env.frame = some X.env.locals) (hN : X.N.Nodup) (hi : X.N[i]? = some n) (hln : X.env.kindOf n = some .local) (n1 : Names X x1 c1) (n2 : Names X x2 c2) (n3 : Names X x3 c3) (tk : Takes X Wout)
    (hb : ∀ (W : WX) (pn : List (Addr × Obj)) (xe : Value → Shared → Prop), Takes (X.tr pn xe) W → PassesOwn (model X.prog X.w) X.A X.env xe → PSs (X.tr pn xe) body (tb W))
    (hsu : ∀ (a : Addr) (oe : Obj) (cls : Value) (d : Option Addr) (pn : List (Addr × Obj)), Zc cls d oe → (∃ vs, oe.data = .fields vs) → PSs (X.suite a ((a, oe) :: pn)) (b₀ :: suite) (ts a cls d)) :
    PS X (.Try body [.ExceptHandler (some (.Tuple [.Name x1 p1, .Name x2 p2, .Name x3 p3] kk tpos)) (some n) (b₀ :: suite) pos'] [] [] pos) (fun D σ H => tb (wAs3 X.K [c1, c2, c3] i ts Wout D) D σ H) := by
  refine ⟨fun pins s σ H D I h => ?_⟩
  have ok := I.ok
  have hfr : X.A.frames = some (X.env :: X.outer) := by rw [ok.frames, hs]
  have hloc : Loc X.env.scope n := .inl hln
  refine wpAny_Try_except ?_
  refine wpAny_mono ((hb (wAs3 X.K [c1, c2, c3] i ts Wout D) (X.pn ++ pins) (fun e s₁ => wpAny (model X.prog X.w) X.A (noteFrame e X.env) (fun _ s₂ => wpAny (model X.prog X.w) X.A (setFlight e none) (fun _ s₃ =>
    wpAny (model X.prog X.w) X.A (handleBy e X.env [.ExceptHandler (some (.Tuple [.Name x1 p1, .Name x2 p2, .Name x3 p3] kk tpos)) (some n) (b₀ :: suite) pos']) (SP X pins D) X.xe s₃) X.xe s₂) X.xe s₁) (fun u s' xx => ?_) PassesOwn.looking).run [] s σ H D (I.toTry _) h) (fun f s1 hsp => ?_) (fun e s1 he => he)
  · obtain ⟨a, B, sI, pins', σ', H', cls, d, rfl, J', nb, up, sky, na, os, ag, b, hb1, hyes, hno⟩ := xx
    have J : Inv X pins σ' H' sI := J'.ofTry ok
    have sky' : Sky B (X.env :: X.outer) a (Zc cls d) X.env.locals s'.heap := by rw [← hs]; exact sky
    show wpAny (model X.prog X.w) X.A (noteFrame (.ref a) X.env) _ _ _
    refine Sky.land Zc.steady hfr hf sky' fun h3 fl3 up3 => ?_
    have J3 : Inv X pins σ' H' { s' with heap := h3 } := J.landed nb fl3.1 (up.trans up3) os ag
    obtain ⟨oe3, vs3, he3, hz3, hd3⟩ := fl3.there
    have nfr : a ∉ frs (X.env :: X.outer) := fun hm => by
      obtain ⟨_, o', e', hnf⟩ := fl3.2.2.1.mem hm
      rw [he3] at e'; cases e'
      exact hnf _ hd3
    have nL : a ≠ X.env.locals := fun z => nfr (List.mem_filterMap.mpr ⟨X.env, List.mem_cons_self, by rw [hf, z]⟩)
    have nF : a ∉ X.fs := fun hm => by
      obtain ⟨e, he, q⟩ := List.mem_filterMap.mp hm
      exact nfr (List.mem_filterMap.mpr ⟨e, List.mem_cons_of_mem _ he, q⟩)
    have S3 := J3.suite he3 hd3 na nL nF
    refine wpAny_handleBy_cons (codeAny_handlers_test ?_) (by intro q; cases q)
    have kp : ∀ b o, h3.get? b = some o → (h3.push { cls := .type "tuple", data := .seq [c1, c2, c3].toArray }).get? b = some o := fun _ _ z => Heap.get?_push_of_some _ z
    have LT : PySem.W.Looks (model X.prog X.w) h3 (typeOf (.ref a)) cls := fun A Q E s k q => wpAny_typeOf_ref (k _ _ he3) (by rw [hz3.1]; exact q)
    have LM := PySem.W.exm_tup3 (M := model X.prog X.w) (J3.kIn.keeps kp) (LT.keeps kp) (Heap.get?_push_size h3 rfl) hb1
    have test : ∀ {x : Str} {c : Value} {np : Pos} {Q : Value → Shared → Prop} {E : Value → Shared → Prop}, Names X x c → Q c { s' with heap := h3 } → wpAny (model X.prog X.w) (X.A.mark (some (.ref a))) (eval (.Name x np) X.env) Q E { s' with heap := h3 } := fun {x c np Q E} hc q => by
      obtain ⟨hg, hdbg, hm | ⟨hm, hv, hnn⟩⟩ := hc
      · exact ld_glob (X := X.suite a ((a, oe3) :: (X.pn ++ pins))) S3 hg hm q hdbg
      · exact ld_blt (X := X.suite a ((a, oe3) :: (X.pn ++ pins))) S3 hg hm hv q hnn hdbg
    have up3 := up3.trans (Heap.UpToSlots.of_keeps kp)
    have fl3 := flying_more kp fl3
    refine wpAny_Tuple (wpAny_items_cons (test n1 (wpAny_items_cons (test n2 (wpAny_items_cons (test n3 (wpAny_items_nil ⟨by size_fits, ?_⟩)))))))
    generalize h3.push { cls := .type "tuple", data := .seq [c1, c2, c3].toArray } = hT at *
    refine LM.here ?_
    cases b with
    | true =>
      refine codeAny_handlers_suite_as ?_
      refine HandSPX.lands_againZ fl3 fun h4 fl4 up4 => ?_
      have J4 : Inv X pins σ' H' { s' with heap := h4 } := J.landed nb fl4.1 ((up.trans up3).trans up4) os ag
      obtain ⟨oe4, vs4, he4, hz4, hd4⟩ := fl4.there
      have S4 := J4.suite he4 hd4 na nL nF
      refine store_ok (X := X.suite a ((a, oe4) :: (X.pn ++ pins))) (v := .ref a) S4 hN hi hloc rfl (fun s5 S5 => ?_) (.inr hln)
      refine wpAny_mono ((hsu a oe4 cls d (X.pn ++ pins) hz4 ⟨_, hd4⟩).run [] s5 _ H' _ S5 (hyes rfl a na)) (fun f s6 hsp => ?_) (fun _ _ z => False.elim z)
      have end_ : ∀ {σ6 : L2.St} {H6 : Hp} {Q : Shared → Prop}, Inv (X.suite a ((a, oe4) :: (X.pn ++ pins))) [] σ6 H6 s6 → (∀ s7, Inv X pins (σ6.set i none) H6 s7 → Q s7) →
          wpAny (model X.prog X.w) X.A (do bindName X.env n .none; unbindBehindTheSuite X.env n pos') (fun _ s7 => Q s7) X.xe s6 := fun {σ6 H6 Q} S6 hq => gone_ok (S6.unsuite ok) hN hi hln hq
      cases f with
      | ret u =>
        obtain ⟨v6, σ6, H6, S6, r6, q6⟩ := hsp
        exact end_ S6 fun s7 J7 => ⟨_, _, _, J7, r6, q6⟩
      | _ =>
        obtain ⟨σ6, H6, S6, q6⟩ := hsp
        exact end_ S6 fun s7 J7 => ⟨_, _, J7, q6⟩
    | false =>
      show wpAny _ X.A (handleBy (.ref a) X.env []) _ _ _
      refine wpAny_handleBy_nil ?_
      obtain ⟨k1, k2, k3, oe, vs, T, oT, ts', he, hz, hd, h1, hr⟩ := id fl3
      unfold PySem.passOn
      refine wpAny_bind (wpAny_field he hd h1 ?_)
      rw [if_neg (show ¬ ((Value.ref T == Value.none) = true) from by simp)]
      have fin : wpAny (model X.prog X.w) X.A (setFlight (.ref a) X.env.frame) (fun _ s4 => wpAny (model X.prog X.w) X.A (throw (.ref a) : Sem Flow) (SP X pins D) X.xe s4) X.xe { s' with heap := hT } := by
        rw [hf]
        refine HandSPX.setFlight_upZ fl3 fun h4 hh4 up4 => wpAny_throw (tk _ _ ?_)
        exact ⟨a, B, sI, pins, σ', H', cls, d, rfl, J, nb, (up.trans up3).trans up4, .inr (.inr (by rw [hs]; exact hh4)), na, os, ag, hno rfl⟩
      first
        | exact wpAny_bind (wpAny_pure (wpAny_bind fin))
        | exact wpAny_bind fin
  · cases f with
    | next =>
      obtain ⟨σ', H', J', q⟩ := hsp
      exact wpAny_execs_nil ⟨σ', H', J'.ofTry ok, q⟩
    | ret u =>
      obtain ⟨v, σ', H', J', r, q⟩ := hsp
      exact ⟨v, σ', H', J'.ofTry ok, r, q⟩
    | _ =>
      obtain ⟨σ', H', J', q⟩ := hsp
      exact ⟨σ', H', J'.ofTry ok, q⟩
end
end Vw

set_option Elab.async false
set_option linter.all false
set_option maxRecDepth 100000
set_option maxHeartbeats 4000000
/-! own exceptions: made and raised without arguments; caught, asked and handed on -/
namespace Vw
open PySem PySem.Spec PyProof.Rows L2
/-! ### raising -/
/-- what the written part says of a class that is raised -/
structure RzC (K : PySem.W.Frag) (C fI : Addr) (nm : Str) : Prop where
  ox : OexC K C
  ex : ExcC K C
  nc : NmC K C nm
  xf : XfC K C
  no : PySem.W.findIn K (.ref C) "code" = some none
  iC : PySem.W.findIn K (.ref C) "__init__" = some (some (.ref fI))
  tI : PySem.W.typeIn K (.ref fI) = some (.type "function")
def codeF (nm : Str) : List (Str × V) := [("code", .str nm)]
def spInit (C : Addr) (nm : Str) : Sp := fun vs H Q _ => ∃ a, vs = [.ref a] ∧ H a = some (exo a C none) ∧ ∀ d, H d = none → d ≠ a → Q .non (upd (upd H d (exd d (codeF nm))) a (exo a C (some d)))
/-- the exception's dict stands, the exception itself is let go -/
theorem raise_end {H : Hp} {a d C : Addr} {nm : Str} (ha : H a = none) (hd : (upd H a (exo a C none)) d = none) (hda : d ≠ a) :
    Same H (upd (del (upd (upd (upd H a (exo a C none)) d (exd d (codeF nm))) a (exo a C (some d))) a) d (.xd (codeF nm))) := by
  have hd0 : H d = none := by rw [upd_ne hda] at hd; exact hd
  intro b o hb
  have h1 : b ≠ d := ne_of_none hb hd0
  have h2 : b ≠ a := ne_of_none hb ha
  rw [upd_ne h1, del_ne h2, upd_ne h2, upd_ne h1, upd_ne h2]
  exact hb
section
variable {P : Program} {w : World} {K : PySem.W.Frag} {mg : Str → Option Value} {base : Heap}
theorem ok_initC {qual : Str} {st : Stmt} {fI fJ C : Addr} {fd : FuncData} {nm : Str} {k : Nat} (F : Fun K "__init__" qual st fI fd) (R : RzC K C fJ nm) {p1 p2 p3 p4 p5 p6 : Pos} (hb : defBody st = [.Assign [.Attribute (.Name "self" p1) "code" p2] (.Attribute (.Attribute (.Name "self" p3) "__class__" p4) "__name__" p5) p6])
    (S : FnScope ["self"] ["self"] (defScope st)) (hv : Vis (defScope st) "self") : FnOk P w K mg base CX0 (k + 1) fI fd ["self"] (spInit C nm) := by
  refine F.ok S (fun vs H Q E h => ?_) (fun cdv A outer s H vs Q E hr h => ?_)
  · obtain ⟨_, rfl, _⟩ := h; rfl
  obtain ⟨a, rfl, ha, q⟩ := h
  rw [hb]
  refine ⟨_, pss_one (ps_ost (pe_var (i := 0) rfl hv) (pe_clsN (pe_var (i := 0) rfl hv))), ?_⟩
  exact ⟨_, rfl, a, C, nm, rfl, ha, R.ex, R.nc, _, rfl, a, C, rfl, R.ox, R.no, .inl ⟨ha, fun dx h1 h2 => q dx h1 h2⟩⟩
/-- C() and its raise -/
theorem ps_rz {X : Cx} {C fI : Addr} {fd : FuncData} {nm x : Str} {W : WX} {k : Nat} {p pos pos2 : Pos} (R : RzC X.K C fI nm) (hcalm : X.calm = true) (F1 : FnOk X.prog X.w X.K X.mg X.base CX0 k fI fd ["self"] (spInit C nm)) (b : Binds X.K fd ["self"] []) (hr : Room (k + 1) X.A)
    (hg : Gl X x) (hm : X.mg x = some (.ref C)) (tk : Takes X W) (hdb : (x == ("__debug__" : Str)) = false := by decide) :
    PS X (.Raise (some (.Call (.Name x p) [] [] pos)) none pos2) (fun _ σ H => ∀ (d : Addr) (H' : Hp), Same H H' → H d = none → H' d = some (.xd (codeF nm)) → W (.ref C) (some d) σ H') := by
  have PR := ps_raise (pos := pos2) hcalm tk (pmk_oex0 (p := p) (pos := pos) R.ox R.iC R.tI F1 hr b pass0 hg hm hdb)
  refine ⟨fun pins s σ H D I h => PR.run pins s σ H D I ?_⟩
  refine ⟨by decide, fun a ha => ⟨a, rfl, upd_same, fun d hd hda => ?_⟩⟩
  have hd0 : H d = none := by rw [upd_ne hda] at hd; exact hd
  exact ⟨rfl, d, codeF nm, upd_same, by rw [upd_ne hda, upd_same], hd0, h d _ (raise_end ha hd hda) hd0 upd_same⟩
end
/-! ### a field of an exception that is held -/
def tXfA (K : PySem.W.Frag) (a : Addr) (cls : Value) (d : Option Addr) (f : Str) (te : TE) : TE := fun σ H Q => te σ H fun x H1 => x = .ref a ∧ ∃ (C dd : Addr) (fs : List (Str × V)) (v : V), cls = .ref C ∧ d = some dd ∧ XfC K C ∧ PySem.W.findIn K (.ref C) f = some none ∧ H1 dd = some (.xd fs) ∧ fs.lookup f = some v ∧ Q v H1
theorem pe_xfP {X : Cx} {a : Addr} {oe : Obj} {cls : Value} {d : Option Addr} {e : Expr} {te : TE} {pos : Pos} {n : Str} (hp : (a, oe) ∈ X.pn) (hz : Zc cls d oe) (hf : ∃ vs, oe.data = .fields vs) (he : PE X e te) (hb : attributeBase e n X.env (eval e X.env) = eval e X.env := by rfl) :
    PE X (.Attribute e n pos) (tXfA X.K a cls d n te) := by
  refine ⟨fun pins s σ H Q I h => ?_⟩
  refine attr_of hb (thn (he.run pins s σ H _ I h) fun u s1 hh => ?_)
  obtain ⟨x, H1, I1, rx, ex, C, dd, fs, v, ec, ed, T, hno, ea, l, q⟩ := hh
  subst ex ec
  obtain rfl : u = Value.ref a := rx
  subst ed
  have ha := (I1.pin (a, oe) (List.mem_append_left _ hp)).1
  obtain ⟨vs, hd⟩ := hf
  obtain ⟨mA, hns, hr⟩ : ObjOk X.prog X.w H1 s1.heap dd (.xd fs) := I1.hok dd _ ea
  obtain ⟨od, ho, hl⟩ := lookIn_ns hns
  obtain ⟨u, hu, ru⟩ := RelO.some_of (v := v) (o := mA n) (by rw [← l]; exact hr n)
  have J : PySem.W.InstAt s1.heap a oe C (some od) := ⟨ha, hz.1, by unfold PySem.W.notCls; rw [hd] <;> rfl, by rw [hz.2]; exact ho⟩
  exact HandSPX.exc_get I1.kIn J T.ga T.gg T.exC (PySem.W.findObj_own T.hdC hno rfl (by rw [hl, hu])) (handed_of ru) ⟨v, H1, I1.tok _, ru, q⟩
/-! ### a def that is handed the held exception -/
/-- the promise of a def that is called while p is held: it raises nothing -/
structure FnP (P : Program) (w : World) (K : PySem.W.Frag) (mg : Str → Option Value) (base : Heap) (k : Nat) (f : Addr) (fd : FuncData) (ps : List Str) (sp : Addr → Value → Option Addr → Sp) : Prop where
  len : ∀ a cls d vs H Q E, sp a cls d vs H Q E → vs.length = ps.length
  run : ∀ (A : Around) (outer : List Env) (s : Shared) (H : Hp) (args : Args) (us : List Value) (vs : List V) (Q : VK) (p : Addr × Obj) (cls : Value) (d : Option Addr), L2H.RoomH k A → L2H.PinOk outer H s p → Zc cls d p.2 → (∃ vs, p.2.data = .fields vs) → Env0 P w K mg base A outer s H → BindsTo s fd args (ps.zip us) → Vals vs us → sp p.1 cls d vs H Q E0 →
    codeAny (model P w) A (.call (.ref f) args) (CR CX0 outer P w H s Q E0) s
theorem fn_ofP {P : Program} {w : World} {K : PySem.W.Frag} {mg : Str → Option Value} {base : Heap} {k : Nat} {f : Addr} {x qual : Str} {st : Stmt} {fd : FuncData} {N ps : List Str} {sp : Addr → Value → Option Addr → Sp} (F : Fun K x qual st f fd) (S : FnScope N ps (defScope st))
    (len : ∀ a cls d vs H Q E, sp a cls d vs H Q E → vs.length = ps.length)
    (hbody : ∀ (cdv : Value) (A : Around) (outer : List Env) (s : Shared) (H : Hp) (vs : List V) (Q : VK) (p : Addr × Obj) (cls : Value) (d : Option Addr), Zc cls d p.2 → (∃ vs, p.2.data = .fields vs) → sp p.1 cls d vs H Q E0 →
      ∃ t, PSs (L2H.cxH CX0 P w K mg base N qual (defScope st) f cdv A outer s H E0 p) (defBody st) t ∧ t { nx := fun _ H' => Q .non H', rt := Q } (L2.start N vs) H) :
    FnP P w K mg base (k + 1) f fd ps sp := by
  obtain ⟨oc, od, kV, doc, pm, an, cdv, ct, osl, rfl, lk, hcd⟩ := F.ex
  refine ⟨len, fun A outer s H args us vs Q p cls d hr hpin hz hf e0 hb r hsp => ?_⟩
  have hl := len _ _ _ _ _ _ _ hsp
  have KX : K.In s.heap := e0.mod.kin.keeps fun b o e => (e0.bs b o e).1
  have lim : s.heap.NoLimit := e0.mod.nolimit.keeps fun b o e => (e0.bs b o e).1
  refine codeAny_call_function hr.depth (KX _ _ lk) rfl S.co S.gen rfl (PySem.W.codeRec_of KX hcd) (hb _ _ _ _ ?_)
  refine wpAny_newFunctionEnv_cells S.kind (fun ⟨n, v⟩ hy => (S.par n (List.of_mem_zip hy).1).elim .inl fun q => .inr ⟨q, PySem.W.cellsFrom_some _ _ _ (.inl q)⟩) fun env he s1 y => ?_
  subst he
  refine ⟨lim.keeps y.toInCall.keep, codeAny_func ?_⟩
  obtain ⟨t, ht, hq⟩ := hbody cdv A outer s H vs Q p cls d hz hf hsp
  refine wpAny_mono (ht.run [] s1 (L2.start N vs) H _ (L2H.inv_startH S hpin e0 hl r y) hq) (fun fl s' hs => ?_) fun e s' hs => hs
  cases fl with
  | ret u =>
    obtain ⟨v, σ', H', J, rv, q⟩ := hs
    exact ⟨v, H', J.os, J.bare, J.base, J.hok, rv, q⟩
  | next =>
    obtain ⟨σ', H', J, q⟩ := hs
    exact ⟨.non, H', J.os, J.bare, J.base, J.hok, rfl, q⟩
  | brk =>
    obtain ⟨_, _, _, q⟩ := hs
    exact q.elim
  | cont =>
    obtain ⟨_, _, _, q⟩ := hs
    exact q.elim
def tCallP (sp : Addr → Value → Option Addr → Sp) (a : Addr) (cls : Value) (d : Option Addr) (t : L2.TA) : TE := fun σ H Q => t σ H fun vs H1 => sp a cls d vs H1 Q E0
theorem pe_callP {X : Cx} {k : Nat} {f : Addr} {fd : FuncData} {ps : List Str} {sp : Addr → Value → Option Addr → Sp} {a : Addr} {oe : Obj} {cls : Value} {d : Option Addr} {x : Str} {q pos : Pos} {e : Expr} {es : List Expr} {t : L2.TA} (F : FnP X.prog X.w X.K X.mg X.base k f fd ps sp) (hr : L2H.RoomH k X.A) (hp : (a, oe) ∈ X.pn) (hz : Zc cls d oe) (hf : ∃ vs, oe.data = .fields vs)
    (hg : Gl X x) (hm : X.mg x = some (.ref f)) (hk : PySem.W.keepIn X.K (.ref f) = true) (hb : Binds X.K fd ps [])
    (ha : PA X (e :: es) t) (hdb : (x == ("__debug__" : Str)) = false := by decide) (he : starEach (e :: es) X.env = (false, eval e X.env) :: starEach es X.env := by rfl) (hpl : (backTo pos (starEach es X.env)).any (·.1) = false := by rfl) :
    PE X (.Call (.Name x q) (e :: es) [] pos) (tCallP sp a cls d t) := by
  refine ⟨fun pins s σ H Q I h => ?_⟩
  refine wpAny_Call_Name_kw (ld_glob I hg hm ?_ hdb)
  refine PySem.W.callWith_K (h₀ := X.base) I.ok.mod.kin hk (thn (ha.run pos pins s σ H _ I h) fun us s1 ⟨vs, H1, I1, r, h1⟩ => ⟨I1.kIn, ?_⟩) he hpl
  have hl : us.length = ps.length := by rw [← r.length]; exact F.len _ _ _ _ _ _ _ h1
  have b := hb s1 us I1.kIn (by rw [List.append_nil]; exact hl)
  rw [List.append_nil] at b
  have P1 := I1.pin (a, oe) (List.mem_append_left _ hp)
  refine wpAny_call (codeAny_mono (F.run X.A X.stack s1 H1 ⟨us, []⟩ us vs Q (a, oe) cls d hr ⟨P1.1, P1.2.1, fun m => (List.mem_cons.mp (I1.stkSub a m)).elim P1.2.2.1 P1.2.2.2.1, P1.2.2.2.2⟩ hz hf I1.env0 b r h1) fun r s' hq => ?_)
  cases r with
  | error e => exact (show False from hq).elim
  | ok fl =>
    cases fl with
    | ret u => exact I1.after hq
    | next => exact False.elim hq
    | brk => exact False.elim hq
    | cont => exact False.elim hq
/-! ### tables of code objects under changes -/
theorem TabS.kp {H H' : Hp} {P b : Addr} {q : Str} {ys : List V} (t : LamX.TabS H P q) (k : Kp b H H') (hb : H b = some (.lst ys)) : LamX.TabS H' P q := by
  obtain ⟨ps, h1, h2, h3⟩ := t
  refine ⟨ps, k _ _ (fun z => by rw [z, hb] at h1; cases h1) h1, h2, fun pos cv hc => ?_⟩
  obtain ⟨c, e1, e2⟩ := h3 pos cv hc
  exact ⟨c, e1, k _ _ (fun z => by rw [z, hb] at e2; unfold LamX.CodeO at e2; cases e2) e2⟩
theorem tabs_kp {T : List (Addr × Str)} {H H' : Hp} {b : Addr} {ys : List V} (t : LamX.Tabs T H) (k : Kp b H H') (hb : H b = some (.lst ys)) : LamX.Tabs T H' := fun p hp => TabS.kp (t p hp) k hb
theorem tabs_same {T : List (Addr × Str)} {H H' : Hp} (t : LamX.Tabs T H) (s : Same H H') : LamX.Tabs T H' := t.ext s
theorem Bag.b {l : Addr} {H : Hp} {b : Addr} (h : Bag l H b) : ∃ ys, H b = some (.lst ys) := by
  obtain ⟨ns, i, g, s, k, h1, h2, _⟩ := h
  exact ⟨_, h2⟩
theorem tabs_bag {T : List (Addr × Str)} {l : Addr} {H H' : Hp} {b : Addr} (t : LamX.Tabs T H) (B : Bag l H b) (k : Kp b H H') : LamX.Tabs T H' := by
  obtain ⟨ys, hb⟩ := B.b
  exact tabs_kp t k hb
theorem ext_tp {H H' : Hp} (e : LamX.ExtN H H') : Tp H H' := fun a xs h => e a _ h fun ps z => by cases z
theorem Bag.ext {l : Addr} {H H' : Hp} {b : Addr} (h : Bag l H b) (e : LamX.ExtN H H') : Bag l H' b := by
  obtain ⟨ns, i, g, s, k, h1, h2, h3, h4⟩ := h
  exact ⟨ns, i, g, s, k, h1, e _ _ h2 (fun ps z => by cases z), e _ _ h3 (fun ps z => by cases z), h4⟩
end Vw

set_option Elab.async false
set_option linter.all false
set_option maxRecDepth 100000
set_option maxHeartbeats 4000000
/-! a lambda asked under try; the law's end where it makes lambdas -/
namespace Vw
open PySem PySem.Spec PyProof.Rows L2
theorem tab_mk {K : PySem.W.Frag} {f cl Pl : Addr} {x qual : Str} {pr : Arguments} {bd : List Stmt} {sc : Scope} {dV kV dc pm ct oc occ : Value} {an od odc : Option Addr} {sl slc : Array (Option Value)} {vs : Array Value} (a : PySem.W.nsIn K mainGlobals x = some (some (.ref f)))
    (l : K.lookup f = some ⟨oc, od, .func (PySem.W.fnOf x qual pr bd sc dV kV dc pm an (.ref cl) ct), sl⟩) (lc : K.lookup cl = some ⟨occ, odc, .fields vs, slc⟩) (h : vs[11]? = some (.ref Pl)) : PySem.W.tabIn K x = some (cl, Pl) := by
  unfold PySem.W.tabIn
  rw [a]
  dsimp only
  rw [l]
  dsimp only
  show (match (Value.ref cl : Value) with | .ref c => _ | _ => none) = _
  dsimp only
  rw [lc]
  dsimp only
  rw [h]
theorem exm3 {K : PySem.W.Frag} {cls : Value} {A B C : Addr} (a1 : PySem.W.subIn K (.ref A) (.type "BaseException") = some true) (a2 : PySem.W.hasDictIn K A = true) (a3 : PySem.W.typeIn K (.ref A) = some (.type "type")) (b1 : PySem.W.subIn K (.ref B) (.type "BaseException") = some true) (b2 : PySem.W.hasDictIn K B = true) (b3 : PySem.W.typeIn K (.ref B) = some (.type "type"))
    (c1 : PySem.W.subIn K (.ref C) (.type "BaseException") = some true) (c2 : PySem.W.hasDictIn K C = true) (c3 : PySem.W.typeIn K (.ref C) = some (.type "type")) (ha : PySem.W.subIn K cls (.ref A) = some true) (hb : PySem.W.subIn K cls (.ref B) = some false) (hc : PySem.W.subIn K cls (.ref C) = some false) :
    PySem.W.exmAny K cls [.ref A, .ref B, .ref C] = some true := by
  unfold PySem.W.exmAny
  rw [PySem.W.exm_ref a1 a2 a3 ha]
  unfold PySem.W.exmAny
  rw [PySem.W.exm_ref b1 b2 b3 hb]
  unfold PySem.W.exmAny
  rw [PySem.W.exm_ref c1 c2 c3 hc]
  unfold PySem.W.exmAny
  rfl
/-! ### fields and told -/
def grp1 : List V := [.str "InvalidName", .str "DuplicateName", .str "Unguarded", .str "InvalidDoer", .str "UnknownName"]
def grp2 : List V := [.str "InvalidSentence", .str "InvalidCommand"]
def grp3 : List V := [.str "TooMany", .str "TooLong"]
/-- a code without fields -/
def plainC (nm : Str) : Bool := !inV (.str nm) grp1 && (!inV (.str nm) grp2 && (!inV (.str nm) grp3 && (!decide (V.str nm = V.str "InvalidLimit") && !decide (V.str nm = V.str "ParseError"))))
theorem code_look (nm : Str) : (codeF nm).lookup ("code" : Str) = some (V.str nm) := by simp [codeF, List.lookup]
/-- what is known of an error that is held -/
structure ErrA (K : PySem.W.Frag) (H : Hp) (cls : Value) (d : Option Addr) (nm : Str) : Prop where
  ex : ∃ C dd : Addr, cls = .ref C ∧ d = some dd ∧ XfC K C ∧ PySem.W.findIn K (.ref C) "code" = some none ∧ H dd = some (.xd (codeF nm))
theorem ErrA.same {K : PySem.W.Frag} {H H' : Hp} {cls : Value} {d : Option Addr} {nm : Str} (h : ErrA K H cls d nm) (s : Same H H') : ErrA K H' cls d nm := by
  obtain ⟨C, dd, a, b, c, e, f⟩ := h.ex
  exact ⟨C, dd, a, b, c, e, s _ _ f⟩
def spFields (K : PySem.W.Frag) : Addr → Value → Option Addr → Sp := fun a cls d vs H Q _ => ∃ nm : Str, vs = [.ref a] ∧ ErrA K H cls d nm ∧ plainC nm = true ∧ ∀ (q : Addr) (H' : Hp), Same H H' → TT K H' q [] → Q (.ref q) H'
def TTold3 (K : PySem.W.Frag) (cs : List Value) : (XK → Hp → VK → Prop) → Hp → VK → Prop := fun tl H Q =>
  tl (fun cls d H' => ∃ nm : Str, ErrA K H' cls d nm ∧ PySem.W.exmAny K cls cs = some true ∧ plainC nm = true ∧ ∀ (p : Addr) (H'' : Hp), Same H' H'' → TT K H'' p [.str "no", .str nm] → Q (.ref p) H'') H
    (fun v H' => [V.str "told", v].length ≤ sizeLine ∧ ∀ p : Addr, H' p = none → Q (.ref p) (upd H' p (.tup [.str "told", v])))
theorem takes_len {X : Cx} {W : WX} (tk : Takes X W) : Takes X (fun cls d σ H => σ.length = X.N.length → W cls d σ H) := fun u s' xx => by
  obtain ⟨a, B, sI, pins, σ, H, cls, d, rfl, J, nb, up, sky, na, os, ag, w⟩ := xx
  exact tk _ _ ⟨a, B, sI, pins, σ, H, cls, d, rfl, J, nb, up, sky, na, os, ag, w J.len⟩
theorem told_gives3 {X : Cx} {Ng : List Str} {x x1 x2 x3 xf q : Str} {sg : Scope} {g A1 A2 A3 ff : Addr} {fdf : FuncData} {cdg : Value} {k j1 j2 kt kk : Nat} {p1 p2 p3 p4 p5 p6 p7 p8 p9 p10 p11 p12 p13 p14 p15 p16 p17 p18 p19 p20 : Pos}
    (hr : Room (k + 2) X.A) (FF : FnP X.prog X.w X.K X.mg X.base k ff fdf ["_law_e"] (spFields X.K)) (mf : X.mg xf = some (.ref ff)) (kf : PySem.W.keepIn X.K (.ref ff) = true) (bf : Binds X.K fdf ["_law_e"] []) (gf : sg.names.lookup xf = some .globalImplicit) (df : (xf == ("__debug__" : Str)) = false)
    (g1 : sg.names.lookup x1 = some .globalImplicit) (m1 : X.mg x1 = some (.ref A1)) (d1 : (x1 == ("__debug__" : Str)) = false) (g2 : sg.names.lookup x2 = some .globalImplicit) (m2 : X.mg x2 = some (.ref A2)) (d2 : (x2 == ("__debug__" : Str)) = false)
    (g3 : sg.names.lookup x3 = some .globalImplicit) (m3 : X.mg x3 = some (.ref A3)) (d3 : (x3 == ("__debug__" : Str)) = false) (nd : Ng.Nodup) (n1 : Ng[1]? = some ("_law_e" : Str)) (le : sg.names.lookup ("_law_e" : Str) = some NameKind.local) (h0 : ∀ f : Addr, (L2.start Ng [V.ref f])[0]? = some (some (V.ref f))) (hlen : 1 < Ng.length) :
    LamX.GivesTo X Ng x sg g cdg [.Try [.Return (some (.Tuple [.Constant (.str "told") j1 p1, .Call (.Name "_law_ask_z" p2) [] [] p3] kt p4)) p5]
      [.ExceptHandler (some (.Tuple [.Name x1 p6, .Name x2 p7, .Name x3 p8] kk p9)) (some "_law_e") [.Return (some (.BinOp (.Tuple [.Constant (.str "no") j2 p10, .Attribute (.Name "_law_e" p11) "code" p12] kt p13) .Add (.Call (.Name xf p14) [.Name "_law_e" p15] [] p16) p17)) p18] p19] [] [] p20] "_law_ask_z" q (TTold3 X.K [.ref A1, .ref A2, .ref A3]) := by
  intro f c' s H Q tl act hc h
  have hve : Vis sg "_law_e" := .inl le
  have hrH := (L2H.roomH_of (hr.deeper (envOfC x sg s.heap.objs.size g cdg))).mono (Nat.le_succ k)
  refine ⟨_, pss_one (ps_try_as3 (X := (cxOf C8.CX0 X.prog X.w X.K X.mg X.base Ng x sg g cdg X.A X.stack s H C8.E0).nox) (i := 1) (c1 := .ref A1) (c2 := .ref A2) (c3 := .ref A3)
      (tb := fun W D σ H => ∃ Ech : XK, (∀ cls d (σ' : L2.St) H', Ech cls d H' → σ'.length = Ng.length → W cls d σ' H') ∧ σ[0]? = some (some (.ref f)) ∧ H c' = some (LamX.CodeO c' q) ∧ tl Ech H (fun v H1 => [V.str "told", v].length ≤ sizeLine ∧ ∀ p : Addr, H1 p = none → D.rt (.ref p) (upd H1 p (.tup [.str "told", v]))))
      (ts := fun a cls d => tRet (tOp (rCatO X.K) (tTup (tCons (tC (.str "no")) (tCons (tXfA X.K a cls d "code" (tVar 1)) tNil))) (tCallP (spFields X.K) a cls d (tCons (tVar 1) tNil))))
      rfl rfl nd n1 le ⟨g1, d1, .inl m1⟩ ⟨g2, d2, .inl m2⟩ ⟨g3, d3, .inl m3⟩ LamX.takes0 (fun W pn xe tk _ => ?_)
      (fun a oe cls d pn hz hf => pss_one (ps_ret (pe_op op_catO (pe_tup (pa_cons pe_str (pa_cons (pe_xfP (X := (cxOf C8.CX0 X.prog X.w X.K X.mg X.base Ng x sg g cdg X.A X.stack s H C8.E0).nox.suite a ((a, oe) :: pn)) (n := "code") (a := a) (oe := oe) List.mem_cons_self hz hf (pe_var (x := "_law_e") (i := 1) n1 hve)) pa_nil)))
        (pe_callP (X := (cxOf C8.CX0 X.prog X.w X.K X.mg X.base Ng x sg g cdg X.A X.stack s H C8.E0).nox.suite a ((a, oe) :: pn)) (a := a) (oe := oe) FF ⟨hrH.dp, hrH.un⟩ List.mem_cons_self hz hf gf mf kf bf (pa_cons (pe_var (x := "_law_e") (i := 1) n1 hve) pa_nil) df))))), ?_⟩
  · refine ⟨fun pins s' σ H' D I h' => ?_⟩
    obtain ⟨Ech, hW, h1, h2, h3⟩ := h'
    have hq : PSs ((cxOf C8.CX0 X.prog X.w X.K X.mg X.base Ng x sg g cdg X.A X.stack s H C8.E0).tr pn xe) [.Return (some (.Tuple [.Constant (.str "told") j1 p1, .Call (.Name "_law_ask_z" p2) [] [] p3] kt p4)) p5] _ := pss_one (ps_ret (pos := p5) (pe_tup (pos := p4) (pa_cons (pe_str (x := "told") (j := j1) (pos := p1)) (pa_cons (act _ pn xe Ech p2 p3 (takes_len tk) hW) pa_nil))))
    refine hq.run pins s' σ H' D I ?_
    exact ⟨h1, h2, h3⟩
  · refine ⟨_, fun cls d σ' H' hE hlen' => ?_, h0 f, hc, h⟩
    obtain ⟨nm, hA, hex, hpl, hQ⟩ := hE
    refine ⟨true, hex, fun _ a ha => ?_, fun z => Bool.noConfusion z⟩
    obtain ⟨C, dd, rfl, rfl, hx, hno, hdd⟩ := id hA.ex
    have hset : (σ'.set 1 (some (V.ref a)))[1]? = some (some (V.ref a)) := List.getElem?_set_self (by rw [hlen']; exact hlen)
    refine ⟨_, hset, rfl, C, dd, codeF nm, .str nm, rfl, rfl, hx, hno, hdd, code_look nm, (by show 2 ≤ sizeLine; decide), fun p np => ⟨_, hset, nm, rfl, hA.same (same_new np), hpl, fun q2 H2 s2 t2 => ?_⟩⟩
    refine rd_cat ((TT.of upd_same).same s2) t2 (by show 2 + 0 ≤ 10000000; decide) fun p3 H3 s3 t3 => ?_
    exact hQ p3 H3 (((same_new np).trans s2).trans s3) t3
/-! ### a def that makes lambdas; a def that raises; the law's end -/
section
variable {P : Program} {w : World} {K : PySem.W.Frag} {mg : Str → Option Value} {base : Heap}
theorem fn_okC {x qual : Str} {st : Stmt} {f cl : Addr} {fd : FuncData} {N ps : List Str} {k : Nat} {sp : Sp} (F : Fun K x qual st f fd) (hc : fd.code = .ref cl) (S : FnScope N ps (defScope st)) (len : ∀ vs H Q E, sp vs H Q E → vs.length = ps.length)
    (hbody : ∀ (A : Around) (outer : List Env) (s : Shared) (H : Hp) (vs : List V) (Q : VK) (E : XK), Room k (A.deeper (envOfC qual (defScope st) s.heap.objs.size f (.ref cl))) → sp vs H Q E →
      ∃ t, PSs (cxOf CX0 P w K mg base N qual (defScope st) f (.ref cl) A outer s H E).nox (defBody st) t ∧ t { nx := fun _ H' => Q .non H', rt := Q } (start N vs) H) : FnOk P w K mg base CX0 (k + 1) f fd ps sp := by
  obtain ⟨oc, od, kV, doc, pm, an, cdv, ct, osl, rfl, lk, hcd⟩ := F.ex
  obtain rfl : cdv = Value.ref cl := hc
  refine fn_of lk hcd S len fun A outer s H vs Q E hr hsp => ?_
  obtain ⟨t, h, q⟩ := hbody A outer s H vs Q E hr hsp
  exact ⟨t, h.nox, q⟩
/-- a def that may raise, as it is called -/
structure CalX (P : Program) (w : World) (K : PySem.W.Frag) (mg : Str → Option Value) (base : Heap) (k : Nat) (x : Str) (ps : List Str) (sp : Sp) (f : Addr) (fd : FuncData) : Prop where
  G : FnOk P w K mg base (L2.CX P w) k f fd ps sp
  m : mg x = some (.ref f)
  kp : PySem.W.keepIn K (.ref f) = true
  b : Binds K fd ps []
end
/-- where lambdas stand for a law -/
def lamQ : Str := ("law" : Str) ++ ".<locals>." ++ "<lambda>"
def lamT (Pl : Addr) : List (Addr × Str) := [(Pl, lamQ)]
def spLawT (K : PySem.W.Frag) (Pl : Addr) : Sp := fun vs H Q _ => ∃ (a : Addr) (ns : List Int), vs = [.ref a] ∧ SqL K H a (ns.map V.int) ∧ ns.length ≤ 63 ∧ LamX.Tabs (lamT Pl) H ∧ ∀ H', Q (.bl true) H'
theorem walk_ofT3 {l : PySem.W.OpenLaw} {n k : Nat} {q : Program} {loose : List Str} {XP : (Str → Option Value) → Heap → Prop} {YP : World → Heap → Prop} {d : DefRec} {K : Params → PySem.W.Frag} {CX : World → CXT} {x y : Str}
    (hn : l.most = some n) (hn2 : n ≤ sizeLine) (hdf : d.params.defaults = []) (hr : Room k callerA) (hY : ∀ (w : World) (h : Heap), YP w h → (K w.params).In h) (hrec : (recsOf q).find? (fun e => e.name == y) = some d)
    (F : ∀ (w : World) (mg : Str → Option Value) (fa : Addr) (h : Heap), (K w.params).In h → h.Ns mainGlobals mg → mg d.name = some (.ref fa) →
      (∀ c P, PySem.W.tabIn (K w.params) y = some (c, P) → PySem.W.CodeHd h c P ∧ h.get? P = some (PySem.W.tabObj #[])) → LamX.LawAtS l w (K w.params) (CX w) k n x mg fa h)
    (hCX : ∀ (w : World) (H : Hp) (s : Shared) (e : Value) (s' : Shared), CX w [] H s (fun _ _ _ => False) e s' → False) :
    PySem.W.WalkO q loose XP YP l.row.toRowW d [] (fun f vs => PySem.call f vs) := by
  refine Att.attach_callB hn hdf fun w s₀ s₁ mg mb fa o pm cd doc a vs ns G Y ho hd hcd hmg hobj hints hlen hbits hg => ?_
  have KX := hY w _ Y
  obtain ⟨fd, cs, sp, hT, nT, C, hb, hsp, hF⟩ := F w mg fa _ KX G.T.g hmg fun c P ht => PySem.W.tab_of G.T KX hrec ht
  exact LamX.law_callTs KX G.T.g G.T.b G.T.builtins G.T.nolimit hg hT nT C G.T.bmain hobj hints (Nat.le_trans hlen hn2) hr hF hb (fun H hH hS => hsp H a ns hlen hbits hH hS) fun H e s' => hCX w H s₁ e s'
/-! ### data where a lambda is made; an expression whose answer is told once -/
section
variable {K : PySem.W.Frag} {H H' : Hp}
theorem rd_ext {a : Addr} {u : HO} (e : LamX.ExtN H H') (h : Rd H a u) (n : ∀ ps, u ≠ .tbl ps) : Rd H' a u := by
  rcases h with h | ⟨o, h⟩
  · exact .inl (e _ _ h n)
  · exact .inr ⟨o, e _ _ h fun ps z => by cases z⟩
theorem sql_ext {a : Addr} {xs : List V} (e : LamX.ExtN H H') (h : SqL K H a xs) : SqL K H' a xs := h.imp (fun h => rd_ext e h fun ps z => by cases z) id
theorem sqt_ext {a : Addr} {xs : List V} (e : LamX.ExtN H H') (h : SqT K H a xs) : SqT K H' a xs := h.imp (fun h => rd_ext e h fun ps z => by cases z) id
mutual
theorem dp_ext (e : LamX.ExtN H H') : ∀ {d : PyData} {v : V}, Dp K H v d → Dp K H' v d
  | _, _, .non => .non
  | _, _, .bl b => .bl b
  | _, _, .int i => .int i
  | _, _, .str x => .str x
  | _, _, .lst h t => .lst (sql_ext e h) (dpall_ext e t)
  | _, _, .tup h t => .tup (sqt_ext e h) (dpall_ext e t)
theorem dpall_ext (e : LamX.ExtN H H') : ∀ {ds : List PyData} {vs : List V}, DpAll K H vs ds → DpAll K H' vs ds
  | _, _, .nil => .nil
  | _, _, .cons h t => .cons (dp_ext e h) (dpall_ext e t)
end
/-- what told gives -/
def tupV (b : Bool) (nm : Str) : List V := if b = true then [.str "told", .non] else [.str "no", .str nm]
def tupD (b : Bool) (nm : Str) : PyData := if b = true then .tuple [.str "told", .none] else .tuple [.str "no", .str nm]
theorem tup_dp {p : Addr} {b : Bool} {nm : Str} (h : TT K H p (tupV b nm)) : Dp K H (.ref p) (tupD b nm) := by
  cases b with
  | true => exact .tup h.sq (.cons (.str _) (.cons .non .nil))
  | false => exact .tup h.sq (.cons (.str _) (.cons (.str _) .nil))
theorem tup_depth (b : Bool) (nm : Str) : (tupD b nm).depth ≤ 2 := by
  cases b <;> simp [tupD, PyData.depth, PyData.depthAll]
end
end Vw

set_option Elab.async false
set_option linter.all false
set_option maxRecDepth 100000
set_option maxHeartbeats 4000000
/-! a def read off its class and called -/
namespace Vw
open PySem PySem.Spec PyProof.Rows L2
/-- C.m(e, ..), m a def of the class at C -/
def tCFun (C : Addr) (sp : Sp) (E : XK) (to : TE) (t : L2.TA) : TE := fun σ H Q => to σ H fun x H1 => x = .ref C ∧ t σ H1 fun vs H2 => sp vs H2 Q E
theorem pe_cfun {X : Cx} {CX : CXT} {k : Nat} {C f : Addr} {fd : FuncData} {ps : List Str} {sp : Sp} {E : XK} {o e : Expr} {es : List Expr} {m : Str} {pos apos : Pos} {to : TE} {t : L2.TA} {pl : Sem Bool} (he : PE X o to) (r : ClX.CRead X.K C (.type "type")) (c : PySem.W.findCls X.K (.ref C) (.type "type") m = some (.val (.ref f)))
    (F : FnOk X.prog X.w X.K X.mg X.base CX k f fd ps sp) (hr : Room k X.A) (hk : PySem.W.keepIn X.K (.ref f) = true) (hb : Binds X.K fd ps []) (hx : Passes CX X E) (ha : PA X (e :: es) t)
    (hst : starEach (e :: es) X.env = (false, eval e X.env) :: starEach es X.env := by rfl) (hpl : (backTo pos (starEach es X.env)).any (·.1) = false := by rfl)
    (ht : eval (.Call (.Attribute o m apos) (e :: es) [] pos) X.env = (do
      let ov ← eval o X.env
      standAt apos.atName
      let (f, first) ← holding [ov] (getMethod ov m pl)
      callWith pos f first (backTo pos (starEach (e :: es) X.env)) (backToKw pos (keywordEach [] X.env))) := by rfl) :
    PE X (.Call (.Attribute o m apos) (e :: es) [] pos) (tCFun C sp E to t) := by
  refine ⟨fun pins s σ H Q I h => ?_⟩
  refine PySem.W.methodCall_KW (pl := pl) (thn (he.run pins s σ H _ I h) fun u s1 ⟨x, H1, I1, rx, ex, q⟩ => ?_) ht
  subst ex
  obtain rfl : u = Value.ref C := rx
  refine PySem.W.method_cls I1.kIn r.ga (PySem.W.cls_value I1.kIn r.rd c rfl ?_)
  have I2 := I1.tok (s1.toks + 1)
  refine PySem.W.callWith_K (h₀ := X.base) I2.ok.mod.kin hk (thn (ha.run pos pins _ σ H1 _ I2 q) fun us s3 ⟨vs, H2, I3, rv, q2⟩ => ⟨I3.kIn, ?_⟩) hst hpl
  have q2 : sp (vs ++ []) H2 Q E := by rw [List.append_nil]; exact q2
  exact run_fn F hr hb .nil hx I3 rv q2
end Vw

set_option Elab.async false
set_option linter.all false
set_option maxRecDepth 100000
set_option maxHeartbeats 4000000
/-! own exceptions with a field: made, raised, caught, asked for it -/
namespace Vw
open PySem PySem.Spec PyProof.Rows L2
/-- what the written part says of a class with one field, whose __init__ begins with that of the class at C0 -/
structure RzF (K : PySem.W.Frag) (C C0 fI fV : Addr) (nm fl : Str) : Prop where
  rz : RzC K C fI nm
  nof : PySem.W.findIn K (.ref C) fl = some none
  rd : ClX.CRead K C0 (.type "type")
  fc : PySem.W.findCls K (.ref C0) (.type "type") "__init__" = some (.val (.ref fV))
  kV : PySem.W.keepIn K (.ref fV) = true
def spInitF (C : Addr) (nm fl : Str) : Sp := fun vs H Q _ => ∃ a y, vs = [.ref a, y] ∧ H a = some (exo a C none) ∧ ∀ d, H d = none → d ≠ a → Q .non (upd (upd (upd H d (exd d (codeF nm))) a (exo a C (some d))) d (exd d ((fl, y) :: codeF nm)))
theorem raise_endF {H : Hp} {a d C : Addr} {nm fl : Str} {y : V} (ha : H a = none) (hd0 : H d = none) :
    Same H (upd (del (upd (upd (upd (upd H a (exo a C none)) d (exd d (codeF nm))) a (exo a C (some d))) d (exd d ((fl, y) :: codeF nm))) a) d (.xd ((fl, y) :: codeF nm))) := by
  intro b o hb
  have h1 : b ≠ d := ne_of_none hb hd0
  have h2 : b ≠ a := ne_of_none hb ha
  rw [upd_ne h1, del_ne h2, upd_ne h1, upd_ne h2, upd_ne h1, upd_ne h2]
  exact hb
section
variable {P : Program} {w : World} {K : PySem.W.Frag} {mg : Str → Option Value} {base : Heap}
theorem ok_initF {qual fl : Str} {st : Stmt} {fI fV C C0 : Addr} {fd fdV : FuncData} {nm : Str} (F : Fun K "__init__" qual st fI fd) (R : RzF K C C0 fI fV nm fl) (GV : FnOk P w K mg base CX0 1 fV fdV ["self"] (spInit C nm)) (bV : Binds K fdV ["self"] []) (m0 : mg "VowError" = some (.ref C0))
    {p1 p2 p3 p4 p5 p6 p7 p8 p9 : Pos} (hb : defBody st = [.Expr (.Call (.Attribute (.Name "VowError" p1) "__init__" p2) [.Name "self" p3] [] p4) p5, .Assign [.Attribute (.Name "self" p6) fl p7] (.Name fl p8) p9])
    (S : FnScope ["self", fl] ["self", fl] (defScope st)) (h1 : Vis (defScope st) "self") (h2 : Vis (defScope st) fl) (hg : (defScope st).names.lookup ("VowError" : Str) = some NameKind.globalImplicit) (d1 : (fl == ("__debug__" : Str)) = false) (d2 : (fl == ("__classdict__" : Str)) = false) (hs : ∀ env : Env, swapsWith (.Name fl p8) (some (.Attribute (.Name "self" p6) fl p7)) p9.line env = pure false)
    (hev : ∀ env : Env, ∃ pl : Sem Bool, eval (.Call (.Attribute (.Name "VowError" p1) "__init__" p2) [.Name "self" p3] [] p4) env = (do
      let ov ← eval (.Name "VowError" p1) env
      standAt p2.atName
      let (f, first) ← holding [ov] (getMethod ov "__init__" pl)
      callWith p4 f first (backTo p4 (starEach [.Name "self" p3] env)) (backToKw p4 (keywordEach [] env)))) : FnOk P w K mg base CX0 2 fI fd ["self", fl] (spInitF C nm fl) := by
  refine F.ok S (fun vs H Q E h => ?_) (fun cdv A outer s H vs Q E hr h => ?_)
  · obtain ⟨_, _, rfl, _⟩ := h; rfl
  obtain ⟨a, y, rfl, ha, q⟩ := h
  rw [hb]
  obtain ⟨pl, hev⟩ := hev (cxOf CX0 P w K mg base ["self", fl] qual (defScope st) fI cdv A outer s H E).nox.env
  refine ⟨_, pss_cons (ps_expr (pe_cfun (pl := pl) (ht := hev) (pe_glob (v := .ref C0) hg m0 rfl) R.rd R.fc GV hr R.kV bV pass0 (pa_cons (pe_var (i := 0) rfl h1) pa_nil))) (pss_one (ps_ost (pe_var (i := 0) rfl h1) (pe_var (i := 1) (hd := d1) (hcd := d2) rfl h2) (hs _))), ?_⟩
  refine ⟨rfl, _, rfl, a, rfl, ha, fun d hd hda => ?_⟩
  exact ⟨_, rfl, _, rfl, a, C, rfl, R.rz.ox, R.nof, .inr ⟨d, codeF nm, upd_same, by rw [upd_ne hda, upd_same], by show 1 ≤ 900; decide, q d hd hda⟩⟩
/-- C(e) and its raise -/
theorem ps_rzF {X : Cx} {C C0 fI fV : Addr} {fd : FuncData} {nm x fl : Str} {W : WX} {k : Nat} {p pos pos2 : Pos} {e : Expr} {te : TE} (R : RzF X.K C C0 fI fV nm fl) (hcalm : X.calm = true) (F1 : FnOk X.prog X.w X.K X.mg X.base CX0 k fI fd ["self", fl] (spInitF C nm fl)) (b : Binds X.K fd ["self", fl] []) (hr : Room (k + 1) X.A)
    (hg : Gl X x) (hm : X.mg x = some (.ref C)) (tk : Takes X W) (he : PE X e te) (hdb : (x == ("__debug__" : Str)) = false := by decide) (hst : starEach [e] X.env = (false, eval e X.env) :: starEach [] X.env := by rfl) (hpl : (backTo pos (starEach [] X.env)).any (·.1) = false := by rfl) :
    PS X (.Raise (some (.Call (.Name x p) [e] [] pos)) none pos2) (fun _ σ H => te σ H fun y H1 => ∀ (d : Addr) (H' : Hp), Same H1 H' → H1 d = none → H' d = some (.xd ((fl, y) :: codeF nm)) → W (.ref C) (some d) σ H') := by
  have PR := ps_raise (pos := pos2) hcalm tk (pmk_oex (p := p) (pos := pos) R.rz.ox R.rz.iC R.rz.tI F1 hr b .nil pass0 hg hm (pa_cons (hs := hst) (pe_cut he) pa_nil) hdb hst hpl)
  refine ⟨fun pins s σ H D I h => PR.run pins s σ H D I ?_⟩
  refine ⟨_, h, fun y H1 h1 => ⟨by show 1 ≤ 1000; decide, fun a ha => ⟨a, y, rfl, upd_same, fun d hd hda => ?_⟩⟩⟩
  have hd0 : H1 d = none := by rw [upd_ne hda] at hd; exact hd
  exact ⟨rfl, d, (fl, y) :: codeF nm, by rw [upd_ne hda.symm, upd_same], upd_same, hd0, h1 d _ (raise_endF ha hd0) hd0 upd_same⟩
end
/-! ### fields, told -/
/-- which field a code has -/
def fldC (nm : Str) : Option Str := if inV (.str nm) grp1 = true then some "name" else if inV (.str nm) grp2 = true then some "index" else if inV (.str nm) grp3 = true then some "most" else if V.str nm = V.str "InvalidLimit" then some "value" else if V.str nm = V.str "ParseError" then some "line" else none
def fldV (nm : Str) (fs : List (Str × V)) : List V := match fldC nm with
  | some f => (fs.lookup f).toList
  | none => []
structure ErrG (K : PySem.W.Frag) (H : Hp) (cls : Value) (d : Option Addr) (nm : Str) (fs : List (Str × V)) : Prop where
  ex : ∃ C dd : Addr, cls = .ref C ∧ d = some dd ∧ XfC K C ∧ PySem.W.findIn K (.ref C) "code" = some none ∧ H dd = some (.xd fs) ∧ fs.lookup ("code" : Str) = some (V.str nm) ∧ ∀ f, fldC nm = some f → PySem.W.findIn K (.ref C) f = some none ∧ ∃ v, fs.lookup f = some v
theorem ErrG.same {K : PySem.W.Frag} {H H' : Hp} {cls : Value} {d : Option Addr} {nm : Str} {fs : List (Str × V)} (h : ErrG K H cls d nm fs) (s : Same H H') : ErrG K H' cls d nm fs := by
  obtain ⟨C, dd, a, b, c, e, f, g⟩ := h.ex
  exact ⟨C, dd, a, b, c, e, s _ _ f, g⟩
theorem fldV_len (nm : Str) (fs : List (Str × V)) : (fldV nm fs).length ≤ 1 := by
  unfold fldV
  split
  · rename_i f _
    cases fs.lookup f <;> simp
  · exact Nat.zero_le _
theorem fldV_some {nm f : Str} {fs : List (Str × V)} {v : V} (h : fldC nm = some f) (e : fs.lookup f = some v) : fldV nm fs = [v] := by
  unfold fldV
  rw [h]
  dsimp only
  rw [e]; rfl
theorem fldV_none {nm : Str} {fs : List (Str × V)} (h : fldC nm = none) : fldV nm fs = [] := by
  unfold fldV
  rw [h]
def spFieldsG (K : PySem.W.Frag) : Addr → Value → Option Addr → Sp := fun a cls d vs H Q _ => ∃ (nm : Str) (fs : List (Str × V)), vs = [.ref a] ∧ ErrG K H cls d nm fs ∧ ∀ (q : Addr) (H' : Hp), Same H H' → TT K H' q (fldV nm fs) → Q (.ref q) H'
def TTold3G (K : PySem.W.Frag) (cs : List Value) : (XK → Hp → VK → Prop) → Hp → VK → Prop := fun tl H Q =>
  tl (fun cls d H' => ∃ (nm : Str) (fs : List (Str × V)), ErrG K H' cls d nm fs ∧ PySem.W.exmAny K cls cs = some true ∧ ∀ (p : Addr) (H'' : Hp), Same H' H'' → TT K H'' p (V.str "no" :: V.str nm :: fldV nm fs) → Q (.ref p) H'') H
    (fun v H' => [V.str "told", v].length ≤ sizeLine ∧ ∀ p : Addr, H' p = none → Q (.ref p) (upd H' p (.tup [.str "told", v])))
theorem told_gives3G {X : Cx} {Ng : List Str} {x x1 x2 x3 xf q : Str} {sg : Scope} {g A1 A2 A3 ff : Addr} {fdf : FuncData} {cdg : Value} {k j1 j2 kt kk : Nat} {p1 p2 p3 p4 p5 p6 p7 p8 p9 p10 p11 p12 p13 p14 p15 p16 p17 p18 p19 p20 : Pos}
    (hr : Room (k + 2) X.A) (FF : FnP X.prog X.w X.K X.mg X.base k ff fdf ["_law_e"] (spFieldsG X.K)) (mf : X.mg xf = some (.ref ff)) (kf : PySem.W.keepIn X.K (.ref ff) = true) (bf : Binds X.K fdf ["_law_e"] []) (gf : sg.names.lookup xf = some .globalImplicit) (df : (xf == ("__debug__" : Str)) = false)
    (g1 : sg.names.lookup x1 = some .globalImplicit) (m1 : X.mg x1 = some (.ref A1)) (d1 : (x1 == ("__debug__" : Str)) = false) (g2 : sg.names.lookup x2 = some .globalImplicit) (m2 : X.mg x2 = some (.ref A2)) (d2 : (x2 == ("__debug__" : Str)) = false)
    (g3 : sg.names.lookup x3 = some .globalImplicit) (m3 : X.mg x3 = some (.ref A3)) (d3 : (x3 == ("__debug__" : Str)) = false) (nd : Ng.Nodup) (n1 : Ng[1]? = some ("_law_e" : Str)) (le : sg.names.lookup ("_law_e" : Str) = some NameKind.local) (h0 : ∀ f : Addr, (L2.start Ng [V.ref f])[0]? = some (some (V.ref f))) (hlen : 1 < Ng.length) :
    LamX.GivesTo X Ng x sg g cdg [.Try [.Return (some (.Tuple [.Constant (.str "told") j1 p1, .Call (.Name "_law_ask_z" p2) [] [] p3] kt p4)) p5]
      [.ExceptHandler (some (.Tuple [.Name x1 p6, .Name x2 p7, .Name x3 p8] kk p9)) (some "_law_e") [.Return (some (.BinOp (.Tuple [.Constant (.str "no") j2 p10, .Attribute (.Name "_law_e" p11) "code" p12] kt p13) .Add (.Call (.Name xf p14) [.Name "_law_e" p15] [] p16) p17)) p18] p19] [] [] p20] "_law_ask_z" q (TTold3G X.K [.ref A1, .ref A2, .ref A3]) := by
  intro f c' s H Q tl act hc h
  have hve : Vis sg "_law_e" := .inl le
  have hrH := (L2H.roomH_of (hr.deeper (envOfC x sg s.heap.objs.size g cdg))).mono (Nat.le_succ k)
  refine ⟨_, pss_one (ps_try_as3 (X := (cxOf C8.CX0 X.prog X.w X.K X.mg X.base Ng x sg g cdg X.A X.stack s H C8.E0).nox) (i := 1) (c1 := .ref A1) (c2 := .ref A2) (c3 := .ref A3)
      (tb := fun W D σ H => ∃ Ech : XK, (∀ cls d (σ' : L2.St) H', Ech cls d H' → σ'.length = Ng.length → W cls d σ' H') ∧ σ[0]? = some (some (.ref f)) ∧ H c' = some (LamX.CodeO c' q) ∧ tl Ech H (fun v H1 => [V.str "told", v].length ≤ sizeLine ∧ ∀ p : Addr, H1 p = none → D.rt (.ref p) (upd H1 p (.tup [.str "told", v]))))
      (ts := fun a cls d => tRet (tOp (rCatO X.K) (tTup (tCons (tC (.str "no")) (tCons (tXfA X.K a cls d "code" (tVar 1)) tNil))) (tCallP (spFieldsG X.K) a cls d (tCons (tVar 1) tNil))))
      rfl rfl nd n1 le ⟨g1, d1, .inl m1⟩ ⟨g2, d2, .inl m2⟩ ⟨g3, d3, .inl m3⟩ LamX.takes0 (fun W pn xe tk _ => ?_)
      (fun a oe cls d pn hz hf => pss_one (ps_ret (pe_op op_catO (pe_tup (pa_cons pe_str (pa_cons (pe_xfP (X := (cxOf C8.CX0 X.prog X.w X.K X.mg X.base Ng x sg g cdg X.A X.stack s H C8.E0).nox.suite a ((a, oe) :: pn)) (n := "code") (a := a) (oe := oe) List.mem_cons_self hz hf (pe_var (x := "_law_e") (i := 1) n1 hve)) pa_nil)))
        (pe_callP (X := (cxOf C8.CX0 X.prog X.w X.K X.mg X.base Ng x sg g cdg X.A X.stack s H C8.E0).nox.suite a ((a, oe) :: pn)) (a := a) (oe := oe) FF ⟨hrH.dp, hrH.un⟩ List.mem_cons_self hz hf gf mf kf bf (pa_cons (pe_var (x := "_law_e") (i := 1) n1 hve) pa_nil) df))))), ?_⟩
  · refine ⟨fun pins s' σ H' D I h' => ?_⟩
    obtain ⟨Ech, hW, h1, h2, h3⟩ := h'
    have hq : PSs ((cxOf C8.CX0 X.prog X.w X.K X.mg X.base Ng x sg g cdg X.A X.stack s H C8.E0).tr pn xe) [.Return (some (.Tuple [.Constant (.str "told") j1 p1, .Call (.Name "_law_ask_z" p2) [] [] p3] kt p4)) p5] _ := pss_one (ps_ret (pos := p5) (pe_tup (pos := p4) (pa_cons (pe_str (x := "told") (j := j1) (pos := p1)) (pa_cons (act _ pn xe Ech p2 p3 (takes_len tk) hW) pa_nil))))
    refine hq.run pins s' σ H' D I ?_
    exact ⟨h1, h2, h3⟩
  · refine ⟨_, fun cls d σ' H' hE hlen' => ?_, h0 f, hc, h⟩
    obtain ⟨nm, fs, hA, hex, hQ⟩ := hE
    refine ⟨true, hex, fun _ a ha => ?_, fun z => Bool.noConfusion z⟩
    obtain ⟨C, dd, rfl, rfl, hx, hno, hdd, hcode, _⟩ := id hA.ex
    have hset : (σ'.set 1 (some (V.ref a)))[1]? = some (some (V.ref a)) := List.getElem?_set_self (by rw [hlen']; exact hlen)
    refine ⟨_, hset, rfl, C, dd, fs, .str nm, rfl, rfl, hx, hno, hdd, hcode, (by show 2 ≤ sizeLine; decide), fun p np => ⟨_, hset, nm, fs, rfl, hA.same (same_new np), fun q2 H2 s2 t2 => ?_⟩⟩
    refine rd_cat ((TT.of upd_same).same s2) t2 (by have := fldV_len nm fs; show 2 + (fldV nm fs).length ≤ 10000000; omega) fun p3 H3 s3 t3 => ?_
    exact hQ p3 H3 (((same_new np).trans s2).trans s3) t3
/-! ### checks with a field -/
/-- a check: nothing, or the error with its field -/
def spChkF (C : Addr) (nm fl : Str) (ok : List V → Hp → Bool → V → Prop) : Sp := fun vs H Q E => ∃ b y, ok vs H b y ∧ (b = true → ∀ H', Same H H' → Q .non H') ∧ (b = false → ∀ (d : Addr) (H' : Hp), Same H H' → H' d = some (.xd ((fl, y) :: codeF nm)) → E (.ref C) (some d) H')
/-- a def with keyword-only defaults that may raise, as it is called -/
structure CalKX (P : Program) (w : World) (K : PySem.W.Frag) (mg : Str → Option Value) (base : Heap) (k : Nat) (x : Str) (ps : List Str) (sp : Sp) (f : Addr) (fd : FuncData) : Prop where
  G : FnOk P w K mg base (L2.CX P w) k f fd ps sp
  m : mg x = some (.ref f)
  kp : PySem.W.keepIn K (.ref f) = true
def twoG {α : Type} : List α → List α → List α
  | [a, b], [c] => [a, b, c]
  | _, _ => []
theorem two_rel {vs : List V} {us : List Value} {zs : List V} {ws : List Value} (h1 : Vals vs us) (h2 : Vals zs ws) : Vals (twoG vs zs) (twoG us ws) := by
  cases h1 with
  | nil => exact .nil
  | cons a t => cases t with
    | nil => exact .nil
    | cons b t => cases t with
      | cons _ _ => exact .nil
      | nil => cases h2 with
        | nil => exact .nil
        | cons c t => cases t with
          | nil => exact .cons a (.cons b (.cons c .nil))
          | cons _ _ => exact .nil
theorem ErrG.mkF {K : PySem.W.Frag} {H : Hp} {C dd : Addr} {nm fl : Str} {y : V} (hx : XfC K C) (no : PySem.W.findIn K (.ref C) "code" = some none) (nof : PySem.W.findIn K (.ref C) fl = some none) (hdd : H dd = some (.xd ((fl, y) :: codeF nm))) (hne : fl ≠ ("code" : Str)) (hf : fldC nm = some fl) :
    ErrG K H (.ref C) (some dd) nm ((fl, y) :: codeF nm) := ⟨C, dd, rfl, rfl, hx, no, hdd, by rw [lookup_put, if_neg (fun z => hne z.symm), code_look], fun f e => by
      obtain rfl : fl = f := Option.some.inj (hf.symm.trans e)
      exact ⟨nof, y, by rw [lookup_put, if_pos rfl]⟩⟩
theorem ErrG.mk0 {K : PySem.W.Frag} {H : Hp} {C dd : Addr} {nm : Str} (hx : XfC K C) (no : PySem.W.findIn K (.ref C) "code" = some none) (hdd : H dd = some (.xd (codeF nm))) (hf : fldC nm = none) :
    ErrG K H (.ref C) (some dd) nm (codeF nm) := ⟨C, dd, rfl, rfl, hx, no, hdd, code_look nm, fun f e => by rw [hf] at e; cases e⟩
theorem fldV_put {nm fl : Str} {y : V} {fs : List (Str × V)} (h : fldC nm = some fl) : fldV nm ((fl, y) :: fs) = [y] := fldV_some h (by rw [lookup_put, if_pos rfl])
/-- what told gives: nothing told, or an error with a number -/
def tupW (b : Bool) (nm : Str) (i : Int) : List V := if b = true then [.str "told", .non] else [.str "no", .str nm, .int i]
def tupWD (b : Bool) (nm : Str) (i : Int) : PyData := if b = true then .tuple [.str "told", .none] else .tuple [.str "no", .str nm, .int i]
theorem tupW_dp {K : PySem.W.Frag} {H : Hp} {p : Addr} {b : Bool} {nm : Str} {i : Int} (h : TT K H p (tupW b nm i)) : Dp K H (.ref p) (tupWD b nm i) := by
  cases b with
  | true => exact .tup h.sq (.cons (.str _) (.cons .non .nil))
  | false => exact .tup h.sq (.cons (.str _) (.cons (.str _) (.cons (.int _) .nil)))
theorem tupW_depth (b : Bool) (nm : Str) (i : Int) : (tupWD b nm i).depth ≤ 2 := by
  cases b <;> simp [tupWD, PyData.depth, PyData.depthAll]
end Vw

set_option Elab.async false
set_option linter.all false
set_option maxRecDepth 100000
set_option maxHeartbeats 4000000
namespace Vw
open PySem PySem.W PyProof.Rows L2
def top (i : Nat) : Stmt := PySem.Challenge.pw_vowstair_k24_names_replaced.main.body.getD i (.Pass ⟨0, 0, 0, 0⟩)
abbrev s_law_bag : Stmt := top 7
theorem sc_law_bag : FnScope ["_law_script", "_law_salt", "_law_cell"] ["_law_script"] (defScope s_law_bag) := ⟨rfl, rfl, rfl, by decide +kernel, rfl, by decide +kernel, by decide +kernel⟩
abbrev s_law_pull : Stmt := top 8
theorem sc_law_pull : FnScope ["_law_bag_here", "_law_sides", "_law_cell", "_law_got", "_law_seed"] ["_law_bag_here", "_law_sides"] (defScope s_law_pull) := ⟨rfl, rfl, rfl, by decide +kernel, rfl, by decide +kernel, by decide +kernel⟩
abbrev s_law_of : Stmt := top 9
theorem sc_law_of : FnScope ["_law_bag_here", "_law_some"] ["_law_bag_here", "_law_some"] (defScope s_law_of) := ⟨rfl, rfl, rfl, by decide +kernel, rfl, by decide +kernel, by decide +kernel⟩
abbrev s_law_same : Stmt := top 10
theorem sc_law_same : FnScope ["_law_found", "_law_due", "_law_k"] ["_law_found", "_law_due"] (defScope s_law_same) := ⟨rfl, rfl, rfl, by decide +kernel, rfl, by decide +kernel, by decide +kernel⟩
def KO (K : PySem.W.Frag) (a : Addr) (o : O) : Prop := OA K (fun _ => none) (.ref a) o
structure Txt (K : PySem.W.Frag) (mg : Str → Option Value) (w : World) (a_HEADS : Addr) : Prop where
  z_len : mg "len" = none
  z_range : mg "range" = none
  z_isinstance : mg "isinstance" = none
  z_int : mg "int" = none
  z_list : mg "list" = none
  z_tuple : mg "tuple" = none
  z_str : mg "str" = none
  z_bool : mg "bool" = none
  z_all : mg "all" = none
  z_dict : mg "dict" = none
  m__HEADS : mg "_HEADS" = some (.ref a_HEADS)
  t__HEADS : TabC K w a_HEADS [("true", 1), ("false", 1), ("name", 2), ("not", 1), ("and", 1), ("or", 1), ("then", 1), ("shown", 2)]

section
variable {P : Program} {w : World} {K : PySem.W.Frag} {mg : Str → Option Value} {base : Heap}
theorem ok_bag  {a_HEADS : Addr} (T : Txt K mg  w a_HEADS) {f : Addr} {fd : FuncData} {k : Nat} (F : Fun K "_law_bag" "_law_bag" s_law_bag f fd) : FnOk P w K mg base CX0 (k + 1) f fd ["_law_script"] (spBag K) := by
  refine F.ok sc_law_bag (fun vs H Q E h => ?_) (fun cdv A outer s H vs Q E hr h => ?_)
  · obtain ⟨a, ns, rfl, _⟩ := h; rfl
  obtain ⟨a, ns, rfl, hS, hl, q⟩ := h
  refine ⟨_, (pss_cons (ps_set (i := 1) sc_law_bag.nd rfl (Or.inl rfl) pe_int)
  (pss_cons (ps_for PassesOwn.never rfl (pi_list (pe_slice sl_list (pv 0) po_none (po_some pe_int))) (pg_name (i := 2) sc_law_bag.nd rfl (Or.inl rfl))
   (pss_one (ps_set (i := 1) sc_law_bag.nd rfl (Or.inl rfl) (pe_op op_mod (pe_op op_add (pe_op op_add (pe_op op_mul (pv 1) pe_int) (pe_op op_mod (pe_callTy call_int1 (by rfl) T.z_int (by decide +kernel) (pa_cons (pv 2) pa_nil)) pe_int)) pe_int) pe_int))))
  (pss_one (ps_ret (pe_lst (pa_cons (pe_callTy call_list_of (by rfl) T.z_list (by decide +kernel) (pa_cons (pe_slice sl_list (pv 0) po_none (po_some pe_int)) pa_nil)) (pa_cons pe_int (pa_cons pe_int (pa_cons (pv 1) (pa_cons pe_int pa_nil)))))))))), ?_⟩
  obtain ⟨ms, e1, e2⟩ := cut_map ns none (some 63)
  refine ⟨_, rfl, 63, rfl, a, _, rfl, hS, fun c nc => ⟨c, rfl, ⟨_, SqL.of upd_same⟩, ?_⟩⟩
  have s1 : Same H (upd H c (.lst (cutV (ns.map V.int) none (some 63)))) := same_new nc
  rw [e1] at s1 ⊢
  refine for_list (xs := ms.map V.int) (fun _ σ H' => H' = upd H c (.lst (ms.map V.int)) ∧ ∃ (z : Int) (u : Option V), σ = [some (.ref a), some (.int z), u] ∧ 0 ≤ z ∧ z < 2147483647) ⟨rfl, 3827, none, rfl, by decide, by decide⟩ (fun i σ H' _ h => ?_) (fun i x σ H' hx h => ?_) (fun σ H' h => ?_)
  · obtain ⟨rfl, _⟩ := h
    exact SqL.of upd_same
  · obtain ⟨rfl, z, u, rfl, z0, z1⟩ := h
    rw [List.getElem?_map] at hx
    cases hm : ms[i]? with
    | none => rw [hm] at hx; cases hx
    | some m =>
      rw [hm] at hx
      obtain rfl : V.int m = x := Option.some.inj hx
      refine ⟨_, rfl, _, _, rfl, rfl, .inl ⟨by omega, by omega⟩, _, rfl, .inl ⟨_, rfl, _, _, rfl, rfl, (by show (0 : Int) < 2147483587; decide), _, _, rfl, rfl, _, _, rfl, rfl, _, _, rfl, rfl, (by show (0 : Int) < 2147483647; decide), ?_⟩⟩
      exact ⟨rfl, _, _, rfl, Int.emod_nonneg _ (by decide), Int.emod_lt_of_pos _ (by decide)⟩
  · obtain ⟨rfl, z, u, rfl, z0, z1⟩ := h
    refine ⟨_, rfl, 63, rfl, a, _, rfl, s1.seq hS, fun d nd => ?_⟩
    rw [e1]
    have s2 := s1.trans (same_new (o := .lst (ms.map V.int)) nd)
    refine ⟨d, _, rfl, .inl (SqL.of upd_same), fun l nl => ?_⟩
    have s3 := s2.trans (same_new (o := .lst (ms.map V.int)) nl)
    refine ⟨_, rfl, (by show 5 ≤ sizeLine; decide), fun b nb => ?_⟩
    have s4 := s3.trans (same_new (o := .lst [.ref l, .int 0, .int 0, .int z, .int 0]) nb)
    have hlb : l ≠ b := fun e => by rw [e, upd_same] at nb; cases nb
    refine q l b _ (s3.free nb) s4 ⟨ms, 0, 0, z, 0, hlb, upd_same, ?_, by omega, by decide, z0, z1⟩
    rw [upd_ne hlb, upd_same]
theorem seed_bounds {s k : Int} : 0 ≤ (s + k * 7103) % 2147483647 ∧ (s + k * 7103) % 2147483647 < 2147483647 := ⟨Int.emod_nonneg _ (by decide), Int.emod_lt_of_pos _ (by decide)⟩
theorem ok_pull  {a_HEADS : Addr} (T : Txt K mg  w a_HEADS) {f : Addr} {fd : FuncData} {k : Nat} (F : Fun K "_law_pull" "_law_pull" s_law_pull f fd) : FnOk P w K mg base CX0 (k + 1) f fd ["_law_bag_here", "_law_sides"] spPull := by
  refine F.ok sc_law_pull (fun vs H Q E h => ?_) (fun cdv A outer s H vs Q E hr h => ?_)
  · obtain ⟨_, b, n, rfl, _⟩ := h; rfl
  obtain ⟨l, b, n, rfl, n1, n2, ⟨ns, i, g, z, c, hlb, hb, hL, hl, i0, z0, z1⟩, q⟩ := h
  refine ⟨_, (C8.pss_cut (ps_if (PW.pt (pw_and (pt_cmpR op_eq (pe_ix ix_list (pv 0) pe_int (fun _ _ => rfl)) pe_int (nomark _)) (pw_and1 (pt_cmpR op_lt (pe_ix ix_list (pv 0) pe_int (fun _ _ => rfl)) (pe_callB call_len_seq (by rfl) T.z_len (by decide +kernel) (pa_cons (pe_ix ix_list (pv 0) pe_int (fun _ _ => rfl)) pa_nil)) (nomark _))))) (pss_cons (ps_set (i := 2) sc_law_pull.nd rfl (Or.inl rfl) (pe_ix ix_list (pe_ix ix_list (pv 0) pe_int (fun _ _ => rfl)) (pe_ix ix_list (pv 0) pe_int (fun _ _ => rfl)) (fun _ _ => rfl)))
  (pss_cons (ps_asg (pe_op op_add (pe_ix ix_list (pv 0) pe_int (fun _ _ => rfl)) pe_int) (pg_sub (pv 0) pe_int set_list))
  (pss_one (ps_if (pt_cmpR op_ge (pv 2) (pe_op op_pow pe_int pe_int) (nomark _)) (pss_one (ps_asg (pv 2) (pg_sub (pv 0) pe_int set_list))) (pss_one (ps_asg (pe_op op_mod (pe_op op_add (pe_op op_add (pe_op op_mul (pe_ix ix_list (pv 0) pe_int (fun _ _ => rfl)) pe_int) (pe_op op_mod (pe_callTy call_int1 (by rfl) T.z_int (by decide +kernel) (pa_cons (pv 2) pa_nil)) pe_int)) pe_int) pe_int) (pg_sub (pv 0) pe_int set_list))))))) pss_nil)
  (pss_cons (ps_if (pt_cmpR op_gt (pe_ix ix_list (pv 0) pe_int (fun _ _ => rfl)) pe_int (nomark _)) (pss_cons (ps_set (i := 3) sc_law_pull.nd rfl (Or.inl rfl) (pe_op op_mod (pe_callTy call_int1 (by rfl) T.z_int (by decide +kernel) (pa_cons (pe_ix ix_list (pv 0) pe_int (fun _ _ => rfl)) pa_nil)) (pv 1)))
  (pss_cons (ps_asg (pe_op op_fdivW (pe_ix ix_list (pv 0) pe_int (fun _ _ => rfl)) (pv 1)) (pg_sub (pv 0) pe_int set_list))
  (pss_one (ps_ret (pv 3))))) pss_nil)
  (pss_cons (ps_asg (pe_op op_add (pe_ix ix_list (pv 0) pe_int (fun _ _ => rfl)) pe_int) (pg_sub (pv 0) pe_int set_list))
  (pss_cons (ps_set (i := 4) sc_law_pull.nd rfl (Or.inl rfl) (pe_op op_mod (pe_op op_add (pe_ix ix_list (pv 0) pe_int (fun _ _ => rfl)) (pe_op op_mul (pe_ix ix_list (pv 0) pe_int (fun _ _ => rfl)) pe_int)) pe_int))
  (pss_cons (ps_asg (pe_op op_mod (pe_op op_add (pe_op op_add (pe_op op_pow (pv 4) pe_int) (pe_op op_mul pe_int (pv 4))) pe_int) pe_int) (pg_sub (pv 0) pe_int set_list))
  (pss_one (ps_ret (pe_op op_mod (pe_op op_add (pe_op op_fdiv (pe_ix ix_list (pv 0) pe_int (fun _ _ => rfl)) pe_int) (pe_op op_mul (pe_op op_mod (pe_callTy call_int1 (by rfl) T.z_int (by decide +kernel) (pa_cons (pe_ix ix_list (pv 0) pe_int (fun _ _ => rfl)) pa_nil)) pe_int) pe_int)) (pv 1))))))))), ?_⟩
  -- behind the draw of a cell
  let Mid : L2.St → Hp → Prop := fun σ' H' => ∃ (u2 u3 u4 : Option V) (i' g' z' : Int), σ' = [some (.ref b), some (.int n), u2, u3, u4] ∧ Kp b H H' ∧ H' b = some (.lst [.ref l, .int i', .int g', .int z', .int c]) ∧ 0 ≤ i' ∧ 0 ≤ z' ∧ z' < 2147483647
  have k0 : Kp b H H := Kp.refl H
  have hLs : ∀ H', Kp b H H' → SqL K H' l (ns.map V.int) := fun H' x => SqL.of (x _ _ hlb hL)
  refine ⟨Mid, ?_, ?_⟩
  · have m0 : Mid [some (V.ref b), some (V.int n), none, none, none] H := ⟨none, none, none, i, g, z, rfl, k0, hb, i0, z0, z1⟩
    refine ⟨_, rfl, b, _, 2, _, rfl, rfl, SqL.of hb, rfl, rfl, _, rfl, ?_⟩
    refine ite2 (fun e => ?_) (fun e => ?_)
    · refine ⟨_, rfl, b, _, 1, _, rfl, rfl, SqL.of hb, rfl, _, rfl, b, _, 0, _, rfl, rfl, SqL.of hb, rfl, l, _, rfl, .inl (SqL.of hL), _, _, rfl, rfl, _, rfl, ?_⟩
      refine ite2 (fun e2 => ?_) (fun e2 => ?_)
      · have hi : i < (ns.length : Int) := by
          have := of_decide_eq_true e2
          rw [List.length_map] at this
          exact this
        obtain ⟨v, hv, hat⟩ := atI_ex (xs := ns.map V.int) i0 (by rw [List.length_map]; exact hi)
        rw [List.getElem?_map] at hv
        obtain ⟨cell, _, rfl⟩ := Option.map_eq_some_iff.mp hv
        refine ⟨_, rfl, b, _, 0, _, rfl, rfl, SqL.of hb, rfl, _, rfl, b, _, 1, _, rfl, rfl, SqL.of hb, rfl, l, _, i, _, rfl, rfl, SqL.of hL, hat, ?_⟩
        refine ⟨_, rfl, b, _, 1, _, rfl, rfl, SqL.of hb, rfl, _, _, rfl, rfl, _, rfl, b, _, 1, 1, rfl, rfl, hb, rfl, ?_⟩
        refine ⟨_, rfl, _, _, rfl, rfl, ⟨by decide, by decide, by decide⟩, _, _, rfl, rfl, _, rfl, ?_⟩
        have hb1 : (upd H b (.lst (List.set [.ref l, .int i, .int g, .int z, .int c] 1 (.int (i + 1))))) b = some (.lst [.ref l, .int (i + 1), .int g, .int z, .int c]) := upd_same
        have k1 : Kp b H (upd H b (.lst (List.set [.ref l, .int i, .int g, .int z, .int c] 1 (.int (i + 1))))) := Kp.upd
        refine ite2 (fun e3 => ?_) (fun e3 => ?_)
        · refine ⟨_, rfl, _, rfl, b, _, 2, 2, rfl, rfl, hb1, rfl, ?_⟩
          exact ⟨_, _, _, i + 1, cell, z, rfl, k1.trans Kp.upd, upd_same, by omega, z0, z1⟩
        · refine ⟨_, rfl, b, _, 3, _, rfl, rfl, SqL.of hb1, rfl, _, _, rfl, rfl, .inl ⟨by omega, by omega⟩, _, rfl, .inl ⟨_, rfl, _, _, rfl, rfl, (by show (0 : Int) < 2147483579; decide), _, _, rfl, rfl, _, _, rfl, rfl, _, _, rfl, rfl, (by show (0 : Int) < 2147483647; decide), _, rfl, b, _, 3, 3, rfl, rfl, hb1, rfl, ?_⟩⟩
          exact ⟨_, _, _, i + 1, g, _, rfl, k1.trans Kp.upd, upd_same, by omega, Int.emod_nonneg _ (by decide), Int.emod_lt_of_pos _ (by decide)⟩
      · exact m0
    · exact m0
  · intro σ' H' hm
    obtain ⟨u2, u3, u4, i', g', z', rfl, k1, hb1, i1, z2, z3⟩ := hm
    have fin : ∀ (r : Int) (H2 : Hp) (g2 s2 c2 : Int), 0 ≤ r → r < n → Kp b H H2 → H2 b = some (.lst [.ref l, .int i', .int g2, .int s2, .int c2]) → 0 ≤ s2 → s2 < 2147483647 → Q (.int r) H2 := fun r H2 g2 s2 c2 r0 r1 kk hh s0 s1 =>
      q r H2 r0 r1 kk ⟨ns, i', g2, s2, c2, hlb, hh, kk _ _ hlb hL, hl, i1, s0, s1⟩
    refine ⟨_, rfl, b, _, 2, _, rfl, rfl, SqL.of hb1, rfl, _, _, rfl, rfl, _, rfl, ?_⟩
    refine ite2 (fun e => ?_) (fun e => ?_)
    · refine ⟨_, rfl, b, _, 2, _, rfl, rfl, SqL.of hb1, rfl, .inl ⟨_, rfl, _, rfl, _, _, rfl, rfl, (by omega), ?_⟩⟩
      refine ⟨_, rfl, b, _, 2, _, rfl, rfl, SqL.of hb1, rfl, _, rfl, _, _, rfl, rfl, wide_div (b := 100) (by omega) (by omega) (by decide) (by decide), _, rfl, b, _, 2, 2, rfl, rfl, hb1, rfl, ?_⟩
      refine ⟨_, rfl, ?_⟩
      exact fin _ _ _ z' c (Int.emod_nonneg _ (by omega)) (Int.emod_lt_of_pos _ (by omega)) (k1.trans Kp.upd) upd_same z2 z3
    · refine ⟨_, rfl, b, _, 4, _, rfl, rfl, SqL.of hb1, rfl, _, _, rfl, rfl, _, rfl, b, _, 4, 4, rfl, rfl, hb1, rfl, ?_⟩
      have hb2 : (upd H' b (.lst (List.set [.ref l, .int i', .int g', .int z', .int c] 4 (.int (c + 1))))) b = some (.lst [.ref l, .int i', .int g', .int z', .int (c + 1)]) := upd_same
      have k2 : Kp b H (upd H' b (.lst (List.set [.ref l, .int i', .int g', .int z', .int c] 4 (.int (c + 1))))) := k1.trans Kp.upd
      obtain ⟨sb0, sb1⟩ := seed_bounds (s := z') (k := c + 1)
      refine ⟨_, rfl, b, _, 3, _, rfl, rfl, SqL.of hb2, rfl, _, rfl, b, _, 4, _, rfl, rfl, SqL.of hb2, rfl, _, _, rfl, rfl, .inr ⟨by decide, by decide⟩, _, _, rfl, rfl, _, _, rfl, rfl, (by show (0 : Int) < 2147483647; decide), ?_⟩
      refine ⟨_, rfl, _, _, rfl, rfl, ⟨by decide, by decide, by omega⟩, _, rfl, _, _, rfl, rfl, .inl ⟨by decide, by decide⟩, _, _, rfl, rfl, _, _, rfl, rfl, _, _, rfl, rfl, (by show (0 : Int) < 2147483647; decide), _, rfl, b, _, 3, 3, rfl, rfl, hb2, rfl, ?_⟩
      refine ⟨_, rfl, b, _, 3, _, rfl, rfl, SqL.of upd_same, rfl, _, _, rfl, rfl, ⟨by decide, by decide⟩, _, rfl, b, _, 3, _, rfl, rfl, SqL.of upd_same, rfl, .inl ⟨_, rfl, _, _, rfl, rfl, (by show (0 : Int) < 7919; decide), _, _, rfl, rfl, .inr ⟨by decide, by decide⟩, _, _, rfl, rfl, _, rfl, _, _, rfl, rfl, (by omega), ?_⟩⟩
      exact fin _ _ _ _ (c + 1) (Int.emod_nonneg _ (by omega)) (Int.emod_lt_of_pos _ (by omega)) (k2.trans Kp.upd) upd_same (Int.emod_nonneg _ (by decide)) (Int.emod_lt_of_pos _ (by decide))
theorem ok_of  {a_HEADS : Addr} (T : Txt K mg  w a_HEADS) {f f1 : Addr} {fd fd1 : FuncData} (F : Fun K "_law_of" "_law_of" s_law_of f fd) (C__law_pull : Cal P w K mg base 1 "_law_pull" ["_law_bag_here", "_law_sides"] spPull f1 fd1) : FnOk P w K mg base CX0 2 f fd ["_law_bag_here", "_law_some"] (spOf K) := by
  refine F.ok sc_law_of (fun vs H Q E h => ?_) (fun cdv A outer s H vs Q E hr h => ?_)
  · obtain ⟨_, _, _, _, rfl, _⟩ := h; rfl
  obtain ⟨l, b, a, xs, rfl, hB, hx, hne, q⟩ := h
  refine ⟨_, (pss_one (ps_ret (pe_ix ix_seq (pv 1) (pe_call C__law_pull.G (hr.mono (by omega)) (by rfl) C__law_pull.m C__law_pull.kp C__law_pull.b .nil pass0 (pa_cons (pv 0) (pa_cons (pe_callB call_lenB (by rfl) T.z_len (by decide +kernel) (pa_cons (pv 1) pa_nil)) pa_nil))) (fun _ _ => rfl)))), ?_⟩
  have hpos : 0 < xs.length := List.length_pos_iff.mpr hne
  refine ⟨_, rfl, _, rfl, _, rfl, rd_len (ys := xs) ?_ fun hz => ?_⟩
  · rcases hx with ⟨_, hx⟩ | hx
    · exact .inl (SqL.of hx)
    · exact .inr hx.sq
  have hz2 := line62 hz
  refine ⟨l, b, _, rfl, by omega, by omega, hB, fun r H1 r0 r1 k1 B1 => ?_⟩
  obtain ⟨v, hv, hat⟩ := atI_ex (xs := xs) r0 r1
  have hm : v ∈ xs := List.mem_of_getElem? hv
  rcases hx with ⟨hab, hx⟩ | hx
  · exact .inl ⟨a, xs, r, v, rfl, rfl, SqL.of (k1 _ _ hab hx), hat, q v H1 hm k1 B1⟩
  · exact .inr (.inl ⟨a, xs, r, v, rfl, rfl, (hx.tp (hB.tp k1)).sq, hat, q v H1 hm k1 B1⟩)
theorem ok_same  {a_HEADS : Addr} (T : Txt K mg  w a_HEADS) {f : Addr} {fd : FuncData} {n : Nat} (F : Fun K "_law_same" "_law_same" s_law_same f fd) (C__law_same : Cal P w K mg base n "_law_same" ["_law_found", "_law_due"] (spSame K n) f fd) : FnOk P w K mg base CX0 (n + 1) f fd ["_law_found", "_law_due"] (spSame K (n + 1)) := by
  refine F.ok sc_law_same (fun vs H Q E h => ?_) (fun cdv A outer s H vs Q E hr h => ?_)
  · obtain ⟨_, _, _, rfl, _⟩ := h; rfl
  obtain ⟨x, y, d, rfl, hx, hy, hd, q⟩ := h
  refine ⟨_, (pss_cons (ps_if (pt_val (pe_callB call_isDT (by rfl) T.z_isinstance (by decide +kernel) (pa_cons (pv 1) (pa_cons (pe_tup (pa_cons (pe_bltn (v := .ty "list") (u := .type "list") (by rfl) T.z_list (by decide +kernel) rfl) (pa_cons (pe_bltn (v := .ty "tuple") (u := .type "tuple") (by rfl) T.z_tuple (by decide +kernel) rfl) pa_nil))) pa_nil)))) (pss_cons (ps_if (PW.pt (pw_or (pt_cmpR op_ne (pe_callB call_isD (by rfl) T.z_isinstance (by decide +kernel) (pa_cons (pv 0) (pa_cons (pe_bltn (v := .ty "list") (u := .type "list") (by rfl) T.z_list (by decide +kernel) rfl) pa_nil))) (pe_callB call_isD (by rfl) T.z_isinstance (by decide +kernel) (pa_cons (pv 1) (pa_cons (pe_bltn (v := .ty "list") (u := .type "list") (by rfl) T.z_list (by decide +kernel) rfl) pa_nil))) (nomark _)) (pw_or1 (pt_cmpR op_ne (pe_callB call_isD (by rfl) T.z_isinstance (by decide +kernel) (pa_cons (pv 0) (pa_cons (pe_bltn (v := .ty "tuple") (u := .type "tuple") (by rfl) T.z_tuple (by decide +kernel) rfl) pa_nil))) (pe_callB call_isD (by rfl) T.z_isinstance (by decide +kernel) (pa_cons (pv 1) (pa_cons (pe_bltn (v := .ty "tuple") (u := .type "tuple") (by rfl) T.z_tuple (by decide +kernel) rfl) pa_nil))) (nomark _))))) (pss_one (ps_ret pe_bl)) pss_nil)
  (pss_one (ps_ret (pe_and (pe_cmpR op_eq (pe_callB call_lenB (by rfl) T.z_len (by decide +kernel) (pa_cons (pv 0) pa_nil)) (pe_callB call_lenB (by rfl) T.z_len (by decide +kernel) (pa_cons (pv 1) pa_nil)) (nomark _)) (pe_one (pe_callB (cr_all rfl) (by rfl) T.z_all (by decide +kernel) (pa_cons (pe_lc (own := [("_law_k", 2)]) (g := gName 2) (tt := tYes) rfl sc_law_same.nd (pi_range1 (by rfl) T.z_range (pa_cons (pe_callB call_lenB (by rfl) T.z_len (by decide +kernel) (pa_cons (pv 1) pa_nil)) pa_nil)) (blkOk_by (own := [("_law_k", 2)]) (N := ["_law_found", "_law_due", "_law_k"]) (sc := defScope s_law_same) (by decide +kernel)) (fun _ _ _ _ _ => (pg_name (i := 2) sc_law_same.nd rfl (Or.inl rfl))) (fun _ _ _ _ _ => pts_nil) (fun _ _ _ _ _ => (pe_call C__law_same.G (hr.mono (by omega)) (by rfl) C__law_same.m C__law_same.kp C__law_same.b .nil pass0 (pa_cons (pe_ix (r := rIx K) ix_seq (pv 0) (pv 2) (fun _ _ => rfl)) (pa_cons (pe_ix (r := rIx K) ix_seq (pv 1) (pv 2) (fun _ _ => rfl)) pa_nil))))) pa_nil))))))) pss_nil)
  (pss_cons (ps_if (PW.pt (pw_or (pt_cmpR op_isN (pv 1) pe_non (nomark _)) (pw_or1 (pt_cmpR op_isN (pv 0) pe_non (nomark _))))) (pss_one (ps_ret (pe_and (pe_cmpR op_isN (pv 0) pe_non (nomark _)) (pe_one (pe_cmpR op_isN (pv 1) pe_non (nomark _)))))) pss_nil)
  (pss_cons (ps_if (PW.pt (pw_or (pt_cmpR op_ne (pe_callB call_isD (by rfl) T.z_isinstance (by decide +kernel) (pa_cons (pv 1) (pa_cons (pe_bltn (v := .ty "bool") (u := .type "bool") (by rfl) T.z_bool (by decide +kernel) rfl) pa_nil))) (pe_callB call_isD (by rfl) T.z_isinstance (by decide +kernel) (pa_cons (pv 0) (pa_cons (pe_bltn (v := .ty "bool") (u := .type "bool") (by rfl) T.z_bool (by decide +kernel) rfl) pa_nil))) (nomark _)) (pw_or1 (pt_cmpR op_ne (pe_callB call_isD (by rfl) T.z_isinstance (by decide +kernel) (pa_cons (pv 1) (pa_cons (pe_bltn (v := .ty "int") (u := .type "int") (by rfl) T.z_int (by decide +kernel) rfl) pa_nil))) (pe_callB call_isD (by rfl) T.z_isinstance (by decide +kernel) (pa_cons (pv 0) (pa_cons (pe_bltn (v := .ty "int") (u := .type "int") (by rfl) T.z_int (by decide +kernel) rfl) pa_nil))) (nomark _))))) (pss_one (ps_ret pe_bl)) pss_nil)
  (pss_one (ps_ret (pe_and (pe_cmpR op_eq (pe_callB call_isD (by rfl) T.z_isinstance (by decide +kernel) (pa_cons (pv 1) (pa_cons (pe_bltn (v := .ty "str") (u := .type "str") (by rfl) T.z_str (by decide +kernel) rfl) pa_nil))) (pe_callB call_isD (by rfl) T.z_isinstance (by decide +kernel) (pa_cons (pv 0) (pa_cons (pe_bltn (v := .ty "str") (u := .type "str") (by rfl) T.z_str (by decide +kernel) rfl) pa_nil))) (nomark _)) (pe_one (pe_cmpR op_eq (pv 0) (pv 1) (nomark _))))))))), ?_⟩
  refine ⟨_, rfl, (by show 2 ≤ sizeLine; decide), fun tp ntp => rd_lt2 (dp_same (same_new ntp) hy) upd_same ⟨_, rfl, ?_⟩⟩
  have s1 : Same H (upd H tp (.tup [.ty "list", .ty "tuple"])) := same_new ntp
  generalize upd H tp (.tup [.ty "list", .ty "tuple"]) = H1 at s1
  have hx1 := dp_same s1 hx
  have hy1 := dp_same s1 hy
  have fin : ∀ H', Same H1 H' → Q (.bl true) H' := fun H' z => q H' (s1.trans z)
  clear q
  refine ite2 (fun e => ?_) (fun e => ?_)
  · refine ⟨_, rfl, rd_list hx1 ⟨_, rfl, rd_list hy1 ⟨rfl, _, rfl, ?_⟩⟩⟩
    rw [decide_eq_true rfl]
    refine iteF ⟨_, rfl, rd_tuple hx1 ⟨_, rfl, rd_tuple hy1 ⟨rfl, _, rfl, ?_⟩⟩⟩
    rw [decide_eq_true rfl]
    refine iteF ?_
    obtain ⟨p1, p2, xs, ys, ds, rfl, rfl, h1, h2, a1, a2, hdep⟩ : ∃ p1 p2 xs ys ds, x = .ref p1 ∧ y = .ref p2 ∧ (SqL K H1 p1 xs ∨ SqT K H1 p1 xs) ∧ (SqL K H1 p2 ys ∨ SqT K H1 p2 ys) ∧ DpAll K H1 xs ds ∧ DpAll K H1 ys ds ∧ PyData.depthAll ds < n := by
      cases d with
      | list ds =>
        cases hx1 with
        | lst h1 a1 => cases hy1 with
          | lst h2 a2 => exact ⟨_, _, _, _, ds, rfl, rfl, .inl h1, .inl h2, a1, a2, by simp only [PyData.depth] at hd; omega⟩
      | tuple ds =>
        cases hx1 with
        | tup h1 a1 => cases hy1 with
          | tup h2 a2 => exact ⟨_, _, _, _, ds, rfl, rfl, .inr h1, .inr h2, a1, a2, by simp only [PyData.depth] at hd; omega⟩
      | _ => cases e
    have hl : xs.length = ys.length := (dpall_len a1).trans (dpall_len a2).symm
    refine ⟨_, rfl, rd_len h1 fun z1 => ⟨_, rfl, rd_len h2 fun z2 => ⟨rfl, _, rfl, ?_⟩⟩⟩
    rw [hl, decide_eq_true rfl]
    refine iteT ⟨_, rfl, rd_len h2 fun z2 => ⟨_, rfl, (line62 z2).1, (line62 z2).2, fun D nD => ?_⟩⟩
    refine lc_range (lo := 0) (n := (ys.length : Int).toNat) (fun i H' => Same H1 H' ∧ H' D = some (.lst (List.replicate i (.bl true)))) ⟨same_new nD, upd_same⟩ (fun i H' hi hp => ?_) (fun H' hp => ?_)
    · obtain ⟨sm, eD⟩ := hp
      refine ⟨rfl, ?_⟩
      have hi2 : i < ys.length := by omega
      have hi1 : i < xs.length := by omega
      have gx := List.getElem?_eq_getElem hi1
      have gy := List.getElem?_eq_getElem hi2
      obtain ⟨dx, e1, f1⟩ := dpall_get a1 gx
      obtain ⟨dy, e2, f2⟩ := dpall_get a2 gy
      have : dx = dy := Option.some.inj (e1.symm.trans e2)
      subst this
      have hk : (0 : Int) + (i : Nat) = ((i : Nat) : Int) := by omega
      have ix : ∀ (p : Addr) (zs : List V) (v : V), (SqL K H1 p zs ∨ SqT K H1 p zs) → zs[i]? = some v → ∀ (Q' : VK), Q' v H' → rIx K (.ref p) (.int (0 + (i : Nat))) H' Q' := fun p zs v hz hv Q' hq => by
        rw [hk]
        rcases hz with hz | hz
        · exact .inl ⟨p, zs, _, v, rfl, rfl, sm.seq hz, atI_nat hv, hq⟩
        · exact .inr (.inl ⟨p, zs, _, v, rfl, rfl, same_sqt sm hz, atI_nat hv, hq⟩)
      refine ⟨_, rfl, _, rfl, ix _ _ _ h1 gx _ ⟨_, rfl, _, rfl, ix _ _ _ h2 gy _ ?_⟩⟩
      refine ⟨_, _, dx, rfl, dp_same sm f1, dp_same sm f2, Nat.lt_of_le_of_lt (depth_get e1) hdep, fun H2 s2 => ?_⟩
      have eD2 := s2 _ _ eD
      refine ⟨_, eD2, by rw [List.length_replicate]; omega, same_mut (sm.trans s2) nD, ?_⟩
      rw [upd_same, ← List.replicate_succ']
    · obtain ⟨sm, eD⟩ := hp
      refine ⟨D, List.replicate ((ys.length : Int).toNat) true, rfl, SqL.of (by rw [List.map_replicate]; exact eD), ?_⟩
      have : (List.replicate ((ys.length : Int).toNat) true).all id = true := by rw [List.all_eq_true]; intro b hb; exact (List.mem_replicate.mp hb).2
      rw [this]
      exact fin H' sm
  · have sc : (∃ i, x = .int i ∧ y = .int i) ∨ (∃ i, x = .bl i ∧ y = .bl i) ∨ (∃ i, x = .str i ∧ y = .str i) ∨ (x = .non ∧ y = .non) := by
      cases d with
      | none => cases hx1; cases hy1; exact .inr (.inr (.inr ⟨rfl, rfl⟩))
      | bool b => cases hx1; cases hy1; exact .inr (.inl ⟨_, rfl, rfl⟩)
      | int b => cases hx1; cases hy1; exact .inl ⟨_, rfl, rfl⟩
      | str b => cases hx1; cases hy1; exact .inr (.inr (.inl ⟨_, rfl, rfl⟩))
      | list _ => exact absurd rfl e
      | tuple _ => exact absurd rfl e
      | dict kv => exact absurd rfl (dp_nodict hx1 kv)
    have hxy : x = y := by rcases sc with ⟨i, rfl, rfl⟩ | ⟨i, rfl, rfl⟩ | ⟨i, rfl, rfl⟩ | ⟨rfl, rfl⟩ <;> rfl
    have hscal : scal x y = true := by rcases sc with ⟨i, rfl, rfl⟩ | ⟨i, rfl, rfl⟩ | ⟨i, rfl, rfl⟩ | ⟨rfl, rfl⟩ <;> rfl
    clear sc
    subst hxy
    refine ⟨_, rfl, rfl, _, rfl, ?_⟩
    refine ite2 (fun e2 => ?_) (fun e2 => ?_)
    · obtain rfl : x = V.non := of_decide_eq_true e2
      exact iteT ⟨_, rfl, rfl, _, rfl, iteT ⟨_, rfl, rfl, fin H1 (Same.refl H1)⟩⟩
    · refine ⟨_, rfl, rfl, _, rfl, ?_⟩
      rw [Bool.eq_false_iff.mpr e2]
      refine iteF ⟨_, rfl, rd_bool hy1 ⟨_, rfl, rd_bool hx1 ⟨rfl, _, rfl, ?_⟩⟩⟩
      rw [decide_eq_true rfl]
      refine iteF ⟨_, rfl, rd_int hy1 ⟨_, rfl, rd_int hx1 ⟨rfl, _, rfl, ?_⟩⟩⟩
      rw [decide_eq_true rfl]
      refine iteF ⟨_, rfl, rd_str hy1 ⟨_, rfl, rd_str hx1 ⟨rfl, _, rfl, ?_⟩⟩⟩
      rw [decide_eq_true rfl]
      refine iteT ⟨_, rfl, _, rfl, hscal, ?_⟩
      rw [decide_eq_true rfl]
      exact fin H1 (Same.refl H1)
end
end Vw

set_option Elab.async false
set_option linter.all false
set_option maxRecDepth 100000
set_option maxHeartbeats 4000000
namespace Vw
open PySem PySem.W PyProof.Rows L2
def spLaw (K : PySem.W.Frag) : Sp := fun vs H Q _ => ∃ (a : Addr) (ns : List Int), vs = [.ref a] ∧ SqL K H a (ns.map V.int) ∧ ns.length ≤ 63 ∧ ∀ H', Q (.bl true) H'
theorem KO.at {K : PySem.W.Frag} {a : Addr} {o : O} (h : KO K a o) (H : Hp) : OA K H (.ref a) o := h.tp (fun a xs h => by cases h)
section
variable {K : PySem.W.Frag}
theorem lst2 {H : Hp} {D : Addr} {x y : V} {a b : O} (h : H D = some (.lst [x, y])) (hx : OA K H x a) (hy : OA K H y b) : Dp K H (.ref D) (.list [O.toD a, O.toD b]) := .lst (SqL.of h) (.cons hx.dp (.cons hy.dp .nil))
theorem depth2 {a b : O} (h1 : O.dp a ≤ 40) (h2 : O.dp b ≤ 40) : (PyData.list [O.toD a, O.toD b]).depth < 60 := by
  simp only [PyData.depth, PyData.depthAll, O.depth_toD]; omega
/-- a drawn ordinal -/
theorem use_ordW {l b : Addr} {r : Int} {H3 : Hp} {Q' : VK} (r0 : 0 ≤ r) (r1 : r < 4) (B : Bag l H3 b) (h : ∀ (o : O) (v : V) (H' : Hp), O.ok o = true → O.dp o ≤ 8 → O.wd o ≤ 3 → OA K H' v o → Kp b H3 H' → Bag l H' b → Q' v H') : spOrdTo K 10 [.ref b, .int r] H3 Q' E0 :=
  ⟨r.toNat, by omega, l, b, by rw [Int.toNat_of_nonneg r0], B, fun o v H' h1 h2 h3 h4 h5 h6 => h o v H' h1 (by omega) h3 h4 h5 h6⟩
theorem use_ord {l b : Addr} {r : Int} {H3 : Hp} {Q' : VK} (r0 : 0 ≤ r) (r1 : r < 4) (B : Bag l H3 b) (h : ∀ (o : O) (v : V) (H' : Hp), O.ok o = true → O.dp o ≤ 8 → (O.ts o).length ≤ 3 → OA K H' v o → Kp b H3 H' → Bag l H' b → Q' v H') : spOrdTo K 10 [.ref b, .int r] H3 Q' E0 :=
  ⟨r.toNat, by omega, l, b, by rw [Int.toNat_of_nonneg r0], B, fun o v H' h1 h2 h3 h4 h5 h6 => h o v H' h1 (by omega) (Nat.le_trans (O.len_wd o) h3) h4 h5 h6⟩
theorem use_plus {x y : O} {H : Hp} {Q' : VK} {u v : V} (h1 : OA K H u x) (h2 : OA K H v y) (h3 : O.ok x = true) (h4 : O.dp x ≤ 40) (h5 : O.dp y ≤ 40) (h6 : (O.ts x).length ≤ 100) (h7 : (O.ts y).length ≤ 100) (h8 : ∀ (v : V) (H' : Hp), Same H H' → OA K H' v (O.sum x y) → Q' v H') : spPlus K [u, v] H Q' E0 :=
  ⟨u, v, x, y, rfl, h1, h2, h3, by omega, by omega, by omega, by omega, h8⟩
end
section
variable {P : Program} {w : World} {K : PySem.W.Frag} {mg : Str → Option Value} {base : Heap}
theorem same_all  {a_HEADS : Addr} (T : Txt K mg  w a_HEADS) {f : Addr} {fd : FuncData} (F : Fun K "_law_same" "_law_same" s_law_same f fd) (bF : Binds K fd ["_law_found", "_law_due"] []) (mF : mg "_law_same" = some (.ref f)) :
    ∀ n : Nat, FnOk P w K mg base CX0 n f fd ["_law_found", "_law_due"] (spSame K n)
  | 0 => none_left fun vs H Q E h => by
    obtain ⟨_, _, _, _, _, _, h, _⟩ := h
    exact absurd h (Nat.not_lt_zero _)
  | n + 1 => ok_same T F ⟨same_all T F bF mF n, mF, F.kp, bF⟩
theorem one_mk {K : PySem.W.Frag} {aONE p1 q1 : Addr} {tk1 : Tok} {o1 o2 o3 : Option Addr} {n1 n2 n3 : Nat} {sl1 sl2 sl3 : Array (Option Value)} (lo1 : K.lookup aONE = some ⟨.type "tuple", o1, .seq #[.ref p1] n1, sl1⟩) (lo2 : K.lookup p1 = some ⟨.type "tuple", o2, .seq #[.ref q1, .int 1 tk1] n2, sl2⟩) (lo3 : K.lookup q1 = some ⟨.type "tuple", o3, .seq #[] n3, sl3⟩) : KO K aONE O.one :=
  ⟨aONE, [.ref p1], rfl, .inr ⟨_, _, _, lo1, rfl, rfl, by show 1 ≤ sizeLine; decide, .cons rfl .nil⟩, p1, q1, [], [], rfl, .inr ⟨_, _, _, lo2, rfl, rfl, by show 2 ≤ sizeLine; decide, .cons rfl (.cons ⟨_, rfl⟩ .nil)⟩, .inr ⟨_, _, _, lo3, rfl, rfl, by show 0 ≤ sizeLine; decide, .nil⟩, rfl, rfl⟩
end
end Vw

set_option Elab.async false
set_option linter.all false
set_option maxRecDepth 100000
set_option maxHeartbeats 4000000
namespace Vw
open PySem PySem.W PyProof.Rows L2
abbrev sparts_of : Stmt := top 2
theorem scparts_of : FnScope ["node"] ["node"] (defScope sparts_of) := ⟨rfl, rfl, rfl, by decide +kernel, rfl, by decide +kernel, by decide +kernel⟩
abbrev snodes_of : Stmt := top 3
theorem scnodes_of : GScope ["sentence", "stack", "node"] ["sentence"] (defScope snodes_of) := ⟨rfl, rfl, rfl, by decide +kernel, rfl, by decide +kernel, by decide +kernel⟩
abbrev snumbered : Stmt := top 4
theorem scnumbered : FnScope ["sentence", "places", "stack", "node", "parts", "pair", "_"] ["sentence"] (defScope snumbered) := ⟨rfl, rfl, rfl, by decide +kernel, rfl, by decide +kernel, by decide +kernel⟩
section
variable {P : Program} {w : World} {K : PySem.W.Frag} {mg : Str → Option Value} {base : Heap}
theorem paired_snoc {α β : Type} {F : α → β → Prop} : ∀ {xs : List α} {ys : List β}, Paired F xs ys → xs ≠ [] → ∃ xs' x ys' y, xs = xs' ++ [x] ∧ ys = ys' ++ [y] ∧ Paired F xs' ys' ∧ F x y
  | _, _, .nil, h => absurd rfl h
  | _, _, .cons a .nil, _ => ⟨[], _, [], _, rfl, rfl, .nil, a⟩
  | _, _, .cons a (.cons b t), _ => by
    obtain ⟨xs', x, ys', y, h1, h2, h3, h4⟩ := paired_snoc (.cons b t) (by simp)
    exact ⟨_ :: xs', x, _ :: ys', y, by rw [h1]; rfl, by rw [h2]; rfl, .cons a h3, h4⟩
theorem paired_rev {α β : Type} {F : α → β → Prop} : ∀ {xs : List α} {ys : List β}, Paired F xs ys → Paired F xs.reverse ys.reverse
  | _, _, .nil => .nil
  | _, _, .cons a t => by
    rw [List.reverse_cons, List.reverse_cons]
    exact paired_app (paired_rev t) (.cons a .nil)
theorem _root_.Vw.Se.ok.part {m : Int} {s p : Se} (h : s.ok m) (hp : p ∈ s.parts) : p.ok m := by
  cases s with
  | nt a => rw [List.mem_singleton.mp hp]; exact h
  | sh k a => rw [List.mem_singleton.mp hp]; exact h.2
  | bin w a b =>
    rcases List.mem_cons.mp hp with e | e
    · rw [e]; exact h.2.1
    · rw [List.mem_singleton.mp e]; exact h.2.2
  | _ => cases hp
theorem paired_unmap {α β γ : Type} {F : γ → β → Prop} {f : α → γ} : ∀ {xs : List α} {ys : List β}, Paired F (xs.map f) ys → Paired (fun a b => F (f a) b) xs ys
  | [], _, h => by cases h; exact .nil
  | _ :: _, _, h => by
    cases h with
    | cons a t => exact .cons a (paired_unmap t)
theorem pre_ok {m : Int} : ∀ (e : Se) {x : Se}, e.ok m → x ∈ e.pre → x.ok m
  | .t, x, h, hx => by rw [List.mem_singleton.mp hx]; exact h
  | .f, x, h, hx => by rw [List.mem_singleton.mp hx]; exact h
  | .nm _, x, h, hx => by rw [List.mem_singleton.mp hx]; exact h
  | .nt a, x, h, hx => by
    rcases List.mem_cons.mp hx with e | e
    · rw [e]; exact h
    · exact pre_ok a h e
  | .sh k a, x, h, hx => by
    rcases List.mem_cons.mp hx with e | e
    · rw [e]; exact h
    · exact pre_ok a h.2 e
  | .bin w a b, x, h, hx => by
    rcases List.mem_cons.mp hx with e | e
    · rw [e]; exact h
    · rcases List.mem_append.mp e with e | e
      · exact pre_ok a h.2.1 e
      · exact pre_ok b h.2.2 e
theorem ND.kp {d b : Addr} {H H' : Hp} {ys : List V} {kvs : List (NestedKey × V)} (h : ND P w K H d kvs) (k : Kp b H H') (hb : H b = some (.lst ys)) : ND P w K H' d kvs := by
  obtain ⟨o, es, ep, xs, h1, h2, h3, h4, h5, h6, h7⟩ := h
  exact ⟨o, es, ep, xs, k _ _ (ne_of h1 hb (fun z => by cases z)) h1, h2, h3, h4, h5, h6, paired_mono (fun a b x => ⟨x.1, NKV.tp (k.tp hb) _ _ x.2.1, x.2.2⟩) h7⟩
theorem ok_parts_ofT  {a_HEADS : Addr} (T : Txt K mg  w a_HEADS) {f : Addr} {fd : FuncData} {k : Nat} (F : Fun K "parts_of" "parts_of" sparts_of f fd) : FnOk P w K mg base CX0 (k + 1) f fd ["node"] (spPartsT K) := by
  refine F.ok scparts_of (fun vs H Q E h => ?_) (fun cdv A outer s H vs Q E hr h => ?_)
  · obtain ⟨_, _, _, _, rfl, _⟩ := h; rfl
  obtain ⟨p, x, xs, h, rfl, hp, hx, hh, q⟩ := h
  refine ⟨_, (pss_one (ps_ret (pe_slice sl_tupO (pv 0) (po_some (pe_ix (ix_tab T.t__HEADS) (pe_glob (v := .ref a_HEADS) (by rfl) T.m__HEADS rfl) (pe_ix ix_tup (pv 0) pe_int (fun _ _ => rfl)) (fun _ _ => rfl))) po_none))), ?_⟩
  obtain ⟨n, rfl⟩ : ∃ n : Nat, h = (n : Int) := ⟨h.toNat, by have := head_pos hh; omega⟩
  exact ⟨_, rfl, _, rfl, p, xs, _, _, rfl, rfl, hp.sq, atI_nat (j := 0) hx, x, _, rfl, rfl, hh, _, rfl, rd_from n hp fun p2 H2 s2 t2 => q p2 H2 s2 t2⟩
theorem ok_nodes_of  {a_HEADS : Addr} (T : Txt K mg  w a_HEADS) {f f1 : Addr} {fd fd1 : FuncData} (F : Fun K "nodes_of" "nodes_of" snodes_of f fd) (C_parts_of : Cal P w K mg base 1 "parts_of" ["node"] (spPartsT K) f1 fd1) : GFn P w K mg base 3 f fd ["sentence"] (spNodes K) := by
  obtain ⟨oc, od, kV, doc, pm, an, cdv, ct, osl, rfl, lk, hcd⟩ := F.ex
  refine gfn_of lk hcd scnodes_of (fun vs H Q E h => ?_) (fun A outer s H vs Q E pn hr h => ?_)
  · obtain ⟨_, _, _, rfl, _⟩ := h; rfl
  obtain ⟨v, e, m, rfl, hv, hok, hn, q⟩ := h
  refine ⟨_, (gss_cons (gs_ps (ps_set (i := 1) scnodes_of.nd rfl (Or.inl rfl) (pe_lst (pa_cons (pv 0) pa_nil))))
  (gss_cons (gs_while owns_gcx (pt_truth (pv 1) (by intro _; rfl)) (gss_cons (gs_ps (ps_set (i := 2) scnodes_of.nd rfl (Or.inl rfl) (pe_bm0 PySem.F.plainAttrs_list PySem.F.slot_list_pop PySem.F.type_list_pop mt_pop (pv 1))))
  (gss_cons (gs_yield (pv 2))
  (gss_cons (gs_ps (ps_expr (pe_bm PySem.F.plainAttrs_list PySem.F.slot_list_extend PySem.F.type_list_extend mt_extendT (pv 1) (pa_cons (pe_revT (pe_call C_parts_of.G (hr.mono (by omega)) (by rfl) C_parts_of.m C_parts_of.kp C_parts_of.b .nil pass0 (pa_cons (pv 2) pa_nil))) pa_nil))))
  gss_nil))))
  gss_nil)), ?_⟩
  refine ⟨_, rfl, (by show 1 ≤ sizeLine; decide), fun D nD => ?_⟩
  have hz : e.size ≤ 65536 := by
    have h1 := e.size_le
    have h2 : 2 ^ (e.nest + 1) ≤ 2 ^ 16 := Nat.pow_le_pow_right (by decide) (by omega)
    have h3 : (2 : Nat) ^ 16 = 65536 := by decide
    omega
  have z0 : (65536 : Nat) + 65536 ≤ sizeLine := by decide
  refine ⟨fun n ys σ H' => ∃ u us st, σ = [some v, some (.ref D), u] ∧ Same H H' ∧ H' D = some (.lst us) ∧ Paired (SeA K H) us st ∧ (∀ s ∈ st, s.ok m) ∧ Paired (SeA K H) ys (e.pre.take ys.length) ∧ e.pre = e.pre.take ys.length ++ st.reverse.flatMap Se.pre ∧ n = (st.map Se.size).sum, ⟨_, _, [v], [e], rfl, same_new nD, upd_same, .cons hv .nil, (by intro s hs; rw [List.mem_singleton.mp hs]; exact hok), .nil, (by simp), rfl⟩, fun n ys σ H1 h => ?_⟩
  obtain ⟨u, us, st, rfl, s1, eD, hst, ho, hys, ep, hn1⟩ := h
  refine ⟨_, rfl, !us.isEmpty, .inl ⟨us, SqL.of eD, rfl⟩, ?_⟩
  by_cases hne : us = []
  · subst hne
    cases hst
    refine iteF ?_
    have e1 : e.pre.take ys.length = e.pre := by
      have h2 := ep
      simp only [List.reverse_nil, List.flatMap_nil, List.append_nil] at h2
      exact h2.symm
    rw [e1] at hys
    exact q ys H1 s1 (paired_mono (fun a b h => h.same s1) hys)
  obtain ⟨us', y, st', s0, rfl, rfl, hst', g⟩ := paired_snoc hst hne
  have ex : (!(us' ++ [y]).isEmpty) = true := by cases us' <;> rfl
  rw [ex]
  have hy : (us' ++ [y])[(us' ++ [y]).length - 1]? = some y := by
    rw [List.length_append, List.length_singleton, Nat.add_sub_cancel, List.getElem?_append_right (Nat.le_refl _), Nat.sub_self]; rfl
  have s2 : Same H (upd H1 D (.lst (us' ++ [y]).dropLast)) := same_mut s1 nD
  have ly : ys.length + (((st' ++ [s0]).reverse.flatMap Se.pre).length) = e.size := by
    have h1 := congrArg List.length ep
    rw [List.length_append, Se.pre_len, ← paired_len hys] at h1
    exact h1.symm
  have lp : ((st' ++ [s0]).reverse.flatMap Se.pre) = s0 :: (s0.parts.flatMap Se.pre ++ st'.reverse.flatMap Se.pre) := by
    rw [List.reverse_append]
    simp only [List.reverse_singleton, List.singleton_append, List.flatMap_cons]
    rw [Se.pre_cons s0]; rfl
  have g0 := g
  obtain ⟨p, ps, rfl, hp, hps⟩ := g.node
  refine iteT ⟨fun ys' σ' H' => ∃ n', n' < n ∧ ∃ u us st, σ' = [some v, some (.ref D), u] ∧ Same H H' ∧ H' D = some (.lst us) ∧ Paired (SeA K H) us st ∧ (∀ s ∈ st, s.ok m) ∧ Paired (SeA K H) ys' (e.pre.take ys'.length) ∧ e.pre = e.pre.take ys'.length ++ st.reverse.flatMap Se.pre ∧ n' = (st.map Se.size).sum, fun ys' σ' H' h => h, ?_⟩
  refine ⟨_, rfl, .inl ⟨rfl, _, SqL.of eD⟩, D, _, _, rfl, rfl, eD, hy, ?_⟩
  refine ⟨(by rw [lp] at ly; simp only [List.length_cons] at ly; omega), _, rfl, ?_⟩
  have e3 : upd H1 D (.lst (us' ++ [V.ref p]).dropLast) D = some (.lst us') := by rw [upd_same, List.dropLast_concat]
  have x0 : (s0.hdV ++ ps)[0]? = some (.str s0.word) := by
    rw [List.getElem?_append_left (by rw [Se.hdV_len]; cases s0 <;> simp [Se.hdN])]; exact s0.hdV_0
  have ok0 : s0.ok m := ho s0 (by simp)
  have dr : (s0.hdV ++ ps).drop (s0.hdN : Int).toNat = ps := by
    rw [Int.toNat_natCast, ← Se.hdV_len, List.drop_left]
  have l1 := paired_len hst'
  have l2 := paired_len hps
  have l3 : s0.parts.length ≤ 2 := by cases s0 <;> simp [Se.parts]
  have l4 : st'.length ≤ (st'.map Se.size).sum := by
    clear l1 ho ep lp ly hst' hst hn1
    induction st' with
    | nil => exact Nat.le_refl _
    | cons a r ih =>
      have := a.size_pos
      simp only [List.map_cons, List.sum_cons, List.length_cons]; omega
  have l5 : ∀ l : List Se, (l.flatMap Se.pre).length = (l.map Se.size).sum := by
    intro l
    induction l with
    | nil => rfl
    | cons a r ih => simp only [List.flatMap_cons, List.length_append, Se.pre_len, List.map_cons, List.sum_cons, ih]
  have l6 : ∀ l : List Se, (l.reverse.map Se.size).sum = (l.map Se.size).sum := by
    intro l
    rw [List.map_reverse, List.sum_reverse]
  have l7 := Se.size_parts s0
  rw [lp] at ly ep
  simp only [List.length_cons, List.length_append, l5, l6] at ly
  simp only [List.map_append, List.map_cons, List.map_nil, List.sum_append, List.sum_cons, List.sum_nil] at hn1
  refine ⟨_, rfl, .inl ⟨rfl, _, SqL.of e3⟩, _, rfl, p, s0.word, _, (s0.hdN : Int), rfl, hp.same s2, x0, Se.head_word ok0, fun p2 H3 s3 t3 => ⟨p2, _, rfl, t3, fun p4 H4 s4 t4 => ⟨D, p4, us', _, rfl, rfl, s4 _ _ (s3 _ _ e3), t4.sq, ?_, ?_⟩⟩⟩
  · rw [dr, List.length_reverse]; omega
  · rw [dr]
    have tk : e.pre.take (ys ++ [V.ref p]).length = e.pre.take ys.length ++ [s0] := by
      rw [List.length_append, List.length_singleton, List.take_add_one]
      congr 1
      have h1 : e.pre[ys.length]? = some s0 := by
        rw [ep, List.getElem?_append_right (by rw [← paired_len hys]; exact Nat.le_refl _), ← paired_len hys, Nat.sub_self]; rfl
      rw [h1]; rfl
    refine ⟨_, (?_ : ((st' ++ s0.parts.reverse).map Se.size).sum < n), _, us' ++ ps.reverse, st' ++ s0.parts.reverse, rfl, same_mut ((s2.trans s3).trans s4) nD, upd_same, paired_app hst' (paired_rev hps), fun x hx => ?_, ?_, ?_, rfl⟩
    · rw [List.map_append, List.sum_append, l6]; omega
    · rcases List.mem_append.mp hx with h | h
      · exact ho x (List.mem_append_left _ h)
      · exact ok0.part (List.mem_reverse.mp h)
    · rw [tk]
      exact paired_app hys (.cons g0 .nil)
    · rw [tk, List.reverse_append, List.reverse_reverse, List.flatMap_append, List.append_assoc]
      exact ep
theorem ok_numbered  {a_HEADS : Addr} (T : Txt K mg  w a_HEADS) {f f1 f2 : Addr} {fd fd1 fd2 : FuncData} (F : Fun K "numbered" "numbered" snumbered f fd) (C_parts_of : Cal P w K mg base 1 "parts_of" ["node"] (spPartsT K) f1 fd1)
    (C_nodes_of : CalG P w K mg base 3 "nodes_of" ["sentence"] (spNodes K) f2 fd2) : FnOk P w K mg base CX0 7 f fd ["sentence"] (spNumb K) := by
  refine F.ok scnumbered (fun vs H Q E h => ?_) (fun cdv A outer s H vs Q E hr h => ?_)
  · obtain ⟨_, _, _, rfl, _⟩ := h; rfl
  obtain ⟨v, e, m, rfl, hv, hok, hn, q⟩ := h
  refine ⟨_, (pss_cons (ps_set (i := 1) scnumbered.nd rfl (Or.inl rfl) pe_nnew)
  (pss_cons (ps_set (i := 2) scnumbered.nd rfl (Or.inr rfl) (pe_lst pa_nil))
  (pss_cons (ps_for PassesOwn.never rfl (pi_list (pe_revL (pe_listG (pgen_call C_nodes_of.G (hr.mono (by omega)) (by rfl) C_nodes_of.m C_nodes_of.kp C_nodes_of.b .nil (pa_cons (pv 0) pa_nil)) passF noStop0 (hr.mono (by omega)) (by rfl) T.z_list (by decide +kernel)))) (pg_name (i := 3) scnumbered.nd rfl (Or.inl rfl))
   (pss_cons (ps_set (i := 4) scnumbered.nd rfl (Or.inl rfl) (pe_callTy call_tuple_of (by rfl) T.z_tuple (by decide +kernel) (pa_cons (pe_lc (own := [("_", 6)]) (g := gName 6) (tt := tYes) rfl scnumbered.nd (pi_tup (pe_call C_parts_of.G (hr.mono (by omega)) (by rfl) C_parts_of.m C_parts_of.kp C_parts_of.b .nil pass0 (pa_cons (pv 3) pa_nil))) (blkOk_by (own := [("_", 6)]) (N := ["sentence", "places", "stack", "node", "parts", "pair", "_"]) (sc := defScope snumbered) (by decide +kernel)) (fun _ _ _ _ _ => (pg_name (i := 6) scnumbered.nd rfl (Or.inl rfl))) (fun _ _ _ _ _ => pts_nil) (fun _ _ _ _ _ => (pe_bm0K (K := K) rfl PySem.F.plainAttrs_list PySem.F.slot_list_pop PySem.F.type_list_pop mt_pop (pv 2)))) pa_nil)))
  (pss_cons (ps_set (i := 5) scnumbered.nd rfl (Or.inl rfl) (pe_tup (pa_cons (pe_slice sl_tupO (pv 3) po_none (po_some (pe_ix (ix_tab T.t__HEADS) (pe_glob (v := .ref a_HEADS) (by rfl) T.m__HEADS rfl) (pe_ix ix_tup (pv 3) pe_int (fun _ _ => rfl)) (fun _ _ => rfl)))) (pa_cons (pv 4) pa_nil))))
  (C8.pss_cut (ps_if (pt_cmpR (op_nnot (Nat.lt_of_le_of_lt (Nat.add_le_add_left (by decide : 9 ≤ 64) _) hr.units)) (pv 5) (pv 1) rfl) (pss_one (ps_asg (pe_callB call_len_nd (by rfl) T.z_len (by decide +kernel) (pa_cons (pv 1) pa_nil)) (pg_sub (pv 1) (pv 5) (set_nd (Nat.lt_of_le_of_lt (Nat.add_le_add_left (by decide : 9 ≤ 64) _) hr.units))))) pss_nil)
  (pss_one (ps_expr (pe_bm PySem.F.plainAttrs_list PySem.F.slot_list_append PySem.F.type_list_append mt_append (pv 2) (pa_cons (pe_ix (ix_nd (Nat.lt_of_le_of_lt (Nat.add_le_add_left (by decide : 9 ≤ 64) _) hr.units)) (pv 1) (pv 5) (fun _ _ => rfl)) pa_nil))))))))
  (pss_one (ps_ret (pe_callTy (call_list_nd rfl) (by rfl) T.z_list (by decide +kernel) (pa_cons (pv 1) pa_nil))))))), ?_⟩
  refine fun Pd ob nP hD => ⟨(by show 0 ≤ sizeLine; decide), fun S nS => ?_⟩
  have sA : Same H (upd H Pd (ndO Pd ob)) := same_new nP
  have sB := same_new (o := .lst []) nS
  have nS0 : H S = none := sA.free nS
  have hz : e.size ≤ 65536 := by
    have h1 := e.size_le
    have h2 : 2 ^ (e.nest + 1) ≤ 2 ^ 16 := Nat.pow_le_pow_right (by decide) (by omega)
    have h3 : (2 : Nat) ^ 16 = 65536 := by decide
    omega
  have z0 : (65536 : Nat) + 65536 ≤ sizeLine := by decide
  refine ⟨_, rfl, v, e, m, rfl, (hv.same sA).same sB, hok, hn, fun ys H1 s1 hys L1 nL1 => ⟨L1, ys, rfl, SqL.of upd_same, fun L nL => ⟨L, rfl, ⟨_, SqL.of upd_same⟩, ?_⟩⟩⟩
  have sC := same_new (o := .lst ys) nL1
  have sD := same_new (o := .lst ys.reverse) nL
  have s0L := (((sA.trans sB).trans s1).trans sC).trans sD
  have eS1 := sD _ _ (sC _ _ (s1 _ _ (upd_same (H := upd H Pd (ndO Pd ob)) (a := S) (o := HO.lst []))))
  have hSL : S ≠ L := fun h => by rw [← h] at nL; rw [sC _ _ (s1 _ _ upd_same)] at nL; cases nL
  have hD1 := (((hD.same sB).same s1).same sC).same sD
  have tp1 : Tp H1 (upd (upd H1 L1 (.lst ys)) L (.lst ys.reverse)) := same_tp (sC.trans sD)
  have hpl : e.pre.reverse.length = e.size := by rw [List.length_reverse, Se.pre_len]
  refine for_list (xs := ys.reverse) (fun i σ H' => ∃ u3 u4 u5 ss st, σ = [some v, some (.ref Pd), some (.ref S), u3, u4, u5, none] ∧ Same H H' ∧ Tp H1 H' ∧ H' L = some (.lst ys.reverse) ∧ ND P w K H' Pd (kvS ss) ∧ H' S = some (.lst (st.map (numS ss))) ∧ ss = (e.pre.reverse.take i).foldl addS [] ∧ GoodS m ss ∧ (∀ s ∈ st, s ∈ ss) ∧ st.length ≤ i ∧ Mach (e.pre.reverse.drop i) st e) ⟨_, _, _, [], [], rfl, s0L, tp1, upd_same, hD1, eS1, rfl, goodS_nil, (fun _ h => by cases h), Nat.le_refl _, mach_start e⟩ (fun i σ H2 _ h => ?_) (fun i x σ H2 hx h => ?_) (fun σ H2 h => ?_)
  · obtain ⟨_, _, _, _, _, _, _, _, eL, _⟩ := h
    exact SqL.of eL
  · obtain ⟨u3, u4, u5, ss, st, rfl, s2, t2, eL, hN, eS, hss, gs, hst, li, hm⟩ := h
    obtain ⟨s0, hs0, g⟩ := paired_get (paired_rev hys) hx
    have hi : i < e.pre.reverse.length := (List.getElem?_eq_some_iff.mp hs0).1
    have hdr : e.pre.reverse.drop i = s0 :: e.pre.reverse.drop (i + 1) := by
      rw [List.drop_eq_getElem_cons hi]
      congr 1
      exact (List.getElem?_eq_some_iff.mp hs0).2
    rw [hdr] at hm
    generalize hst0 : st = st_ at hm
    cases hm with
    | @cons _ _ st0 _ hm2 =>
    subst hst0
    have ok0 : s0.ok m := pre_ok e hok (List.mem_reverse.mp (List.mem_of_getElem? hs0))
    have lss : ss.length ≤ i := by
      rw [hss]
      have := len_fold (e.pre.reverse.take i) []
      rw [List.length_take] at this
      simp only [List.length_nil] at this; omega
    obtain ⟨p, ps, rfl, hp, hps⟩ := (g.tp t2).node
    have x0 : (s0.hdV ++ ps)[0]? = some (.str s0.word) := by
      rw [List.getElem?_append_left (by rw [Se.hdV_len]; cases s0 <;> simp [Se.hdN])]; exact s0.hdV_0
    have dr : (s0.hdV ++ ps).drop (s0.hdN : Int).toNat = ps := by rw [Int.toNat_natCast, ← Se.hdV_len, List.drop_left]
    have tk : (s0.hdV ++ ps).take s0.hdN = s0.hdV := by rw [← Se.hdV_len, List.take_left]
    have lps := paired_len hps
    have l3 : s0.parts.length ≤ 2 := by cases s0 <;> simp [Se.parts]
    refine ⟨_, rfl, p, s0.word, _, (s0.hdN : Int), rfl, hp, x0, Se.head_word ok0, fun p2 H3 s3 t3 => ⟨p2, rfl, ⟨_, t3.sq⟩, fun D nD => ?_⟩⟩
    rw [dr] at t3
    have eS3 := s3 _ _ eS
    have sDn := same_new (o := .lst []) nD
    refine lc_tup (K := K) (a := p2) (xs := ps) (fun j H' => Kp S H3 H' ∧ H' D = some (.lst ((s0.parts.take j).map (numS ss))) ∧ H' S = some (.lst ((st0 ++ (s0.parts.drop j).reverse).map (numS ss)))) ⟨same_kp sDn, by rw [upd_same]; rfl, sDn _ _ (by rw [List.drop_zero]; exact eS3)⟩ (fun j H' _ hp => ?_) (fun j y H' hy hp => ?_) (fun H4 hp => ?_)
    · exact (t3.tp (hp.1.tp eS3)).sq
    · obtain ⟨k1, eD, eS4⟩ := hp
      obtain ⟨q0, hq0, _⟩ := paired_get hps hy
      have hj : j < s0.parts.length := (List.getElem?_eq_some_iff.mp hq0).1
      have dj : s0.parts.drop j = q0 :: s0.parts.drop (j + 1) := by
        rw [List.drop_eq_getElem_cons hj]
        congr 1
        exact (List.getElem?_eq_some_iff.mp hq0).2
      have e1 : (st0 ++ (s0.parts.drop j).reverse).map (numS ss) = ((st0 ++ (s0.parts.drop (j + 1)).reverse).map (numS ss)) ++ [numS ss q0] := by
        rw [dj, List.reverse_cons, ← List.append_assoc, List.map_append]; rfl
      rw [e1] at eS4
      have hSD : D ≠ S := fun h => by rw [h, eS3] at nD; cases nD
      have eDn := upd_ne (H := H') (o := HO.lst (((st0 ++ (s0.parts.drop (j + 1)).reverse).map (numS ss)))) hSD
      refine ⟨rfl, ⟨_, rfl, .inl ⟨rfl, _, SqL.of eS4⟩, S, _, numS ss q0, rfl, rfl, eS4, by rw [List.length_append, List.length_singleton, Nat.add_sub_cancel, List.getElem?_append_right (Nat.le_refl _), Nat.sub_self]; rfl, _, by rw [List.dropLast_concat]; exact eDn.trans eD, ?_, ?_, ?_, ?_⟩⟩
      · rw [List.length_map, List.length_take]; omega
      · rw [List.dropLast_concat]; exact kp_mut (k1.trans Kp.upd) nD
      · rw [upd_same, List.take_add_one, hq0, List.map_append]; rfl
      · rw [upd_ne (Ne.symm hSD), List.dropLast_concat, upd_same]
    · obtain ⟨k1, eD, eS4⟩ := hp
      rw [lps, List.take_length] at eD
      rw [lps, List.drop_length, List.reverse_nil, List.append_nil] at eS4
      have tp4 := k1.tp eS3
      have s4 : Same H H4 := fun a o h => k1 a o (ne_of_none h nS0) (s3 _ _ (s2 _ _ h))
      have hN4 : ND P w K H4 Pd (kvS ss) := (hN.same s3).kp k1 eS3
      have eL4 := k1 _ _ (Ne.symm hSL) (s3 _ _ eL)
      have hps4 : ∀ q ∈ s0.parts, q ∈ ss := fun q hq => hst q (List.mem_append_right _ (List.mem_reverse.mpr hq))
      refine ⟨D, _, rfl, .inl ⟨SqL.of eD, fun q5 nq5 => ?_⟩⟩
      have s5 := same_new (o := .tup (s0.parts.map (numS ss))) nq5
      have hp5 := ((hp.same s3).tp tp4).same s5
      refine ⟨_, rfl, _, rfl, p, _, _, _, rfl, rfl, hp5.sq, atI_nat (j := 0) x0, s0.word, _, rfl, rfl, Se.head_word ok0, _, rfl, rd_to _ hp5 fun h6 H6 s6 t6 => ⟨_, rfl, (by show 2 ≤ sizeLine; decide), fun b nb => ?_⟩⟩
      rw [tk] at t6
      have s7 := same_new (o := .tup [.ref h6, .ref q5]) nb
      have hk : NKV K (upd H6 b (.tup [.ref h6, .ref q5])) (keyS ss s0) (.ref b) := key_nkv (.of upd_same) (t6.same s7) (((TT.of upd_same).same s6).same s7)
      have sE := (s5.trans s6).trans s7
      have hN7 := hN4.same sE
      have eL7 := sE _ _ eL4
      have eS7 := sE _ _ eS4
      have sH7 := s4.trans sE
      have tH7 : Tp H1 (upd H6 b (.tup [.ref h6, .ref q5])) := ((t2.trans (same_tp s3)).trans tp4).trans (same_tp sE)
      generalize hH7 : upd H6 b (.tup [.ref h6, .ref q5]) = H7 at hk hN7 eL7 eS7 sH7 tH7 ⊢
      have hst1 : ∀ s ∈ st0, s ∈ ss := fun s hs => hst s (List.mem_append_left _ hs)
      have e8 : addS ss s0 = (e.pre.reverse.take (i + 1)).foldl addS [] := by
        rw [List.take_add_one, hs0, List.foldl_append, ← hss]; rfl
      refine ⟨fun σ' H' => σ' = [some v, some (.ref Pd), some (.ref S), some (.ref p), some (.ref q5), some (.ref b), none] ∧ Same H H' ∧ Tp H1 H' ∧ H' L = some (.lst ys.reverse) ∧ ND P w K H' Pd (kvS (addS ss s0)) ∧ H' S = some (.lst (st0.map (numS ss))) ∧ NKV K H' (keyS ss s0) (.ref b), ?_, fun σ' H8 h => ?_⟩
      · refine ⟨_, rfl, _, rfl, Pd, kvS ss, keyS ss s0, b, rfl, rfl, hN7, hk, key_dep _ _, _, rfl, ?_⟩
        refine ite2 (fun e1 => ?_) (fun e1 => ?_)
        · have hnk : keyS ss s0 ∉ (kvS ss).map (·.1) := of_decide_eq_true e1
          have hns : s0 ∉ ss := fun h => hnk ((keyS_mem gs ok0 hps4).mpr h)
          have lk : (kvS ss).length = ss.length := by unfold kvS; rw [List.length_map]
          refine ⟨_, rfl, Pd, kvS ss, rfl, hN7, by omega, _, rfl, _, rfl, Pd, kvS ss, keyS ss s0, b, rfl, rfl, hN7, hk, key_dep _ _, hnk, by omega, fun ob2 hN8 => ?_⟩
          rw [lk, ← kvS_app gs hns hps4, ← addS_out hns] at hN8
          obtain ⟨o7, _, _, _, hP7, _⟩ := id hN7
          have tpP : Tp H7 (upd H7 Pd (ndO Pd ob2)) := fun a xs q => by rw [upd_ne (ne_of q hP7 (fun z => by cases z))]; exact q
          refine ⟨rfl, same_mut sH7 nP, tH7.trans tpP, ?_, hN8, ?_, NKV.tp tpP _ _ hk⟩
          · rw [upd_ne (ne_of eL7 hP7 (fun z => by cases z))]; exact eL7
          · rw [upd_ne (ne_of eS7 hP7 (fun z => by cases z))]; exact eS7
        · have hnk : keyS ss s0 ∈ (kvS ss).map (·.1) := by
            have h2 : ¬ decide (keyS ss s0 ∉ (kvS ss).map (·.1)) = true := e1
            exact Decidable.byContradiction fun h3 => h2 (decide_eq_true h3)
          have hin : s0 ∈ ss := (keyS_mem gs ok0 hps4).mp hnk
          rw [addS_in hin]
          exact ⟨rfl, sH7, tH7, eL7, hN7, eS7, hk⟩
      · obtain ⟨rfl, s8, t8, eL8, hN8, eS8, hk8⟩ := h
        have hin : s0 ∈ addS ss s0 := by
          unfold addS
          split
          · assumption
          · simp
        have e9 : keyS (addS ss s0) s0 = keyS ss s0 := by
          unfold addS
          split
          · rfl
          · exact keyS_app hps4
        have e10 : st0.map (numS ss) = st0.map (numS (addS ss s0)) := by
          unfold addS
          split
          · rfl
          · refine List.map_congr_left fun x hx => ?_
            unfold numS
            rw [idx_app (hst1 x hx)]
        have gs' : GoodS m (addS ss s0) := by
          unfold addS
          split
          · exact gs
          · rename_i h
            exact gs.add ok0 hps4 h
        have at8 := kvS_at hin
        rw [e9] at at8
        rw [e10] at eS8
        have l8 : st0.length ≤ i := by rw [List.length_append] at li; omega
        refine ⟨_, rfl, .inl ⟨rfl, _, SqL.of eS8⟩, _, rfl, _, rfl, Pd, _, keyS ss s0, b, _, rfl, rfl, hN8, hk8, key_dep _ _, at8, S, _, _, rfl, rfl, eS8, by rw [List.length_map]; omega, ?_⟩
        refine ⟨_, _, _, addS ss s0, st0 ++ [s0], rfl, same_mut s8 nS0, t8.trans (tp_lst eS8), ?_, hN8.kp Kp.upd eS8, ?_, e8, gs', fun s hs => ?_, ?_, hm2⟩
        · rw [upd_ne (Ne.symm hSL)]; exact eL8
        · rw [upd_same, List.map_append]; rfl
        · rcases List.mem_append.mp hs with h | h
          · unfold addS
            split
            · exact hst1 s h
            · exact List.mem_append_left _ (hst1 s h)
          · rw [List.mem_singleton.mp h]; exact hin
        · rw [List.length_append, List.length_singleton]; omega
  · obtain ⟨u3, u4, u5, ss, st, rfl, s2, t2, eL, hN, eS, hss, gs, hst, li, hm⟩ := h
    have ly : ys.reverse.length = e.pre.reverse.length := by rw [List.length_reverse, List.length_reverse]; exact paired_len hys
    rw [ly, List.drop_length] at hm
    rw [ly, List.take_length] at hss
    have lss : ss.length ≤ 65536 := by
      rw [hss]
      have := len_fold e.pre.reverse []
      simp only [List.length_nil] at this; omega
    have lk : (kvS ss).length = ss.length := by unfold kvS; rw [List.length_map]
    refine ⟨_, rfl, Pd, kvS ss, rfl, hN, by rw [lk]; omega, fun D bs nD hb => ?_⟩
    have z := same_new (o := .lst (bs.map V.ref)) nD
    refine q D _ ss bs (s2.free nD) (s2.trans z) upd_same ?_ gs (by rw [hss]; exact fold_last e) (by have : (2 : Nat) ^ 16 = 65536 := by decide
                                                                                                     omega)
    have : Paired (fun s b => NKV K H2 (keyS ss s) (.ref b)) ss bs := by
      unfold kvS at hb
      exact paired_unmap hb
    exact paired_mono (fun a b h => NKV.tp (same_tp z) _ _ h) this
end
end Vw

set_option Elab.async false
set_option linter.all false
set_option maxRecDepth 100000
set_option maxHeartbeats 4000000
namespace Vw
open PySem PySem.W PyProof.Rows L2
abbrev sreplaced : Stmt := top 5
theorem screplaced : FnScope ["sentence", "names", "found", "head", "parts", "place"] ["sentence", "names"] (defScope sreplaced) := ⟨rfl, rfl, rfl, by decide +kernel, rfl, by decide +kernel, by decide +kernel⟩
abbrev s_law_put : Stmt := top 13
theorem sc_law_put : FnScope ["_law_words", "_law_table_z", "_law_part"] ["_law_words", "_law_table_z"] (defScope s_law_put) := ⟨rfl, rfl, rfl, by decide +kernel, rfl, by decide +kernel, by decide +kernel⟩
section
variable {P : Program} {w : World} {K : PySem.W.Frag} {mg : Str → Option Value} {base : Heap}
theorem ok_replaced  {a_HEADS : Addr} (T : Txt K mg  w a_HEADS) {f f1 : Addr} {fd fd1 : FuncData} (F : Fun K "replaced" "replaced" sreplaced f fd) (C_numbered : Cal P w K mg base 7 "numbered" ["sentence"] (spNumb K) f1 fd1) : FnOk P w K mg base CX0 8 f fd ["sentence", "names"] (spRepl K) := by
  refine F.ok screplaced (fun vs H Q E h => ?_) (fun cdv A outer s H vs Q E hr h => ?_)
  · obtain ⟨_, _, _, _, _, _, _, rfl, _⟩ := h; rfl
  obtain ⟨v, d, e, m, n, kvs, t, rfl, hv, hok, hn, hd, ht, q⟩ := h
  refine ⟨_, (pss_cons (ps_set (i := 2) screplaced.nd rfl (Or.inr rfl) (pe_lst pa_nil))
  (pss_cons (ps_for PassesOwn.never rfl (pi_list (pe_call C_numbered.G (hr.mono (by omega)) (by rfl) C_numbered.m C_numbered.kp C_numbered.b .nil pass0 (pa_cons (pv 0) pa_nil))) (pg_tup (by rfl) (pgs_cons (pg_name (i := 3) screplaced.nd rfl (Or.inl rfl)) (pgs_cons (pg_name (i := 4) screplaced.nd rfl (Or.inl rfl)) pgs_nil)))
   (pss_one (ps_if (PW.pt (pw_and (pt_cmpR op_eq (pe_ix ix_tup (pv 3) pe_int (fun _ _ => rfl)) pe_str (nomark _)) (pw_and1 (pt_cmpR (op_inDk (Nat.lt_of_le_of_lt (Nat.add_le_add_left (by decide : 1 ≤ 64) _) hr.units)) (pe_ix ix_tup (pv 3) pe_int (fun _ _ => rfl)) (pv 1) rfl)))) (pss_one (ps_expr (pe_bm PySem.F.plainAttrs_list PySem.F.slot_list_append PySem.F.type_list_append mt_append (pv 2) (pa_cons (pe_ix (ix_dk (Nat.lt_of_le_of_lt (Nat.add_le_add_left (by decide : 1 ≤ 64) _) hr.units)) (pv 1) (pe_ix ix_tup (pv 3) pe_int (fun _ _ => rfl)) (fun _ _ => rfl)) pa_nil)))) (pss_one (ps_expr (pe_bm PySem.F.plainAttrs_list PySem.F.slot_list_append PySem.F.type_list_append mt_append (pv 2) (pa_cons (pe_op op_catO (pv 3) (pe_callTy call_tuple_of (by rfl) T.z_tuple (by decide +kernel) (pa_cons (pe_lc (own := [("place", 5)]) (g := gName 5) (tt := tYes) rfl screplaced.nd (pi_tup (pv 4)) (blkOk_by (own := [("place", 5)]) (N := ["sentence", "names", "found", "head", "parts", "place"]) (sc := defScope sreplaced) (by decide +kernel)) (fun _ _ _ _ _ => (pg_name (i := 5) screplaced.nd rfl (Or.inl rfl))) (fun _ _ _ _ _ => pts_nil) (fun _ _ _ _ _ => (pe_ix (r := rIxL K) ix_list (pv 2) (pv 5) (fun _ _ => rfl)))) pa_nil))) pa_nil)))))))
  (pss_one (ps_ret (pe_ix ix_list (pv 2) (pe_un un_neg pe_int) (fun _ _ => rfl)))))), ?_⟩
  refine ⟨(by show 0 ≤ sizeLine; decide), fun F0 nF => ?_⟩
  have sA := same_new (o := .lst []) nF
  refine ⟨_, rfl, v, e, m, rfl, hv.same sA, hok, hn, fun D H1 ss bs nD s1 eD hb gs hl lss => ⟨D, rfl, ⟨_, SqL.of eD⟩, ?_⟩⟩
  have s01 := sA.trans s1
  have eF := s1 _ _ (upd_same (H := H) (a := F0) (o := HO.lst []))
  have hFD : F0 ≠ D := fun h => by rw [← h, upd_same] at nD; cases nD
  have z0 : (2 : Nat) ^ 16 + 65536 ≤ sizeLine := by decide
  refine for_list (xs := bs.map V.ref) (fun i σ H' => ∃ u3 u4, σ = [some v, some (.ref d), some (.ref F0), u3, u4, none] ∧ Same H H' ∧ Kp F0 H1 H' ∧ ∃ us, H' F0 = some (.lst us) ∧ Paired (SeA K H') us ((ss.take i).map (Se.put t))) ⟨_, _, rfl, s01, Kp.refl _, [], eF, .nil⟩ (fun i σ H2 _ h => ?_) (fun i x σ H2 hx h => ?_) (fun σ H2 h => ?_)
  · obtain ⟨_, _, _, _, k2, _⟩ := h
    exact SqL.of (k2 _ _ (Ne.symm hFD) eD)
  · obtain ⟨u3, u4, rfl, s2, k2, us, eF2, hus⟩ := h
    obtain ⟨b, hbi, rfl⟩ : ∃ b, bs[i]? = some b ∧ x = V.ref b := by
      rw [List.getElem?_map] at hx
      cases h : bs[i]? with
      | none => rw [h] at hx; cases hx
      | some b => rw [h] at hx; exact ⟨b, rfl, (Option.some.inj hx).symm⟩
    obtain ⟨s0, hs0, hk⟩ := paired_get' hb hbi
    obtain ⟨hh, qq, t1, t2, t3⟩ := nkv_key (NKV.tp (k2.tp eF) _ _ hk)
    have hi : i < ss.length := (List.getElem?_eq_some_iff.mp hs0).1
    have lu : us.length = i := by
      rw [paired_len hus, List.length_map, List.length_take]; omega
    have ok0 := gs.ok s0 (List.mem_of_getElem? hs0)
    have hd2 := s2 _ _ hd
    have ht2 := ht.tp (same_tp s2)
    refine ⟨b, _, rfl, t1.sq, rfl, _, _, rfl, _, _, rfl, rfl, ?_⟩
    have h0 : s0.hdV[0]? = some (.str s0.word) := s0.hdV_0
    have tk : (ss.take (i + 1)).map (Se.put t) = (ss.take i).map (Se.put t) ++ [s0.put t] := by
      rw [List.take_add_one, hs0, List.map_append]; rfl
    -- a name of the table
    have fin : ∀ (H3 : Hp) (y : V), Same H2 H3 → SeA K H3 y (s0.put t) → ∃ u3' u4', [some v, some (V.ref d), some (V.ref F0), some (V.ref hh), some (V.ref qq), none] = [some v, some (V.ref d), some (V.ref F0), u3', u4', none] ∧ Same H (upd H3 F0 (.lst (us ++ [y]))) ∧ Kp F0 H1 (upd H3 F0 (.lst (us ++ [y]))) ∧ ∃ ws, upd H3 F0 (.lst (us ++ [y])) F0 = some (.lst ws) ∧ Paired (SeA K (upd H3 F0 (.lst (us ++ [y])))) ws ((ss.take (i + 1)).map (Se.put t)) := by
      intro H3 y s3 hy
      have tp3 : Tp H3 (upd H3 F0 (.lst (us ++ [y]))) := tp_lst (s3 _ _ eF2)
      refine ⟨_, _, rfl, same_mut (s2.trans s3) nF, (k2.trans (same_kp s3)).trans Kp.upd, us ++ [y], upd_same, ?_⟩
      rw [tk]
      exact paired_app (paired_mono (fun a b h => (h.same s3).tp tp3) hus) (.cons (hy.tp tp3) .nil)
    have z1 : us.length < sizeLine := by omega
    have hcase : (∃ x v1 e1, s0 = .nm x ∧ valV kvs (.inr x) = some v1 ∧ t x = some e1 ∧ SeA K H2 v1 e1) ∨ (∀ x, s0 = .nm x → valV kvs (.inr x) = none) := by
      by_cases h : ∃ x v1, s0 = .nm x ∧ valV kvs (.inr x) = some v1
      · obtain ⟨x, v1, h1, h2⟩ := h
        obtain ⟨e1, h3, h4, _⟩ := ht2.some x v1 h2
        exact .inl ⟨x, v1, e1, h1, h2, h3, h4⟩
      · refine .inr fun x hx => ?_
        cases h2 : valV kvs (.inr x) with
        | none => rfl
        | some v1 => exact absurd ⟨x, v1, hx, h2⟩ h
    refine ⟨_, rfl, hh, _, _, _, rfl, rfl, t2.sq, atI_nat (j := 0) h0, rfl, _, rfl, ?_⟩
    rcases hcase with ⟨x, v1, e1, rfl, hv1, ht1, sv1⟩ | hcase
    · refine iteT ⟨_, rfl, hh, _, _, _, rfl, rfl, t2.sq, atI_nat (j := 1) rfl, _, rfl, x, d, kvs, rfl, rfl, hd2, _, rfl, ?_⟩
      rw [hv1]
      refine iteT ⟨_, rfl, .inl ⟨rfl, _, SqL.of eF2⟩, _, rfl, _, rfl, hh, _, _, _, rfl, rfl, t2.sq, atI_nat (j := 1) rfl, d, x, kvs, v1, rfl, rfl, hd2, hv1, F0, us, v1, rfl, rfl, eF2, z1, fin H2 v1 (Same.refl _) ?_⟩
      show SeA K H2 v1 ((t x).getD (.nm x))
      rw [ht1]; exact sv1
    · have hgo : (decide (V.str s0.word = V.str "name") = true → ∃ x, s0 = .nm x) := fun h => by
        have h1 : V.str s0.word = V.str "name" := of_decide_eq_true h
        have h2 : s0.word = "name" := V.str.inj h1
        cases s0 with
        | nm x => exact ⟨x, rfl⟩
        | t => exact absurd h2 (by show ¬ (("true" : Str) = "name"); decide +kernel)
        | f => exact absurd h2 (by show ¬ (("false" : Str) = "name"); decide +kernel)
        | nt a => exact absurd h2 (by show ¬ (("not" : Str) = "name"); decide +kernel)
        | sh k a => exact absurd h2 (by show ¬ (("shown" : Str) = "name"); decide +kernel)
        | bin w a b =>
          have h3 : w = "name" := h2
          rcases ok0.1 with e | e | e <;> (rw [e] at h3; exact absurd h3 (by decide +kernel))
      have mkA : ∀ (p6 : Addr) (H6 : Hp) (ws : List V), TT K H6 p6 (s0.hdV ++ ws) → Paired (SeA K H6) ws (s0.parts.map (Se.put t)) → SeA K H6 (.ref p6) (s0.put t) := by
        intro p6 H6 ws h1 h2
        by_cases hx : ∃ x, s0 = .nm x
        · obtain ⟨x, rfl⟩ := hx
          cases h2
          show SeA K H6 (.ref p6) ((t x).getD (.nm x))
          rw [ht2.none x (hcase x rfl)]
          exact ⟨p6, rfl, h1⟩
        · exact SeA.mk t s0 (fun x h => hx ⟨x, h⟩) h1 h2
      have hidx : ∀ p ∈ s0.parts, ∃ y, us[ss.idxOf p]? = some y ∧ SeA K H2 y (p.put t) := by
        intro p hp
        obtain ⟨j, hj, hjp⟩ := gs.lo i s0 hs0 p hp
        have hm : p ∈ ss := List.mem_of_getElem? hjp
        have h1 : ss[ss.idxOf p]? = some p := List.getElem?_eq_some_iff.mpr ⟨List.idxOf_lt_length_of_mem hm, List.getElem_idxOf (List.idxOf_lt_length_of_mem hm)⟩
        have h2 : ss.idxOf p = j := (List.getElem?_inj (List.idxOf_lt_length_of_mem hm) gs.nd).mp (h1.trans hjp.symm)
        rw [h2]
        obtain ⟨y, hy, g⟩ := paired_get' hus (i := j) (y := p.put t) (by rw [List.getElem?_map, List.getElem?_take, if_pos hj, hjp]; rfl)
        exact ⟨y, hy, g⟩
      have eqq : (s0.parts.map (numS ss)).length = s0.parts.length := List.length_map _
      have l3 : s0.parts.length ≤ 2 := by cases s0 <;> simp [Se.parts]
      have l4 : s0.hdV.length ≤ 2 := by rw [Se.hdV_len]; cases s0 <;> simp [Se.hdN]
      refine ite2 (fun e0 => (hgo e0).elim fun x hx => ⟨_, rfl, hh, _, _, _, rfl, rfl, t2.sq, atI_nat (j := 1) (show s0.hdV[1]? = some (.str x) by rw [hx]; rfl), _, rfl, x, d, kvs, rfl, rfl, hd2, _, rfl, ite2 (fun e1 => absurd e1 (by rw [hcase x hx]; decide)) (fun e1 => ?_)⟩) (fun e0 => iteF ?_)
      all_goals
        refine ⟨_, rfl, .inl ⟨rfl, _, SqL.of eF2⟩, _, rfl, _, rfl, qq, rfl, ⟨_, t3.sq⟩, fun D2 nD2 => ?_⟩
        have sD := same_new (o := .lst []) nD2
        refine lc_tup (K := K) (a := qq) (xs := s0.parts.map (numS ss)) (fun j H' => Same H2 H' ∧ ∃ ws, H' D2 = some (.lst ws) ∧ Paired (SeA K H2) ws ((s0.parts.take j).map (Se.put t))) ⟨sD, [], upd_same, .nil⟩ (fun j H' _ h => ?_) (fun j x H' hx h => ?_) (fun H4 h => ?_)
        · exact (t3.same h.1).sq
        · obtain ⟨s3, ws, eD, hws⟩ := h
          rw [List.getElem?_map] at hx
          cases hp : s0.parts[j]? with
          | none => rw [hp] at hx; cases hx
          | some p =>
            rw [hp] at hx
            obtain rfl : numS ss p = x := Option.some.inj hx
            obtain ⟨y, hy, gy⟩ := hidx p (List.mem_of_getElem? hp)
            have lw : ws.length ≤ 2 := by rw [paired_len hws, List.length_map, List.length_take]; omega
            refine ⟨rfl, ⟨_, rfl, _, rfl, F0, us, _, y, rfl, rfl, SqL.of (s3 _ _ eF2), atI_nat hy, ws, eD, by omega, same_mut s3 nD2, ws ++ [y], upd_same, ?_⟩⟩
            rw [List.take_add_one, hp, List.map_append]
            exact paired_app hws (.cons gy .nil)
        · obtain ⟨s3, ws, eD, hws⟩ := h
          rw [eqq, List.take_length] at hws
          have lw : ws.length ≤ 2 := by rw [paired_len hws, List.length_map]; exact l3
          refine ⟨D2, _, rfl, .inl ⟨SqL.of eD, fun q5 nq5 => rd_cat ((t2.same s3).same (same_new nq5)) (.of upd_same) (by omega) fun p6 H6 s6 t6 => ?_⟩⟩
          have s7 := (s3.trans (same_new (o := .tup ws) nq5)).trans s6
          exact ⟨F0, us, _, rfl, rfl, s7 _ _ eF2, z1, fin H6 _ s7 (mkA p6 H6 ws t6 (paired_mono (fun a b h => h.same s7) hws))⟩
  · obtain ⟨u3, u4, rfl, s2, k2, us, eF2, hus⟩ := h
    obtain ⟨r, hr0⟩ := hl
    have lb : (bs.map V.ref).length = ss.length := by rw [List.length_map]; exact (paired_len hb).symm
    rw [lb, List.take_length, hr0, List.map_append] at hus
    obtain ⟨us', y, hu1, rfl⟩ : ∃ us' y, Paired (SeA K H2) us' (r.map (Se.put t)) ∧ us = us' ++ [y] := by
      have hne : us ≠ [] := fun h => by rw [h] at hus; have := paired_len hus; simp at this
      obtain ⟨us', y, st', s0, h1, h2, h3, h4⟩ := paired_snoc hus hne
      have := List.append_inj' h2 rfl
      exact ⟨us', y, by rw [this.1]; exact h3, h1⟩
    have hy : SeA K H2 y (e.put t) := by
      obtain ⟨x, hx, hs⟩ := paired_get hus (i := us'.length) (x := y) (by rw [List.getElem?_append_right (Nat.le_refl _), Nat.sub_self]; rfl)
      rw [List.getElem?_append_right (by rw [← paired_len hu1]; exact Nat.le_refl _), ← paired_len hu1, Nat.sub_self] at hx
      cases hx
      exact hs
    refine ⟨_, rfl, _, rfl, F0, _, _, y, rfl, rfl, SqL.of eF2, ?_, q y H2 s2 hy⟩
    unfold atI ixN
    have l1 : (us' ++ [y]).length = us'.length + 1 := by rw [List.length_append, List.length_singleton]
    rw [if_neg (by decide), if_pos (by omega)]
    show (us' ++ [y])[((-1 : Int) + ((us' ++ [y]).length : Int)).toNat]? = some y
    have l2 : ((-1 : Int) + ((us' ++ [y]).length : Int)).toNat = us'.length := by omega
    rw [l2, List.getElem?_append_right (Nat.le_refl _), Nat.sub_self]; rfl
theorem ok_lput  {a_HEADS : Addr} (T : Txt K mg  w a_HEADS) {f : Addr} {fd : FuncData} {j : Nat} (F : Fun K "_law_put" "_law_put" s_law_put f fd) (C__law_put : Cal P w K mg base (j + 1) "_law_put" ["_law_words", "_law_table_z"] (spPut K j) f fd) : FnOk P w K mg base CX0 (j + 1 + 1) f fd ["_law_words", "_law_table_z"] (spPut K (j + 1)) := by
  refine F.ok sc_law_put (fun vs H Q E h => ?_) (fun cdv A outer s H vs Q E hr h => ?_)
  · obtain ⟨_, _, _, _, _, _, _, rfl, _⟩ := h; rfl
  obtain ⟨v, d, e, m, n, kvs, t, rfl, hv, hok, hn, hd, ht, q⟩ := h
  refine ⟨_, (pss_cons (ps_if (pt_cmpR op_eq (pe_ix ix_tup (pv 0) pe_int (fun _ _ => rfl)) pe_str (nomark _)) (pss_one (ps_ret (pe_dget2 (Nat.lt_of_le_of_lt (Nat.add_le_add_left (by decide : 1 ≤ 64) _) hr.units) (pv 1) (pe_ix ix_tup (pv 0) pe_int (fun _ _ => rfl)) (pv 0) ⟨rfl, rfl, rfl, rfl⟩))) pss_nil)
  (pss_cons (ps_if (pt_cmpR op_eq (pe_ix ix_tup (pv 0) pe_int (fun _ _ => rfl)) pe_str (nomark _)) (pss_one (ps_ret (pe_tup (pa_cons pe_str (pa_cons (pe_ix ix_tup (pv 0) pe_int (fun _ _ => rfl)) (pa_cons (pe_call C__law_put.G (hr.mono (by omega)) (by rfl) C__law_put.m C__law_put.kp C__law_put.b .nil pass0 (pa_cons (pe_ix ix_tup (pv 0) pe_int (fun _ _ => rfl)) (pa_cons (pv 1) pa_nil))) pa_nil)))))) pss_nil)
  (pss_one (ps_ret (pe_op op_catO (pe_tup (pa_cons (pe_ix ix_tup (pv 0) pe_int (fun _ _ => rfl)) pa_nil)) (pe_callTy call_tuple_of (by rfl) T.z_tuple (by decide +kernel) (pa_cons (pe_lc (own := [("_law_part", 2)]) (g := gName 2) (tt := tYes) rfl sc_law_put.nd (pi_tup (pe_slice sl_tupO (pv 0) (po_some pe_int) po_none)) (blkOk_by (own := [("_law_part", 2)]) (N := ["_law_words", "_law_table_z", "_law_part"]) (sc := defScope s_law_put) (by decide +kernel)) (fun _ _ _ _ _ => (pg_name (i := 2) sc_law_put.nd rfl (Or.inl rfl))) (fun _ _ _ _ _ => pts_nil) (fun _ _ _ _ _ => (pe_call C__law_put.G (hr.mono (by omega)) (by rfl) C__law_put.m C__law_put.kp C__law_put.b .nil pass0 (pa_cons (pv 2) (pa_cons (pv 1) pa_nil))))) pa_nil))))))), ?_⟩
  obtain ⟨p, us, rfl, tp, hus⟩ := hv.node
  have h0 : (e.hdV ++ us)[0]? = some (.str e.word) := by
    rw [List.getElem?_append_left (by rw [Se.hdV_len]; cases e <;> simp [Se.hdN])]; exact e.hdV_0
  refine ⟨_, rfl, p, _, _, _, rfl, rfl, tp.sq, atI_nat (j := 0) h0, rfl, _, rfl, ?_⟩
  by_cases hx : ∃ x, e = .nm x
  · obtain ⟨x, rfl⟩ := hx
    cases hus
    refine iteT ⟨_, rfl, d, rfl, .inl ⟨kvs, .inl hd⟩, _, rfl, p, _, _, _, rfl, rfl, tp.sq, atI_nat (j := 1) rfl, _, rfl, _, DGet.k (k := .inr x) hd, q _ H (Same.refl H) ?_⟩
    show SeA K H _ ((t x).getD (.nm x))
    cases h : valV kvs (.inr x) with
    | none => rw [ht.none x h]; exact ⟨p, rfl, tp⟩
    | some u =>
      obtain ⟨e1, h1, h2, _⟩ := ht.some x u h
      rw [h1]; exact h2
  have hw : ¬ e.word = "name" := fun h2 => by
    cases e with
    | nm x => exact hx ⟨x, rfl⟩
    | t => exact absurd h2 (by show ¬ (("true" : Str) = "name"); decide +kernel)
    | f => exact absurd h2 (by show ¬ (("false" : Str) = "name"); decide +kernel)
    | nt a => exact absurd h2 (by show ¬ (("not" : Str) = "name"); decide +kernel)
    | sh k a => exact absurd h2 (by show ¬ (("shown" : Str) = "name"); decide +kernel)
    | bin w a b =>
      have h3 : w = "name" := h2
      rcases hok.1 with e | e | e <;> (rw [e] at h3; exact absurd h3 (by decide +kernel))
  refine ite2 (fun e0 => absurd (V.str.inj (of_decide_eq_true e0)) hw) (fun e0 => ?_)
  refine ⟨_, rfl, p, _, _, _, rfl, rfl, tp.sq, atI_nat (j := 0) h0, rfl, _, rfl, ?_⟩
  by_cases hy : ∃ k a, e = .sh k a
  · obtain ⟨k, a, rfl⟩ := hy
    cases hus with
    | @cons u _ _ _ g1 g2 =>
    cases g2
    refine iteT ⟨_, rfl, p, _, _, _, rfl, rfl, tp.sq, atI_nat (j := 1) rfl, _, rfl, p, _, _, _, rfl, rfl, tp.sq, atI_nat (j := 2) rfl, _, rfl, u, d, a, m, n, kvs, t, rfl, g1, hok.2, Nat.lt_of_succ_lt_succ hn, hd, ht, fun y H1 s1 gy => ⟨(by show 3 ≤ sizeLine; decide), fun p2 np => ?_⟩⟩
    have z := same_new (o := .tup [.str "shown", .int (k : Nat), y]) np
    exact q _ _ (s1.trans z) ⟨p2, y, rfl, .of upd_same, gy.same z⟩
  have hw2 : ¬ e.word = "shown" := fun h2 => by
    cases e with
    | nm x => exact hx ⟨x, rfl⟩
    | t => exact absurd h2 (by show ¬ (("true" : Str) = "shown"); decide +kernel)
    | f => exact absurd h2 (by show ¬ (("false" : Str) = "shown"); decide +kernel)
    | nt a => exact absurd h2 (by show ¬ (("not" : Str) = "shown"); decide +kernel)
    | sh k a => exact hy ⟨k, a, rfl⟩
    | bin w a b =>
      have h3 : w = "shown" := h2
      rcases hok.1 with e | e | e <;> (rw [e] at h3; exact absurd h3 (by decide +kernel))
  refine ite2 (fun e1 => absurd (V.str.inj (of_decide_eq_true e1)) hw2) (fun e1 => ?_)
  have hh : e.hdV = [.str e.word] := by
    cases e with
    | nm x => exact absurd ⟨x, rfl⟩ hx
    | sh k a => exact absurd ⟨k, a, rfl⟩ hy
    | _ => rfl
  rw [hh] at tp h0
  have l3 : e.parts.length ≤ 2 := by cases e <;> simp [Se.parts]
  have lus := paired_len hus
  refine ⟨_, rfl, p, _, _, _, rfl, rfl, tp.sq, atI_nat (j := 0) h0, (by show 1 ≤ sizeLine; decide), fun p1 np1 => ?_⟩
  have z1 := same_new (o := .tup [.str e.word]) np1
  refine ⟨_, rfl, _, rfl, rd_from 1 (tp.same z1) fun p2 H2 s2 t2 => ⟨p2, rfl, ⟨_, t2.sq⟩, fun D nD => ?_⟩⟩
  have t2 : TT K H2 p2 us := t2
  have s02 := z1.trans s2
  have sD := same_new (o := .lst []) nD
  refine lc_tup (K := K) (a := p2) (xs := us) (fun i H' => Same H2 H' ∧ ∃ ws, H' D = some (.lst ws) ∧ Paired (SeA K H') ws ((e.parts.take i).map (Se.put t))) ⟨sD, [], upd_same, .nil⟩ (fun i H' _ h => ?_) (fun i x H' hx2 h => ?_) (fun H4 h => ?_)
  · exact (t2.same h.1).sq
  · obtain ⟨s3, ws, eD, hws⟩ := h
    obtain ⟨a, ha, ga⟩ := paired_get hus hx2
    have lw : ws.length ≤ 2 := by rw [paired_len hws, List.length_map, List.length_take]; omega
    have hna : a.nest < j := by
      have hm := List.mem_of_getElem? ha
      clear hx hy hw hw2 hh h0 tp hus lus hv hok ha ga
      cases e with
      | nt b => rw [List.mem_singleton.mp hm]; exact Nat.lt_of_succ_lt_succ hn
      | sh k b => rw [List.mem_singleton.mp hm]; exact Nat.lt_of_succ_lt_succ hn
      | bin w b c =>
        have hn : max b.nest c.nest + 1 < j + 1 := hn
        rcases List.mem_cons.mp hm with h | h
        · rw [h]; omega
        · rw [List.mem_singleton.mp h]; omega
      | _ => cases hm
    refine ⟨rfl, ⟨_, rfl, _, rfl, x, d, a, m, n, kvs, t, rfl, ga.same (s02.trans s3), hok.part (List.mem_of_getElem? ha), hna, s3 _ _ (s02 _ _ hd), ht.tp (same_tp (s02.trans s3)), fun y H5 s5 gy => ⟨ws, s5 _ _ eD, Nat.lt_of_le_of_lt lw (by decide), same_mut (s3.trans s5) nD, ws ++ [y], upd_same, ?_⟩⟩⟩
    have tp5 : Tp H5 (upd H5 D (.lst (ws ++ [y]))) := tp_lst (s5 _ _ eD)
    rw [List.take_add_one, ha, List.map_append]
    exact paired_app (paired_mono (fun a b h => (h.same s5).tp tp5) hws) (.cons (gy.tp tp5) .nil)
  · obtain ⟨s3, ws, eD, hws⟩ := h
    rw [lus, List.take_length] at hws
    have lw : ws.length ≤ 2 := by rw [paired_len hws, List.length_map]; exact l3
    have t1 : TT K (upd H p1 (.tup [.str e.word])) p1 [.str e.word] := .of upd_same
    refine ⟨D, _, rfl, .inl ⟨SqL.of eD, fun q5 nq5 => rd_cat (((t1.same s2).same s3).same (same_new nq5)) (.of upd_same) (by show 1 + ws.length ≤ 10000000; omega) fun p6 H6 s6 t6 => ?_⟩⟩
    have s7 := (same_new (o := .tup ws) nq5).trans s6
    refine q _ _ ((s02.trans s3).trans s7) (SeA.mk t e (fun x h => hx ⟨x, h⟩) (by rw [hh]; exact t6) (paired_mono (fun a b h => h.same s7) hws))
theorem put_all  {a_HEADS : Addr} (T : Txt K mg  w a_HEADS) {f : Addr} {fd : FuncData} (F : Fun K "_law_put" "_law_put" s_law_put f fd) (bF : Binds K fd ["_law_words", "_law_table_z"] []) (mF : mg "_law_put" = some (.ref f)) : ∀ j : Nat, FnOk P w K mg base CX0 (j + 1) f fd ["_law_words", "_law_table_z"] (spPut K j)
  | 0 => fn_mono (none_left fun vs H Q E h => by
    obtain ⟨_, _, _, _, _, _, _, _, _, _, h, _⟩ := h
    exact absurd h (Nat.not_lt_zero _)) (Nat.zero_le _)
  | j + 1 => fn_mono (ok_lput T F ⟨put_all T F bF mF j, mF, F.kp, bF⟩) (by omega)
end
end Vw

set_option Elab.async false
set_option linter.all false
set_option maxRecDepth 100000
set_option maxHeartbeats 4000000
namespace Vw
open PySem PySem.W PyProof.Rows L2
abbrev s_law_names : Stmt := top 11
theorem sc_law_names : FnScope ["_law_bag_here", "_law_many_z", "_law_first_z", "_law_tail", "_law_side", "_law_letters_z", "_law_k"] ["_law_bag_here", "_law_many_z"] (defScope s_law_names) := ⟨rfl, rfl, rfl, by decide +kernel, rfl, by decide +kernel, by decide +kernel⟩
abbrev s_law_said : Stmt := top 12
theorem sc_law_said : FnScope ["_law_bag_here", "_law_many_z", "_law_names_here", "_law_nest", "_law_inside", "_law_way", "_law_mine"] ["_law_bag_here", "_law_many_z", "_law_names_here", "_law_nest", "_law_inside"] (defScope s_law_said) := ⟨rfl, rfl, rfl, by decide +kernel, rfl, by decide +kernel, by decide +kernel⟩
section
variable {P : Program} {w : World} {K : PySem.W.Frag} {mg : Str → Option Value} {base : Heap}
def tailsS : List Str := ["", "", "q", "zq", "qqqqq"]
theorem names_ok : ∀ t ∈ tailsS, ∀ c ∈ ("abcdefghijklmnopqrstuvwxyz" : Str).cps.toList, (isNm (t ++ ⟨#[c]⟩) = true ∧ (t ++ (⟨#[c]⟩ : Str)).length ≤ 6) ∧ (isNm ((⟨#[c]⟩ : Str) ++ t) = true ∧ ((⟨#[c]⟩ : Str) ++ t).length ≤ 6) := by decide +kernel
theorem ok_lnames  {a_HEADS : Addr} (T : Txt K mg  w a_HEADS) {f f1 f2 : Addr} {fd fd1 fd2 : FuncData} (F : Fun K "_law_names" "_law_names" s_law_names f fd) (C__law_pull : Cal P w K mg base 1 "_law_pull" ["_law_bag_here", "_law_sides"] spPull f1 fd1)
    (C__law_of : Cal P w K mg base 2 "_law_of" ["_law_bag_here", "_law_some"] (spOf K) f2 fd2) : FnOk P w K mg base CX0 3 f fd ["_law_bag_here", "_law_many_z"] spNames := by
  refine F.ok sc_law_names (fun vs H Q E h => ?_) (fun cdv A outer s H vs Q E hr h => ?_)
  · obtain ⟨_, _, _, rfl, _⟩ := h; rfl
  obtain ⟨l, b, n, rfl, hn, hB, q⟩ := h
  refine ⟨_, (pss_cons (ps_asg (pe_tup (pa_cons (pe_call C__law_pull.G (hr.mono (by omega)) (by rfl) C__law_pull.m C__law_pull.kp C__law_pull.b .nil pass0 (pa_cons (pv 0) (pa_cons pe_int pa_nil))) (pa_cons (pe_call C__law_of.G (hr.mono (by omega)) (by rfl) C__law_of.m C__law_of.kp C__law_of.b .nil pass0 (pa_cons (pv 0) (pa_cons (pe_lst (pa_cons pe_str (pa_cons pe_str (pa_cons pe_str (pa_cons pe_str (pa_cons pe_str pa_nil)))))) pa_nil))) pa_nil))) (pg_tup (by rfl) (pgs_cons (pg_name (i := 2) sc_law_names.nd rfl (Or.inr rfl)) (pgs_cons (pg_name (i := 3) sc_law_names.nd rfl (Or.inr rfl)) pgs_nil))))
  (pss_cons (ps_set (i := 4) sc_law_names.nd rfl (Or.inr rfl) (pe_call C__law_pull.G (hr.mono (by omega)) (by rfl) C__law_pull.m C__law_pull.kp C__law_pull.b .nil pass0 (pa_cons (pv 0) (pa_cons pe_int pa_nil))))
  (pss_cons (ps_set (i := 5) sc_law_names.nd rfl (Or.inr rfl) pe_str)
  (pss_one (ps_ret (pe_lc (own := [("_law_k", 6)]) (g := gName 6) (tt := tYes) rfl sc_law_names.nd (pi_range1 (by rfl) T.z_range (pa_cons (pv 1) pa_nil)) (blkOk_by (own := [("_law_k", 6)]) (N := ["_law_bag_here", "_law_many_z", "_law_first_z", "_law_tail", "_law_side", "_law_letters_z", "_law_k"]) (sc := defScope s_law_names) (by decide +kernel)) (fun _ _ _ _ _ => (pg_name (i := 6) sc_law_names.nd rfl (Or.inl rfl))) (fun _ _ _ _ _ => pts_nil) (fun _ _ _ _ _ => (pe_ix (r := rIxL K) ix_list (pe_lst (pa_cons (pe_op op_add_str (pv 3) (pe_ix ix_str (pv 5) (pe_op op_mod (pe_op op_add (pv 2) (pe_op op_mul pe_int (pv 6))) pe_int) (fun _ _ => rfl))) (pa_cons (pe_op op_add_str (pe_ix ix_str (pv 5) (pe_op op_mod (pe_op op_add (pv 2) (pe_op op_mul pe_int (pv 6))) pe_int) (fun _ _ => rfl)) (pv 3)) pa_nil))) (pv 4) (fun _ _ => rfl))))))))), ?_⟩
  refine ⟨_, rfl, l, b, 26, rfl, by decide, by decide, hB, fun r1 H1 r10 r11 k1 B1 => ⟨_, rfl, (by show 5 ≤ sizeLine; decide), fun D1 n1 => ?_⟩⟩
  have z1 := same_new (o := .lst (tailsS.map V.str)) n1
  refine ⟨l, b, D1, tailsS.map V.str, rfl, B1.same z1, .inl ⟨B1.ne n1, upd_same⟩, by decide, fun x H2 hx k2 B2 => ⟨(by show 2 ≤ sizeLine; decide), fun p np => ?_⟩⟩
  obtain ⟨t, ht, rfl⟩ := List.mem_map.mp hx
  have B3 := B2.same (same_new (o := .tup [.int r1, .str t]) np)
  refine ⟨p, _, rfl, .of upd_same, rfl, _, _, rfl, _, _, rfl, rfl, ?_⟩
  refine ⟨_, rfl, l, b, 2, rfl, by decide, by decide, B3, fun r4 H4 r40 r41 k4 B4 => ?_⟩
  have kk := ((k1.trans (same_kp z1)).trans k2).trans ((same_kp (same_new (o := .tup [.int r1, .str t]) np)).trans k4)
  refine ⟨_, rfl, (n : Int), rfl, by omega, by omega, fun D nD => ?_⟩
  have hDb := B4.ne nD
  have hDl := B4.nl nD
  have el : ("abcdefghijklmnopqrstuvwxyz" : Str).cps.toList.length = 26 := by decide +kernel
  have lt : t.length ≤ 5 := (by decide +kernel : ∀ t ∈ tailsS, t.length ≤ 5) t ht
  have sl : (200 : Nat) ≤ sizeLine := by decide
  refine lc_range (lo := 0) (n := (n : Int).toNat) (fun i H' => Kp b H4 H' ∧ Bag l H' b ∧ ∃ ys : List Str, H' D = some (.lst (ys.map V.str)) ∧ ys.length = i ∧ ∀ y ∈ ys, isNm y = true ∧ y.length ≤ 6) ⟨same_kp (same_new nD), B4.mut hDb hDl, [], upd_same, rfl, fun y hy => by cases hy⟩ (fun i H' hi hp => ?_) (fun H' hp => ?_)
  · obtain ⟨k5, B5, ys, eD, hl', hys⟩ := hp
    have j0 : 0 ≤ (r1 + 5 * (0 + (i : Nat))) % 26 := Int.emod_nonneg _ (by decide)
    have j1 : (r1 + 5 * (0 + (i : Nat))) % 26 < 26 := Int.emod_lt_of_pos _ (by decide)
    obtain ⟨c, hcm, hc⟩ := atI_exG (xs := ("abcdefghijklmnopqrstuvwxyz" : Str).cps.toList) j0 (by rw [el]; exact j1)
    have hok := names_ok t ht c hcm
    have lc : (⟨#[c]⟩ : Str).length = 1 := rfl
    have mul : CMul 5 (0 + (i : Nat)) := by unfold CMul; omega
    refine ⟨rfl, _, rfl, _, rfl, _, rfl, _, rfl, _, _, rfl, rfl, mul, _, _, rfl, rfl, _, _, rfl, rfl, (by show (0 : Int) < 26; decide), _, _, c, rfl, rfl, by decide +kernel, hc, _, _, rfl, rfl, by omega, _, rfl, _, rfl, _, rfl, _, _, rfl, rfl, mul, _, _, rfl, rfl, _, _, rfl, rfl, (by show (0 : Int) < 26; decide), _, _, c, rfl, rfl, by decide +kernel, hc, _, rfl, _, _, rfl, rfl, by omega, (by show 2 ≤ sizeLine; decide), fun D2 n2 => ?_⟩
    have z2 := same_new (o := .lst [.str (t ++ (⟨#[c]⟩ : Str)), .str ((⟨#[c]⟩ : Str) ++ t)]) n2
    obtain ⟨y, hy, hyk⟩ : ∃ y : Str, atI [V.str (t ++ (⟨#[c]⟩ : Str)), V.str ((⟨#[c]⟩ : Str) ++ t)] r4 = some (.str y) ∧ isNm y = true ∧ y.length ≤ 6 := by
      have : r4 = 0 ∨ r4 = 1 := by omega
      rcases this with e | e <;> subst e
      · exact ⟨_, rfl, hok.1⟩
      · exact ⟨_, rfl, hok.2⟩
    refine ⟨_, rfl, D2, _, _, _, rfl, rfl, SqL.of upd_same, hy, _, z2 _ _ eD, by rw [List.length_map, hl']; exact Nat.lt_of_lt_of_le (show i < 200 by omega) sl, kp_mut (k5.trans (same_kp z2)) nD, (B5.same z2).mut hDb hDl, ys ++ [y], by rw [upd_same, List.map_append]; rfl, by rw [List.length_append, hl']; rfl, fun z hz => ?_⟩
    rcases List.mem_append.mp hz with h | h
    · exact hys z h
    · rw [List.mem_singleton.mp h]; exact hyk
  · obtain ⟨k5, B5, ys, eD, hl', hys⟩ := hp
    exact q D ys H' hDb hDl eD (by rw [hl']; omega) hys (kk.trans k5) B5
theorem ok_lsaid  {a_HEADS : Addr} (T : Txt K mg  w a_HEADS) {f f1 f2 : Addr} {fd fd1 fd2 : FuncData} {j : Nat} (F : Fun K "_law_said" "_law_said" s_law_said f fd) (C__law_said : Cal P w K mg base (j + 3) "_law_said" ["_law_bag_here", "_law_many_z", "_law_names_here", "_law_nest", "_law_inside"] (spSaid K j) f fd)
    (C__law_pull : Cal P w K mg base 1 "_law_pull" ["_law_bag_here", "_law_sides"] spPull f1 fd1) (C__law_of : Cal P w K mg base 2 "_law_of" ["_law_bag_here", "_law_some"] (spOf K) f2 fd2) : FnOk P w K mg base CX0 (j + 3 + 1) f fd ["_law_bag_here", "_law_many_z", "_law_names_here", "_law_nest", "_law_inside"] (spSaid K (j + 1)) := by
  refine F.ok sc_law_said (fun vs H Q E h => ?_) (fun cdv A outer s H vs Q E hr h => ?_)
  · obtain ⟨_, _, _, _, _, _, _, rfl, _⟩ := h; rfl
  obtain ⟨l, b, D, m, n, xs, c, rfl, m1, m2, hn, hB, hDb, eD, lx, hxs, hne, q⟩ := h
  refine ⟨_, (pss_cons (ps_set (i := 5) sc_law_said.nd rfl (Or.inl rfl) (pe_call C__law_pull.G (hr.mono (by omega)) (by rfl) C__law_pull.m C__law_pull.kp C__law_pull.b .nil pass0 (pa_cons (pv 0) (pa_cons pe_int pa_nil))))
  (pss_cons (ps_ifBy (PW.pt (pw_or (pt_cmpR op_eq (pv 3) pe_int (nomark _)) (pw_or1 (pt_cmpR op_eq (pv 5) pe_int (nomark _))))) (pss_cons (ps_ifBy (PW.pt (pw_and (pt_val (pv 4)) (pw_and (pt_cmpR (op_neO hr.units) (pv 2) (pe_lst pa_nil) (nomark _)) (pw_and1 (pt_cmpR op_gt (pe_call C__law_pull.G (hr.mono (by omega)) (by rfl) C__law_pull.m C__law_pull.kp C__law_pull.b .nil pass0 (pa_cons (pv 0) (pa_cons pe_int pa_nil))) pe_int (nomark _)))))) (pss_one (ps_ret (pe_tup (pa_cons pe_str (pa_cons (pe_call C__law_of.G (hr.mono (by omega)) (by rfl) C__law_of.m C__law_of.kp C__law_of.b .nil pass0 (pa_cons (pv 0) (pa_cons (pv 2) pa_nil))) pa_nil))))) pss_nil)
  (pss_one (ps_ret (pe_call C__law_of.G (hr.mono (by omega)) (by rfl) C__law_of.m C__law_of.kp C__law_of.b .nil pass0 (pa_cons (pv 0) (pa_cons (pe_lst (pa_cons (pe_tup (pa_cons pe_str pa_nil)) (pa_cons (pe_tup (pa_cons pe_str pa_nil)) pa_nil))) pa_nil)))))) pss_nil)
  (pss_cons (ps_if (pt_cmpR op_lt (pv 5) pe_int (nomark _)) (pss_one (ps_ret (pe_tup (pa_cons pe_str (pa_cons (pe_call C__law_said.G (hr.mono (by omega)) (by rfl) C__law_said.m C__law_said.kp C__law_said.b .nil pass0 (pa_cons (pv 0) (pa_cons (pv 1) (pa_cons (pv 2) (pa_cons (pe_op op_sub (pv 3) pe_int) (pa_cons (pv 4) pa_nil)))))) pa_nil))))) pss_nil)
  (pss_cons (ps_if (pt_cmpR op_lt (pv 5) pe_int (nomark _)) (pss_cons (ps_set (i := 6) sc_law_said.nd rfl (Or.inl rfl) (pe_call C__law_said.G (hr.mono (by omega)) (by rfl) C__law_said.m C__law_said.kp C__law_said.b .nil pass0 (pa_cons (pv 0) (pa_cons (pv 1) (pa_cons (pv 2) (pa_cons (pe_op op_sub (pv 3) pe_int) (pa_cons (pv 4) pa_nil)))))))
  (pss_one (ps_ret (pe_tup (pa_cons (pe_call C__law_of.G (hr.mono (by omega)) (by rfl) C__law_of.m C__law_of.kp C__law_of.b .nil pass0 (pa_cons (pv 0) (pa_cons (pe_lst (pa_cons pe_str (pa_cons pe_str (pa_cons pe_str pa_nil)))) pa_nil))) (pa_cons (pv 6) (pa_cons (pe_call C__law_said.G (hr.mono (by omega)) (by rfl) C__law_said.m C__law_said.kp C__law_said.b .nil pass0 (pa_cons (pv 0) (pa_cons (pv 1) (pa_cons (pv 2) (pa_cons (pe_op op_sub (pv 3) pe_int) (pa_cons (pv 4) pa_nil)))))) pa_nil))))))) pss_nil)
  (pss_one (ps_ret (pe_tup (pa_cons pe_str (pa_cons (pe_call C__law_pull.G (hr.mono (by omega)) (by rfl) C__law_pull.m C__law_pull.kp C__law_pull.b .nil pass0 (pa_cons (pv 0) (pa_cons (pv 1) pa_nil))) (pa_cons (pe_call C__law_said.G (hr.mono (by omega)) (by rfl) C__law_said.m C__law_said.kp C__law_said.b .nil pass0 (pa_cons (pv 0) (pa_cons (pv 1) (pa_cons (pv 2) (pa_cons (pe_op op_sub (pv 3) pe_int) (pa_cons pe_bl pa_nil)))))) pa_nil)))))))))), ?_⟩
  refine ⟨_, rfl, l, b, 9, rfl, by decide, by decide, hB, fun r1 H1 r10 r11 k1 B1 => ?_⟩
  have eD := k1 _ _ hDb eD
  have q : ∀ (v : V) (s : Se) (H' : Hp), SeA K H' v s → s.ok m → s.nest ≤ n → Kp b H1 H' → Bag l H' b → Q v H' := fun v s H' h1 h2 h3 h4 h5 => q v s H' h1 h2 h3 (k1.trans h4) h5
  clear k1 hB
  refine ⟨fun H' => H' = H1, fun H' => H' = H1 ∧ n ≠ 0, ?_, fun H2 e => ?_, fun H2 e => ?_⟩
  · refine ⟨_, rfl, rfl, _, rfl, ite2 (fun e => rfl) (fun e => ⟨_, rfl, rfl, _, rfl, ite2 (fun e2 => rfl) (fun e2 => ⟨rfl, fun z => e (by subst z; rfl)⟩)⟩)⟩
  · obtain rfl : H2 = H1 := e
    refine ⟨fun H' => Kp b H2 H' ∧ Bag l H' b, fun H' => Kp b H2 H' ∧ Bag l H' b, ?_, fun H3 h => ?_, fun H3 h => ?_⟩
    · refine ⟨_, rfl, _, rfl, ?_⟩
      cases c with
      | false => exact iteF ⟨Kp.refl H2, B1⟩
      | true =>
        refine iteT ⟨_, rfl, (by show 0 ≤ sizeLine; decide), fun D2 n2 => ?_⟩
        have z2 := same_new (o := .lst []) n2
        refine rd_ne_strs (z2 _ _ eD) upd_same hne (fun x hx => nm_strOk (hxs x hx).1) ⟨_, rfl, iteT ⟨_, rfl, l, b, 5, rfl, by decide, by decide, B1.same z2, fun r H3 _ _ k3 B3 => ⟨_, _, rfl, rfl, _, rfl, ite2 (fun _ => ⟨(same_kp z2).trans k3, B3⟩) (fun _ => ⟨(same_kp z2).trans k3, B3⟩)⟩⟩⟩
    · obtain ⟨k3, B3⟩ := h
      refine ⟨_, rfl, _, rfl, l, b, D, _, rfl, B3, .inl ⟨hDb, k3 _ _ hDb eD⟩, by simpa using hne, fun x H4 hx k4 B4 => ⟨(by show 2 ≤ sizeLine; decide), fun p np => ?_⟩⟩
      obtain ⟨y, hy, rfl⟩ := List.mem_map.mp hx
      have z := same_new (o := .tup [.str "name", .str y]) np
      exact q _ (.nm y) _ ⟨p, rfl, .of upd_same⟩ (hxs y hy) (Nat.zero_le _) ((k3.trans k4).trans (same_kp z)) (B4.same z)
    · obtain ⟨k3, B3⟩ := h
      refine ⟨_, rfl, (by show 1 ≤ sizeLine; decide), fun p1 n1 => ⟨(by show 1 ≤ sizeLine; decide), fun p2 n2 => ⟨(by show 2 ≤ sizeLine; decide), fun D2 nD => ?_⟩⟩⟩
      have z1 := same_new (o := .tup [.str "true"]) n1
      have z2 := same_new (o := .tup [.str "false"]) n2
      have z3 := same_new (o := .lst [.ref p1, .ref p2]) nD
      have B4 := (B3.same z1).same z2
      have t1 : TT K (upd H3 p1 (.tup [.str "true"])) p1 [.str "true"] := .of upd_same
      have t2 : TT K (upd (upd H3 p1 (.tup [.str "true"])) p2 (.tup [.str "false"])) p2 [.str "false"] := .of upd_same
      refine ⟨l, b, D2, _, rfl, B4.same z3, .inl ⟨B4.ne nD, upd_same⟩, by simp, fun x H5 hx k5 B5 => ?_⟩
      have kk := (((k3.trans (same_kp z1)).trans (same_kp z2)).trans (same_kp z3)).trans k5
      have t5 := (same_tp z3).trans ((B4.same z3).tp k5)
      simp only [List.mem_cons, List.not_mem_nil, or_false] at hx
      rcases hx with h | h <;> subst h
      · exact q _ .t _ ⟨p1, rfl, (t1.same z2).tp t5⟩ trivial (Nat.zero_le _) kk B5
      · exact q _ .f _ ⟨p2, rfl, t2.tp t5⟩ trivial (Nat.zero_le _) kk B5
  · obtain ⟨rfl, hn0⟩ := e
    obtain ⟨n, rfl⟩ : ∃ k, n = k + 1 := ⟨n - 1, by omega⟩
    have ar : ∀ (c : Bool), [V.ref b, V.int (m : Nat), V.ref D, V.int (((n + 1 : Nat) : Int) - 1), V.bl c] = [V.ref b, V.int (m : Nat), V.ref D, V.int (n : Nat), V.bl c] := fun c => by
      have : (((n + 1 : Nat) : Int) - 1) = (n : Nat) := by omega
      rw [this]
    -- not
    refine ⟨_, rfl, _, _, rfl, rfl, _, rfl, ite2 (fun e => ?_) (fun e0 => ?_)⟩
    · refine ⟨_, rfl, _, rfl, _, rfl, _, rfl, _, _, rfl, rfl, _, rfl, l, b, D, m, n, xs, c, ar c, m1, m2, by omega, B1, hDb, eD, lx, hxs, hne, fun v s H3 sv ok ns k3 B3 => ⟨(by show 2 ≤ sizeLine; decide), fun p np => ?_⟩⟩
      have z := same_new (o := .tup [.str "not", v]) np
      exact q _ (.nt s) _ ⟨p, v, rfl, .of upd_same, sv.same z⟩ ok (by show s.nest + 1 ≤ _; omega) (k3.trans (same_kp z)) (B3.same z)
    -- two parts
    refine ⟨_, rfl, _, _, rfl, rfl, _, rfl, ite2 (fun e => ?_) (fun e1 => ?_)⟩
    · refine ⟨_, rfl, _, rfl, _, rfl, _, rfl, _, _, rfl, rfl, _, rfl, l, b, D, m, n, xs, c, ar c, m1, m2, by omega, B1, hDb, eD, lx, hxs, hne, fun v s H3 sv ok ns k3 B3 => ?_⟩
      refine ⟨_, rfl, (by show 3 ≤ sizeLine; decide), fun D2 n2 => ?_⟩
      have z2 := same_new (o := .lst [.str "and", .str "or", .str "then"]) n2
      refine ⟨l, b, D2, _, rfl, B3.same z2, .inl ⟨B3.ne n2, upd_same⟩, by simp, fun x H4 hx k4 B4 => ?_⟩
      obtain ⟨w, rfl, hw⟩ : ∃ w : Str, x = .str w ∧ Se.opW w := by
        simp only [List.mem_cons, List.not_mem_nil, or_false] at hx
        rcases hx with h | h | h
        · exact ⟨_, h, .inl rfl⟩
        · exact ⟨_, h, .inr (.inl rfl)⟩
        · exact ⟨_, h, .inr (.inr rfl)⟩
      have k34 := (k3.trans (same_kp z2)).trans k4
      have sv4 := (sv.same z2).tp ((B3.same z2).tp k4)
      refine ⟨_, rfl, _, rfl, _, rfl, _, rfl, _, rfl, _, _, rfl, rfl, _, rfl, l, b, D, m, n, xs, c, ar c, m1, m2, by omega, B4, hDb, k34 _ _ hDb eD, lx, hxs, hne, fun v2 s2 H5 sv2 ok2 ns2 k5 B5 => ⟨(by show 3 ≤ sizeLine; decide), fun p np => ?_⟩⟩
      have z := same_new (o := .tup [.str w, v, v2]) np
      exact q _ (.bin w s s2) _ ⟨p, v, v2, rfl, .of upd_same, (sv4.tp (B4.tp k5)).same z, sv2.same z⟩ ⟨hw, ok, ok2⟩ (by show max s.nest s2.nest + 1 ≤ _; omega) ((k34.trans k5).trans (same_kp z)) (B5.same z)
    -- shown
    refine ⟨_, rfl, _, rfl, l, b, m, rfl, by omega, by omega, B1, fun r3 H3 r30 r31 k3 B3 => ?_⟩
    obtain ⟨k, rfl⟩ : ∃ k : Nat, r3 = (k : Nat) := ⟨r3.toNat, by omega⟩
    refine ⟨_, rfl, _, rfl, _, rfl, _, rfl, _, _, rfl, rfl, l, b, D, m, n, xs, true, ar true, m1, m2, by omega, B3, hDb, k3 _ _ hDb eD, lx, hxs, hne, fun v s H4 sv ok ns k4 B4 => ⟨(by show 3 ≤ sizeLine; decide), fun p np => ?_⟩⟩
    have z := same_new (o := .tup [.str "shown", .int (k : Nat), v]) np
    exact q _ (.sh k s) _ ⟨p, v, rfl, .of upd_same, sv.same z⟩ ⟨r31, ok⟩ (by show s.nest + 1 ≤ _; omega) ((k3.trans k4).trans (same_kp z)) (B4.same z)
end
end Vw

set_option Elab.async false
set_option linter.all false
set_option maxRecDepth 100000
set_option maxHeartbeats 4000000
namespace Vw
open PySem PySem.W PyProof.Rows L2
abbrev slaw : Stmt := top 14
theorem sclaw : FnScope ["_law_script", "_law_bag_here", "_law_turn", "_law_many_z", "_law_names_now", "_law_words", "_law_table_z", "_law_name_z", "_law_copied"] ["_law_script"] (defScope slaw) := ⟨rfl, rfl, rfl, by decide +kernel, rfl, by decide +kernel, by decide +kernel⟩
section
variable {P : Program} {w : World} {K : PySem.W.Frag} {mg : Str → Option Value} {base : Heap}
theorem said_all24  {a_HEADS : Addr} (T : Txt K mg  w a_HEADS) {f f1 f2 : Addr} {fd fd1 fd2 : FuncData} (F : Fun K "_law_said" "_law_said" s_law_said f fd) (bF : Binds K fd ["_law_bag_here", "_law_many_z", "_law_names_here", "_law_nest", "_law_inside"] []) (mF : mg "_law_said" = some (.ref f))
    (C1 : Cal P w K mg base 1 "_law_pull" ["_law_bag_here", "_law_sides"] spPull f1 fd1) (C2 : Cal P w K mg base 2 "_law_of" ["_law_bag_here", "_law_some"] (spOf K) f2 fd2) : ∀ j : Nat, FnOk P w K mg base CX0 (j + 3) f fd ["_law_bag_here", "_law_many_z", "_law_names_here", "_law_nest", "_law_inside"] (spSaid K j)
  | 0 => fn_mono (none_left fun vs H Q E h => by
    obtain ⟨_, _, _, _, _, _, _, _, _, _, h, _⟩ := h
    exact absurd h (Nat.not_lt_zero _)) (Nat.zero_le _)
  | j + 1 => fn_mono (ok_lsaid T F ⟨said_all24 T F bF mF C1 C2 j, mF, F.kp, bF⟩ C1 C2) (by omega)
theorem repl_kbinds {f : Addr} {fd : FuncData} (F : Fun K "replaced" "replaced" sreplaced f fd) : KBinds K fd ["sentence", "names"] ["names", "sentence"] swapG swapG :=
  kb_of F swapG swapG swap_rel fun _ _ _ _ _ _ us ws hl => by
    match us, ws, hl with
    | [], [_, _], _ => rfl
    | [], [], h => cases h
    | [], [_], h => cases h
    | [], _ :: _ :: _ :: _, h => cases h
    | _ :: _, _, h => cases h
theorem ok_law  {a_HEADS : Addr} (T : Txt K mg  w a_HEADS) {f f1 f2 f3 f4 f5 f6 f7 : Addr} {fd fd1 fd2 fd3 fd4 fd5 fd6 fd7 : FuncData} (F : Fun K "law" "law" slaw f fd)
    (C__law_bag : Cal P w K mg base 1 "_law_bag" ["_law_script"] (spBag K) f1 fd1) (C__law_pull : Cal P w K mg base 1 "_law_pull" ["_law_bag_here", "_law_sides"] spPull f2 fd2)
    (C__law_same : Cal P w K mg base 12 "_law_same" ["_law_found", "_law_due"] (spSame K 12) f3 fd3) (C__law_names : Cal P w K mg base 3 "_law_names" ["_law_bag_here", "_law_many_z"] spNames f4 fd4)
    (C__law_said : Cal P w K mg base 8 "_law_said" ["_law_bag_here", "_law_many_z", "_law_names_here", "_law_nest", "_law_inside"] (spSaid K 5) f5 fd5)
    (C_replaced : Cal P w K mg base 8 "replaced" ["sentence", "names"] (spRepl K) f6 fd6) (KB_replaced : KBinds K fd6 ["sentence", "names"] ["names", "sentence"] swapG swapG)
    (C__law_put : Cal P w K mg base 6 "_law_put" ["_law_words", "_law_table_z"] (spPut K 5) f7 fd7) :
    FnOk P w K mg base CX0 14 f fd ["_law_script"] (spLaw K) := by
  refine F.ok sclaw (fun vs H Q E h => ?_) (fun cdv A outer s H vs Q E hr h => ?_)
  · obtain ⟨_, _, rfl, _⟩ := h; rfl
  obtain ⟨a, ns, rfl, hS, hl, q⟩ := h
  refine ⟨_, (pss_cons (ps_set (i := 1) sclaw.nd rfl (Or.inl rfl) (pe_call C__law_bag.G (hr.mono (by omega)) (by rfl) C__law_bag.m C__law_bag.kp C__law_bag.b .nil pass0 (pa_cons (pv 0) pa_nil)))
  (pss_cons (ps_for PassesOwn.never rfl (pi_range1 (by rfl) T.z_range (pa_cons pe_int pa_nil)) (pg_name (i := 2) sclaw.nd rfl (Or.inl rfl))
   (pss_cons (ps_set (i := 3) sclaw.nd rfl (Or.inl rfl) (pe_op op_add pe_int (pe_call C__law_pull.G (hr.mono (by omega)) (by rfl) C__law_pull.m C__law_pull.kp C__law_pull.b .nil pass0 (pa_cons (pv 1) (pa_cons pe_int pa_nil)))))
  (pss_cons (ps_set (i := 4) sclaw.nd rfl (Or.inl rfl) (pe_call C__law_names.G (hr.mono (by omega)) (by rfl) C__law_names.m C__law_names.kp C__law_names.b .nil pass0 (pa_cons (pv 1) (pa_cons pe_int pa_nil))))
  (pss_cons (ps_set (i := 5) sclaw.nd rfl (Or.inl rfl) (pe_call C__law_said.G (hr.mono (by omega)) (by rfl) C__law_said.m C__law_said.kp C__law_said.b .nil pass0 (pa_cons (pv 1) (pa_cons (pv 3) (pa_cons (pv 4) (pa_cons (pe_op op_add pe_int (pe_call C__law_pull.G (hr.mono (by omega)) (by rfl) C__law_pull.m C__law_pull.kp C__law_pull.b .nil pass0 (pa_cons (pv 1) (pa_cons pe_int pa_nil)))) (pa_cons pe_bl pa_nil)))))))
  (pss_cons (ps_set (i := 6) sclaw.nd rfl (Or.inl rfl) pe_dnewK)
  (pss_cons (ps_for PassesOwn.never rfl (pi_list (pv 4)) (pg_name (i := 7) sclaw.nd rfl (Or.inl rfl))
   (pss_one (ps_if (pt_cmpR op_eq (pe_call C__law_pull.G (hr.mono (by omega)) (by rfl) C__law_pull.m C__law_pull.kp C__law_pull.b .nil pass0 (pa_cons (pv 1) (pa_cons pe_int pa_nil))) pe_int (nomark _)) (pss_one (ps_asg (pe_call C__law_said.G (hr.mono (by omega)) (by rfl) C__law_said.m C__law_said.kp C__law_said.b .nil pass0 (pa_cons (pv 1) (pa_cons (pv 3) (pa_cons (pv 4) (pa_cons pe_int (pa_cons pe_bl pa_nil)))))) (pg_sub (pv 6) (pv 7) (set_dk (Nat.lt_of_le_of_lt (Nat.add_le_add_left (by decide : 1 ≤ 64) _) hr.units))))) pss_nil)))
  (C8.pss_cut (ps_if (pt_cmpR op_eq (pe_call C__law_pull.G (hr.mono (by omega)) (by rfl) C__law_pull.m C__law_pull.kp C__law_pull.b .nil pass0 (pa_cons (pv 1) (pa_cons pe_int pa_nil))) pe_int (nomark _)) (pss_one (ps_set (i := 6) sclaw.nd rfl (Or.inl rfl) (pe_disp (pps_cons (pe_ix ix_list (pv 4) pe_int (fun _ _ => rfl)) (pe_tup (pa_cons pe_str (pa_cons (pe_ix ix_list (pv 4) pe_int (fun _ _ => rfl)) pa_nil))) (pps_cons (pe_ix ix_list (pv 4) pe_int (fun _ _ => rfl)) (pe_tup (pa_cons pe_str (pa_cons (pe_ix ix_list (pv 4) pe_int (fun _ _ => rfl)) pa_nil))) pps_nil)) rfl rfl (by simp) (by decide)))) pss_nil)
  (pss_cons (ps_set (i := 8) sclaw.nd rfl (Or.inl rfl) (pe_callTy call_dictD (by rfl) T.z_dict (by decide +kernel) (pa_cons (pv 6) pa_nil)))
  (pss_cons (ps_if (PW.pt (pw_or (pt_not (pt_val (pe_call C__law_same.G (hr.mono (by omega)) (by rfl) C__law_same.m C__law_same.kp C__law_same.b .nil pass0 (pa_cons (pe_call C_replaced.G (hr.mono (by omega)) (by rfl) C_replaced.m C_replaced.kp C_replaced.b .nil pass0 (pa_cons (pv 5) (pa_cons (pv 6) pa_nil))) (pa_cons (pe_call C__law_put.G (hr.mono (by omega)) (by rfl) C__law_put.m C__law_put.kp C__law_put.b .nil pass0 (pa_cons (pv 5) (pa_cons (pv 8) pa_nil))) pa_nil))))) (pw_or1 (pt_cmpR (op_neDS hr.units0) (pv 6) (pv 8) (nomark _))))) (pss_one (ps_ret pe_bl)) pss_nil)
  (pss_one (ps_if (pt_not (pt_val (pe_call C__law_same.G (hr.mono (by omega)) (by rfl) C__law_same.m C__law_same.kp C__law_same.b .nil pass0 (pa_cons (pe_callK0 C_replaced.G (hr.mono (by omega)) (by rfl) C_replaced.m C_replaced.kp KB_replaced pass0 (pk_cons pe_dnewK (pk_cons (pv 5) pk_nil))) (pa_cons (pv 5) pa_nil))))) (pss_one (ps_ret pe_bl)) pss_nil)))))))))))
  (pss_one (ps_ret pe_bl)))), ?_⟩
  refine ⟨_, rfl, a, ns, rfl, hS, hl, fun l b H1 nb s1 B1 => ?_⟩
  refine ⟨5, rfl, by decide, by decide, ?_⟩
  refine for_range (lo := 0) (n := 5) (fun i σ H' => ∃ u2 u3 u4 u5 u6 u7 u8, σ = [some (.ref a), some (.ref b), u2, u3, u4, u5, u6, u7, u8] ∧ Bag l H' b) ⟨_, _, _, _, _, _, _, rfl, B1⟩ (fun i σ H2 hi h => ?_) (fun σ H2 h => ?_)
  · obtain ⟨u2, u3, u4, u5, u6, u7, u8, rfl, B2⟩ := h
    refine ⟨_, rfl, l, b, 3, rfl, by decide, by decide, B2, fun r H3 r0 r1 k3 B3 => ⟨_, _, rfl, rfl, ?_⟩⟩
    dsimp only
    generalize he : (1 : Int) + r = m_
    obtain ⟨m, rfl⟩ : ∃ m : Nat, m_ = (m : Int) := ⟨m_.toNat, by omega⟩
    have hm1 : 1 ≤ m := by omega
    have hm2 : m ≤ 1000 := by omega
    clear he
    refine ⟨_, rfl, l, b, 4, rfl, by decide, B3, fun D xs H4 hDb hDl eD lx hxs k4 B4 => ?_⟩
    refine ⟨_, rfl, _, rfl, _, rfl, _, rfl, l, b, 4, rfl, by decide, by decide, B4, fun r5 H5 r50 r51 k5 B5 => ⟨_, _, rfl, rfl, ?_⟩⟩
    dsimp only
    generalize he : (1 : Int) + r5 = n_
    obtain ⟨n, rfl⟩ : ∃ n : Nat, n_ = (n : Int) := ⟨n_.toNat, by omega⟩
    have hn : n < 5 := by omega
    clear he
    have hne : xs ≠ [] := fun z => by subst z; cases lx
    have eD5 := k5 _ _ hDb eD
    refine ⟨l, b, D, m, n, xs, true, rfl, hm1, hm2, hn, B5, hDb, eD5, by omega, hxs, hne, fun v e H6 sv ok ne6 k6 B6 => ?_⟩
    have eD6 := k6 _ _ hDb eD5
    clear k3 k4 k5 k6 B2 B3 B4 B5 eD eD5
    refine fun Tb nT => ?_
    have zT := same_new (o := .dK []) nT
    have hTb := B6.ne nT
    have hTl := B6.nl nT
    have z0 : (100 : Nat) ≤ sizeLine := by decide
    refine ⟨_, rfl, D, rfl, ⟨_, SqL.of (zT _ _ eD6)⟩, ?_⟩
    refine for_list (xs := xs.map V.str) (fun i' σ H' => ∃ u7, σ = [some (.ref a), some (.ref b), some (.int (0 + (i : Nat))), some (.int (m : Nat)), some (.ref D), some v, some (.ref Tb), u7, u8] ∧ Bag l H' b ∧ H' D = some (.lst (xs.map V.str)) ∧ SeA K H' v e ∧ ∃ kvs t, H' Tb = some (.dK kvs) ∧ kvs.length ≤ i' ∧ TabN K H' m 4 kvs t) ⟨_, rfl, B6.same zT, zT _ _ eD6, sv.same zT, [], _, upd_same, Nat.le_refl _, tabN_nil⟩ (fun i' σ H' _ h => ?_) (fun i' x σ H' hx h => ?_) (fun σ H7 h => ?_)
    · obtain ⟨_, _, _, eD7, _⟩ := h
      exact SqL.of eD7
    · obtain ⟨u7, rfl, B7, eD7, sv7, kvs, t, hT7, hl7, tab7⟩ := h
      obtain ⟨x, hx2, rfl⟩ : ∃ y, xs[i']? = some y ∧ x = V.str y := by
        rw [List.getElem?_map] at hx
        cases h : xs[i']? with
        | none => rw [h] at hx; cases hx
        | some y => rw [h] at hx; exact ⟨y, rfl, (Option.some.inj hx).symm⟩
      have hi' : i' < xs.length := (List.getElem?_eq_some_iff.mp hx2).1
      refine ⟨_, rfl, l, b, 2, rfl, by decide, by decide, B7, fun r8 H8 _ _ k8 B8 => ⟨rfl, _, rfl, ?_⟩⟩
      have eD8 := k8 _ _ hDb eD7
      have hT8 := k8 _ _ hTb hT7
      have tp8 := B7.tp k8
      refine ite2 (fun _ => ?_) (fun _ => ?_)
      · refine ⟨_, rfl, _, rfl, _, rfl, l, b, D, m, 2, xs, true, rfl, hm1, hm2, by decide, B8, hDb, eD8, by omega, hxs, hne, fun u e1 H9 su ok1 n1 k9 B9 => ?_⟩
        have hT9 := k9 _ _ hTb hT8
        have tp9 := tp8.trans (B8.tp k9)
        have tpT : Tp H9 (upd H9 Tb (.dK (putK kvs (.inr x) u))) := fun c ys q => by rw [upd_ne (ne_of q hT9 (fun z => by cases z))]; exact q
        have hDT : D ≠ Tb := fun z => by
          have h1 := k9 _ _ hDb eD8
          rw [z, hT9] at h1; cases h1
        refine ⟨_, rfl, _, rfl, Tb, x, kvs, rfl, rfl, hT9, by omega, ?_⟩
        refine ⟨_, rfl, B9.mut hTb hTl, ?_, (sv7.tp tp9).tp tpT, _, _, upd_same, ?_, ((tab7.tp tp9).put su ok1 (by omega)).tp tpT⟩
        · rw [upd_ne hDT]; exact k9 _ _ hDb eD8
        · have := length_putK kvs (.inr x) u; omega
      · exact ⟨_, rfl, B8, eD8, sv7.tp tp8, kvs, t, hT8, by omega, tab7.tp tp8⟩
    · obtain ⟨u7, rfl, B7, eD7, sv7, kvs, t, hT7, hl7, tab7⟩ := h
      refine ⟨fun σ' H' => ∃ Tb kvs t, σ' = [some (.ref a), some (.ref b), some (.int (0 + (i : Nat))), some (.int (m : Nat)), some (.ref D), some v, some (.ref Tb), u7, u8] ∧ Bag l H' b ∧ SeA K H' v e ∧ H' Tb = some (.dK kvs) ∧ TabN K H' m 4 kvs t, ?_, fun σ' H8 h => ?_⟩
      · refine ⟨_, rfl, l, b, 3, rfl, by decide, by decide, B7, fun r8 H8 _ _ k8 B8 => ⟨rfl, _, rfl, ?_⟩⟩
        have eD8 := k8 _ _ hDb eD7
        have tp8 := B7.tp k8
        refine ite2 (fun _ => ?_) (fun _ => ?_)
        · obtain ⟨x0, x1, xr, rfl⟩ : ∃ x0 x1 xr, xs = x0 :: x1 :: xr := by
            match xs, lx with
            | x0 :: x1 :: xr, _ => exact ⟨x0, x1, xr, rfl⟩
          have zA : ∀ T2, H8 T2 = none → Same H8 (upd H8 T2 (.dK [])) := fun T2 n2 => same_new n2
          refine fun T2 n2 => ⟨_, rfl, D, _, _, V.str x0, rfl, rfl, SqL.of (zA T2 n2 _ _ eD8), atI_nat (j := 0) rfl, _, rfl, D, _, _, V.str x1, rfl, rfl, SqL.of (zA T2 n2 _ _ eD8), atI_nat (j := 1) rfl, (by show 2 ≤ sizeLine; decide), fun p1 np1 => ?_⟩
          have s1 := same_new (o := .tup [.str "name", .str x1]) np1
          have sB := (zA T2 n2).trans s1
          refine ⟨_, rfl, D, _, _, V.str x1, rfl, rfl, SqL.of (sB _ _ eD8), atI_nat (j := 1) rfl, _, rfl, D, _, _, V.str x0, rfl, rfl, SqL.of (sB _ _ eD8), atI_nat (j := 0) rfl, (by show 2 ≤ sizeLine; decide), fun p2 np2 => ?_⟩
          have s2 := same_new (o := .tup [.str "name", .str x0]) np2
          have hT2 := s2 _ _ (s1 _ _ (upd_same (H := H8) (a := T2) (o := HO.dK [])))
          have sC := sB.trans s2
          refine ⟨hT2, [(.inr x0, .ref p1), (.inr x1, .ref p2)], rfl, by show 2 ≤ 15; decide, ?_⟩
          have g1 : SeA K (upd (upd (upd H8 T2 (.dK [])) p1 (.tup [.str "name", .str x1])) p2 (.tup [.str "name", .str x0])) (.ref p1) (.nm x1) := ⟨p1, rfl, (TT.of upd_same).same s2⟩
          have g2 : SeA K (upd (upd (upd H8 T2 (.dK [])) p1 (.tup [.str "name", .str x1])) p2 (.tup [.str "name", .str x0])) (.ref p2) (.nm x0) := ⟨p2, rfl, .of upd_same⟩
          have tab := (tabN_nil.put (m := m) (n := 4) (x := x0) g1 (hxs x1 (by simp)) (Nat.zero_le _)).put (x := x1) g2 (hxs x0 (by simp)) (Nat.zero_le _)
          have sE := same_mut (o := .dK (mergeK [] [(.inr x0, .ref p1), (.inr x1, .ref p2)])) sC n2
          have tpT : Tp (upd (upd (upd H8 T2 (.dK [])) p1 (.tup [.str "name", .str x1])) p2 (.tup [.str "name", .str x0])) (upd (upd (upd (upd H8 T2 (.dK [])) p1 (.tup [.str "name", .str x1])) p2 (.tup [.str "name", .str x0])) T2 (.dK (mergeK [] [(.inr x0, .ref p1), (.inr x1, .ref p2)]))) := fun c ys q => by rw [upd_ne (ne_of q hT2 (fun z => by cases z))]; exact q
          exact ⟨T2, _, _, rfl, B8.same sE, (sv7.tp tp8).same sE, upd_same, tab.tp tpT⟩
        · exact ⟨Tb, kvs, t, rfl, B8, sv7.tp tp8, k8 _ _ hTb hT7, tab7.tp tp8⟩
      · obtain ⟨Tb, kvs, t, rfl, B8, sv8, hT8, tab8⟩ := h
        have nst := tab8.nest e
        have d1 := (e.put t).dep
        have d2 := e.dep
        refine ⟨_, rfl, Tb, kvs, rfl, .inl hT8, fun Cp nC => ?_⟩
        have zC := same_new (o := .dK kvs) nC
        refine ⟨_, rfl, _, rfl, v, Tb, e, m, 4, kvs, t, rfl, sv8.same zC, ok, by omega, zC _ _ hT8, tab8.tp (same_tp zC), fun u1 H9 s9 g1 => ?_⟩
        have s89 := zC.trans s9
        refine ⟨_, rfl, _, rfl, v, Cp, e, m, 4, kvs, t, rfl, sv8.same s89, ok, by omega, s9 _ _ upd_same, tab8.tp (same_tp s89), fun u2 H10 s10 g2 => ?_⟩
        refine ⟨u1, u2, (e.put t).toD, rfl, (g1.same s10).dp, g2.dp, by omega, fun H11 s11 => ⟨_, rfl, ?_⟩⟩
        have sA := (s89.trans s10).trans s11
        refine iteF ⟨_, rfl, _, rfl, Tb, Cp, kvs, rfl, rfl, sA _ _ hT8, s11 _ _ (s10 _ _ (s9 _ _ upd_same)), tab8.same, _, rfl, iteF ?_⟩
        refine fun Em nE => ?_
        have zE := same_new (o := .dK []) nE
        have sF := sA.trans zE
        refine ⟨_, rfl, v, Em, e, m, 4, [], _, rfl, sv8.same sF, ok, by omega, upd_same, tabN_nil, fun u3 H12 s12 g3 => ?_⟩
        rw [Se.put_none] at g3
        refine ⟨_, rfl, u3, v, e.toD, rfl, g3.dp, (sv8.same (sF.trans s12)).dp, by omega, fun H13 s13 => ⟨_, rfl, iteF ?_⟩⟩
        exact ⟨_, _, _, _, _, _, _, rfl, ((B8.same (sF.trans s12)).same s13)⟩
  · exact q H2
theorem main  {a_HEADS : Addr} (T : Txt K mg  w a_HEADS) {f_parts_of : Addr} {fd_parts_of : FuncData} (F_parts_of : Fun K "parts_of" "parts_of" sparts_of f_parts_of fd_parts_of) (b_parts_of : Binds K fd_parts_of ["node"] []) (m_parts_of : mg "parts_of" = some (.ref f_parts_of))
    {f_nodes_of : Addr} {fd_nodes_of : FuncData} (F_nodes_of : Fun K "nodes_of" "nodes_of" snodes_of f_nodes_of fd_nodes_of) (b_nodes_of : Binds K fd_nodes_of ["sentence"] []) (m_nodes_of : mg "nodes_of" = some (.ref f_nodes_of))
    {f_numbered : Addr} {fd_numbered : FuncData} (F_numbered : Fun K "numbered" "numbered" snumbered f_numbered fd_numbered) (b_numbered : Binds K fd_numbered ["sentence"] []) (m_numbered : mg "numbered" = some (.ref f_numbered))
    {f_replaced : Addr} {fd_replaced : FuncData} (F_replaced : Fun K "replaced" "replaced" sreplaced f_replaced fd_replaced) (b_replaced : Binds K fd_replaced ["sentence", "names"] []) (m_replaced : mg "replaced" = some (.ref f_replaced))
    {f__law_bag : Addr} {fd__law_bag : FuncData} (F__law_bag : Fun K "_law_bag" "_law_bag" s_law_bag f__law_bag fd__law_bag) (b__law_bag : Binds K fd__law_bag ["_law_script"] []) (m__law_bag : mg "_law_bag" = some (.ref f__law_bag))
    {f__law_pull : Addr} {fd__law_pull : FuncData} (F__law_pull : Fun K "_law_pull" "_law_pull" s_law_pull f__law_pull fd__law_pull) (b__law_pull : Binds K fd__law_pull ["_law_bag_here", "_law_sides"] []) (m__law_pull : mg "_law_pull" = some (.ref f__law_pull))
    {f__law_of : Addr} {fd__law_of : FuncData} (F__law_of : Fun K "_law_of" "_law_of" s_law_of f__law_of fd__law_of) (b__law_of : Binds K fd__law_of ["_law_bag_here", "_law_some"] []) (m__law_of : mg "_law_of" = some (.ref f__law_of))
    {f__law_same : Addr} {fd__law_same : FuncData} (F__law_same : Fun K "_law_same" "_law_same" s_law_same f__law_same fd__law_same) (b__law_same : Binds K fd__law_same ["_law_found", "_law_due"] []) (m__law_same : mg "_law_same" = some (.ref f__law_same))
    {f__law_names : Addr} {fd__law_names : FuncData} (F__law_names : Fun K "_law_names" "_law_names" s_law_names f__law_names fd__law_names) (b__law_names : Binds K fd__law_names ["_law_bag_here", "_law_many_z"] []) (m__law_names : mg "_law_names" = some (.ref f__law_names))
    {f__law_said : Addr} {fd__law_said : FuncData} (F__law_said : Fun K "_law_said" "_law_said" s_law_said f__law_said fd__law_said) (b__law_said : Binds K fd__law_said ["_law_bag_here", "_law_many_z", "_law_names_here", "_law_nest", "_law_inside"] []) (m__law_said : mg "_law_said" = some (.ref f__law_said))
    {f__law_put : Addr} {fd__law_put : FuncData} (F__law_put : Fun K "_law_put" "_law_put" s_law_put f__law_put fd__law_put) (b__law_put : Binds K fd__law_put ["_law_words", "_law_table_z"] []) (m__law_put : mg "_law_put" = some (.ref f__law_put))
    {f_law : Addr} {fd_law : FuncData} (F_law : Fun K "law" "law" slaw f_law fd_law) (b_law : Binds K fd_law ["_law_script"] []) (m_law : mg "law" = some (.ref f_law)) : FnOk P w K mg base CX0 14 f_law fd_law ["_law_script"] (spLaw K) := by
  have C1 : Cal P w K mg base 1 "_law_pull" ["_law_bag_here", "_law_sides"] spPull _ _ := ⟨ok_pull T F__law_pull, m__law_pull, F__law_pull.kp, b__law_pull⟩
  have C2 : Cal P w K mg base 2 "_law_of" ["_law_bag_here", "_law_some"] (spOf K) _ _ := ⟨ok_of T F__law_of C1, m__law_of, F__law_of.kp, b__law_of⟩
  have Cp : Cal P w K mg base 1 "parts_of" ["node"] (spPartsT K) _ _ := ⟨ok_parts_ofT T F_parts_of, m_parts_of, F_parts_of.kp, b_parts_of⟩
  have Cn : CalG P w K mg base 3 "nodes_of" ["sentence"] (spNodes K) _ _ := ⟨ok_nodes_of T F_nodes_of Cp, m_nodes_of, F_nodes_of.kp, b_nodes_of⟩
  exact ok_law T F_law ⟨ok_bag T F__law_bag, m__law_bag, F__law_bag.kp, b__law_bag⟩ C1 ⟨same_all T F__law_same b__law_same m__law_same 12, m__law_same, F__law_same.kp, b__law_same⟩
    ⟨ok_lnames T F__law_names C1 C2, m__law_names, F__law_names.kp, b__law_names⟩ ⟨said_all24 T F__law_said b__law_said m__law_said C1 C2 5, m__law_said, F__law_said.kp, b__law_said⟩
    ⟨ok_replaced T F_replaced ⟨ok_numbered T F_numbered Cp Cn, m_numbered, F_numbered.kp, b_numbered⟩, m_replaced, F_replaced.kp, b_replaced⟩ (repl_kbinds F_replaced)
    ⟨put_all T F__law_put b__law_put m__law_put 5, m__law_put, F__law_put.kp, b__law_put⟩
end
end Vw

namespace Vw
open PySem PySem.W PyProof.Rows L2
set_option maxRecDepth 100000 in
set_option maxHeartbeats 0 in
theorem all_mk {l : PySem.W.OpenLaw} {w : World} {K : PySem.W.Frag} {h : Heap} {mg : Str → Option Value} {fa : Addr} (X : K.In h) (G : h.Ns mainGlobals mg) (hfa : mg "law" = some (.ref fa))
    {f_parts_of : Addr} {od_parts_of an_parts_of : Option Addr} {sl_parts_of : Array (Option Value)} {oc_parts_of kV_parts_of dc_parts_of pm_parts_of cd_parts_of ct_parts_of : Value}
    (a_parts_of : PySem.W.nsIn K mainGlobals "parts_of" = some (some (.ref f_parts_of))) (l_parts_of : K.lookup f_parts_of = some ⟨oc_parts_of, od_parts_of, .func (PySem.W.fnOf "parts_of" "parts_of" (defArgs sparts_of) (defBody sparts_of) (defScope sparts_of) .none kV_parts_of dc_parts_of pm_parts_of an_parts_of cd_parts_of ct_parts_of), sl_parts_of⟩) (c_parts_of : PySem.W.codeIn K cd_parts_of "parts_of" = true) (k_parts_of : PySem.W.keepIn K (.ref f_parts_of) = true)
    {f_nodes_of : Addr} {od_nodes_of an_nodes_of : Option Addr} {sl_nodes_of : Array (Option Value)} {oc_nodes_of kV_nodes_of dc_nodes_of pm_nodes_of cd_nodes_of ct_nodes_of : Value}
    (a_nodes_of : PySem.W.nsIn K mainGlobals "nodes_of" = some (some (.ref f_nodes_of))) (l_nodes_of : K.lookup f_nodes_of = some ⟨oc_nodes_of, od_nodes_of, .func (PySem.W.fnOf "nodes_of" "nodes_of" (defArgs snodes_of) (defBody snodes_of) (defScope snodes_of) .none kV_nodes_of dc_nodes_of pm_nodes_of an_nodes_of cd_nodes_of ct_nodes_of), sl_nodes_of⟩) (c_nodes_of : PySem.W.codeIn K cd_nodes_of "nodes_of" = true) (k_nodes_of : PySem.W.keepIn K (.ref f_nodes_of) = true)
    {f_numbered : Addr} {od_numbered an_numbered : Option Addr} {sl_numbered : Array (Option Value)} {oc_numbered kV_numbered dc_numbered pm_numbered cd_numbered ct_numbered : Value}
    (a_numbered : PySem.W.nsIn K mainGlobals "numbered" = some (some (.ref f_numbered))) (l_numbered : K.lookup f_numbered = some ⟨oc_numbered, od_numbered, .func (PySem.W.fnOf "numbered" "numbered" (defArgs snumbered) (defBody snumbered) (defScope snumbered) .none kV_numbered dc_numbered pm_numbered an_numbered cd_numbered ct_numbered), sl_numbered⟩) (c_numbered : PySem.W.codeIn K cd_numbered "numbered" = true) (k_numbered : PySem.W.keepIn K (.ref f_numbered) = true)
    {f_replaced : Addr} {od_replaced an_replaced : Option Addr} {sl_replaced : Array (Option Value)} {oc_replaced kV_replaced dc_replaced pm_replaced cd_replaced ct_replaced : Value}
    (a_replaced : PySem.W.nsIn K mainGlobals "replaced" = some (some (.ref f_replaced))) (l_replaced : K.lookup f_replaced = some ⟨oc_replaced, od_replaced, .func (PySem.W.fnOf "replaced" "replaced" (defArgs sreplaced) (defBody sreplaced) (defScope sreplaced) .none kV_replaced dc_replaced pm_replaced an_replaced cd_replaced ct_replaced), sl_replaced⟩) (c_replaced : PySem.W.codeIn K cd_replaced "replaced" = true) (k_replaced : PySem.W.keepIn K (.ref f_replaced) = true)
    {f__law_bag : Addr} {od__law_bag an__law_bag : Option Addr} {sl__law_bag : Array (Option Value)} {oc__law_bag kV__law_bag dc__law_bag pm__law_bag cd__law_bag ct__law_bag : Value}
    (a__law_bag : PySem.W.nsIn K mainGlobals "_law_bag" = some (some (.ref f__law_bag))) (l__law_bag : K.lookup f__law_bag = some ⟨oc__law_bag, od__law_bag, .func (PySem.W.fnOf "_law_bag" "_law_bag" (defArgs s_law_bag) (defBody s_law_bag) (defScope s_law_bag) .none kV__law_bag dc__law_bag pm__law_bag an__law_bag cd__law_bag ct__law_bag), sl__law_bag⟩) (c__law_bag : PySem.W.codeIn K cd__law_bag "_law_bag" = true) (k__law_bag : PySem.W.keepIn K (.ref f__law_bag) = true)
    {f__law_pull : Addr} {od__law_pull an__law_pull : Option Addr} {sl__law_pull : Array (Option Value)} {oc__law_pull kV__law_pull dc__law_pull pm__law_pull cd__law_pull ct__law_pull : Value}
    (a__law_pull : PySem.W.nsIn K mainGlobals "_law_pull" = some (some (.ref f__law_pull))) (l__law_pull : K.lookup f__law_pull = some ⟨oc__law_pull, od__law_pull, .func (PySem.W.fnOf "_law_pull" "_law_pull" (defArgs s_law_pull) (defBody s_law_pull) (defScope s_law_pull) .none kV__law_pull dc__law_pull pm__law_pull an__law_pull cd__law_pull ct__law_pull), sl__law_pull⟩) (c__law_pull : PySem.W.codeIn K cd__law_pull "_law_pull" = true) (k__law_pull : PySem.W.keepIn K (.ref f__law_pull) = true)
    {f__law_of : Addr} {od__law_of an__law_of : Option Addr} {sl__law_of : Array (Option Value)} {oc__law_of kV__law_of dc__law_of pm__law_of cd__law_of ct__law_of : Value}
    (a__law_of : PySem.W.nsIn K mainGlobals "_law_of" = some (some (.ref f__law_of))) (l__law_of : K.lookup f__law_of = some ⟨oc__law_of, od__law_of, .func (PySem.W.fnOf "_law_of" "_law_of" (defArgs s_law_of) (defBody s_law_of) (defScope s_law_of) .none kV__law_of dc__law_of pm__law_of an__law_of cd__law_of ct__law_of), sl__law_of⟩) (c__law_of : PySem.W.codeIn K cd__law_of "_law_of" = true) (k__law_of : PySem.W.keepIn K (.ref f__law_of) = true)
    {f__law_same : Addr} {od__law_same an__law_same : Option Addr} {sl__law_same : Array (Option Value)} {oc__law_same kV__law_same dc__law_same pm__law_same cd__law_same ct__law_same : Value}
    (a__law_same : PySem.W.nsIn K mainGlobals "_law_same" = some (some (.ref f__law_same))) (l__law_same : K.lookup f__law_same = some ⟨oc__law_same, od__law_same, .func (PySem.W.fnOf "_law_same" "_law_same" (defArgs s_law_same) (defBody s_law_same) (defScope s_law_same) .none kV__law_same dc__law_same pm__law_same an__law_same cd__law_same ct__law_same), sl__law_same⟩) (c__law_same : PySem.W.codeIn K cd__law_same "_law_same" = true) (k__law_same : PySem.W.keepIn K (.ref f__law_same) = true)
    {f__law_names : Addr} {od__law_names an__law_names : Option Addr} {sl__law_names : Array (Option Value)} {oc__law_names kV__law_names dc__law_names pm__law_names cd__law_names ct__law_names : Value}
    (a__law_names : PySem.W.nsIn K mainGlobals "_law_names" = some (some (.ref f__law_names))) (l__law_names : K.lookup f__law_names = some ⟨oc__law_names, od__law_names, .func (PySem.W.fnOf "_law_names" "_law_names" (defArgs s_law_names) (defBody s_law_names) (defScope s_law_names) .none kV__law_names dc__law_names pm__law_names an__law_names cd__law_names ct__law_names), sl__law_names⟩) (c__law_names : PySem.W.codeIn K cd__law_names "_law_names" = true) (k__law_names : PySem.W.keepIn K (.ref f__law_names) = true)
    {f__law_said : Addr} {od__law_said an__law_said : Option Addr} {sl__law_said : Array (Option Value)} {oc__law_said kV__law_said dc__law_said pm__law_said cd__law_said ct__law_said : Value}
    (a__law_said : PySem.W.nsIn K mainGlobals "_law_said" = some (some (.ref f__law_said))) (l__law_said : K.lookup f__law_said = some ⟨oc__law_said, od__law_said, .func (PySem.W.fnOf "_law_said" "_law_said" (defArgs s_law_said) (defBody s_law_said) (defScope s_law_said) .none kV__law_said dc__law_said pm__law_said an__law_said cd__law_said ct__law_said), sl__law_said⟩) (c__law_said : PySem.W.codeIn K cd__law_said "_law_said" = true) (k__law_said : PySem.W.keepIn K (.ref f__law_said) = true)
    {f__law_put : Addr} {od__law_put an__law_put : Option Addr} {sl__law_put : Array (Option Value)} {oc__law_put kV__law_put dc__law_put pm__law_put cd__law_put ct__law_put : Value}
    (a__law_put : PySem.W.nsIn K mainGlobals "_law_put" = some (some (.ref f__law_put))) (l__law_put : K.lookup f__law_put = some ⟨oc__law_put, od__law_put, .func (PySem.W.fnOf "_law_put" "_law_put" (defArgs s_law_put) (defBody s_law_put) (defScope s_law_put) .none kV__law_put dc__law_put pm__law_put an__law_put cd__law_put ct__law_put), sl__law_put⟩) (c__law_put : PySem.W.codeIn K cd__law_put "_law_put" = true) (k__law_put : PySem.W.keepIn K (.ref f__law_put) = true)
    {f_law : Addr} {od_law an_law : Option Addr} {sl_law : Array (Option Value)} {oc_law kV_law dc_law pm_law cd_law ct_law : Value}
    (a_law : PySem.W.nsIn K mainGlobals "law" = some (some (.ref f_law))) (l_law : K.lookup f_law = some ⟨oc_law, od_law, .func (PySem.W.fnOf "law" "law" (defArgs slaw) (defBody slaw) (defScope slaw) .none kV_law dc_law pm_law an_law cd_law ct_law), sl_law⟩) (c_law : PySem.W.codeIn K cd_law "law" = true) (k_law : PySem.W.keepIn K (.ref f_law) = true)
    (z_len : PySem.W.nsIn K mainGlobals "len" = some none)
    (z_range : PySem.W.nsIn K mainGlobals "range" = some none)
    (z_isinstance : PySem.W.nsIn K mainGlobals "isinstance" = some none)
    (z_int : PySem.W.nsIn K mainGlobals "int" = some none)
    (z_list : PySem.W.nsIn K mainGlobals "list" = some none)
    (z_tuple : PySem.W.nsIn K mainGlobals "tuple" = some none)
    (z_str : PySem.W.nsIn K mainGlobals "str" = some none)
    (z_bool : PySem.W.nsIn K mainGlobals "bool" = some none)
    (z_all : PySem.W.nsIn K mainGlobals "all" = some none)
    (z_dict : PySem.W.nsIn K mainGlobals "dict" = some none)
    {a_HEADS : Addr} (ac__HEADS : PySem.W.nsIn K mainGlobals "_HEADS" = some (some (.ref a_HEADS))) {es__HEADS : Array DictEntry} {n__HEADS : Nat} (ld__HEADS : List.lookup a_HEADS K = some {cls := .type "dict", data := .dict es__HEADS n__HEADS}) (kl__HEADS : PySem.W.KeysLit w.params es__HEADS.toList) (lw__HEADS : (a_HEADS == sysModules) = false) (al__HEADS : (es__HEADS.toList.all fun e => List.any [("true", 1), ("false", 1), ("name", 2), ("not", 1), ("and", 1), ("or", 1), ("then", 1), ("shown", 2)] fun p => e.key.isStr p.1) = true) (nr__HEADS : (es__HEADS.toList.any fun e => e.refKey) = false)
    {tk0__HEADS : Tok} (v0__HEADS : PySem.W.nsIn K a_HEADS "true" = some (some (.int 1 tk0__HEADS))) {tk1__HEADS : Tok} (v1__HEADS : PySem.W.nsIn K a_HEADS "false" = some (some (.int 1 tk1__HEADS))) {tk2__HEADS : Tok} (v2__HEADS : PySem.W.nsIn K a_HEADS "name" = some (some (.int 2 tk2__HEADS))) {tk3__HEADS : Tok} (v3__HEADS : PySem.W.nsIn K a_HEADS "not" = some (some (.int 1 tk3__HEADS))) {tk4__HEADS : Tok} (v4__HEADS : PySem.W.nsIn K a_HEADS "and" = some (some (.int 1 tk4__HEADS))) {tk5__HEADS : Tok} (v5__HEADS : PySem.W.nsIn K a_HEADS "or" = some (some (.int 1 tk5__HEADS))) {tk6__HEADS : Tok} (v6__HEADS : PySem.W.nsIn K a_HEADS "then" = some (some (.int 1 tk6__HEADS))) {tk7__HEADS : Tok} (v7__HEADS : PySem.W.nsIn K a_HEADS "shown" = some (some (.int 2 tk7__HEADS))) :
    ∃ fd : FuncData, (∀ (s : Shared) (v : Value), BindsTo s fd ⟨[v], []⟩ [("_law_script", v)]) ∧ ∀ base : Heap, K.In base → base.Ns mainGlobals mg → FnOk l.prog w K mg base CX0 14 fa fd ["_law_script"] (spLaw K) := by
  have e := hfa.symm.trans (PySem.W.mg_of X G a_law)
  cases e
  have F_parts_of := fun_mk (st := sparts_of) l_parts_of c_parts_of k_parts_of
  have b_parts_of := F_parts_of.binds (ps := ["node"]) fun _ _ _ _ _ _ us hl => match us, hl with | [_], _ => rfl
  have m_parts_of := PySem.W.mg_of X G a_parts_of
  have F_nodes_of := fun_mk (st := snodes_of) l_nodes_of c_nodes_of k_nodes_of
  have b_nodes_of := F_nodes_of.binds (ps := ["sentence"]) fun _ _ _ _ _ _ us hl => match us, hl with | [_], _ => rfl
  have m_nodes_of := PySem.W.mg_of X G a_nodes_of
  have F_numbered := fun_mk (st := snumbered) l_numbered c_numbered k_numbered
  have b_numbered := F_numbered.binds (ps := ["sentence"]) fun _ _ _ _ _ _ us hl => match us, hl with | [_], _ => rfl
  have m_numbered := PySem.W.mg_of X G a_numbered
  have F_replaced := fun_mk (st := sreplaced) l_replaced c_replaced k_replaced
  have b_replaced := F_replaced.binds (ps := ["sentence", "names"]) fun _ _ _ _ _ _ us hl => match us, hl with | [_, _], _ => rfl
  have m_replaced := PySem.W.mg_of X G a_replaced
  have F__law_bag := fun_mk (st := s_law_bag) l__law_bag c__law_bag k__law_bag
  have b__law_bag := F__law_bag.binds (ps := ["_law_script"]) fun _ _ _ _ _ _ us hl => match us, hl with | [_], _ => rfl
  have m__law_bag := PySem.W.mg_of X G a__law_bag
  have F__law_pull := fun_mk (st := s_law_pull) l__law_pull c__law_pull k__law_pull
  have b__law_pull := F__law_pull.binds (ps := ["_law_bag_here", "_law_sides"]) fun _ _ _ _ _ _ us hl => match us, hl with | [_, _], _ => rfl
  have m__law_pull := PySem.W.mg_of X G a__law_pull
  have F__law_of := fun_mk (st := s_law_of) l__law_of c__law_of k__law_of
  have b__law_of := F__law_of.binds (ps := ["_law_bag_here", "_law_some"]) fun _ _ _ _ _ _ us hl => match us, hl with | [_, _], _ => rfl
  have m__law_of := PySem.W.mg_of X G a__law_of
  have F__law_same := fun_mk (st := s_law_same) l__law_same c__law_same k__law_same
  have b__law_same := F__law_same.binds (ps := ["_law_found", "_law_due"]) fun _ _ _ _ _ _ us hl => match us, hl with | [_, _], _ => rfl
  have m__law_same := PySem.W.mg_of X G a__law_same
  have F__law_names := fun_mk (st := s_law_names) l__law_names c__law_names k__law_names
  have b__law_names := F__law_names.binds (ps := ["_law_bag_here", "_law_many_z"]) fun _ _ _ _ _ _ us hl => match us, hl with | [_, _], _ => rfl
  have m__law_names := PySem.W.mg_of X G a__law_names
  have F__law_said := fun_mk (st := s_law_said) l__law_said c__law_said k__law_said
  have b__law_said := F__law_said.binds (ps := ["_law_bag_here", "_law_many_z", "_law_names_here", "_law_nest", "_law_inside"]) fun _ _ _ _ _ _ us hl => match us, hl with | [_, _, _, _, _], _ => rfl
  have m__law_said := PySem.W.mg_of X G a__law_said
  have F__law_put := fun_mk (st := s_law_put) l__law_put c__law_put k__law_put
  have b__law_put := F__law_put.binds (ps := ["_law_words", "_law_table_z"]) fun _ _ _ _ _ _ us hl => match us, hl with | [_, _], _ => rfl
  have m__law_put := PySem.W.mg_of X G a__law_put
  have F_law := fun_mk (st := slaw) l_law c_law k_law
  have b_law := F_law.binds (ps := ["_law_script"]) fun _ _ _ _ _ _ us hl => match us, hl with | [_], _ => rfl
  have m_law := PySem.W.mg_of X G a_law
  have y_len := PySem.W.mg_none_of X G z_len
  have y_range := PySem.W.mg_none_of X G z_range
  have y_isinstance := PySem.W.mg_none_of X G z_isinstance
  have y_int := PySem.W.mg_none_of X G z_int
  have y_list := PySem.W.mg_none_of X G z_list
  have y_tuple := PySem.W.mg_none_of X G z_tuple
  have y_str := PySem.W.mg_none_of X G z_str
  have y_bool := PySem.W.mg_none_of X G z_bool
  have y_all := PySem.W.mg_none_of X G z_all
  have y_dict := PySem.W.mg_none_of X G z_dict
  have T : Txt K mg w a_HEADS := ⟨y_len, y_range, y_isinstance, y_int, y_list, y_tuple, y_str, y_bool, y_all, y_dict, PySem.W.mg_of X G ac__HEADS, tabC_mk ld__HEADS kl__HEADS lw__HEADS al__HEADS nr__HEADS (tab_at ⟨⟨_, v0__HEADS⟩, ⟨_, v1__HEADS⟩, ⟨_, v2__HEADS⟩, ⟨_, v3__HEADS⟩, ⟨_, v4__HEADS⟩, ⟨_, v5__HEADS⟩, ⟨_, v6__HEADS⟩, ⟨_, v7__HEADS⟩, trivial⟩)⟩
  exact ⟨PySem.W.fnOf "law" "law" (defArgs slaw) (defBody slaw) (defScope slaw) .none kV_law dc_law pm_law an_law cd_law ct_law, fun s v => .of_eq rfl, fun base _ _ => main T F_parts_of b_parts_of m_parts_of F_nodes_of b_nodes_of m_nodes_of F_numbered b_numbered m_numbered F_replaced b_replaced m_replaced F__law_bag b__law_bag m__law_bag F__law_pull b__law_pull m__law_pull F__law_of b__law_of m__law_of F__law_same b__law_same m__law_same F__law_names b__law_names m__law_names F__law_said b__law_said m__law_said F__law_put b__law_put m__law_put F_law b_law m_law⟩
end Vw
open PySem PySem.W PyProof.Rows
set_option maxRecDepth 100000 in
set_option maxHeartbeats 0 in
theorem PySem.Challenge.cw_vowstair_k24_names_replaced_holds : PySem.Challenge.rw_vowstair_k24_names_replaced.Holds := by
  w_on; o_law; k_head; (case hw => w_witness2)
  k_fill
  refine L2.walk_of (l := PySem.Challenge.rw_vowstair_k24_names_replaced) (n := 63) (k := 14) (x := "_law_script") (CX := fun _ => L2.CX0) (sp := fun w => Vw.spLaw _) rfl (by decide) rfl ⟨rfl, by decide, by decide⟩ (fun w h Y => PySem.W.kIn_of Y) ?F (fun _ _ a ns hl _ hS => ⟨a, ns, rfl, hS, hl, fun _ => rfl⟩) (fun _ _ _ _ _ h => h)
  case F =>
    intro w mg fa h KX G hmg
    refine' Vw.all_mk KX G hmg ?a_parts_of ?l_parts_of ?c_parts_of ?k_parts_of ?a_nodes_of ?l_nodes_of ?c_nodes_of ?k_nodes_of ?a_numbered ?l_numbered ?c_numbered ?k_numbered ?a_replaced ?l_replaced ?c_replaced ?k_replaced ?a__law_bag ?l__law_bag ?c__law_bag ?k__law_bag ?a__law_pull ?l__law_pull ?c__law_pull ?k__law_pull ?a__law_of ?l__law_of ?c__law_of ?k__law_of ?a__law_same ?l__law_same ?c__law_same ?k__law_same ?a__law_names ?l__law_names ?c__law_names ?k__law_names ?a__law_said ?l__law_said ?c__law_said ?k__law_said ?a__law_put ?l__law_put ?c__law_put ?k__law_put ?a_law ?l_law ?c_law ?k_law ?z_len ?z_range ?z_isinstance ?z_int ?z_list ?z_tuple ?z_str ?z_bool ?z_all ?z_dict ?ac__HEADS ?ld__HEADS ?kl__HEADS ?lw__HEADS ?al__HEADS ?nr__HEADS ?v0__HEADS ?v1__HEADS ?v2__HEADS ?v3__HEADS ?v4__HEADS ?v5__HEADS ?v6__HEADS ?v7__HEADS
    (case a_parts_of => k_is)
    (case l_parts_of => k_is)
    (case c_parts_of => k_is)
    (case k_parts_of => k_is)
    (case a_nodes_of => k_is)
    (case l_nodes_of => k_is)
    (case c_nodes_of => k_is)
    (case k_nodes_of => k_is)
    (case a_numbered => k_is)
    (case l_numbered => k_is)
    (case c_numbered => k_is)
    (case k_numbered => k_is)
    (case a_replaced => k_is)
    (case l_replaced => k_is)
    (case c_replaced => k_is)
    (case k_replaced => k_is)
    (case a__law_bag => k_is)
    (case l__law_bag => k_is)
    (case c__law_bag => k_is)
    (case k__law_bag => k_is)
    (case a__law_pull => k_is)
    (case l__law_pull => k_is)
    (case c__law_pull => k_is)
    (case k__law_pull => k_is)
    (case a__law_of => k_is)
    (case l__law_of => k_is)
    (case c__law_of => k_is)
    (case k__law_of => k_is)
    (case a__law_same => k_is)
    (case l__law_same => k_is)
    (case c__law_same => k_is)
    (case k__law_same => k_is)
    (case a__law_names => k_is)
    (case l__law_names => k_is)
    (case c__law_names => k_is)
    (case k__law_names => k_is)
    (case a__law_said => k_is)
    (case l__law_said => k_is)
    (case c__law_said => k_is)
    (case k__law_said => k_is)
    (case a__law_put => k_is)
    (case l__law_put => k_is)
    (case c__law_put => k_is)
    (case k__law_put => k_is)
    (case a_law => k_is)
    (case l_law => k_is)
    (case c_law => k_is)
    (case k_law => k_is)
    (case z_len => k_is)
    (case z_range => k_is)
    (case z_isinstance => k_is)
    (case z_int => k_is)
    (case z_list => k_is)
    (case z_tuple => k_is)
    (case z_str => k_is)
    (case z_bool => k_is)
    (case z_all => k_is)
    (case z_dict => k_is)
    (case ac__HEADS => k_is)
    (case ld__HEADS => k_is)
    (case kl__HEADS => exact ⟨⟨_, _, rfl, rfl⟩, ⟨_, _, rfl, rfl⟩, ⟨_, _, rfl, rfl⟩, ⟨_, _, rfl, rfl⟩, ⟨_, _, rfl, rfl⟩, ⟨_, _, rfl, rfl⟩, ⟨_, _, rfl, rfl⟩, ⟨_, _, rfl, rfl⟩, trivial⟩)
    (case lw__HEADS => first | rfl | decide)
    (case al__HEADS => first | rfl | decide)
    (case nr__HEADS => first | rfl | decide)
    (case v0__HEADS => k_is)
    (case v1__HEADS => k_is)
    (case v2__HEADS => k_is)
    (case v3__HEADS => k_is)
    (case v4__HEADS => k_is)
    (case v5__HEADS => k_is)
    (case v6__HEADS => k_is)
    (case v7__HEADS => k_is)



import PyProof.Rows.All
import Wide.All
import OpenK.AllK
import Wide.FinOn
import KE.DataCmp
import KE.SortCalls
import HandS.ForList
import KE.SortData
import HandS.SortKw
import HandS.ForMost
import HandS.IsInst
import HandS.TupAny
import HandS.EndBits
import HandS.Wide
import HandS.Codes
import HandS.Text
import HandS.Walk
import KE.GoesEnum
import KE.GoesMore
import PyProof.EnumMake
import PyProof.Draws
import HandS.Defaults
import KE.DataMinMax
import HandS.ClsMeth
import HandS.ExcInit
import HandS.SlotsOwn
import HandS.MakeKw
import HandS.MakeKwOnly
import KE.RegKIsAll
import HandS.TupMul
import HandS.Style
import HandS.TupLe
import HandS.Property
import KE.KOpsOwn
import HandS.More
import HandS.Star
import PySem.Challenge.RW_vowstair_k19_whole_rules_of_sets
namespace Vw
inductive O where
  | z
  | add (e : O) (c : Int) (r : O)
  deriving DecidableEq
namespace O
def lt : O → O → Bool
  | z, z => false
  | z, add _ _ _ => true
  | add _ _ _, z => false
  | add e c r, add e' c' r' => if e = e' then (if c = c' then lt r r' else decide (c < c')) else lt e e'
theorem lt_irrefl : ∀ a : O, lt a a = false
  | z => rfl
  | add e c r => by simp [lt, lt_irrefl r]
theorem lt_trans : ∀ (a b c : O), lt a b = true → lt b c = true → lt a c = true
  | a, b, z, _, h2 => by cases b <;> simp [lt] at h2
  | a, z, add _ _ _, h1, _ => by cases a <;> simp [lt] at h1
  | z, add _ _ _, add _ _ _, _, _ => rfl
  | add e c r, add e' c' r', add e2 c2 r2, h1, h2 => by
    simp only [lt] at h1 h2 ⊢
    by_cases he : e = e'
    · subst he
      by_cases he2 : e = e2
      · subst he2
        simp only [if_true] at h1 h2 ⊢
        by_cases hc : c = c'
        · subst hc
          simp only [if_true] at h1
          by_cases hc2 : c = c2
          · subst hc2
            simp only [if_true] at h2 ⊢
            exact lt_trans r r' r2 h1 h2
          · rw [if_neg hc2] at h2 ⊢; exact h2
        · rw [if_neg hc] at h1
          have h1' := of_decide_eq_true h1
          by_cases hc2 : c' = c2
          · subst hc2; rw [if_neg hc]; exact h1
          · rw [if_neg hc2] at h2
            have h2' := of_decide_eq_true h2
            rw [if_neg (by omega)]; exact decide_eq_true (by omega)
      · rw [if_neg he2] at h2 ⊢; exact h2
    · rw [if_neg he] at h1
      by_cases he2 : e' = e2
      · subst he2; rw [if_neg he]; exact h1
      · rw [if_neg he2] at h2
        have h3 := lt_trans e e' e2 h1 h2
        by_cases he3 : e = e2
        · subst he3; rw [lt_irrefl] at h3; cases h3
        · rw [if_neg he3]; exact h3
theorem lt_asymm {a b : O} (h : lt a b = true) : lt b a = false := by
  cases q : lt b a with
  | false => rfl
  | true => have := lt_trans a b a h q; rw [lt_irrefl] at this; cases this
theorem lt_ne {a b : O} (h : lt a b = true) : a ≠ b := fun e => by subst e; rw [lt_irrefl] at h; cases h
theorem lt_total : ∀ (a b : O), a ≠ b → lt a b = true ∨ lt b a = true
  | z, z, h => absurd rfl h
  | z, add _ _ _, _ => .inl rfl
  | add _ _ _, z, _ => .inr rfl
  | add e c r, add e' c' r', h => by
    simp only [lt]
    by_cases he : e = e'
    · subst he
      simp only [if_true]
      by_cases hc : c = c'
      · subst hc
        simp only [if_true]
        exact lt_total r r' fun q => h (by rw [q])
      · rw [if_neg hc, if_neg (fun q => hc q.symm)]
        rcases Int.lt_or_gt_of_ne hc with q | q
        · exact .inl (decide_eq_true q)
        · exact .inr (decide_eq_true q)
    · rw [if_neg he, if_neg (fun q => he q.symm)]
      exact lt_total e e' he
theorem eq_of {a b : O} (h1 : lt a b = false) (h2 : lt b a = false) : a = b := by
  by_cases h : a = b
  · exact h
  · rcases lt_total a b h with q | q
    · rw [h1] at q; cases q
    · rw [h2] at q; cases q
theorem lt_of_ge {a b : O} (h : lt a b = false) (n : a ≠ b) : lt b a = true := by
  rcases lt_total a b n with q | q
  · rw [h] at q; cases q
  · exact q
/-- b ≤ a -/
theorem ge_trans {a b c : O} (h1 : lt a b = false) (h2 : lt b c = false) : lt a c = false := by
  cases q : lt a c with
  | false => rfl
  | true =>
    by_cases e : b = c
    · subst e; rw [h1] at q; cases q
    · have h3 := lt_of_ge h2 e
      have h4 := lt_trans _ _ _ q h3
      rw [h1] at h4; cases h4
theorem lt_ge {a b c : O} (h1 : lt a b = true) (h2 : lt c b = false) : lt a c = true := by
  by_cases e : c = b
  · subst e; exact h1
  · exact lt_trans _ _ _ h1 (lt_of_ge h2 e)
theorem ge_lt {a b c : O} (h1 : lt b a = false) (h2 : lt b c = true) : lt a c = true := by
  by_cases e : b = a
  · subst e; exact h2
  · exact lt_trans _ _ _ (lt_of_ge h1 e) h2

/-- the terms -/
def ts : O → List (O × Int)
  | z => []
  | add e c r => (e, c) :: ts r
def of : List (O × Int) → O
  | [] => z
  | (e, c) :: r => add e c (of r)
theorem of_ts : ∀ o : O, of (ts o) = o
  | z => rfl
  | add e c r => by show add e c (of (ts r)) = _; rw [of_ts r]
theorem ts_of : ∀ l : List (O × Int), ts (of l) = l
  | [] => rfl
  | (e, c) :: r => by show (e, c) :: ts (of r) = _; rw [ts_of r]
theorem ts_inj {a b : O} (h : ts a = ts b) : a = b := by rw [← of_ts a, ← of_ts b, h]

/-- the head's exponent is below e -/
def under (e : O) : O → Bool
  | z => true
  | add e' _ _ => lt e' e
/-- a right ordinal -/
def ok : O → Bool
  | z => true
  | add e c r => ok e && decide (1 ≤ c) && ok r && under e r
theorem ok_add {e : O} {c : Int} {r : O} : ok (add e c r) = true ↔ ok e = true ∧ 1 ≤ c ∧ ok r = true ∧ under e r = true := by
  simp [ok, Bool.and_eq_true, and_assoc]
/-- all exponents of an ordinal under e are below e -/
theorem under_all : ∀ {r : O} {e : O}, ok r = true → under e r = true → ∀ p ∈ ts r, lt p.1 e = true
  | z, _, _, _, p, hp => by cases hp
  | add e' c' r', e, h, hu, p, hp => by
    have h' := ok_add.mp h
    rcases List.mem_cons.mp hp with q | q
    · subst q; exact hu
    · exact lt_trans _ _ _ (under_all h'.2.2.1 h'.2.2.2 p q) hu

/-- the sum -/
def sum : O → O → O
  | a, z => a
  | z, b => b
  | add e c r, add e' c' r' => if lt e e' = true then add e' c' r' else if e = e' then add e (c + c') r' else add e c (sum r (add e' c' r'))
@[simp] theorem sum_z (a : O) : sum a z = a := by cases a <;> rfl
@[simp] theorem z_sum (b : O) : sum z b = b := by cases b <;> rfl
theorem sum_lt {e : O} {c : Int} {r : O} {e' : O} {c' : Int} {r' : O} (h : lt e e' = true) : sum (add e c r) (add e' c' r') = add e' c' r' := by
  show (if lt e e' = true then _ else _) = _; rw [if_pos h]
theorem sum_eq {e : O} {c : Int} {r : O} {c' : Int} {r' : O} : sum (add e c r) (add e c' r') = add e (c + c') r' := by
  show (if lt e e = true then _ else _) = _
  rw [lt_irrefl, if_neg Bool.false_ne_true, if_pos rfl]
theorem sum_gt {e : O} {c : Int} {r : O} {e' : O} {c' : Int} {r' : O} (h : lt e' e = true) : sum (add e c r) (add e' c' r') = add e c (sum r (add e' c' r')) := by
  show (if lt e e' = true then _ else _) = _
  rw [lt_asymm h, if_neg Bool.false_ne_true, if_neg (lt_ne h).symm]

/-- what the program's plus does -/
def plusP : O → O → O
  | a, z => a
  | a, add e c r => of ((ts a).filter (fun t => lt e t.1) ++ (e, (((ts a).filter fun t => decide (t.1 = e)).map fun t => t.2).sum + c) :: ts r)
/-- what the law's own sum does -/
def sumL : O → O → O
  | a, z => a
  | a, add e c r =>
    let left := (ts a).filter fun t => !lt t.1 e
    match left.getLast? with
    | some (e1, c1) => if e1 = e then of (left.dropLast ++ (e, c1 + c) :: ts r) else of (left ++ (e, c) :: ts r)
    | none => of (left ++ (e, c) :: ts r)
theorem filter_none {α : Type} {p : α → Bool} : ∀ {l : List α}, (∀ x ∈ l, p x = false) → l.filter p = []
  | [], _ => rfl
  | x :: r, h => by
    rw [List.filter_cons, h x List.mem_cons_self, if_neg Bool.false_ne_true]
    exact filter_none fun y hy => h y (List.mem_cons_of_mem _ hy)
theorem plusP_sum : ∀ (a b : O), ok a = true → plusP a b = sum a b
  | a, z, _ => by cases a <;> rfl
  | z, add e c r, _ => by show of ([] ++ (e, 0 + c) :: ts r) = _; simp [of, of_ts]
  | add e1 c1 r1, add e c r, h => by
    have h' := ok_add.mp h
    have ih := plusP_sum r1 (add e c r) h'.2.2.1
    have hall := under_all h'.2.2.1 h'.2.2.2
    by_cases q : e1 = e
    · subst q
      rw [sum_eq]
      have f1 : (ts r1).filter (fun t => lt e1 t.1) = [] := filter_none fun x hx => lt_asymm (hall x hx)
      have f2 : (ts r1).filter (fun t => decide (t.1 = e1)) = [] := filter_none fun x hx => decide_eq_false (lt_ne (hall x hx))
      show of ((ts (add e1 c1 r1)).filter _ ++ _) = _
      simp only [ts, List.filter_cons, lt_irrefl, f1, f2, decide_true, if_true]
      simp [of, of_ts]
    · rcases lt_total e1 e q with k | k
      · rw [sum_lt k]
        have f1 : (ts (add e1 c1 r1)).filter (fun t => lt e t.1) = [] := filter_none fun x hx => by
          rcases List.mem_cons.mp hx with y | y
          · subst y; exact lt_asymm k
          · exact lt_asymm (lt_trans _ _ _ (hall x y) k)
        have f2 : (ts (add e1 c1 r1)).filter (fun t => decide (t.1 = e)) = [] := filter_none fun x hx => by
          rcases List.mem_cons.mp hx with y | y
          · subst y; exact decide_eq_false q
          · exact decide_eq_false (lt_ne (lt_trans _ _ _ (hall x y) k))
        show of ((ts (add e1 c1 r1)).filter _ ++ _) = _
        rw [f1, f2]
        simp [of, of_ts]
      · rw [sum_gt k, ← ih]
        show of ((ts (add e1 c1 r1)).filter _ ++ _) = add e1 c1 (of ((ts r1).filter _ ++ _))
        have d : decide (e1 = e) = false := decide_eq_false q
        simp only [ts, List.filter_cons, k, d, if_true]
        simp [of]
theorem sumL_sum : ∀ (a b : O), ok a = true → sumL a b = sum a b
  | a, z, _ => by cases a <;> rfl
  | z, add e c r, _ => by show of ([] ++ (e, c) :: ts r) = _; simp [of, of_ts]
  | add e1 c1 r1, add e c r, h => by
    have h' := ok_add.mp h
    have ih := sumL_sum r1 (add e c r) h'.2.2.1
    have hall := under_all h'.2.2.1 h'.2.2.2
    by_cases q : e1 = e
    · subst q
      rw [sum_eq]
      have f1 : (ts r1).filter (fun t => !lt t.1 e1) = [] := filter_none fun x hx => by rw [hall x hx]; rfl
      simp only [sumL, ts, List.filter_cons, lt_irrefl, f1, Bool.not_false, if_true]
      simp [of, of_ts]
    · rcases lt_total e1 e q with k | k
      · rw [sum_lt k]
        have f1 : (ts r1).filter (fun t => !lt t.1 e) = [] := filter_none fun x hx => by rw [lt_trans _ _ _ (hall x hx) k]; rfl
        simp only [sumL, ts, List.filter_cons, k, f1]
        simp [of, of_ts]
      · rw [sum_gt k, ← ih]
        have k2 := lt_asymm k
        simp only [sumL, ts, List.filter_cons, k2, Bool.not_false, if_true]
        cases hl : (ts r1).filter (fun t => !lt t.1 e) with
        | nil => simp [of, q]
        | cons x l =>
          rw [List.getLast?_cons_cons]
          cases hg : (x :: l).getLast? with
          | none => simp at hg
          | some p =>
            obtain ⟨e2, c2⟩ := p
            simp only
            by_cases q2 : e2 = e
            · rw [if_pos q2, if_pos q2, List.dropLast_cons_cons]; rfl
            · rw [if_neg q2, if_neg q2]; rfl
theorem ok_under_sum : ∀ (a b e : O), under e a = true → under e b = true → under e (sum a b) = true
  | a, z, e, h, _ => by rw [sum_z]; exact h
  | z, b, e, _, h => by rw [z_sum]; exact h
  | add e1 c1 r1, add e2 c2 r2, e, h1, h2 => by
    by_cases q : e1 = e2
    · subst q; rw [sum_eq]; exact h1
    · rcases lt_total e1 e2 q with k | k
      · rw [sum_lt k]; exact h2
      · rw [sum_gt k]; exact h1
theorem ok_sum : ∀ (a b : O), ok a = true → ok b = true → ok (sum a b) = true
  | a, z, h, _ => by rw [sum_z]; exact h
  | z, b, _, h => by rw [z_sum]; exact h
  | add e1 c1 r1, add e2 c2 r2, h1, h2 => by
    have g1 := ok_add.mp h1
    have g2 := ok_add.mp h2
    by_cases q : e1 = e2
    · subst q; rw [sum_eq]; exact ok_add.mpr ⟨g1.1, by omega, g2.2.2.1, g2.2.2.2⟩
    · rcases lt_total e1 e2 q with k | k
      · rw [sum_lt k]; exact h2
      · rw [sum_gt k]; exact ok_add.mpr ⟨g1.1, g1.2.1, ok_sum r1 _ g1.2.2.1 h2, ok_under_sum _ _ _ g1.2.2.2 k⟩
theorem lt_head {e : O} {c : Int} {r e' : O} {c' : Int} {r' : O} (h : lt e e' = true) : lt (add e c r) (add e' c' r') = true := by
  show (if e = e' then _ else _) = _; rw [if_neg (lt_ne h)]; exact h
theorem lt_cnt {e : O} {c : Int} {r : O} {c' : Int} {r' : O} (h : c < c') : lt (add e c r) (add e c' r') = true := by
  show (if e = e then (if c = c' then _ else _) else _) = _
  rw [if_pos rfl, if_neg (by omega)]; exact decide_eq_true h
theorem lt_rest {e : O} {c : Int} {r r' : O} : lt (add e c r) (add e c r') = lt r r' := by
  show (if e = e then (if c = c then _ else _) else _) = _
  rw [if_pos rfl, if_pos rfl]
theorem nil_lt {a : O} (h : a ≠ z) : lt z a = true := by cases a <;> first | rfl | exact absurd rfl h
theorem not_lt_nil (a : O) : lt a z = false := by cases a <;> rfl
theorem sum_add_ne (a e : O) (c : Int) (r : O) : sum a (add e c r) ≠ z := by
  cases a with
  | z => rw [z_sum]; intro h; cases h
  | add e1 c1 r1 =>
    show (if _ then _ else if _ then _ else _) ≠ _
    split
    · intro h; cases h
    · split <;> (intro h; cases h)
/-- strictly ascending in the second part -/
theorem sum_mono : ∀ (a b c : O), ok a = true → ok b = true → ok c = true → lt b c = true → lt (sum a b) (sum a c) = true
  | z, b, c, _, _, _, h => by rw [z_sum, z_sum]; exact h
  | a, b, z, _, _, _, h => by rw [not_lt_nil] at h; cases h
  | add e1 c1 r1, z, add e3 c3 r3, ha, _, hc, _ => by
    have g1 := ok_add.mp ha
    have g3 := ok_add.mp hc
    rw [sum_z]
    by_cases q : e1 = e3
    · subst q; rw [sum_eq]; exact lt_cnt (by omega)
    · rcases lt_total e1 e3 q with k | k
      · rw [sum_lt k]; exact lt_head k
      · rw [sum_gt k, lt_rest]
        have := sum_mono r1 z (add e3 c3 r3) g1.2.2.1 rfl hc rfl
        rw [sum_z] at this
        exact this
  | add e1 c1 r1, add e2 c2 r2, add e3 c3 r3, ha, hb, hc, h => by
    have g1 := ok_add.mp ha
    have g2 := ok_add.mp hb
    have g3 := ok_add.mp hc
    by_cases q : e1 = e2
    · subst q
      rw [sum_eq]
      by_cases q3 : e1 = e3
      · subst q3
        rw [sum_eq]
        simp only [lt, if_true] at h ⊢
        by_cases x : c2 = c3
        · subst x; simpa using h
        · rw [if_neg x] at h
          rw [if_neg (by omega)]
          exact decide_eq_true (by have := of_decide_eq_true h; omega)
      · have k : lt e1 e3 = true := by simpa [lt, q3] using h
        rw [sum_lt k]; exact lt_head k
    · rcases lt_total e1 e2 q with k | k
      · rw [sum_lt k]
        have k3 : lt e1 e3 = true := by
          by_cases q3 : e2 = e3
          · subst q3; exact k
          · exact lt_trans _ _ _ k (by simpa [lt, q3] using h)
        rw [sum_lt k3]; exact h
      · rw [sum_gt k]
        by_cases q3 : e1 = e3
        · subst q3; rw [sum_eq]; exact lt_cnt (by omega)
        · rcases lt_total e1 e3 q3 with k3 | k3
          · rw [sum_lt k3]; exact lt_head k3
          · rw [sum_gt k3, lt_rest]
            exact sum_mono r1 _ _ g1.2.2.1 hb hc h
theorem sum_mono_iff {a b c : O} (ha : ok a = true) (hb : ok b = true) (hc : ok c = true) : lt (sum a b) (sum a c) = lt b c := by
  cases q : lt b c with
  | true => exact sum_mono a b c ha hb hc q
  | false =>
    by_cases e : c = b
    · subst e; exact lt_irrefl _
    · have k := lt_of_ge q (fun x => e x.symm)
      exact lt_asymm (sum_mono a c b ha hc hb k)
/-- at least the first part -/
theorem sum_ge_left {a b : O} (ha : ok a = true) (hb : ok b = true) : lt (sum a b) a = false := by
  by_cases e : b = z
  · subst e; rw [sum_z]; exact lt_irrefl _
  · have := sum_mono a z b ha rfl hb (nil_lt e)
    rw [sum_z] at this
    exact lt_asymm this
/-- at least the second part -/
theorem sum_ge_right : ∀ (a b : O), ok a = true → ok b = true → lt (sum a b) b = false
  | a, z, _, _ => not_lt_nil _
  | z, b, _, _ => by rw [z_sum]; exact lt_irrefl _
  | add e1 c1 r1, add e2 c2 r2, ha, hb => by
    have g1 := ok_add.mp ha
    by_cases q : e1 = e2
    · subst q; rw [sum_eq]; exact lt_asymm (lt_cnt (by omega))
    · rcases lt_total e1 e2 q with k | k
      · rw [sum_lt k]; exact lt_irrefl _
      · rw [sum_gt k]; exact lt_asymm (lt_head k)
theorem sum_assoc : ∀ (a b c : O), ok a = true → ok b = true → ok c = true → sum (sum a b) c = sum a (sum b c)
  | a, b, z, _, _, _ => by rw [sum_z, sum_z]
  | a, z, add _ _ _, _, _, _ => by rw [sum_z, z_sum]
  | z, add _ _ _, add _ _ _, _, _, _ => by rw [z_sum, z_sum]
  | add e1 c1 r1, add e2 c2 r2, add e3 c3 r3, ha, hb, hc => by
    have g1 := ok_add.mp ha
    have g2 := ok_add.mp hb
    by_cases q23 : e2 = e3
    · subst q23
      rw [sum_eq]
      by_cases q : e1 = e2
      · subst q; rw [sum_eq, sum_eq, sum_eq, Int.add_assoc]
      · rcases lt_total e1 e2 q with k | k
        · rw [sum_lt k, sum_lt k, sum_eq]
        · rw [sum_gt k, sum_gt k, sum_gt k, sum_assoc r1 _ _ g1.2.2.1 hb hc, sum_eq]
    · rcases lt_total e2 e3 q23 with k23 | k23
      · rw [sum_lt k23]
        by_cases q : e1 = e2
        · subst q; rw [sum_eq, sum_lt k23, sum_lt k23]
        · rcases lt_total e1 e2 q with k | k
          · rw [sum_lt k, sum_lt k23, sum_lt (lt_trans _ _ _ k k23)]
          · rw [sum_gt k]
            by_cases q3 : e1 = e3
            · subst q3; rw [sum_eq, sum_eq]
            · rcases lt_total e1 e3 q3 with k3 | k3
              · rw [sum_lt k3, sum_lt k3]
              · rw [sum_gt k3, sum_gt k3, sum_assoc r1 _ _ g1.2.2.1 hb hc, sum_lt k23]
      · rw [sum_gt k23]
        by_cases q : e1 = e2
        · subst q; rw [sum_eq, sum_gt k23, sum_eq]
        · rcases lt_total e1 e2 q with k | k
          · rw [sum_lt k, sum_lt k, sum_gt k23]
          · rw [sum_gt k, sum_gt (lt_trans _ _ _ k23 k), sum_gt k, sum_assoc r1 _ _ g1.2.2.1 hb hc, sum_gt k23]
def one : O := add z 1 z
/-- nothing between an ordinal and the next one -/
theorem lt_succ_iff : ∀ (a b : O), ok a = true → ok b = true → lt a b = true → lt b (sum a one) = false
  | z, b, _, hb, h => by
    rw [z_sum]
    cases b with
    | z => cases h
    | add e c r =>
      have g := ok_add.mp hb
      show (if e = z then (if c = 1 then lt r z else decide (c < 1)) else lt e z) = false
      rw [not_lt_nil, not_lt_nil]
      split
      · split
        · rfl
        · exact decide_eq_false (by omega)
      · rfl
  | add e c r, z, _, _, h => by cases h
  | add e c r, add e' c' r', ha, hb, h => by
    have g := ok_add.mp ha
    have g' := ok_add.mp hb
    by_cases qz : e = z
    · subst qz
      show lt _ (sum (add z c r) (add z 1 z)) = false
      rw [sum_eq]
      have hr : r = z := by
        cases r with
        | z => rfl
        | add x y w => have := g.2.2.2; rw [show under z (add x y w) = lt x z from rfl, not_lt_nil] at this; cases this
      subst hr
      by_cases q : z = e'
      · subst q
        have hc : c < c' ∨ (c = c' ∧ lt z r' = true) := by
          simp only [lt, if_true] at h
          by_cases x : c = c'
          · rw [if_pos x] at h; exact .inr ⟨x, h⟩
          · rw [if_neg x] at h; exact .inl (of_decide_eq_true h)
        rcases hc with x | ⟨x, y⟩
        · by_cases x2 : c + 1 = c'
          · rw [x2, lt_rest, not_lt_nil]
          · exact lt_asymm (lt_cnt (by omega))
        · have hr' : r' = z := by
            cases r' with
            | z => rfl
            | add x2 y2 w2 => have := g'.2.2.2; rw [show under z (add x2 y2 w2) = lt x2 z from rfl, not_lt_nil] at this; cases this
          rw [hr'] at y; cases y
      · exact lt_asymm (lt_head (nil_lt (fun x => q x.symm)))
    · have k : lt z e = true := nil_lt qz
      show lt _ (sum (add e c r) (add z 1 z)) = false
      rw [sum_gt k]
      by_cases q : e = e'
      · subst q
        by_cases x : c = c'
        · subst x
          rw [lt_rest] at h ⊢
          exact lt_succ_iff r r' g.2.2.1 g'.2.2.1 h
        · simp only [lt, if_true] at h
          rw [if_neg x] at h
          exact lt_asymm (lt_cnt (of_decide_eq_true h))
      · have : lt e e' = true := by simpa [lt, q] using h
        exact lt_asymm (lt_head this)
theorem ok_one : ok one = true := by decide
theorem lt_succ {a : O} (h : ok a = true) : lt a (sum a one) = true := by
  have := sum_mono a z one h rfl ok_one rfl
  rw [sum_z] at this
  exact this
end O
end Vw

set_option Elab.async false
set_option linter.all false
set_option maxRecDepth 100000
namespace Vw
open PySem PySem.W PyProof.Rows L2
namespace O
def toDs : O → List PyData
  | z => []
  | add e c r => .tuple [.tuple (toDs e), .int c] :: toDs r
def toD (o : O) : PyData := .tuple (toDs o)
def dp : O → Nat
  | z => 0
  | add e _ r => max (dp e + 2) (dp r)
theorem depth_toDs : ∀ o : O, PyData.depthAll (toDs o) = dp o
  | z => by simp [toDs, dp, PyData.depthAll]
  | add e c r => by
    have h1 := depth_toDs e
    have h2 := depth_toDs r
    simp only [toDs, dp, PyData.depthAll, PyData.depth, h1, h2]
    omega
theorem depth_toD (o : O) : (toD o).depth = dp o + 1 := by simp only [toD, PyData.depth, depth_toDs]
theorem lay_toDs : ∀ o : O, PyData.canLayAll0 (toDs o) = true
  | z => by simp [toDs, PyData.canLayAll0]
  | add e c r => by simp [toDs, PyData.canLayAll0, PyData.canLay0, lay_toDs e, lay_toDs r]
theorem lay_toD (o : O) : (toD o).canLay0 = true := by simp only [toD, PyData.canLay0, lay_toDs]
theorem shaped_toD {o : O} (h : dp o ≤ 60) : SeqAt.shaped (toD o) = true := by
  unfold SeqAt.shaped
  rw [lay_toD, depth_toD]
  simp; omega
theorem alike_toDs : ∀ a b : O, alikeAll (toDs a) (toDs b) = true
  | z, _ => by simp [toDs, alikeAll]
  | add _ _ _, z => by simp [toDs, alikeAll]
  | add e c r, add e' c' r' => by simp [toDs, alikeAll, alike, alike_toDs e e', alike_toDs r r']
theorem alike_toD (a b : O) : alike (toD a) (toD b) = true := by simp only [toD, alike, alike_toDs]
theorem eqv_toDs : ∀ a b : O, PyData.eqvAll (toDs a) (toDs b) = decide (a = b)
  | z, z => by simp [toDs, PyData.eqvAll]
  | z, add _ _ _ => by simp [toDs, PyData.eqvAll]
  | add _ _ _, z => by simp [toDs, PyData.eqvAll]
  | add e c r, add e' c' r' => by
    simp only [toDs, PyData.eqvAll, PyData.eqv, eqv_toDs e e', eqv_toDs r r']
    by_cases h1 : e = e' <;> by_cases h2 : c = c' <;> by_cases h3 : r = r' <;> simp [h1, h2, h3]
theorem eqv_toD (a b : O) : PyData.eqv (toD a) (toD b) = decide (a = b) := by simp only [toD, PyData.eqv, eqv_toDs]
/-- a term -/
def tD (p : O × Int) : PyData := .tuple [toD p.1, .int p.2]
theorem toDs_ts : ∀ o : O, toDs o = (ts o).map tD
  | z => rfl
  | add e c r => by show _ :: toDs r = _ :: _; rw [toDs_ts r]; rfl
theorem lt_toDs : ∀ a b : O, PyProof.Rows.lexLt itemOrd (keyToksAll (toDs a)) (keyToksAll (toDs b)) = lt a b
  | z, z => lex_irrefl _
  | z, add e c r => by
    simp only [toDs, toks_all_cons]
    simp only [keyToksAll]
    rw [lex_diff (O := itemOrd) (by simp)]
    rfl
  | add e c r, z => by
    simp only [toDs, toks_all_cons]
    simp only [keyToksAll]
    rw [lex_diff (O := itemOrd) (by simp)]
    rfl
  | add e c r, add e' c' r' => by
    have al : alike (.tuple [.tuple (toDs e), .int c]) (.tuple [.tuple (toDs e'), .int c']) = true := by simp [alikeAll, alike, alike_toDs e e']
    have ev : PyData.eqv (.tuple [.tuple (toDs e), .int c]) (.tuple [.tuple (toDs e'), .int c']) = decide (e = e' ∧ c = c') := by
      simp only [PyData.eqvAll, PyData.eqv, eqv_toDs e e']
      by_cases h1 : e = e' <;> by_cases h2 : c = c' <;> simp [h1, h2]
    simp only [toDs, lt]
    by_cases h1 : e = e'
    · by_cases h2 : c = c'
      · rw [dataLt_all_yes al (by rw [ev]; simp [h1, h2]), lt_toDs r r', if_pos h1, if_pos h2]
      · rw [dataLt_all_no al (by rw [ev]; simp [h1, h2]), if_pos h1, if_neg h2, dataLt_tuple, dataLt_all_yes (by simp [alike, alike_toDs e e']) (by subst h1; simp [PyData.eqv, eqv_toDs]), dataLt_all_no (by simp [alike]) (by simp [PyData.eqv, h2]), dataLt_int]
    · rw [dataLt_all_no al (by rw [ev]; simp [h1]), if_neg h1, dataLt_tuple, dataLt_all_no (by simp [alike, alike_toDs e e']) (by simp only [PyData.eqv, eqv_toDs e e']; simp [h1]), dataLt_tuple, lt_toDs e e']
theorem lt_toD (a b : O) : dataLt (toD a) (toD b) = lt a b := by rw [toD, toD, dataLt_tuple, lt_toDs]
end O
/-! ### < > <= >= of data -/
section
variable {X : Cx}
@[irreducible] def rCmp (g : PyData → PyData → Bool) (K : PySem.W.Frag) : R2 := fun x y H Q => ∃ d e, Dp K H x d ∧ Dp K H y e ∧ alike d e = true ∧ d ≠ .none ∧ d.depth ≤ 64 ∧ Q (.bl (g d e)) H
theorem op_ltD (hu : X.A.units + 64 < cLine) : OpR X (compareOp .Lt) (rCmp (fun d e => dataLt d e) X.K) := by
  intro pins s σ H x y v u Q I rx ry h
  unfold rCmp at h
  obtain ⟨d, e, hd, he, al, hn, hz, q⟩ := h
  obtain ⟨as, r1⟩ := Dp.reads I d x v hd rx
  obtain ⟨bs, r2⟩ := Dp.reads I e y u he ry
  exact lt_data r1 r2 al hn (by have := Nat.min_le_left d.depth e.depth; omega) ⟨.bl _, H, I, rfl, q⟩
theorem op_gtD (hu : X.A.units + 64 < cLine) : OpR X (compareOp .Gt) (rCmp (fun d e => dataLt e d) X.K) := by
  intro pins s σ H x y v u Q I rx ry h
  unfold rCmp at h
  obtain ⟨d, e, hd, he, al, hn, hz, q⟩ := h
  obtain ⟨as, r1⟩ := Dp.reads I d x v hd rx
  obtain ⟨bs, r2⟩ := Dp.reads I e y u he ry
  exact gt_data r1 r2 al hn (by have := Nat.min_le_left d.depth e.depth; omega) ⟨.bl _, H, I, rfl, q⟩
theorem op_leD (hu : X.A.units + 64 < cLine) : OpR X (compareOp .LtE) (rCmp (fun d e => !dataLt e d) X.K) := by
  intro pins s σ H x y v u Q I rx ry h
  unfold rCmp at h
  obtain ⟨d, e, hd, he, al, hn, hz, q⟩ := h
  obtain ⟨as, r1⟩ := Dp.reads I d x v hd rx
  obtain ⟨bs, r2⟩ := Dp.reads I e y u he ry
  exact le_data r1 r2 al hn (by have := Nat.min_le_left d.depth e.depth; omega) ⟨.bl _, H, I, rfl, q⟩
theorem op_geD (hu : X.A.units + 64 < cLine) : OpR X (compareOp .GtE) (rCmp (fun d e => !dataLt d e) X.K) := by
  intro pins s σ H x y v u Q I rx ry h
  unfold rCmp at h
  obtain ⟨d, e, hd, he, al, hn, hz, q⟩ := h
  obtain ⟨as, r1⟩ := Dp.reads I d x v hd rx
  obtain ⟨bs, r2⟩ := Dp.reads I e y u he ry
  exact ge_data r1 r2 al hn (by have := Nat.min_le_left d.depth e.depth; omega) ⟨.bl _, H, I, rfl, q⟩
end
end Vw

set_option Elab.async false
set_option linter.all false
set_option maxRecDepth 100000
namespace Vw
open PySem PySem.W PySem.SeqAt PyProof.Rows
section
variable {prog : Program} {w : World} {A : Around} {E : Value → Shared → Prop} {s : Shared}
theorem call_tuple_lt {Q : Value → Shared → Prop} {l b : Addr} {items items2 : Array Value} {e r : Nat → Bool} (hl : s.heap.IsTuple l items) (hb : s.heap.IsTuple b items2)
    (he : ∀ j (h1 : j < items.size) (h2 : j < items2.size), EqAt A.in1 s items[j] items2[j] (e j)) (hr : ∀ j (h1 : j < items.size) (h2 : j < items2.size), e j = false → RcLt A.in1 s items[j] items2[j] (r j))
    (h : Q (.bool (firstLt e r (decide (items.size < items2.size)) (List.range (min items.size items2.size)))) s) : wpAny (model prog w) A (call (.builtin "tuple.__lt__") [.ref l, .ref b]) Q E s := by
  obtain ⟨⟨cls, dd, data, sl⟩, ho, hc, n, hd⟩ := id hl
  obtain ⟨⟨cls2, dd2, data2, sl2⟩, ho2, hc2, n2, hd2⟩ := id hb
  simp only at hc hd hc2 hd2
  subst hc hd hc2 hd2
  exact call_meets F.slot_tuple_lt ⟨_, ho, rfl⟩ F.entry_tuple_lt (F.args_tuple_lt_2 _ _) (SeqAt.tuple_ltAt l b items items2 n n2 dd dd2 sl sl2 e r) ⟨ho, ho2, he, hr, h⟩
/-- two tuples by tuple's own less-than -/
theorem oneLt_tups {xs ys : List PyData} {a b : Value} {as bs : List Addr} {Q : Bool → Shared → Prop} (ra : Reads s.heap a (.tuple xs) as) (rb : Reads s.heap b (.tuple ys) bs) (h : alike (.tuple xs) (.tuple ys) = true)
    (hu : A.units + min (PyData.tuple xs).depth (PyData.tuple ys).depth < cLine) (hq : Q (dataLt (.tuple xs) (.tuple ys)) s) : wpAny (model prog w) A (oneLt' true a b) Q E s := by
  have hal : alikeAll xs ys = true := by simpa [alike] using h
  cases ra with
  | @tuple l o vs n _ as₁ h1 h2 h3 h4 =>
    cases rb with
    | @tuple l' o' vs' n' _ bs₁ k1 k2 k3 k4 =>
      have n1 : vs.size = xs.length := by simpa using ReadsAll.length _ _ _ h4
      have n2 : vs'.size = ys.length := by simpa using ReadsAll.length _ _ _ k4
      rw [dataLt_tuple, ← firstLt_toks xs ys hal, ← n1, ← n2] at hq
      rw [oneLt'_eq]
      simp only [if_true]
      refine wpAny_bind (wpAny_cRoomFor (room_here hu) ?_)
      refine wpAny_bind (wpAny_callSpecialIfBound?_slot (T := "tuple") ⟨_, h1, h2⟩ F.slot_tuple_lt (call_tuple_lt (e := pairEq xs ys) (r := fun j => dataLt (xs.getD j .none) (ys.getD j .none)) ⟨_, h1, h2, _, h3⟩ ⟨_, k1, k2, _, k3⟩ (fun j j1 j2 => ?_) (fun j j1 j2 hj => ?_) ?_))
      · have := eqAt_alikeAll xs ys A.in1 s vs.toList vs'.toList _ _ h4 k4 hal (room_in hu) j (by simpa using j1) (by simpa using j2)
        simpa using this
      · have := rcLt_alikeAll xs ys A.in1 s vs.toList vs'.toList _ _ h4 k4 hal (room_in hu) j (by simpa using j1) (by simpa using j2) hj
        simpa using this
      · exact wpAny_truthy_bool hq
theorem keyLt'_general (x y : Value) : keyLt' general' x y = oneLt' false x y := rfl
/-- a tuple with an item -/
def fullT : PyData → Bool
  | .tuple (_ :: _) => true
  | _ => false
theorem fullT_no {d : PyData} (h : d = .tuple []) : fullT d = false := by subst h; rfl
theorem fullT_yes {xs : List PyData} (h : ¬ PyData.tuple xs = .tuple []) : fullT (.tuple xs) = true := by
  cases xs with
  | nil => exact absurd rfl h
  | cons _ _ => rfl
/-- the first items -/
theorem firsts_any : ∀ {vs : List Value} {ds : List PyData}, EachIs (fun v d => ∃ as, Reads s.heap v d as) vs ds → (∀ d ∈ ds, ∃ xs, d = .tuple xs) →
    ∃ fs : List (Option Value), fs.map (·.isSome) = ds.map fullT ∧ ∀ (Q : List (Option Value) → Shared → Prop), Q fs s → wpAny (model prog w) A (vs.mapM firstOfTuple') Q E s
  | _, _, .nil, _ => ⟨[], rfl, fun Q q => by rw [List.mapM_nil]; exact wpAny_pure q⟩
  | _, _, .cons (a := v) (b := d) ⟨as, r⟩ t, ht => by
    obtain ⟨fs, h1, h2⟩ := firsts_any t fun d hd => ht d (List.mem_cons_of_mem _ hd)
    obtain ⟨xs, rfl⟩ := ht d (List.mem_cons_self ..)
    cases r with
    | @tuple a o vs n _ _ ho hc hd hr =>
      have hn : vs.size = xs.length := by simpa using ReadsAll.length _ _ _ hr
      refine ⟨vs[0]? :: fs, ?_, fun Q q => ?_⟩
      · rw [List.map_cons, List.map_cons, h1]
        congr 1
        cases xs with
        | nil =>
          have : vs.size = 0 := by simpa using hn
          simp [this, fullT]
        | cons x r =>
          have : 0 < vs.size := by simp at hn; omega
          simp [this, fullT]
      · rw [List.mapM_cons]
        refine wpAny_bind ?_
        rw [kas_first_eq]
        refine wpAny_bind (Looks.here (show Looks (model prog w) s.heap (typeOf (.ref a)) o.cls from (Looks.ld ho).andThen .now) ?_)
        rw [hc, if_neg (by first | decide | simp)]
        refine wpAny_bind (listItems_at ho hd (wpAny_pure ?_))
        exact wpAny_bind (h2 _ (wpAny_pure q))
/-- the kind of tuples of which some are empty -/
theorem kind_tups {vs : List Value} {ds : List PyData} (e : EachIs (fun v d => ∃ as, Reads s.heap v d as) vs ds) (ht : ∀ d ∈ ds, ∃ xs, d = .tuple xs) (hx : .tuple [] ∈ ds) :
    ∃ kd, (kd = oneType' ∨ kd = general') ∧ ∀ (E : Value → Shared → Prop) (Q : SortKind → Shared → Prop), Q kd s → wpAny (model prog w) A (keyKind' vs.toArray) Q E s := by
  have hall : ∀ fs : List (Option Value), fs.map (·.isSome) = ds.map fullT → ¬ (fs.toArray.all (·.isSome)) = true := fun fs hf hh => by
    simp only [List.all_toArray] at hh
    have h2 : (fs.map (·.isSome)).all id = true := by rw [List.all_map]; exact hh
    rw [hf, List.all_map, List.all_eq_true] at h2
    have := h2 _ hx
    simp [fullT] at this
  cases ds with
  | nil => cases hx
  | cons d₀ ds₀ =>
    have hsp : ∀ fs : List (Option Value), fs.map (·.isSome) = (d₀ :: ds₀).map fullT → (fs.toArray[0]?.bind id).isSome = fullT d₀ := fun fs hf => by
      cases fs with
      | nil => simp at hf
      | cons f r =>
        rw [List.map_cons, List.map_cons] at hf
        have := (List.cons.inj hf).1
        simpa using this
    by_cases h0 : d₀ = .tuple []
    · refine ⟨oneType', .inl rfl, fun E Q q => ?_⟩
      obtain ⟨fs, h1, h2⟩ := firsts_any (prog := prog) (w := w) (A := A) (E := E) (s := s) e ht
      rw [keyKind'_eq, List.mapM_toArray, map_eq_pure_bind]
      refine wpAny_bind (wpAny_bind (h2 _ (wpAny_pure ?_)))
      rw [if_neg (hall fs h1), if_neg (by rw [hsp fs h1, fullT_no h0]; exact Bool.false_ne_true)]
      rw [oneTypeOnly'_eq, List.mapM_toArray, map_eq_pure_bind]
      refine wpAny_bind (wpAny_bind (wpAny_bind (kas_mapM (r := Value.type "tuple") _ (fun v hv Q' hq => ?_) (wpAny_pure ?_))))
      · obtain ⟨d, hd, as, r⟩ := e.left v hv
        obtain ⟨xs, rfl⟩ := ht d hd
        exact (looks_reads r).here hq
      · have hne : vs ≠ [] := by rintro rfl; cases e
        obtain ⟨v0, vr, rfl⟩ : ∃ v0 vr, vs = v0 :: vr := by
          cases vs with
          | nil => exact absurd rfl hne
          | cons v0 vr => exact ⟨v0, vr, rfl⟩
        have hall3 : ((List.map (fun _ => Value.type "tuple") (v0 :: vr)).toArray.all fun x => x == Value.type "tuple") = true := by
          simp only [List.all_toArray, List.all_map, List.all_eq_true]
          intro _ _
          exact beq_self_eq_true _
        have h00 : (List.map (fun _ => Value.type "tuple") (v0 :: vr)).toArray[0]? = some (Value.type "tuple") := by simp
        rw [h00]
        simp only [hall3, if_true]
        exact wpAny_pure (wpAny_pure q)
    · refine ⟨general', .inr rfl, fun E Q q => ?_⟩
      obtain ⟨fs, h1, h2⟩ := firsts_any (prog := prog) (w := w) (A := A) (E := E) (s := s) e ht
      rw [keyKind'_eq, List.mapM_toArray, map_eq_pure_bind]
      refine wpAny_bind (wpAny_bind (h2 _ (wpAny_pure ?_)))
      rw [if_neg (hall fs h1), if_pos (by rw [hsp fs h1]; obtain ⟨xs, rfl⟩ := ht d₀ (List.mem_cons_self ..); exact fullT_yes h0)]
      exact wpAny_pure q
/-- tuples that are alike can be sorted, also where some are empty -/
theorem SortsAt.tups {vs : List Value} {ds : List PyData} (e : EachIs (fun v d => ∃ as, Reads s.heap v d as) vs ds) (hal : AllAlike ds) (ht : ∀ d ∈ ds, ∃ xs, d = .tuple xs) (hu : ∀ d, d ∈ ds → A.units + d.depth < cLine) : SortsAt prog w A s (dataKind s.heap ds) vs := by
  by_cases hx : .tuple [] ∈ ds
  · have room : ∀ {d d' : PyData}, d ∈ ds → A.units + min d.depth d'.depth < cLine := fun {d d'} hd => Nat.lt_of_le_of_lt (Nat.add_le_add_left (Nat.min_le_left _ _) _) (hu d hd)
    refine ⟨fun v hv => ?_, ?_⟩
    · obtain ⟨d, hd, as, r⟩ := e.left v hv
      exact ⟨_, dataKind_some hal hd r⟩
    · obtain ⟨kd, hk, h2⟩ := kind_tups (prog := prog) (w := w) (A := A) (s := s) e ht hx
      refine ⟨kd, ?_, fun _ E Q q => h2 E Q q⟩
      intro E x y a b Q ha hb hq
      obtain ⟨d, as, hd, ra, rfl⟩ := dataKind_inv ha
      obtain ⟨d', as', hd', rb, rfl⟩ := dataKind_inv hb
      have hdd := hal d hd d' hd'
      have hroom := room (d' := d') hd
      obtain ⟨x1, rfl⟩ := ht d hd
      obtain ⟨x2, rfl⟩ := ht d' hd'
      rcases hk with rfl | rfl
      · rw [keyLt'_oneType]
        exact oneLt_tups ra rb hdd hroom hq
      · rw [keyLt'_general]
        exact oneLt_alike (fun z => absurd z Bool.false_ne_true) ra rb hdd (fun z => by cases z) hroom hq
  · exact SortsAt.data e hal (.inl fun d hd => by
      obtain ⟨xs, rfl⟩ := ht d hd
      cases xs with
      | nil => exact absurd hd hx
      | cons x r => exact ⟨x, r, rfl⟩) hu
end
end Vw

set_option Elab.async false
set_option linter.all false
set_option maxRecDepth 100000
namespace Vw
open PySem PySem.W PyProof.Rows L2
/-! ### heaps -/
/-- all but the object at b stay -/
def Kp (b : Addr) (H H' : Hp) : Prop := ∀ a o, a ≠ b → H a = some o → H' a = some o
theorem Kp.refl {b : Addr} (H : Hp) : Kp b H H := fun _ _ _ h => h
theorem Kp.trans {b : Addr} {H H1 H2 : Hp} (x : Kp b H H1) (y : Kp b H1 H2) : Kp b H H2 := fun a o n h => y a o n (x a o n h)
theorem same_kp {b : Addr} {H H' : Hp} (x : Same H H') : Kp b H H' := fun a o _ h => x a o h
theorem Kp.upd {b : Addr} {H : Hp} {o : HO} : Kp b H (upd H b o) := fun a u n h => by rw [upd_ne n]; exact h
theorem same_new {H : Hp} {p : Addr} {o : HO} (h : H p = none) : Same H (upd H p o) := fun b u q => by rw [upd_ne (ne_of_none q h)]; exact q
/-- an object that H did not know may change -/
theorem same_mut {H H' : Hp} {p : Addr} {o : HO} (x : Same H H') (h : H p = none) : Same H (upd H' p o) := fun b u q => by rw [upd_ne (ne_of_none q h)]; exact x b u q
theorem kp_mut {b : Addr} {H H' : Hp} {p : Addr} {o : HO} (x : Kp b H H') (h : H p = none) : Kp b H (upd H' p o) := fun a u n q => by rw [upd_ne (ne_of_none q h)]; exact x a u n q
/-- all tuples stay -/
def Tp (H H' : Hp) : Prop := ∀ a xs, H a = some (.tup xs) → H' a = some (.tup xs)
theorem Tp.refl (H : Hp) : Tp H H := fun _ _ h => h
theorem Tp.trans {H H1 H2 : Hp} (x : Tp H H1) (y : Tp H1 H2) : Tp H H2 := fun a o h => y a o (x a o h)
theorem same_tp {H H' : Hp} (x : Same H H') : Tp H H' := fun a xs h => x a _ h
theorem Kp.tp {b : Addr} {H H' : Hp} {ys : List V} (x : Kp b H H') (hb : H b = some (.lst ys)) : Tp H H' := fun a xs h => x a _ (ne_of h hb (fun z => by cases z)) h
theorem tp_new {H : Hp} {p : Addr} {o : HO} (h : H p = none) : Tp H (upd H p o) := same_tp (same_new h)
theorem tp_lst {H : Hp} {p : Addr} {ys : List V} {o : HO} (h : H p = some (.lst ys)) : Tp H (upd H p o) := fun a xs q => by rw [upd_ne (ne_of q h (fun z => by cases z))]; exact q

/-! ### ordinals in the heap -/
def KT (K : PySem.W.Frag) (a : Addr) (xs : List V) : Prop := ∃ (o : Obj) (its : Array Value) (n : Nat), K.lookup a = some o ∧ o.cls = .type "tuple" ∧ o.data = .seq its n ∧ its.size ≤ sizeLine ∧ Vals xs its.toList
def TT (K : PySem.W.Frag) (H : Hp) (a : Addr) (xs : List V) : Prop := H a = some (.tup xs) ∨ KT K a xs
section
variable {K : PySem.W.Frag} {H H' : Hp}
theorem TT.tp {a : Addr} {xs : List V} (t : Tp H H') (h : TT K H a xs) : TT K H' a xs := h.imp (t a xs) id
theorem TT.sq {a : Addr} {xs : List V} (h : TT K H a xs) : SqT K H a xs := by
  rcases h with h | h
  · exact .inl (.inl h)
  · exact .inr h
theorem TT.of {a : Addr} {xs : List V} (h : H a = some (.tup xs)) : TT K H a xs := .inl h
theorem TT.ty {a : Addr} {xs : List V} (h : TT K H a xs) : TyX K H (.ref a) (.type "tuple") := by
  rcases h with h | ⟨o, its, n, h1, h2, _⟩
  · exact .base (.tup h)
  · exact .kTuple h1 h2
def TsA (K : PySem.W.Frag) (H : Hp) : List V → O → Prop
  | vs, .z => vs = []
  | vs, .add e c r => ∃ p q ws vr, vs = .ref p :: vr ∧ TT K H p [.ref q, .int c] ∧ TT K H q ws ∧ TsA K H ws e ∧ TsA K H vr r
def OA (K : PySem.W.Frag) (H : Hp) (v : V) (o : O) : Prop := ∃ a vs, v = .ref a ∧ TT K H a vs ∧ TsA K H vs o
/-- a term -/
def TmA (K : PySem.W.Frag) (H : Hp) (v : V) (t : O × Int) : Prop := ∃ p q, v = .ref p ∧ TT K H p [.ref q, .int t.2] ∧ OA K H (.ref q) t.1
theorem TsA.tp (t : Tp H H') : ∀ {o : O} {vs : List V}, TsA K H vs o → TsA K H' vs o
  | .z, _, h => h
  | .add e c r, _, h => by
    obtain ⟨p, q, ws, vr, rfl, h1, h2, h3, h4⟩ := h
    exact ⟨p, q, ws, vr, rfl, h1.tp t, h2.tp t, TsA.tp t h3, TsA.tp t h4⟩
theorem OA.tp {v : V} {o : O} (t : Tp H H') (h : OA K H v o) : OA K H' v o := by
  obtain ⟨a, vs, rfl, h1, h2⟩ := h
  exact ⟨a, vs, rfl, h1.tp t, h2.tp t⟩
theorem TmA.tp {v : V} {x : O × Int} (t : Tp H H') (h : TmA K H v x) : TmA K H' v x := by
  obtain ⟨p, q, rfl, h1, h2⟩ := h
  exact ⟨p, q, rfl, h1.tp t, h2.tp t⟩
theorem TsA.pair : ∀ {o : O} {vs : List V}, TsA K H vs o → Paired (TmA K H) vs (O.ts o)
  | .z, _, h => by cases h; exact .nil
  | .add e c r, _, h => by
    obtain ⟨p, q, ws, vr, rfl, h1, h2, h3, h4⟩ := h
    exact .cons ⟨p, q, rfl, h1, q, ws, rfl, h2, h3⟩ (TsA.pair h4)
theorem TsA.of : ∀ {l : List (O × Int)} {vs : List V}, Paired (TmA K H) vs l → TsA K H vs (O.of l)
  | _, _, .nil => rfl
  | _, _, .cons (b := (e, c)) ⟨p, q, h0, h1, q', ws, h2, h3, h4⟩ t => by
    cases h0
    cases h2
    exact ⟨p, q, ws, _, rfl, h1, h3, h4, TsA.of t⟩
theorem OA.of {a : Addr} {vs : List V} {l : List (O × Int)} (h : TT K H a vs) (p : Paired (TmA K H) vs l) : OA K H (.ref a) (O.of l) := ⟨a, vs, rfl, h, .of p⟩
theorem paired_mono {α β : Type} {F G : α → β → Prop} (h : ∀ a b, F a b → G a b) : ∀ {xs : List α} {ys : List β}, Paired F xs ys → Paired G xs ys
  | _, _, .nil => .nil
  | _, _, .cons a t => .cons (h _ _ a) (paired_mono h t)
theorem paired_app {α β : Type} {F : α → β → Prop} : ∀ {xs xs2 : List α} {ys ys2 : List β}, Paired F xs ys → Paired F xs2 ys2 → Paired F (xs ++ xs2) (ys ++ ys2)
  | _, _, _, _, .nil, t => t
  | _, _, _, _, .cons a t, u => .cons a (paired_app t u)
theorem paired_get {α β : Type} {F : α → β → Prop} : ∀ {xs : List α} {ys : List β} {i : Nat} {x : α}, Paired F xs ys → xs[i]? = some x → ∃ y, ys[i]? = some y ∧ F x y
  | _, _, _, _, .nil, h => by simp at h
  | _, _, 0, _, .cons a t, h => by
    simp at h; subst h
    exact ⟨_, rfl, a⟩
  | _, _, i + 1, _, .cons a t, h => by
    obtain ⟨y, h1, h2⟩ := paired_get (i := i) t (by simpa using h)
    exact ⟨y, by simpa using h1, h2⟩
theorem paired_get' {α β : Type} {F : α → β → Prop} : ∀ {xs : List α} {ys : List β} {i : Nat} {y : β}, Paired F xs ys → ys[i]? = some y → ∃ x, xs[i]? = some x ∧ F x y
  | _, _, _, _, .nil, h => by simp at h
  | _, _, 0, _, .cons a t, h => by
    simp at h; subst h
    exact ⟨_, rfl, a⟩
  | _, _, i + 1, _, .cons a t, h => by
    obtain ⟨y, h1, h2⟩ := paired_get' (i := i) t (by simpa using h)
    exact ⟨y, by simpa using h1, h2⟩
theorem paired_len {α β : Type} {F : α → β → Prop} : ∀ {xs : List α} {ys : List β}, Paired F xs ys → xs.length = ys.length
  | _, _, .nil => rfl
  | _, _, .cons _ t => congrArg Nat.succ (paired_len t)
theorem paired_take {α β : Type} {F : α → β → Prop} : ∀ {xs : List α} {ys : List β} (n : Nat), Paired F xs ys → Paired F (xs.take n) (ys.take n)
  | _, _, 0, _ => .nil
  | _, _, _ + 1, .nil => .nil
  | _, _, n + 1, .cons a t => .cons a (paired_take n t)
theorem paired_drop {α β : Type} {F : α → β → Prop} : ∀ {xs : List α} {ys : List β} (n : Nat), Paired F xs ys → Paired F (xs.drop n) (ys.drop n)
  | _, _, 0, h => h
  | _, _, _ + 1, .nil => .nil
  | _, _, n + 1, .cons a t => paired_drop n t
theorem paired_filter {α β : Type} {F : α → β → Prop} (f : α → Bool) (g : β → Bool) (h : ∀ a b, F a b → f a = g b) : ∀ {xs : List α} {ys : List β}, Paired F xs ys → Paired F (xs.filter f) (ys.filter g)
  | _, _, .nil => .nil
  | _, _, .cons (a := a) (b := b) x t => by
    rw [List.filter_cons, List.filter_cons, h a b x]
    cases g b with
    | true => exact .cons x (paired_filter f g h t)
    | false => exact paired_filter f g h t
mutual
theorem TsA.dp : ∀ {o : O} {vs : List V}, TsA K H vs o → DpAll K H vs (O.toDs o)
  | .z, _, h => by cases h; exact .nil
  | .add e c r, _, h => by
    obtain ⟨p, q, ws, vr, rfl, h1, h2, h3, h4⟩ := h
    exact .cons (.tup h1.sq (.cons (.tup h2.sq (TsA.dp h3)) (.cons (.int c) .nil))) (TsA.dp h4)
end
theorem OA.dp {v : V} {o : O} (h : OA K H v o) : Dp K H v (O.toD o) := by
  obtain ⟨a, vs, rfl, h1, h2⟩ := h
  exact .tup h1.sq h2.dp
theorem OA.ref {v : V} {o : O} (h : OA K H v o) : ∃ a, v = .ref a := by
  obtain ⟨a, vs, rfl, _⟩ := h
  exact ⟨a, rfl⟩
theorem OA.nil {a : Addr} (h : TT K H a []) : OA K H (.ref a) .z := ⟨a, [], rfl, h, rfl⟩
/-! ### what the comparisons ask -/
variable {x y : V} {a b : O} {Q : VK}
theorem rd_lt (ha : OA K H x a) (hb : OA K H y b) (h : O.dp a ≤ 60) (q : Q (.bl (O.lt a b)) H) : rCmp (fun d e => dataLt d e) K x y H Q := by
  unfold rCmp
  exact ⟨_, _, ha.dp, hb.dp, O.alike_toD a b, (fun z => by cases z), by rw [O.depth_toD]; omega, by show Q (.bl (dataLt _ _)) H; rw [O.lt_toD]; exact q⟩
theorem rd_gt (ha : OA K H x a) (hb : OA K H y b) (h : O.dp a ≤ 60) (q : Q (.bl (O.lt b a)) H) : rCmp (fun d e => dataLt e d) K x y H Q := by
  unfold rCmp
  exact ⟨_, _, ha.dp, hb.dp, O.alike_toD a b, (fun z => by cases z), by rw [O.depth_toD]; omega, by show Q (.bl (dataLt _ _)) H; rw [O.lt_toD]; exact q⟩
theorem rd_le (ha : OA K H x a) (hb : OA K H y b) (h : O.dp a ≤ 60) (q : Q (.bl (!O.lt b a)) H) : rCmp (fun d e => !dataLt e d) K x y H Q := by
  unfold rCmp
  exact ⟨_, _, ha.dp, hb.dp, O.alike_toD a b, (fun z => by cases z), by rw [O.depth_toD]; omega, by show Q (.bl (!dataLt _ _)) H; rw [O.lt_toD]; exact q⟩
theorem rd_ge (ha : OA K H x a) (hb : OA K H y b) (h : O.dp a ≤ 60) (q : Q (.bl (!O.lt a b)) H) : rCmp (fun d e => !dataLt d e) K x y H Q := by
  unfold rCmp
  exact ⟨_, _, ha.dp, hb.dp, O.alike_toD a b, (fun z => by cases z), by rw [O.depth_toD]; omega, by show Q (.bl (!dataLt _ _)) H; rw [O.lt_toD]; exact q⟩
@[irreducible] def rEqO (K : PySem.W.Frag) : R2 := rEqD K
@[irreducible] def rNeO (K : PySem.W.Frag) : R2 := rNeD K
theorem rd_eq (ha : OA K H x a) (hb : OA K H y b) (h : O.dp a ≤ 60) (h2 : O.dp b ≤ 60) (q : Q (.bl (decide (a = b))) H) : rEqO K x y H Q := by
  unfold rEqO
  exact ⟨_, _, ha.dp, hb.dp, O.shaped_toD h, O.shaped_toD h2, by rw [O.eqv_toD]; exact q⟩
theorem rd_ne (ha : OA K H x a) (hb : OA K H y b) (h : O.dp a ≤ 60) (h2 : O.dp b ≤ 60) (q : Q (.bl (!decide (a = b))) H) : rNeO K x y H Q := by
  unfold rNeO
  exact ⟨_, _, ha.dp, hb.dp, O.shaped_toD h, O.shaped_toD h2, by rw [O.eqv_toD]; exact q⟩
end
theorem op_eqO {X : Cx} (hu : X.A.units + 64 < cLine) : OpR X (compareOp .Eq) (rEqO X.K) := by unfold rEqO; exact op_eqD hu
theorem op_neO {X : Cx} (hu : X.A.units + 64 < cLine) : OpR X (compareOp .NotEq) (rNeO X.K) := by unfold rNeO; exact op_neD hu
/-! ### sorted(.., reverse=True) of ordinals -/
def rSortedO (K : PySem.W.Frag) : List V → List V → Hp → VK → Prop := fun vs zs H Q => ∃ (a : Addr) (xs : List V) (os : List O), vs = [V.ref a] ∧ zs = [.bl true] ∧ SqL K H a xs ∧ Paired (OA K H) xs os ∧ (∀ o ∈ os, O.dp o ≤ 60) ∧
  ∀ (ys : List V) (os' : List O) (p : Addr), Paired (OA K H) ys os' → os'.Perm os → os'.Pairwise (fun a b => O.lt a b = false) → H p = none → Q (.ref p) (upd H p (.lst ys))
theorem dataLe_toD (a b : O) : dataLe true O.toD a b = !O.lt a b := by
  show sortLe (listOrd itemOrd) true (fun b => keyToks (O.toD b)) a b = _
  rw [← O.lt_toD]
  rfl
section
variable {X : Cx}
theorem each_of {R : Value → O → Prop} {F : V → O → Prop} (h : ∀ x u o, F x o → RelV x u → R u o) : ∀ {xs : List V} {os : List O} {us : List Value}, Paired F xs os → Vals xs us → EachIs R us os
  | _, _, _, .nil, .nil => .nil
  | _, _, _, .cons a t, .cons b u => .cons (h _ _ _ a b) (each_of h t u)
theorem each_back {F : V → O → Prop} : ∀ {us : List Value} {os : List O}, EachIs (fun u o => ∃ x, RelV x u ∧ F x o) us os → ∃ ys, Vals ys us ∧ Paired F ys os
  | _, _, .nil => ⟨[], .nil, .nil⟩
  | _, _, .cons ⟨x, a, b⟩ t => by
    obtain ⟨ys, h1, h2⟩ := each_back t
    exact ⟨x :: ys, .cons a h1, .cons b h2⟩
theorem cr_sortedO (hu : X.A.units + 64 < cLine) : CallRK X (.builtin "sorted") [Str.ofString "reverse"] (rSortedO X.K) := by
  intro pins s σ H vs zs us ws Q I r rz h
  obtain ⟨a, xs, os, rfl, rfl, hs, hp, hd, q⟩ := h
  obtain rfl := Vals.ref1 r
  obtain ⟨w1, rfl, e1⟩ := vals1 rz
  obtain rfl : w1 = Value.bool true := e1
  obtain ⟨its, rv, hl, hz⟩ := I.list hs
  have e0 : EachIs (fun u o => ∃ x, RelV x u ∧ OA X.K H x o) its os := each_of (fun x u o a b => ⟨x, b, a⟩) hp rv
  have er : EachIs (fun v o => ∃ as, Reads s.heap v (O.toD o) as) its os := e0.mono fun u o ⟨x, rx, ox⟩ => Dp.reads I _ _ _ ox.dp rx
  have er' : EachIs (fun v o => ∃ as, Reads (sortingHeap (copyHeap s.heap its) (s.heap.objs.size + 1) its) v (O.toD o) as) its os := er.mono fun _ _ ⟨as, r⟩ => ⟨as, PyProof.Rows.Reads.keeps (fun _ _ => sorting_copy_old) r⟩
  have hal : AllAlike (os.map O.toD) := AllAlike.of O.alike_toD
  refine sorted_rev_vals (b := true) hl.isList (SortsAt.tups (s := { s with heap := sortingHeap (copyHeap s.heap its) (s.heap.objs.size + 1) its }) (each_map (R := fun v d => ∃ as, Reads (sortingHeap (copyHeap s.heap its) (s.heap.objs.size + 1) its) v d as) O.toD er') hal (fun d hd => ?_) (fun d hm => ?_)) (by rw [← rv.length]; exact hz) ?_
  · obtain ⟨o, _, rfl⟩ := List.mem_map.mp hd
    exact ⟨_, rfl⟩
  · obtain ⟨o, ho, rfl⟩ := List.mem_map.mp hm
    rw [O.depth_toD]
    have := hd o ho
    show X.A.units + 1 + 1 + _ < _
    omega
  · have e2 := sortVals_data (h' := sortingHeap (copyHeap s.heap its) (s.heap.objs.size + 1) its) (enc := O.toD) true e0 er' hal
    obtain ⟨ys, v1, v2⟩ := each_back e2
    obtain ⟨ep, he'⟩ := PyProof.Rows.sortedAll_at s.heap its (sortVals (dataKind (sortingHeap (copyHeap s.heap its) (s.heap.objs.size + 1) its) (os.map O.toD)) true its its).toArray
    have hlen : ys.length ≤ sizeLine := by
      rw [paired_len v2, (List.mergeSort_perm os _).length_eq, ← paired_len hp]
      exact hz
    refine ⟨.ref _, upd H (s.heap.objs.size + 1) (.lst ys), I.laid (t' := s.toks) (fun _ _ => PyProof.Rows.sortedAll_old) (Nat.le_succ _) ⟨hlen, _, ep, v1, he'⟩, rfl, q _ _ _ v2 (List.mergeSort_perm os _) ?_ (I.hok.fresh (Nat.le_succ _))⟩
    refine (List.pairwise_mergeSort (le := dataLe true O.toD) (fun a b c h1 h2 => ?_) (fun a b => ?_) os).imp fun {a b} h => ?_
    · rw [dataLe_toD] at h1 h2 ⊢
      simp only [Bool.not_eq_true'] at h1 h2 ⊢
      exact O.ge_trans h1 h2
    · rw [dataLe_toD, dataLe_toD]
      by_cases e : a = b
      · subst e; rw [O.lt_irrefl]; rfl
      · rcases O.lt_total a b e with k | k
        · rw [k, O.lt_asymm k]; rfl
        · rw [k, O.lt_asymm k]; rfl
    · rw [dataLe_toD] at h
      simpa using h
end
/-! ### f(k = v, ..) -/
section
variable {X : Cx} {CX : CXT} {k : Nat} {f : Addr} {fd : FuncData} {ps ks : List Str} {sp : Sp} {E : XK} {x : Str} {p pos : Pos} {kws : List Keyword} {tk : TA} {g : List Value → List Value → List Value} {gV : List V → List V → List V}
theorem pe_callK0 (F : FnOk X.prog X.w X.K X.mg X.base CX k f fd ps sp) (hr : Room k X.A) (hg : Gl X x) (hm : X.mg x = some (.ref f)) (hk : PySem.W.keepIn X.K (.ref f) = true) (hb : KBinds X.K fd ps ks g gV) (hx : Passes CX X E)
    (hkw : PK X kws tk) (hall : (backToKw pos (keywordEach kws X.env)).all (·.1.isSome) = true := by rfl) (hks : (backToKw pos (keywordEach kws X.env)).filterMap (·.1) = ks := by rfl)
    (hdb : (x == ("__debug__" : Str)) = false := by decide)
    (hpl : ((backTo pos (starEach [] X.env)).any (·.1) || (backToKw pos (keywordEach kws X.env)).any (·.1.isNone)) = false := by rfl) :
    PE X (.Call (.Name x p) [] kws pos) (tCallK sp gV E tNil tk) := by
  refine ⟨fun pins s σ H Q I h => ?_⟩
  refine wpAny_Call_Name_kw (ld_glob I hg hm ?_ hdb)
  refine PySem.W.callWith_KW0 (h₀ := X.base) I.ok.mod.kin hk hall ?_ hpl
  refine thn (hkw.run pos pins s σ H _ I h) fun ws s2 ⟨zs, H2, I2, rz, q2⟩ => ⟨I2.kIn, ?_⟩
  rw [hks]
  exact run_fnk (us := []) (vs := []) F hr hb hx I2 .nil rz q2
end
/-! ### a def that keeps its promise, as it is called -/
structure Cal (P : Program) (w : World) (K : PySem.W.Frag) (mg : Str → Option Value) (base : Heap) (k : Nat) (x : Str) (ps : List Str) (sp : Sp) (f : Addr) (fd : FuncData) : Prop where
  G : FnOk P w K mg base CX0 k f fd ps sp
  m : mg x = some (.ref f)
  kp : PySem.W.keepIn K (.ref f) = true
  b : Binds K fd ps []
end Vw

set_option Elab.async false
set_option linter.all false
set_option maxRecDepth 100000
namespace Vw
open PySem PySem.W PyProof.Rows L2
namespace O
def num (n : Int) : O := if 0 < n then add z n z else z
theorem ok_num (n : Int) : ok (num n) = true := by
  unfold num
  split
  · exact ok_add.mpr ⟨rfl, by omega, rfl, rfl⟩
  · rfl
theorem dp_num (n : Int) : dp (num n) ≤ 2 := by
  unfold num
  split
  · show max (0 + 2) 0 ≤ 2; omega
  · show 0 ≤ 2; omega
theorem len_num (n : Int) : (ts (num n)).length ≤ 1 := by
  unfold num
  split
  · exact Nat.le_refl _
  · exact Nat.zero_le _
def lastE (l : List (O × Int)) : Option O := l.getLast?.map (·.1)
theorem under_of {e : O} : ∀ {l : List (O × Int)}, l ≠ [] → under e (of l) = (match l with | [] => true | t :: _ => lt t.1 e)
  | [], h => absurd rfl h
  | t :: _, _ => rfl
theorem ok_snoc : ∀ (l : List (O × Int)) (p : O) (c : Int), ok (of l) = true → ok p = true → 1 ≤ c → (∀ t, l.getLast? = some t → lt p t.1 = true) → ok (of (l ++ [(p, c)])) = true
  | [], p, c, _, hp, hc, _ => ok_add.mpr ⟨hp, hc, rfl, rfl⟩
  | [t], p, c, h, hp, hc, hl => by
    have g := ok_add.mp h
    exact ok_add.mpr ⟨g.1, g.2.1, ok_add.mpr ⟨hp, hc, rfl, rfl⟩, hl t rfl⟩
  | t :: u :: r, p, c, h, hp, hc, hl => by
    have g := ok_add.mp h
    refine ok_add.mpr ⟨g.1, g.2.1, ok_snoc (u :: r) p c g.2.2.1 hp hc (fun x hx => hl x (by rw [List.getLast?_cons_cons]; exact hx)), g.2.2.2⟩
theorem dp_of : ∀ (l : List (O × Int)) (n : Nat), (∀ t ∈ l, dp t.1 + 2 ≤ n) → dp (of l) ≤ n
  | [], n, _ => Nat.zero_le _
  | t :: r, n, h => by
    have h1 := h t List.mem_cons_self
    have h2 := dp_of r n fun x hx => h x (List.mem_cons_of_mem _ hx)
    show max (dp t.1 + 2) (dp (of r)) ≤ n
    omega
/-- the greatest number of terms, however deep -/
def wd : O → Nat
  | z => 0
  | add e c r => max (wd e) (max ((ts r).length + 1) (wd r))
theorem len_wd : ∀ a : O, (ts a).length ≤ wd a
  | z => Nat.le_refl _
  | add e c r => by show (ts r).length + 1 ≤ max (wd e) (max ((ts r).length + 1) (wd r)); omega
theorem wd_mem : ∀ {o : O} {t : O × Int}, t ∈ ts o → wd t.1 ≤ wd o
  | z, t, h => by cases h
  | add e c r, t, h => by
    rcases List.mem_cons.mp h with q | q
    · subst q; show wd e ≤ max (wd e) (max _ (wd r)); omega
    · have := wd_mem q; show _ ≤ max (wd e) (max _ (wd r)); omega
theorem wd_of : ∀ (l : List (O × Int)) (n : Nat), l.length ≤ n → (∀ t ∈ l, wd t.1 ≤ n) → wd (of l) ≤ n
  | [], n, _, _ => Nat.zero_le _
  | t :: r, n, hl, h => by
    have h1 := h t List.mem_cons_self
    have hl : r.length + 1 ≤ n := hl
    have h2 := wd_of r n (by omega) fun x hx => h x (List.mem_cons_of_mem _ hx)
    show max (wd t.1) (max ((ts (of r)).length + 1) (wd (of r))) ≤ n
    rw [ts_of]
    omega
theorem wd_num (n : Int) : wd (num n) ≤ 1 := by
  unfold num
  split
  · exact Nat.le_refl _
  · exact Nat.zero_le _
theorem dp_mem : ∀ {o : O} {t : O × Int}, t ∈ ts o → dp t.1 + 2 ≤ dp o
  | z, t, h => by cases h
  | add e c r, t, h => by
    rcases List.mem_cons.mp h with q | q
    · subst q; show dp e + 2 ≤ max (dp e + 2) (dp r); omega
    · have := dp_mem q; show _ ≤ max (dp e + 2) (dp r); omega
theorem ok_mem : ∀ {o : O} {t : O × Int}, ok o = true → t ∈ ts o → ok t.1 = true ∧ 1 ≤ t.2
  | z, t, _, h => by cases h
  | add e c r, t, hk, h => by
    have g := ok_add.mp hk
    rcases List.mem_cons.mp h with q | q
    · subst q; exact ⟨g.1, g.2.1⟩
    · exact ok_mem g.2.2.1 q
theorem dp_sum : ∀ (a b : O), dp (sum a b) ≤ max (dp a) (dp b)
  | a, z => by rw [sum_z]; omega
  | z, b => by rw [z_sum]; omega
  | add e1 c1 r1, add e2 c2 r2 => by
    by_cases q : e1 = e2
    · subst q; rw [sum_eq]; show max (dp e1 + 2) (dp r2) ≤ max (max _ _) (max _ _); omega
    · rcases lt_total e1 e2 q with k | k
      · rw [sum_lt k]; omega
      · rw [sum_gt k]
        have := dp_sum r1 (add e2 c2 r2)
        show max (dp e1 + 2) (dp (sum r1 (add e2 c2 r2))) ≤ max (max (dp e1 + 2) (dp r1)) _
        omega
theorem len_sum : ∀ (a b : O), (ts (sum a b)).length ≤ (ts a).length + (ts b).length
  | a, z => by rw [sum_z]; omega
  | z, b => by rw [z_sum]; omega
  | add e1 c1 r1, add e2 c2 r2 => by
    by_cases q : e1 = e2
    · subst q; rw [sum_eq]; simp only [ts, List.length_cons]; omega
    · rcases lt_total e1 e2 q with k | k
      · rw [sum_lt k]; omega
      · rw [sum_gt k]
        have := len_sum r1 (add e2 c2 r2)
        simp only [ts, List.length_cons] at this ⊢
        omega
end O
/-! ### data by kind -/
def tyN : PyData → String
  | .none => "NoneType"
  | .bool _ => "bool"
  | .int _ => "int"
  | .str _ => "str"
  | .list _ => "list"
  | .tuple _ => "tuple"
  | .dict _ => "dict"
section
variable {K : PySem.W.Frag} {H H' : Hp}
theorem dp_ty {x : V} {d : PyData} (h : Dp K H x d) : TyX K H x (.type (tyN d)) := by
  cases h with
  | non => exact .base .non
  | bl b => exact .base (.bl b)
  | int i => exact .base (.int i)
  | str s => exact .base (.str s)
  | lst hs _ =>
    rcases hs with (h | ⟨o, h⟩) | ⟨o, its, n, h1, h2, _⟩
    · exact .base (.lst h)
    · exact .base (.frz h)
    · exact .kList h1 h2
  | tup hs _ =>
    rcases hs with (h | ⟨o, h⟩) | ⟨o, its, n, h1, h2, _⟩
    · exact .base (.tup h)
    · exact .fTuple h
    · exact .kTuple h1 h2
def isinN (n T : String) : Bool := n == T || (n == "bool" && T == "int")
def isin (d : PyData) (T : String) : Bool := isinN (tyN d) T
theorem kits {T : String} (h0 : kitB "NoneType" T = some (isinN "NoneType" T)) (h1 : kitB "bool" T = some (isinN "bool" T)) (h2 : kitB "int" T = some (isinN "int" T)) (h3 : kitB "str" T = some (isinN "str" T)) (h4 : kitB "list" T = some (isinN "list" T)) (h5 : kitB "tuple" T = some (isinN "tuple" T)) :
    ∀ d : PyData, (∀ kv, d ≠ .dict kv) → kitOne K (.type (tyN d)) (.type T) = some (isin d T)
  | .none, _ => kit_ty h0
  | .bool _, _ => kit_ty h1
  | .int _, _ => kit_ty h2
  | .str _, _ => kit_ty h3
  | .list _, _ => kit_ty h4
  | .tuple _, _ => kit_ty h5
  | .dict kv, h => absurd rfl (h kv)
theorem kit_list (d : PyData) (hd : ∀ kv, d ≠ .dict kv) : kitOne K (.type (tyN d)) (.type "list") = some (isin d "list") := kits (by decide +kernel) (by decide +kernel) (by decide +kernel) (by decide +kernel) (by decide +kernel) (by decide +kernel) d hd
theorem kit_tuple (d : PyData) (hd : ∀ kv, d ≠ .dict kv) : kitOne K (.type (tyN d)) (.type "tuple") = some (isin d "tuple") := kits (by decide +kernel) (by decide +kernel) (by decide +kernel) (by decide +kernel) (by decide +kernel) (by decide +kernel) d hd
theorem kit_bool (d : PyData) (hd : ∀ kv, d ≠ .dict kv) : kitOne K (.type (tyN d)) (.type "bool") = some (isin d "bool") := kits (by decide +kernel) (by decide +kernel) (by decide +kernel) (by decide +kernel) (by decide +kernel) (by decide +kernel) d hd
theorem kit_int (d : PyData) (hd : ∀ kv, d ≠ .dict kv) : kitOne K (.type (tyN d)) (.type "int") = some (isin d "int") := kits (by decide +kernel) (by decide +kernel) (by decide +kernel) (by decide +kernel) (by decide +kernel) (by decide +kernel) d hd
theorem kit_str (d : PyData) (hd : ∀ kv, d ≠ .dict kv) : kitOne K (.type (tyN d)) (.type "str") = some (isin d "str") := kits (by decide +kernel) (by decide +kernel) (by decide +kernel) (by decide +kernel) (by decide +kernel) (by decide +kernel) d hd
theorem dp_nodict {x : V} {d : PyData} (h : Dp K H x d) : ∀ kv, d ≠ .dict kv := fun kv e => by subst e; cases h
@[irreducible] def rIsD (K : PySem.W.Frag) : List V → Hp → VK → Prop := rIsi K
@[irreducible] def rIsDT (K : PySem.W.Frag) : List V → Hp → VK → Prop := rIsiT K
theorem call_isD {X : Cx} : CallR X (.builtin "isinstance") (rIsD X.K) := by unfold rIsD; exact call_isi
theorem call_isDT {X : Cx} : CallR X (.builtin "isinstance") (rIsDT X.K) := by unfold rIsDT; exact call_isiT
variable {Q : VK} {x : V} {d : PyData}
theorem rd_list (h : Dp K H x d) (q : Q (.bl (isin d "list")) H) : rIsD K [x, .ty "list"] H Q := by unfold rIsD; exact ⟨x, _, _, _, _, rfl, .ty _, dp_ty h, kit_list d (dp_nodict h), q⟩
theorem rd_tuple (h : Dp K H x d) (q : Q (.bl (isin d "tuple")) H) : rIsD K [x, .ty "tuple"] H Q := by unfold rIsD; exact ⟨x, _, _, _, _, rfl, .ty _, dp_ty h, kit_tuple d (dp_nodict h), q⟩
theorem rd_bool (h : Dp K H x d) (q : Q (.bl (isin d "bool")) H) : rIsD K [x, .ty "bool"] H Q := by unfold rIsD; exact ⟨x, _, _, _, _, rfl, .ty _, dp_ty h, kit_bool d (dp_nodict h), q⟩
theorem rd_int (h : Dp K H x d) (q : Q (.bl (isin d "int")) H) : rIsD K [x, .ty "int"] H Q := by unfold rIsD; exact ⟨x, _, _, _, _, rfl, .ty _, dp_ty h, kit_int d (dp_nodict h), q⟩
theorem rd_str (h : Dp K H x d) (q : Q (.bl (isin d "str")) H) : rIsD K [x, .ty "str"] H Q := by unfold rIsD; exact ⟨x, _, _, _, _, rfl, .ty _, dp_ty h, kit_str d (dp_nodict h), q⟩
def isLT : PyData → Bool
  | .list _ => true
  | .tuple _ => true
  | _ => false
theorem rd_lt2 {tp : Addr} (h : Dp K H x d) (ht : H tp = some (.tup [.ty "list", .ty "tuple"])) (q : Q (.bl (isLT d)) H) : rIsDT K [x, .ref tp] H Q := by
  unfold rIsDT
  refine ⟨x, tp, _, _, [.type "list", .type "tuple"], isLT d, rfl, ht, .cons (.ty _) (.cons (.ty _) .nil), dp_ty h, ?_, q⟩
  refine kitAny_cons (kit_list d (dp_nodict h)) (fun e => kitAny_cons (kit_tuple d (dp_nodict h)) (fun e2 => ?_) fun e2 => ?_) fun e => ?_
  · rw [kitAny_nil]
    cases d <;> first | rfl | (revert e e2; show _ = false → _ = false → _; decide +revert) | exact absurd e (by show ¬ (isinN "list" "list" = false); decide) | exact absurd e2 (by show ¬ (isinN "tuple" "tuple" = false); decide)
  · cases d <;> first | rfl | exact absurd e2 (by show ¬ (isinN "NoneType" "tuple" = true); decide) | exact absurd e2 (by show ¬ (isinN "bool" "tuple" = true); decide) | exact absurd e2 (by show ¬ (isinN "int" "tuple" = true); decide) | exact absurd e2 (by show ¬ (isinN "str" "tuple" = true); decide) | exact absurd e2 (by show ¬ (isinN "dict" "tuple" = true); decide)
  · cases d <;> first | rfl | exact absurd e (by show ¬ (isinN "NoneType" "list" = true); decide) | exact absurd e (by show ¬ (isinN "bool" "list" = true); decide) | exact absurd e (by show ¬ (isinN "int" "list" = true); decide) | exact absurd e (by show ¬ (isinN "str" "list" = true); decide) | exact absurd e (by show ¬ (isinN "dict" "list" = true); decide)
theorem same_sqt {a : Addr} {xs : List V} (e : Same H H') (h : SqT K H a xs) : SqT K H' a xs := by
  rcases h with (h | ⟨o, h⟩) | h
  · exact .inl (.inl (e _ _ h))
  · exact .inl (.inr ⟨o, e _ _ h⟩)
  · exact .inr h
mutual
theorem dp_same (e : Same H H') : ∀ {d : PyData} {v : V}, Dp K H v d → Dp K H' v d
  | _, _, .non => .non
  | _, _, .bl b => .bl b
  | _, _, .int i => .int i
  | _, _, .str x => .str x
  | _, _, .lst h t => .lst (e.seq h) (dpall_same e t)
  | _, _, .tup h t => .tup (same_sqt e h) (dpall_same e t)
theorem dpall_same (e : Same H H') : ∀ {ds : List PyData} {vs : List V}, DpAll K H vs ds → DpAll K H' vs ds
  | _, _, .nil => .nil
  | _, _, .cons h t => .cons (dp_same e h) (dpall_same e t)
end
theorem dpall_len : ∀ {ds : List PyData} {vs : List V}, DpAll K H vs ds → vs.length = ds.length
  | _, _, .nil => rfl
  | _, _, .cons h t => congrArg Nat.succ (dpall_len t)
theorem dpall_get : ∀ {ds : List PyData} {vs : List V} {i : Nat} {v : V}, DpAll K H vs ds → vs[i]? = some v → ∃ d, ds[i]? = some d ∧ Dp K H v d
  | _, _, _, _, .nil, h => by simp at h
  | _, _, 0, _, .cons a t, h => by
    simp at h; subst h
    exact ⟨_, rfl, a⟩
  | _, _, i + 1, _, .cons a t, h => by
    obtain ⟨y, h1, h2⟩ := dpall_get (i := i) t (by simpa using h)
    exact ⟨y, by simpa using h1, h2⟩
theorem depth_get : ∀ {ds : List PyData} {i : Nat} {d : PyData}, ds[i]? = some d → d.depth ≤ PyData.depthAll ds
  | [], _, _, h => by simp at h
  | x :: r, 0, d, h => by
    simp at h; subst h
    simp only [PyData.depthAll]; omega
  | x :: r, i + 1, d, h => by
    have := depth_get (ds := r) (i := i) (by simpa using h)
    simp only [PyData.depthAll]; omega
theorem atI_ex {xs : List V} {i : Int} (h0 : 0 ≤ i) (h : i < (xs.length : Int)) : ∃ v, xs[i.toNat]? = some v ∧ atI xs i = some v := by
  obtain ⟨j, rfl⟩ := Int.eq_ofNat_of_zero_le h0
  have hj : j < xs.length := by omega
  exact ⟨xs[j], List.getElem?_eq_getElem hj, atI_nat (List.getElem?_eq_getElem hj)⟩
end
/-! ### len, with the bound that the model keeps -/
@[irreducible] def rLenB (K : PySem.W.Frag) : List V → Hp → VK → Prop := fun vs H Q => ∃ p ys, vs = [.ref p] ∧ (SqL K H p ys ∨ SqT K H p ys) ∧ (ys.length ≤ sizeLine → Q (.int (ys.length : Nat)) H)
theorem call_lenB {X : Cx} : CallR X (.builtin "len") (rLenB X.K) := by
  intro pins s σ H xs us Q I r h
  unfold rLenB at h
  obtain ⟨p, ys, rfl, hs, q⟩ := h
  have hz : ys.length ≤ sizeLine := by
    rcases hs with hs | hs
    · obtain ⟨_, _, _, z⟩ := I.list hs; exact z
    · obtain ⟨_, _, _, z⟩ := I.tuple hs; exact z
  exact call_len_seq pins s σ H _ us Q I r ⟨p, ys, rfl, hs, q hz⟩
theorem rd_len {K : PySem.W.Frag} {H : Hp} {Q : VK} {p : Addr} {ys : List V} (h : SqL K H p ys ∨ SqT K H p ys) (q : ys.length ≤ sizeLine → Q (.int (ys.length : Nat)) H) : rLenB K [.ref p] H Q := by
  unfold rLenB
  exact ⟨p, ys, rfl, h, q⟩
theorem line62 {n : Nat} (h : n ≤ sizeLine) : -(2 ^ 62) ≤ (n : Int) ∧ (n : Int) < 2 ^ 62 := by
  have : sizeLine ≤ 2 ^ 40 := by decide
  omega
/-! ### the bag of numbers -/
def Bag (l : Addr) (H : Hp) (b : Addr) : Prop := ∃ (ns : List Int) (i g s k : Int), l ≠ b ∧ H b = some (.lst [.ref l, .int i, .int g, .int s, .int k]) ∧ H l = some (.lst (ns.map V.int)) ∧ ns.length ≤ 63 ∧ 0 ≤ i ∧ 0 ≤ s ∧ s < 2147483647
theorem Bag.same {l : Addr} {H H' : Hp} {b : Addr} (x : Same H H') (h : Bag l H b) : Bag l H' b := by
  obtain ⟨ns, i, g, s, k, h1, h2, h3, h4⟩ := h
  exact ⟨ns, i, g, s, k, h1, x _ _ h2, x _ _ h3, h4⟩
theorem Bag.tp {l : Addr} {H H' : Hp} {b : Addr} (h : Bag l H b) (x : Kp b H H') : Tp H H' := by
  obtain ⟨ns, i, g, s, k, h1, h2, h3, h4⟩ := h
  exact x.tp h2
theorem Bag.ne {l : Addr} {H : Hp} {b p : Addr} (h : Bag l H b) (hp : H p = none) : p ≠ b := by
  obtain ⟨ns, i, g, s, k, h1, h2, h3, h4⟩ := h
  exact (ne_of_none h2 hp).symm
theorem Bag.nl {l : Addr} {H : Hp} {b p : Addr} (h : Bag l H b) (hp : H p = none) : p ≠ l := by
  obtain ⟨ns, i, g, s, k, h1, h2, h3, h4⟩ := h
  exact (ne_of_none h3 hp).symm
theorem Bag.mut {l : Addr} {H : Hp} {b p : Addr} {o : HO} (h : Bag l H b) (h1 : p ≠ b) (h2 : p ≠ l) : Bag l (upd H p o) b := by
  obtain ⟨ns, i, g, s, k, e1, e2, e3, e4⟩ := h
  exact ⟨ns, i, g, s, k, e1, by rw [upd_ne h1.symm]; exact e2, by rw [upd_ne h2.symm]; exact e3, e4⟩
def spBag (K : PySem.W.Frag) : Sp := fun vs H Q _ => ∃ (a : Addr) (ns : List Int), vs = [.ref a] ∧ SqL K H a (ns.map V.int) ∧ ns.length ≤ 63 ∧ ∀ (l b : Addr) (H' : Hp), H b = none → Same H H' → Bag l H' b → Q (.ref b) H'
/-- one number of the bag, below n -/
def spPull : Sp := fun vs H Q _ => ∃ (l b : Addr) (n : Int), vs = [.ref b, .int n] ∧ 1 ≤ n ∧ n < 2 ^ 100 ∧ Bag l H b ∧ ∀ (r : Int) (H' : Hp), 0 ≤ r → r < n → Kp b H H' → Bag l H' b → Q (.int r) H'
/-- one of some -/
def spOf (K : PySem.W.Frag) : Sp := fun vs H Q _ => ∃ (l b a : Addr) (xs : List V), vs = [.ref b, .ref a] ∧ Bag l H b ∧ ((a ≠ b ∧ H a = some (.lst xs)) ∨ TT K H a xs) ∧ xs ≠ [] ∧ ∀ (x : V) (H' : Hp), x ∈ xs → Kp b H H' → Bag l H' b → Q x H'
def spNum (K : PySem.W.Frag) : Sp := fun vs H Q _ => ∃ n : Int, vs = [.int n] ∧ ∀ (v : V) (H' : Hp), Same H H' → OA K H' v (O.num n) → Q v H'
/-- equal data are the same -/
def spSame (K : PySem.W.Frag) (n : Nat) : Sp := fun vs H Q _ => ∃ (x y : V) (d : PyData), vs = [x, y] ∧ Dp K H x d ∧ Dp K H y d ∧ d.depth < n ∧ ∀ H', Same H H' → Q (.bl true) H'
/-- a drawn ordinal -/
def spOrd (K : PySem.W.Frag) (d : Nat) : Sp := fun vs H Q _ => ∃ (l b : Addr), vs = [.ref b, .int (d : Int)] ∧ Bag l H b ∧ ∀ (o : O) (v : V) (H' : Hp), O.ok o = true → O.dp o ≤ 2 * d + 2 → O.wd o ≤ 3 → OA K H' v o → Kp b H H' → Bag l H' b → Q v H'
theorem cut_map (ns : List Int) (lo hi : Option Int) : ∃ ms : List Int, cutV (ns.map V.int) lo hi = ms.map V.int ∧ ms.length ≤ ns.length := by
  refine ⟨(ns.drop (HT.sIx (ns.map V.int).length 0 lo)).take (HT.sIx (ns.map V.int).length (ns.map V.int).length hi - HT.sIx (ns.map V.int).length 0 lo), ?_, ?_⟩
  · unfold cutV
    rw [List.map_take, List.map_drop]
  · rw [List.length_take, List.length_drop]; omega
/-- a def that keeps its promise, as it is called -/
theorem none_left {P : Program} {w : World} {K : PySem.W.Frag} {mg : Str → Option Value} {base : Heap} {f : Addr} {fd : FuncData} {ps : List Str} {sp : Sp} (no : ∀ vs H Q E, ¬ sp vs H Q E) : FnOk P w K mg base CX0 0 f fd ps sp :=
  ⟨fun vs H Q E h => absurd h (no vs H Q E), fun A outer s H args us vs Q E _ _ _ _ h => absurd h (no vs H Q E)⟩
/-- if, what holds behind the test said once -/
def tIfBy (c : L2.TT) (t u : TS) : TS := fun D σ H => ∃ A B : Hp → Prop, (c σ H fun b H1 => if b = true then A H1 else B H1) ∧ (∀ H1, A H1 → t D σ H1) ∧ ∀ H1, B H1 → u D σ H1
theorem ps_ifBy {X : Cx} {c : Expr} {a b : List Stmt} {tc : L2.TT} {t u : TS} {pos : Pos} (hc : PT X c tc) (ha : PSs X a t) (hb : PSs X b u) : PS X (.If c a b pos) (tIfBy tc t u) := by
  refine ⟨fun pins s σ H D I h => ?_⟩
  obtain ⟨A, B, h, h1, h2⟩ := h
  refine wpAny_If (thn (hc.run pins s σ H _ I h) fun d s1 ⟨H1, I1, q1⟩ => ?_)
  cases d with
  | true =>
    rw [if_pos rfl] at q1
    exact ha.run pins s1 σ H1 D I1 (h1 _ q1)
  | false =>
    rw [if_neg Bool.false_ne_true] at q1
    exact hb.run pins s1 σ H1 D I1 (h2 _ q1)
theorem eqv_nil (l : List PyData) : PyData.eqv (.list l) (.list []) = l.isEmpty := by
  cases l <;> simp [PyData.eqv, PyData.eqvAll]
theorem lay_terms : ∀ l : List (O × Int), PyData.canLayAll0 (l.map O.tD) = true
  | [] => by simp [PyData.canLayAll0]
  | t :: r => by simp [PyData.canLayAll0, O.tD, PyData.canLay0, O.lay_toD, lay_terms r]
theorem depth_terms (n : Nat) : ∀ l : List (O × Int), (∀ t ∈ l, O.dp t.1 + 2 ≤ n) → PyData.depthAll (l.map O.tD) ≤ n
  | [], _ => by simp [PyData.depthAll]
  | t :: r, h => by
    have h1 := h t List.mem_cons_self
    have h2 := depth_terms n r fun x hx => h x (List.mem_cons_of_mem _ hx)
    simp only [List.map_cons, PyData.depthAll, O.tD, PyData.depth, O.depth_toD]
    omega
theorem shaped_terms {l : List (O × Int)} (h : ∀ t ∈ l, O.dp t.1 ≤ 50) : SeqAt.shaped (.list (l.map O.tD)) = true := by
  have := depth_terms 52 l fun t ht => by have := h t ht; omega
  unfold SeqAt.shaped
  rw [show (PyData.list (l.map O.tD)).canLay0 = true by simp [PyData.canLay0, lay_terms], show (PyData.list (l.map O.tD)).depth = PyData.depthAll (l.map O.tD) + 1 by simp [PyData.depth], Bool.true_and, decide_eq_true_eq]
  omega
theorem shaped_nil : SeqAt.shaped (.list []) = true := by unfold SeqAt.shaped; simp [PyData.canLay0, PyData.canLayAll0, PyData.depth, PyData.depthAll]
section
variable {K : PySem.W.Frag} {H : Hp}
theorem TmA.dp {v : V} {t : O × Int} (h : TmA K H v t) : Dp K H v (O.tD t) := by
  obtain ⟨p, q, rfl, h1, h2⟩ := h
  exact .tup h1.sq (.cons h2.dp (.cons (.int _) .nil))
theorem terms_dp : ∀ {xs : List V} {l : List (O × Int)}, Paired (TmA K H) xs l → DpAll K H xs (l.map O.tD)
  | _, _, .nil => .nil
  | _, _, .cons a t => .cons a.dp (terms_dp t)
/-- a list of terms against the empty one -/
theorem rd_eqNil {x y : V} {p p2 : Addr} {xs : List V} {l : List (O × Int)} {Q : VK} (h1 : SqL K H p xs) (h2 : Paired (TmA K H) xs l) (h3 : SqL K H p2 []) (hd : ∀ t ∈ l, O.dp t.1 ≤ 50) (q : Q (.bl l.isEmpty) H) : rEqO K (.ref p) (.ref p2) H Q := by
  unfold rEqO
  refine ⟨_, _, .lst h1 (terms_dp h2), .lst h3 .nil, shaped_terms hd, shaped_nil, ?_⟩
  rw [eqv_nil]
  cases l <;> exact q
theorem rd_neNil {x y : V} {p p2 : Addr} {xs : List V} {l : List (O × Int)} {Q : VK} (h1 : SqL K H p xs) (h2 : Paired (TmA K H) xs l) (h3 : SqL K H p2 []) (hd : ∀ t ∈ l, O.dp t.1 ≤ 50) (q : Q (.bl (!l.isEmpty)) H) : rNeO K (.ref p) (.ref p2) H Q := by
  unfold rNeO
  refine ⟨_, _, .lst h1 (terms_dp h2), .lst h3 .nil, shaped_terms hd, shaped_nil, ?_⟩
  rw [eqv_nil]
  cases l <;> exact q
theorem paired_tp {H' : Hp} (t : Tp H H') {xs : List V} {os : List O} (h : Paired (OA K H) xs os) : Paired (OA K H') xs os := paired_mono (fun _ _ a => a.tp t) h
theorem terms_tp {H' : Hp} (t : Tp H H') {xs : List V} {l : List (O × Int)} (h : Paired (TmA K H) xs l) : Paired (TmA K H') xs l := paired_mono (fun _ _ a => a.tp t) h
theorem TmA.new {p q : Addr} {c : Int} {e : O} (h : OA K H (.ref q) e) (hp : H p = some (.tup [.ref q, .int c])) : TmA K H (.ref p) (e, c) := ⟨p, q, rfl, .of hp, h⟩
end
/-! ### tuples joined, cut -/
section
variable {K : PySem.W.Frag} {H : Hp} {Q : VK}
@[irreducible] def rCatO (K : PySem.W.Frag) : R2 := rCatA K
theorem op_catO {X : Cx} : OpR X (binaryOp .Add) (rCatO X.K) := by unfold rCatO; exact op_catA
theorem rd_cat {a b : Addr} {xs ys : List V} (ha : TT K H a xs) (hb : TT K H b ys) (hz : xs.length + ys.length ≤ 10000000) (q : ∀ (p : Addr) (H' : Hp), Same H H' → TT K H' p (xs ++ ys) → Q (.ref p) H') : rCatO K (.ref a) (.ref b) H Q := by
  unfold rCatO
  refine ⟨a, b, xs, ys, rfl, rfl, ha.sq, hb.sq, Nat.le_trans hz (by decide), fun e => q b H (Same.refl H) (by rw [e]; exact hb), fun _ e => q a H (Same.refl H) (by rw [e, List.append_nil]; exact ha), fun _ _ p np => q p _ (same_new np) (.of upd_same)⟩
@[irreducible] def rSlO (K : PySem.W.Frag) : V → Option Int → Option Int → Hp → VK → Prop := rSlA K
theorem sl_tupO {X : Cx} : SlR X (rSlO X.K) := by unfold rSlO; exact sl_tupA
theorem cut_from {α : Type} (xs : List V) (k : Nat) : cutV xs (some (k : Int)) none = xs.drop k := by
  unfold cutV
  rw [HT.sIx_nat, HT.sIx_none]
  rcases Nat.le_total k xs.length with h | h
  · rw [Nat.min_eq_left h, List.take_of_length_le (by rw [List.length_drop]; omega)]
  · rw [Nat.min_eq_right h, List.drop_of_length_le (Nat.le_refl _), List.drop_of_length_le h]; simp
theorem cut_to {α : Type} (xs : List V) (k : Nat) : cutV xs none (some (k : Int)) = xs.take k := by
  unfold cutV
  rw [HT.sIx_nat, HT.sIx_none, List.drop_zero, Nat.sub_zero]
  rcases Nat.le_total k xs.length with h | h
  · rw [Nat.min_eq_left h]
  · rw [Nat.min_eq_right h, List.take_of_length_le h, List.take_of_length_le (Nat.le_refl _)]
theorem rd_sl {a : Addr} {xs : List V} {lo hi : Option Int} (ha : TT K H a xs) (q : ∀ (p : Addr) (H' : Hp), Same H H' → TT K H' p (cutV xs lo hi) → Q (.ref p) H') : rSlO K (.ref a) lo hi H Q := by
  unfold rSlO
  refine ⟨a, xs, rfl, ha.sq, fun e => q a H (Same.refl H) ?_, fun _ p np => q p _ (same_new np) (.of upd_same)⟩
  have : cutV xs lo hi = xs := by
    unfold cutV
    rw [e.1, e.2, List.drop_zero, Nat.sub_zero, List.take_length]
  rw [this]; exact ha
theorem rd_from {a : Addr} {xs : List V} (k : Nat) (ha : TT K H a xs) (q : ∀ (p : Addr) (H' : Hp), Same H H' → TT K H' p (xs.drop k) → Q (.ref p) H') : rSlO K (.ref a) (some (k : Int)) none H Q := rd_sl ha fun p H' s t => q p H' s (by rw [cut_from (α := Nat)] at t; exact t)
theorem rd_to {a : Addr} {xs : List V} (k : Nat) (ha : TT K H a xs) (q : ∀ (p : Addr) (H' : Hp), Same H H' → TT K H' p (xs.take k) → Q (.ref p) H') : rSlO K (.ref a) none (some (k : Int)) H Q := rd_sl ha fun p H' s t => q p H' s (by rw [cut_to (α := Nat)] at t; exact t)
theorem take_filter {α : Type} (l : List α) (f : α → Bool) (i : Nat) (t : α) (h : l[i]? = some t) : (l.take (i + 1)).filter f = (l.take i).filter f ++ (if f t = true then [t] else []) := by
  rw [List.take_add_one, h, List.filter_append]
  congr 1
  show [t].filter f = _
  rw [List.filter_cons]
  split <;> rfl
theorem OA.tt {a : Addr} {o : O} (h : OA K H (.ref a) o) : ∃ vs, TT K H a vs ∧ Paired (TmA K H) vs (O.ts o) := by
  obtain ⟨a', vs, e, h1, h2⟩ := h
  cases e
  exact ⟨vs, h1, h2.pair⟩
theorem TmA.un {v : V} {t : O × Int} (h : TmA K H v t) : ∃ p q, v = .ref p ∧ TT K H p [.ref q, .int t.2] ∧ OA K H (.ref q) t.1 := h
theorem Same.tt {H' : Hp} {a : Addr} {xs : List V} (s : Same H H') (h : TT K H a xs) : TT K H' a xs := h.tp (same_tp s)
theorem OA.same {H' : Hp} {v : V} {o : O} (h : OA K H v o) (s : Same H H') : OA K H' v o := h.tp (same_tp s)
theorem TT.same {H' : Hp} {a : Addr} {xs : List V} (h : TT K H a xs) (s : Same H H') : TT K H' a xs := h.tp (same_tp s)
theorem TmA.same {H' : Hp} {v : V} {t : O × Int} (h : TmA K H v t) (s : Same H H') : TmA K H' v t := h.tp (same_tp s)
theorem terms_same {H' : Hp} {xs : List V} {l : List (O × Int)} (h : Paired (TmA K H) xs l) (s : Same H H') : Paired (TmA K H') xs l := paired_mono (fun _ _ a => a.same s) h
end
/-- the program's sum -/
theorem small40k {n : Nat} (h : n ≤ 4000000) : n < sizeLine := Nat.lt_of_le_of_lt h (by decide)
def spPlus (K : PySem.W.Frag) : Sp := fun vs H Q _ => ∃ (x y : V) (a b : O), vs = [x, y] ∧ OA K H x a ∧ OA K H y b ∧ O.ok a = true ∧ O.dp a ≤ 50 ∧ O.dp b ≤ 50 ∧ (O.ts a).length ≤ 4000000 ∧ (O.ts b).length ≤ 4000000 ∧ ∀ (v : V) (H' : Hp), Same H H' → OA K H' v (O.sum a b) → Q v H'
/-- a function of one ordinal -/
def spO1 (K : PySem.W.Frag) (g : O → O) : Sp := fun vs H Q _ => ∃ (x : V) (a : O), vs = [x] ∧ OA K H x a ∧ O.ok a = true ∧ O.dp a ≤ 50 ∧ (O.ts a).length ≤ 4000000 ∧ ∀ (v : V) (H' : Hp), Same H H' → OA K H' v (g a) → Q v H'
def endO (o : O) : O := match (O.ts o).getLast? with
  | some t => t.1
  | none => .z
theorem endO_last {o : O} {t : O × Int} (h : (O.ts o).getLast? = some t) : endO o = t.1 := by
  unfold endO
  rw [h]
theorem last_ex {o : O} (h : o ≠ .z) : ∃ t, (O.ts o).getLast? = some t := by
  cases o with
  | z => exact absurd rfl h
  | add e c r =>
    cases q : (O.ts (.add e c r)).getLast? with
    | some t => exact ⟨t, rfl⟩
    | none => exact absurd (List.getLast?_eq_none_iff.mp q) (by intro z; cases z)
section
variable {K : PySem.W.Frag} {H : Hp} {Q : VK}
/-- the last term -/
theorem last_term {xs : List V} {l : List (O × Int)} {t : O × Int} (h : Paired (TmA K H) xs l) (ht : l.getLast? = some t) : ∃ p q, atI xs (-1) = some (.ref p) ∧ TT K H p [.ref q, .int t.2] ∧ OA K H (.ref q) t.1 ∧ xs ≠ [] := by
  obtain ⟨v, hv, vt⟩ : ∃ v, xs.getLast? = some v ∧ TmA K H v t := by
    rw [List.getLast?_eq_getElem?] at ht
    obtain ⟨v, h1, h2⟩ := paired_get' h ht
    rw [← paired_len h] at h1
    exact ⟨v, by rw [List.getLast?_eq_getElem?]; exact h1, h2⟩
  obtain ⟨p, q, rfl, g1, g2⟩ := vt
  have hn : xs ≠ [] := fun z => by rw [z] at hv; cases hv
  refine ⟨p, q, ?_, g1, g2, hn⟩
  have : xs = xs.dropLast ++ [.ref p] := by
    rw [List.getLast?_eq_some_getLast hn] at hv
    have := Option.some.inj hv
    rw [← this, List.dropLast_concat_getLast]
  rw [this]; exact atI_last _ _
theorem cut_m1 {α : Type} (xs : List V) : cutV xs none (some (-1)) = xs.dropLast := by
  unfold cutV
  rw [HT.sIx_none, List.drop_zero, Nat.sub_zero]
  have : HT.sIx xs.length xs.length (some (-1)) = xs.length - 1 := by
    show (if (-1 : Int) < 0 then ((-1 : Int) + (xs.length : Int)).toNat else min (-1 : Int).toNat xs.length) = _
    rw [if_pos (by decide)]
    omega
  rw [this, List.dropLast_eq_take]
theorem paired_dropLast {α β : Type} {F : α → β → Prop} {xs : List α} {ys : List β} (h : Paired F xs ys) : Paired F xs.dropLast ys.dropLast := by
  rw [List.dropLast_eq_take, List.dropLast_eq_take, paired_len h]
  exact paired_take _ h
end
/-! ### levels, alternatives -/
section
variable {P : Program} {w : World} {K : PySem.W.Frag} {mg : Str → Option Value} {base : Heap} {f : Addr} {fd : FuncData} {ps : List Str} {k k' : Nat} {x : Str} {sp sp' : Sp}
theorem fn_mono (G : FnOk P w K mg base CX0 k f fd ps sp) (h : k ≤ k') : FnOk P w K mg base CX0 k' f fd ps sp :=
  ⟨G.len, fun A outer s H args us vs Q E a b c e h' => G.run A outer s H args us vs Q E (a.mono h) b c e h'⟩
theorem fn_some {ι : Type} {p : ι → Prop} {sps : ι → Sp} (G : ∀ i, p i → FnOk P w K mg base CX0 k f fd ps (sps i)) : FnOk P w K mg base CX0 k f fd ps (fun vs H Q E => ∃ i, p i ∧ sps i vs H Q E) :=
  ⟨fun vs H Q E ⟨i, hi, h⟩ => (G i hi).len vs H Q E h, fun A outer s H args us vs Q E a b c e ⟨i, hi, h⟩ => (G i hi).run A outer s H args us vs Q E a b c e h⟩
/-- drawn ordinals up to m deep -/
def spOrdTo (K : PySem.W.Frag) (m : Nat) : Sp := fun vs H Q E => ∃ d, d ≤ m ∧ spOrd K d vs H Q E
theorem kb_of {qual : Str} {st : Stmt} {ks : List Str} (F : Fun K x qual st f fd) (g : List Value → List Value → List Value) (gV : List V → List V → List V)
    (rel : ∀ {vs : List V} {us : List Value} {zs : List V} {ws : List Value}, Vals vs us → Vals zs ws → Vals (gV vs zs) (g us ws))
    (h : ∀ (kV doc pm : Value) (an : Option Addr) (cdv ct : Value) (us ws : List Value), (g us ws).length = ps.length → bindArgs (PySem.W.fnOf x qual (defArgs st) (defBody st) (defScope st) .none kV doc pm an cdv ct) ⟨us, ks.zip ws⟩ = pure (ps.zip (g us ws))) : KBinds K fd ps ks g gV := by
  obtain ⟨oc, od, kV, doc, pm, an, cdv, ct, osl, rfl, lk, hcd⟩ := F.ex
  exact ⟨fun s us ws _ hl => .of_eq (h kV doc pm an cdv ct us ws hl), rel⟩
/-- f(b=.., a=..) of a def f(a, b) -/
def swapG {α : Type} : List α → List α → List α
  | [], [a, b] => [b, a]
  | _, _ => []
theorem swap_rel {vs : List V} {us : List Value} {zs : List V} {ws : List Value} (h1 : Vals vs us) (h2 : Vals zs ws) : Vals (swapG vs zs) (swapG us ws) := by
  cases h1 with
  | cons _ _ => exact .nil
  | nil =>
    cases h2 with
    | nil => exact .nil
    | cons a t => cases t with
      | nil => exact .nil
      | cons b u => cases u with
        | nil => exact .cons b (.cons a .nil)
        | cons _ _ => exact .nil
end
end Vw

set_option Elab.async false
set_option linter.all false
set_option maxRecDepth 100000
namespace Vw
open PySem PySem.W PyProof.Rows L2
/-- a whole number's global name -/
theorem pe_globI {X : Cx} {x : Str} {n : Int} {pos : Pos} (hg : Gl X x) (hm : ∃ t, X.mg x = some (.int n t)) (hd : (x == ("__debug__" : Str)) = false := by decide) : PE X (.Name x pos) (tC (.int n)) := by
  obtain ⟨t, h⟩ := hm
  exact pe_glob hg h ⟨t, rfl⟩ hd
def resv : List V := [.str "true", .str "false", .str "not", .str "and", .str "or", .str "then", .str "shown"]
def isLow (c : Nat) : Bool := decide (97 ≤ c) && decide (c ≤ 122)
/-- names: 1 to 6 small letters, no reserved word -/
def isNm (z : Str) : Bool := !inV (.str z) resv && (decide (1 ≤ z.length) && (decide (z.length ≤ 6) && z.cps.toList.all isLow))
def spNm : Sp := fun vs H Q _ => ∃ z : Str, vs = [.str z] ∧ z.length ≤ 100000 ∧ ∀ H', Same H H' → Q (.bl (isNm z)) H'
theorem lt_one (c d : Nat) : decide ([c] < [d]) = decide (c < d) := by
  by_cases h : c < d
  · rw [decide_eq_true h]; exact decide_eq_true (List.Lex.rel h)
  · rw [decide_eq_false h]
    refine decide_eq_false fun e => ?_
    cases e with
    | rel h' => exact h h'
    | cons h' => cases h'
theorem take_succ_get {α : Type} {xs : List α} {i : Nat} {c : α} (h : xs[i]? = some c) : xs.take (i + 1) = xs.take i ++ [c] := by
  rw [List.take_succ, h]; rfl
theorem cps_get {z : Str} {i : Nat} {c : Nat} (h : z.cps[i]? = some c) : z.cps.toList[i]? = some c := by rw [Array.getElem?_toList]; exact h
theorem mem_letters (c : Nat) : decide (c ∈ ("abcdefghijklmnopqrstuvwxyz" : Str).cps.toList) = isLow c := by
  have e : ("abcdefghijklmnopqrstuvwxyz" : Str).cps.toList = [97, 98, 99, 100, 101, 102, 103, 104, 105, 106, 107, 108, 109, 110, 111, 112, 113, 114, 115, 116, 117, 118, 119, 120, 121, 122] := by decide +kernel
  rw [e]
  unfold isLow
  by_cases h : 97 ≤ c ∧ c ≤ 122
  · obtain ⟨h1, h2⟩ := h
    have : c ∈ [97, 98, 99, 100, 101, 102, 103, 104, 105, 106, 107, 108, 109, 110, 111, 112, 113, 114, 115, 116, 117, 118, 119, 120, 121, 122] := by
      simp only [List.mem_cons, List.not_mem_nil, or_false]; omega
    rw [decide_eq_true this, decide_eq_true h1, decide_eq_true h2]; rfl
  · have : c ∉ [97, 98, 99, 100, 101, 102, 103, 104, 105, 106, 107, 108, 109, 110, 111, 112, 113, 114, 115, 116, 117, 118, 119, 120, 121, 122] := by
      simp only [List.mem_cons, List.not_mem_nil, or_false]; omega
    rw [decide_eq_false this]
    by_cases h1 : 97 ≤ c
    · have h2 : ¬ c ≤ 122 := fun x => h ⟨h1, x⟩
      rw [decide_eq_true h1, decide_eq_false h2]; rfl
    · rw [decide_eq_false h1]; rfl
theorem atI_exG {α : Type} {xs : List α} {i : Int} (h0 : 0 ≤ i) (h : i < (xs.length : Int)) : ∃ v, v ∈ xs ∧ atI xs i = some v := by
  obtain ⟨j, rfl⟩ := Int.eq_ofNat_of_zero_le h0
  have hj : j < xs.length := by omega
  exact ⟨xs[j], List.getElem_mem hj, atI_nat (List.getElem?_eq_getElem hj)⟩
theorem joinL_len : ∀ parts : List (List Nat), (∀ p ∈ parts, p.length ≤ 1) → (TL.joinL [] parts).length ≤ parts.length
  | [], _ => Nat.le_refl _
  | [p], h => h p (List.mem_singleton.mpr rfl)
  | p :: q :: r, h => by
    have ih := joinL_len (q :: r) fun x hx => h x (List.mem_cons_of_mem _ hx)
    have h1 := h p List.mem_cons_self
    show (p ++ ([] ++ TL.joinL [] (q :: r))).length ≤ r.length + 1 + 1
    rw [List.length_append, List.nil_append]
    have : (q :: r).length = r.length + 1 := rfl
    omega
theorem join_len (ys : List Str) (h : ∀ y ∈ ys, y.length = 1) : (Txt.join "" ys).length ≤ ys.length := by
  rw [TL.join_eq, TL.len_tl, TL.tl_join]
  have e : TL.tl ("" : Str) = [] := by decide +kernel
  rw [e]
  have := joinL_len (ys.map TL.tl) fun p hp => by
    obtain ⟨y, hy, rfl⟩ := List.mem_map.mp hp
    rw [← TL.len_tl, h y hy]; exact Nat.le_refl _
  rw [List.length_map] at this
  exact this
theorem sum_ones : ∀ ys : List Str, (∀ y ∈ ys, y.length = 1) → (ys.map (·.length)).sum = ys.length
  | [], _ => rfl
  | y :: ys, h => by
    rw [List.map_cons, List.sum_cons, h y List.mem_cons_self, sum_ones ys fun x hx => h x (List.mem_cons_of_mem _ hx), List.length_cons]; omega
theorem len_app (x y : Str) : (x ++ y).length = x.length + y.length := by
  rw [TL.len_tl, TL.len_tl, TL.len_tl, TL.tl_append, List.length_append]
end Vw

set_option Elab.async false
set_option linter.all false
set_option maxRecDepth 100000
/-! for i, x in enumerate(t), t a tuple: the layer's own enumerate is for lists -/
namespace PySem
open Sem (wp)
open AutoSeq1 (wpAny_loadPart')
theorem enumT_new (t : Addr) (its : Array Value) (n : Nat) (dd : Option Addr) (sl : Array (Option Value)) :
    Meets (Builtin.«enumerate.__new__» ⟨[.type "enumerate", .ref t], []⟩) (fun _ R s => s.heap.get? t = some { cls := .type "tuple", dict := dd, data := .seq its n, slots := sl } ∧
      R (.ok (.ret (.ref (s.heap.push { cls := .type "tuple_iterator", data := .fields #[.ref t, .int 0 0] }).objs.size)))
        { s with heap := (s.heap.push { cls := .type "tuple_iterator", data := .fields #[.ref t, .int 0 0] }).push { cls := .type "enumerate", data := .fields #[.none, .bool false, .ref s.heap.objs.size, rawInt 0, .none, .none] } }) :=
  .of_wp fun prog w A R s h => by
    obtain ⟨hp, g, d, tk, os⟩ := s
    obtain ⟨ht, h⟩ := h
    have hs1 := sub_enumerate
    have hT : Heap.IsTuple (Shared.heap ⟨hp, g, d, tk, os⟩) t its := ⟨_, ht, rfl, n, rfl⟩
    wp_walk using wpAny_loadPart' ht
    refine wpAny_stack_any fun st => wpAny_pure ?_
    split
    · rename_i c _ _ _ _ _
      cases (c == Value.type "enumerate") <;> (wp_walk using wpAny_loadPart' ht, wpAny_pyIter_tuple hT; exact ⟨_, rfl, h⟩)
    · wp_walk using wpAny_loadPart' ht, wpAny_pyIter_tuple hT
      exact ⟨_, rfl, h⟩
theorem enumT_call {prog : Program} {w : World} {A : Around} {E : Value → Shared → Prop} {s : Shared} {t : Addr} {its : Array Value} {Q : Value → Shared → Prop} (ht : s.heap.IsTuple t its)
    (h : ∀ h', IsEnum h' (s.heap.objs.size + 1) s.heap.objs.size 0 .none → h'.IsTupleIter s.heap.objs.size t 0 → (∀ b o, s.heap.get? b = some o → h'.get? b = some o) → Q (.ref (s.heap.objs.size + 1)) { s with heap := h' }) :
    wpAny (model prog w) A (call (.type "enumerate") [.ref t]) Q E s := by
  obtain ⟨⟨c, dct, dt, sl⟩, hl, hc, n, hd⟩ := ht
  obtain rfl : c = .type "tuple" := hc
  obtain rfl : dt = .seq its n := hd
  refine callType_new F.called_enumerate (by decide) (F.typeCall_enumerate_1 _) (F.newCall_enumerate_1 _) (fun obj => F.args_object_init_2 obj _) F.entry_enumerate_new (enumT_new t its n dct sl) ⟨hl, ?_⟩
  have hz : (s.heap.push { cls := .type "tuple_iterator", data := .fields #[.ref t, .int 0 0] }).objs.size = s.heap.objs.size + 1 := Heap.size_push ..
  have he : IsEnum ((s.heap.push { cls := .type "tuple_iterator", data := .fields #[.ref t, .int 0 0] }).push { cls := .type "enumerate", data := .fields #[.none, .bool false, .ref s.heap.objs.size, rawInt 0, .none, .none] }) (s.heap.objs.size + 1) s.heap.objs.size 0 .none := by
    have q := Heap.get?_push_size (s.heap.push { cls := .type "tuple_iterator", data := .fields #[.ref t, .int 0 0] }) (o := { cls := .type "enumerate", data := .fields #[.none, .bool false, .ref s.heap.objs.size, rawInt 0, .none, .none] }) rfl
    rw [hz] at q
    exact q
  show _ ∧ _
  rw [hz]
  exact ⟨⟨_, he, rfl⟩, h _ he ⟨_, Heap.get?_push_of_some _ (Heap.get?_push_size _ rfl), rfl, rfl⟩ fun b o x => Heap.get?_push_of_some _ (Heap.get?_push_of_some _ x)⟩
end PySem
namespace Vw
open PySem PySem.W PyProof.Rows L2
/-- the tuple at a, each item in a new pair -/
def IteT (K : PySem.W.Frag) (a : Addr) : It :=
  ⟨fun i H => ∃ (xs : List V) (x : V), SqT K H a xs ∧ xs[i]? = some x, fun i H v H' => ∃ T x, v = .ref T ∧ H T = none ∧ H' = upd H T (.tup [.int (i : Nat), x]) ∧ ∀ xs, SqT K H a xs → xs[i]? = some x, fun i H => ∃ xs : List V, SqT K H a xs ∧ xs.length ≤ i⟩
theorem turn_enumT {P : Program} {w : World} {K : PySem.W.Frag} {elts : List Expr} {kk : Nat} {tpos : Pos} (a e it : Addr) (hea : e ≠ a) (hia : a ≠ it) (hei : e ≠ it) :
    Turn P w K (.Tuple elts kk tpos) (IteT K a) [e, it] e (fun i h => (∃ old, IsEnum h e it ((i : Nat) : Int) old) ∧ h.IsTupleIter it a i) where
  mem := List.mem_cons_self
  obj := fun i h st b hb => by
    obtain ⟨⟨old, he⟩, o, ho, hc, hd⟩ := st
    rcases List.mem_cons.mp hb with rfl | hb
    · exact ⟨_, he, fun v q => nomatch q⟩
    · rw [List.mem_singleton.mp hb]
      exact ⟨o, ho, fun v q => by rw [hd] at q; cases q⟩
  keep := fun i h h' st k => ⟨st.1.imp fun old he => k e List.mem_cons_self _ he, st.2.at fun o q => k it (List.mem_cons_of_mem _ (List.mem_singleton.mpr rfl)) o q⟩
  item := by
    intro X hP hw hK hc i pins s σ H E I hf st hg
    subst hP hw hK
    obtain ⟨⟨old, he⟩, hit⟩ := st
    obtain ⟨xs, x, hq, hx⟩ := hg
    obtain ⟨its, rv, p, hz⟩ := I.tuple hq
    have pT : s.heap.IsTuple a its.toArray := p
    have hel : e < s.heap.objs.size := Heap.lt_size he
    have hil : it < s.heap.objs.size := by obtain ⟨_, q, _⟩ := hit; exact Heap.lt_size q
    have hi : i < its.toArray.size := by
      have h1 := (List.getElem?_eq_some_iff.mp hx).1
      have h2 := rv.length
      rw [List.size_toArray]; omega
    refine wpAny_pyNext_enum_itemD (Draws.tuple (prog := X.prog) (w := X.w) (A := X.A.in1) (I.ok.hd hc) it a hia its.toArray) he ⟨hit, pT⟩ hi hei (by simp [hei, hea]) fun u h' tk hu ho hst hT hsz hk => ?_
    have hu' : its[i]? = some u := by simpa using hu
    obtain ⟨u2, hu2, ru⟩ := rv.get hx
    rw [hu'] at hu2
    obtain rfl : u = u2 := Option.some.inj hu2
    refine ⟨_, rfl, wpAny_letOwnedTupleGo_enum (s := { s with heap := h', toks := tk + 1 }) ho fun h'' he' sb => ?_⟩
    have hT2 : h''.get? s.heap.objs.size = some { cls := .type "tuple", data := .seq #[.int i tk, u] } := (sb.2 _ (Nat.ne_of_gt hel)).trans hT
    have new : ObjOk X.prog X.w (upd H s.heap.objs.size (.tup [.int (i : Nat), x])) h'' s.heap.objs.size (.tup [.int (i : Nat), x]) :=
      ⟨by show 2 ≤ sizeLine; decide, [.int i tk, u], .cons ⟨_, rfl⟩ (.cons ru .nil), ⟨_, hT2, rfl, _, rfl⟩⟩
    have I1 : Inv X pins σ (upd H s.heap.objs.size (.tup [.int (i : Nat), x])) { s with heap := h'', toks := tk + 1 } :=
      I.turnedNew (ch := [e, it]) (fun b ob hb q => (sb.2 b (fun z => hb (by simp [z]))).trans (hk b ob (fun z => hb (by simp [z])) (fun z => hb (by simp [z])) q)) hf (Nat.le_refl _) new
    refine ⟨.ref s.heap.objs.size, _, I1, rfl, ⟨_, x, rfl, I.hok.fresh (Nat.le_refl _), rfl, fun ys hy => by rw [I.tuple_inj hy hq]; exact hx⟩, ⟨⟨u, ?_⟩, hst.1.at fun o q => (sb.2 it (Ne.symm hei)).trans q⟩, fun b hb => ?_⟩
    · have e1 : ((i + 1 : Nat) : Int) = (i : Int) + 1 := by omega
      rw [e1]; exact he'
    · have hb' : b < s.heap.objs.size := by
        rcases List.mem_cons.mp hb with rfl | hb
        · exact hel
        · rw [List.mem_singleton.mp hb]; exact hil
      rw [upd_ne (Nat.ne_of_lt hb')]
      exact (hf b hb).1
  done := by
    intro X hP hw hK hc i pins s σ H E I hf st hg
    subst hP hw hK
    obtain ⟨⟨old, he⟩, hit⟩ := st
    obtain ⟨xs, hq, hx⟩ := hg
    obtain ⟨its, rv, p, hz⟩ := I.tuple hq
    have pT : s.heap.IsTuple a its.toArray := p
    obtain ⟨f0, f1, f2, f3, f4, f5⟩ := hf it (List.mem_cons_of_mem _ (List.mem_singleton.mpr rfl))
    have hT : s.TypeIs (.ref e) "enumerate" := ⟨_, he, rfl⟩
    have hl : its.toArray.size ≤ i := by rw [List.size_toArray]; have := rv.length; omega
    -- past the end as at the end
    have D : Draws X.prog X.w X.A.in1 it [it, a] i (fun _ _ => False) (fun j h => j = i ∧ h.IsTupleIter it a i ∧ h.IsTuple a its.toArray) :=
      { live := fun _ _ st => let ⟨o, ho, _⟩ := st.2.1; ⟨o, ho⟩
        frame := fun _ _ _ st hk => ⟨st.1, st.2.1.at fun o e => hk it (by simp) o e, st.2.2.at fun o e => hk a (by simp) o e⟩
        item := fun j s Q E hj st _ => absurd st.1 (Nat.ne_of_lt hj)
        done := fun s Q E st hE => wpAny_nextOf_tuple_end (I.ok.hd hc) st.2.1 st.2.2 (by simpa using hl) hE }
    exact wpAny_pyNext_enum_endD D he ⟨rfl, hit, pT⟩ fun h' eb => ⟨rfl, I.turned (t' := s.toks) (fun b o hb q => eb b o hb q) f0 f1 f3 f4 f5⟩
  self := fun A i s Q E st h => let ⟨⟨_, he⟩, _⟩ := st; wpAny_pyIter_enum he h
def iEnumT (K : PySem.W.Frag) (ta : L2.TA) : TI := fun σ H R => ta σ H fun vs H1 => ∃ a xs, vs = [.ref a] ∧ SqT K H1 a xs ∧ R (IteT K a) H1
theorem pi_enumT {X : Cx} {e : Expr} {ta : L2.TA} {p pos tpos : Pos} {elts : List Expr} {kk : Nat} (hg : Gl X "enumerate") (hm : X.mg "enumerate" = none) (ha : PA X [e] ta) (hs : starEach [e] X.env = [(false, eval e X.env)] := by rfl) :
    PI X (.Tuple elts kk tpos) (.Call (.Name "enumerate" p) [e] [] pos) (iEnumT X.K ta) := by
  refine ⟨fun pins s σ H R I h => ?_⟩
  refine Call_ (ld_blt I hg hm boot_enumerate (PyProof.Rows.callWith_type1 (thn (ha.run pos pins s σ H _ I h) fun us s1 ⟨vs, H1, I1, r1, q1⟩ => ?_) hs rfl))
  obtain ⟨a, xs, rfl, hq, q⟩ := q1
  obtain rfl := Vals.ref1 r1
  obtain ⟨its, rv, p', hz⟩ := I1.tuple hq
  have pT : s1.heap.IsTuple a its.toArray := p'
  have hal : a < s1.heap.objs.size := by obtain ⟨_, q, _⟩ := pT; exact Heap.lt_size q
  refine enumT_call pT fun h' he hit hk => wpAny_pyIter_enum he ?_
  have I2 : Inv X pins σ H1 { s1 with heap := h' } := I1.kept (t' := s1.toks) hk
  refine ⟨s1.heap.objs.size + 1, [s1.heap.objs.size + 1, s1.heap.objs.size], _, _, H1, rfl, I2, turn_enumT a (s1.heap.objs.size + 1) s1.heap.objs.size (fun z => by rw [← z] at hal; exact absurd hal (Nat.not_lt.mpr (Nat.le_succ _))) (Nat.ne_of_lt hal) (Nat.succ_ne_self _), ⟨⟨.none, he⟩, hit⟩, fun b hb => ?_, q⟩
  have hle : s1.heap.objs.size ≤ b := by
    rcases List.mem_cons.mp hb with z | z
    · rw [z]; exact Nat.le_add_right _ _
    · rw [List.mem_singleton.mp z]; exact Nat.le_refl _
  exact I1.fpOk hle (I1.hok.fresh hle)
theorem for_enumT {K : PySem.W.Frag} {a : Addr} {xs : List V} {g : L2.TG} {tb : L2.TS} {D : Ends} {σ : L2.St} {H : Hp} (Pv : Nat → L2.St → Hp → Prop) (h0 : Pv 0 σ H) (hl : ∀ i σ H, i ≤ xs.length → Pv i σ H → SqT K H a xs)
    (hs : ∀ i x T σ H, xs[i]? = some x → Pv i σ H → H T = none → g (.ref T) σ (upd H T (.tup [.int (i : Nat), x])) fun σ2 H2 => tb { D with nx := Pv (i + 1), ct := Pv (i + 1), bk := D.nx } σ2 H2) (hd : ∀ σ H, Pv xs.length σ H → D.nx σ H) :
    ∃ W : Nat → Nat → L2.St → Hp → Prop, (∃ m, W 0 m σ H) ∧ ∀ i m σ H, W i m σ H →
      ((IteT K a).stop i H ∧ D.nx σ H) ∨ ((IteT K a).go i H ∧ ∃ N : L2.St → Hp → Prop, (∀ σ' H', N σ' H' → ∃ m', m' < m ∧ W (i + 1) m' σ' H') ∧ ∀ x H', (IteT K a).yld i H x H' → g x σ H' fun σ2 H2 => tb { D with nx := N, ct := N, bk := D.nx } σ2 H2) := by
  refine ⟨fun i m σ H => m = xs.length - i ∧ i ≤ xs.length ∧ Pv i σ H, ⟨xs.length, by simp, Nat.zero_le _, h0⟩, ?_⟩
  rintro i m σ H ⟨rfl, hi, p⟩
  have q := hl i σ H hi p
  by_cases hlt : i < xs.length
  · refine .inr ⟨⟨xs, xs[i], q, List.getElem?_eq_getElem hlt⟩, Pv (i + 1), fun σ' H' p' => ⟨xs.length - (i + 1), by omega, rfl, hlt, p'⟩, fun v H' y => ?_⟩
    obtain ⟨T, x, rfl, nT, rfl, hx⟩ := y
    exact hs i x T σ H (hx xs q) p nT
  · obtain rfl : i = xs.length := by omega
    exact .inl ⟨⟨xs, q, Nat.le_refl _⟩, hd σ H p⟩
end Vw

set_option Elab.async false
set_option linter.all false
set_option maxRecDepth 100000
namespace Vw
open PySem PySem.W PyProof.Rows L2
namespace O
theorem toDs_inj : ∀ {a b : O}, toDs a = toDs b → a = b
  | z, z, _ => rfl
  | z, add _ _ _, h => by cases h
  | add _ _ _, z, h => by cases h
  | add e c r, add e' c' r', h => by
    simp only [toDs, List.cons.injEq, PyData.tuple.injEq, PyData.int.injEq, and_true] at h
    rw [toDs_inj h.1.1, h.1.2, toDs_inj h.2]
theorem toD_inj {a b : O} (h : toD a = toD b) : a = b := by
  unfold toD at h
  exact toDs_inj (PyData.tuple.inj h)
/-- neighbours descend -/
theorem ok_desc : ∀ {o : O} {i : Nat} {t u : O × Int}, ok o = true → (ts o)[i]? = some t → (ts o)[i + 1]? = some u → lt u.1 t.1 = true
  | z, i, t, u, _, h, _ => by simp [ts] at h
  | add e c r, 0, t, u, hk, h1, h2 => by
    have g := ok_add.mp hk
    have e1 : (e, c) = t := by simpa [ts] using h1
    subst e1
    cases r with
    | z => simp [ts] at h2
    | add e' c' r' =>
      have e2 : (e', c') = u := by simpa [ts] using h2
      subst e2
      exact g.2.2.2
  | add e c r, i + 1, t, u, hk, h1, h2 => ok_desc (o := r) (i := i) (ok_add.mp hk).2.2.1 (by simpa [ts] using h1) (by simpa [ts] using h2)
end O
def IsOrd (d : PyData) : Prop := ∃ o : O, O.toD o = d ∧ O.ok o = true
def IsTerm (d : PyData) : Prop := ∃ (e : O) (c : Int), d = O.tD (e, c) ∧ O.ok e = true ∧ 1 ≤ c
noncomputable def isOrdB (d : PyData) : Bool := open Classical in decide (IsOrd d)
noncomputable def isTermB (d : PyData) : Bool := open Classical in decide (IsTerm d)
def isCntB : PyData → Bool
  | .int n => decide (1 ≤ n)
  | _ => false
open Classical in
theorem isOrd_t {d : PyData} (h : IsOrd d) : isOrdB d = true := by unfold isOrdB; exact decide_eq_true h
open Classical in
theorem isOrd_f {d : PyData} (h : ¬ IsOrd d) : isOrdB d = false := by unfold isOrdB; exact decide_eq_false h
open Classical in
theorem isOrd_of {d : PyData} (h : isOrdB d = true) : IsOrd d := by unfold isOrdB at h; exact of_decide_eq_true h
open Classical in
theorem isTerm_t {d : PyData} (h : IsTerm d) : isTermB d = true := by unfold isTermB; exact decide_eq_true h
open Classical in
theorem isTerm_f {d : PyData} (h : ¬ IsTerm d) : isTermB d = false := by unfold isTermB; exact decide_eq_false h
open Classical in
theorem isTerm_of {d : PyData} (h : isTermB d = true) : IsTerm d := by unfold isTermB at h; exact of_decide_eq_true h
theorem isTerm_no {d : PyData} (h : isTermB d = false) : ¬ IsTerm d := fun z => by rw [isTerm_t z] at h; cases h
theorem isOrd_toD {o : O} (h : O.ok o = true) : isOrdB (O.toD o) = true := isOrd_t ⟨o, rfl, h⟩
theorem isTerm_two (a b : PyData) : isTermB (.tuple [a, b]) = (isCntB b && isOrdB a) := by
  cases h : isCntB b && isOrdB a with
  | true =>
    rw [Bool.and_eq_true] at h
    obtain ⟨o, rfl, ho⟩ := isOrd_of h.2
    cases b with
    | int n => exact isTerm_t ⟨o, n, rfl, ho, of_decide_eq_true h.1⟩
    | _ => cases h.1
  | false =>
    refine isTerm_f fun ⟨e, c, h1, h2, h3⟩ => ?_
    have h4 : a = O.toD e ∧ b = .int c := by simpa [O.tD] using h1
    rw [h4.1, h4.2, isOrd_toD h2, show isCntB (.int c) = true from decide_eq_true h3] at h
    cases h
theorem isTerm_other {d : PyData} (h : ∀ a b, d ≠ .tuple [a, b]) : isTermB d = false := isTerm_f fun ⟨e, c, h1, _⟩ => h _ _ h1
theorem isOrd_other {d : PyData} (h : ∀ ds, d ≠ .tuple ds) : isOrdB d = false := isOrd_f fun ⟨o, h1, _⟩ => h _ h1.symm
/-- the first i terms are right -/
def Pref (ds : List PyData) (l : List (O × Int)) (i : Nat) : Prop := ds.take i = l.map O.tD ∧ O.ok (O.of l) = true ∧ l.length = i
theorem pref_nil (ds : List PyData) : Pref ds [] 0 := ⟨rfl, rfl, rfl⟩
theorem pref_at {ds : List PyData} {l : List (O × Int)} {i j : Nat} (h : Pref ds l i) (hj : j < i) : ∃ t, l[j]? = some t ∧ ds[j]? = some (O.tD t) := by
  obtain ⟨h1, _, h3⟩ := h
  have hl : j < l.length := by omega
  refine ⟨l[j], List.getElem?_eq_getElem hl, ?_⟩
  have : (ds.take i)[j]? = some (O.tD l[j]) := by rw [h1, List.getElem?_map, List.getElem?_eq_getElem hl]; rfl
  rw [List.getElem?_take] at this
  rw [if_pos hj] at this
  exact this
theorem pref_last {ds : List PyData} {l : List (O × Int)} {i : Nat} (h : Pref ds l (i + 1)) : ∃ t, l.getLast? = some t ∧ ds[i]? = some (O.tD t) := by
  obtain ⟨t, h1, h2⟩ := pref_at h (Nat.lt_succ_self i)
  refine ⟨t, ?_, h2⟩
  rw [List.getLast?_eq_getElem?, h.2.2]
  exact h1
theorem pref_step {ds : List PyData} {l : List (O × Int)} {i : Nat} {e : O} {c : Int} (h : Pref ds l i) (hd : ds[i]? = some (O.tD (e, c))) (he : O.ok e = true) (hc : 1 ≤ c) (hl : ∀ t, l.getLast? = some t → O.lt e t.1 = true) : Pref ds (l ++ [(e, c)]) (i + 1) := by
  obtain ⟨h1, h2, h3⟩ := h
  refine ⟨?_, O.ok_snoc l e c h2 he hc hl, by rw [List.length_append, h3]; rfl⟩
  rw [List.take_add_one, hd, h1, List.map_append]
  rfl
theorem ord_term {ds : List PyData} (h : IsOrd (.tuple ds)) {i : Nat} {d : PyData} (hd : ds[i]? = some d) : IsTerm d := by
  obtain ⟨o, h1, h2⟩ := h
  have h3 : O.toDs o = ds := PyData.tuple.inj h1
  rw [← h3, O.toDs_ts, List.getElem?_map] at hd
  obtain ⟨t, ht, rfl⟩ := Option.map_eq_some_iff.mp hd
  have := O.ok_mem h2 (List.mem_of_getElem? ht)
  exact ⟨t.1, t.2, rfl, this.1, this.2⟩
theorem bad_term {ds : List PyData} {i : Nat} {d : PyData} (hd : ds[i]? = some d) (h : ¬ IsTerm d) : isOrdB (.tuple ds) = false := isOrd_f fun z => h (ord_term z hd)
theorem tD_inj {a b : O × Int} (h : O.tD a = O.tD b) : a = b := by
  obtain ⟨e, c⟩ := a
  obtain ⟨e', c'⟩ := b
  have : O.toD e = O.toD e' ∧ c = c' := by simpa [O.tD] using h
  rw [O.toD_inj this.1, this.2]
theorem bad_order {ds : List PyData} {i : Nat} {t u : O × Int} (h1 : ds[i]? = some (O.tD t)) (h2 : ds[i + 1]? = some (O.tD u)) (h : O.lt u.1 t.1 = false) : isOrdB (.tuple ds) = false := isOrd_f fun ⟨o, e1, e2⟩ => by
  have h3 : O.toDs o = ds := PyData.tuple.inj e1
  rw [← h3, O.toDs_ts, List.getElem?_map] at h1 h2
  obtain ⟨t', ht, a1⟩ := Option.map_eq_some_iff.mp h1
  obtain ⟨u', hu, a2⟩ := Option.map_eq_some_iff.mp h2
  have := O.ok_desc e2 ht hu
  rw [tD_inj a1, tD_inj a2, h] at this
  cases this
theorem pref_end {ds : List PyData} {l : List (O × Int)} (h : Pref ds l ds.length) : isOrdB (.tuple ds) = true := by
  obtain ⟨h1, h2, h3⟩ := h
  rw [List.take_length] at h1
  refine isOrd_t ⟨O.of l, ?_, h2⟩
  unfold O.toD
  rw [O.toDs_ts, O.ts_of, h1]
/-! ### comparisons of data that are ordinals -/
section
variable {K : PySem.W.Frag} {H : Hp} {x y : V} {a b : O} {Q : VK}
theorem rd_ltD (ha : Dp K H x (O.toD a)) (hb : Dp K H y (O.toD b)) (h : O.dp a ≤ 60) (q : Q (.bl (O.lt a b)) H) : rCmp (fun d e => dataLt d e) K x y H Q := by
  unfold rCmp
  exact ⟨_, _, ha, hb, O.alike_toD a b, (fun z => by cases z), by rw [O.depth_toD]; omega, by show Q (.bl (dataLt _ _)) H; rw [O.lt_toD]; exact q⟩
theorem rd_gtD (ha : Dp K H x (O.toD a)) (hb : Dp K H y (O.toD b)) (h : O.dp a ≤ 60) (q : Q (.bl (O.lt b a)) H) : rCmp (fun d e => dataLt e d) K x y H Q := by
  unfold rCmp
  exact ⟨_, _, ha, hb, O.alike_toD a b, (fun z => by cases z), by rw [O.depth_toD]; omega, by show Q (.bl (dataLt _ _)) H; rw [O.lt_toD]; exact q⟩
theorem rd_leD (ha : Dp K H x (O.toD a)) (hb : Dp K H y (O.toD b)) (h : O.dp a ≤ 60) (q : Q (.bl (!O.lt b a)) H) : rCmp (fun d e => !dataLt e d) K x y H Q := by
  unfold rCmp
  exact ⟨_, _, ha, hb, O.alike_toD a b, (fun z => by cases z), by rw [O.depth_toD]; omega, by show Q (.bl (!dataLt _ _)) H; rw [O.lt_toD]; exact q⟩
theorem rd_geD (ha : Dp K H x (O.toD a)) (hb : Dp K H y (O.toD b)) (h : O.dp a ≤ 60) (q : Q (.bl (!O.lt a b)) H) : rCmp (fun d e => !dataLt d e) K x y H Q := by
  unfold rCmp
  exact ⟨_, _, ha, hb, O.alike_toD a b, (fun z => by cases z), by rw [O.depth_toD]; omega, by show Q (.bl (!dataLt _ _)) H; rw [O.lt_toD]; exact q⟩
/-- a tuple of data -/
theorem dp_tup {ds : List PyData} (h : Dp K H x (.tuple ds)) : ∃ p xs, x = .ref p ∧ SqT K H p xs ∧ DpAll K H xs ds := by
  cases h with
  | tup h1 h2 => exact ⟨_, _, rfl, h1, h2⟩
theorem dp_list {ds : List PyData} (h : Dp K H x (.list ds)) : ∃ p xs, x = .ref p ∧ SqL K H p xs ∧ DpAll K H xs ds := by
  cases h with
  | lst h1 h2 => exact ⟨_, _, rfl, h1, h2⟩
/-- a pair -/
theorem dp_two {a b : PyData} (h : Dp K H x (.tuple [a, b])) : ∃ p u v, x = .ref p ∧ SqT K H p [u, v] ∧ Dp K H u a ∧ Dp K H v b := by
  obtain ⟨p, xs, rfl, h1, h2⟩ := dp_tup h
  cases h2 with
  | cons g1 t => cases t with
    | cons g2 t2 =>
      cases t2
      exact ⟨p, _, _, rfl, h1, g1, g2⟩
end
theorem depth_tD (t : O × Int) : (O.tD t).depth = O.dp t.1 + 2 := by
  unfold O.tD
  simp only [PyData.depth, PyData.depthAll, O.depth_toD]; omega
def spCnt (K : PySem.W.Frag) : Sp := fun vs H Q _ => ∃ (x : V) (d : PyData), vs = [x] ∧ Dp K H x d ∧ ∀ H', Same H H' → Q (.bl (isCntB d)) H'
def spIsOrd (K : PySem.W.Frag) (n : Nat) : Sp := fun vs H Q _ => ∃ (x : V) (d : PyData), vs = [x] ∧ Dp K H x d ∧ d.depth < n ∧ ∀ H', Same H H' → Q (.bl (isOrdB d)) H'
def spIsTerm (K : PySem.W.Frag) (n : Nat) : Sp := fun vs H Q _ => ∃ (x : V) (d : PyData), vs = [x] ∧ Dp K H x d ∧ d.depth < n ∧ ∀ H', Same H H' → Q (.bl (isTermB d)) H'
end Vw

set_option Elab.async false
set_option linter.all false
set_option maxRecDepth 100000
namespace Vw
open PySem PySem.W PyProof.Rows L2
namespace O
theorem endO_z : endO z = z := rfl
theorem endO_one (e : O) (c : Int) : endO (add e c z) = e := rfl
theorem endO_add (e : O) (c : Int) {r : O} (h : r ≠ z) : endO (add e c r) = endO r := by
  cases r with
  | z => exact absurd rfl h
  | add e2 c2 r2 =>
    unfold endO
    show (match ((e, c) :: (e2, c2) :: ts r2).getLast? with | some t => t.1 | none => z) = _
    rw [List.getLast?_cons_cons]
    rfl
/-- the power e, once -/
def pw (e : O) : O := add e 1 z
theorem ok_pw {e : O} (h : ok e = true) : ok (pw e) = true := ok_add.mpr ⟨h, Int.le_refl _, rfl, rfl⟩
theorem end_sum (e : O) (c : Int) : ∀ a : O, endO (sum a (add e c z)) = e
  | z => by rw [z_sum]; rfl
  | add e1 c1 r1 => by
    by_cases q : e1 = e
    · subst q; rw [sum_eq]; rfl
    · rcases lt_total e1 e q with k | k
      · rw [sum_lt k]; rfl
      · rw [sum_gt k, endO_add _ _ (sum_add_ne r1 e c z)]
        exact end_sum e c r1
/-- all exponents are at least the end -/
theorem end_le : ∀ {a : O} {t : O × Int}, ok a = true → t ∈ ts a → lt t.1 (endO a) = false
  | z, t, _, h => by cases h
  | add e c z, t, _, h => by
    rcases List.mem_cons.mp h with q | q
    · subst q; exact lt_irrefl _
    · cases q
  | add e c (add e2 c2 r2), t, hk, h => by
    have g := ok_add.mp hk
    rw [endO_add _ _ (by intro q; cases q)]
    rcases List.mem_cons.mp h with q | q
    · subst q
      have h1 := end_le (a := add e2 c2 r2) (t := (e2, c2)) g.2.2.1 List.mem_cons_self
      exact ge_trans (b := e2) (lt_asymm g.2.2.2) h1
    · exact end_le g.2.2.1 q
theorem end_mem : ∀ {a : O}, a ≠ z → ∃ c, (endO a, c) ∈ ts a
  | z, h => absurd rfl h
  | add e c z, _ => ⟨c, List.mem_cons_self⟩
  | add e c (add e2 c2 r2), _ => by
    obtain ⟨c', h⟩ := end_mem (a := add e2 c2 r2) (by intro q; cases q)
    rw [endO_add _ _ (by intro q; cases q)]
    exact ⟨c', List.mem_cons_of_mem _ h⟩
theorem ok_end : ∀ {a : O}, ok a = true → ok (endO a) = true := fun {a} h => by
  by_cases q : a = z
  · subst q; rfl
  · obtain ⟨c, hc⟩ := end_mem q
    exact (ok_mem h hc).1
theorem dp_end (a : O) : dp (endO a) ≤ dp a := by
  by_cases q : a = z
  · subst q; exact Nat.le_refl _
  · obtain ⟨c, hc⟩ := end_mem q
    have := dp_mem hc
    show dp (endO a, c).1 ≤ _
    omega
/-- the least ordinal at least a whose end is at least e -/
def raisedO (a e : O) : O := if lt (endO a) e = true then sum a (pw e) else a
theorem ok_raised {a e : O} (h : ok a = true) (h2 : ok e = true) : ok (raisedO a e) = true := by
  unfold raisedO
  split
  · exact ok_sum _ _ h (ok_pw h2)
  · exact h
theorem dp_raised (a e : O) : dp (raisedO a e) ≤ max (dp a) (dp e + 2) := by
  unfold raisedO
  split
  · have := dp_sum a (pw e)
    have h2 : dp (pw e) = max (dp e + 2) 0 := rfl
    omega
  · omega
theorem len_raised (a e : O) : (ts (raisedO a e)).length ≤ (ts a).length + 1 := by
  unfold raisedO
  split
  · exact len_sum a (pw e)
  · omega
theorem end_raised (a e : O) : lt (endO (raisedO a e)) e = false := by
  unfold raisedO
  split
  · rw [pw, end_sum]; exact lt_irrefl _
  · rename_i h; exact Bool.eq_false_iff.mpr h
theorem raised_ge {a e : O} (h : ok a = true) (h2 : ok e = true) : lt (raisedO a e) a = false := by
  unfold raisedO
  split
  · exact sum_ge_left h (ok_pw h2)
  · exact lt_irrefl _
/-- what has an end of at least e and something before it is at least the power -/
theorem pw_le {x e : O} (hx : ok x = true) (he : lt z e = true) (h : lt (endO x) e = false) : lt x (pw e) = false := by
  cases x with
  | z => rw [endO_z, he] at h; cases h
  | add e2 c2 r2 =>
    have g := ok_add.mp hx
    have h1 := end_le hx (t := (e2, c2)) List.mem_cons_self
    have h2 : lt e2 e = false := ge_trans h1 h
    show (if e2 = e then (if c2 = 1 then lt r2 z else decide (c2 < 1)) else lt e2 e) = false
    split
    · split
      · exact not_lt_nil _
      · exact decide_eq_false (by omega)
    · exact h2
/-- no ordinal between would do -/
theorem raised_least : ∀ {a x e : O}, ok a = true → ok x = true → lt (endO a) e = true → lt x a = false → lt (endO x) e = false → lt x (sum a (pw e)) = false
  | z, x, e, _, hx, h1, _, h3 => by rw [z_sum]; exact pw_le hx h1 h3
  | add e1 c1 r1, x, e, ha, hx, h1, h2, h3 => by
    have ga := ok_add.mp ha
    have ez : lt z e = true := by
      by_cases q : e = z
      · subst q; rw [not_lt_nil] at h1; cases h1
      · exact nil_lt q
    cases x with
    | z => cases h2
    | add e2 c2 r2 =>
      have gx := ok_add.mp hx
      have e2e : lt e2 e = false := ge_trans (end_le hx (t := (e2, c2)) List.mem_cons_self) h3
      by_cases q : e1 = e
      · subst q
        have hr1 : r1 ≠ z := fun z1 => by subst z1; rw [endO_one, lt_irrefl] at h1; cases h1
        show lt _ (sum (add e1 c1 r1) (add e1 1 z)) = false
        rw [sum_eq]
        by_cases q2 : e2 = e1
        · subst q2
          have hr2 : r2 = z := by
            cases r2 with
            | z => rfl
            | add e5 c5 r5 =>
              have h5 := end_le hx (t := (e5, c5)) (List.mem_cons_of_mem _ List.mem_cons_self)
              have := ge_trans h5 h3
              rw [show lt e5 e2 = true from gx.2.2.2] at this
              cases this
          subst hr2
          have hc : ¬ c2 ≤ c1 := fun hc => by
            have : lt (add e2 c2 z) (add e2 c1 r1) = true := by
              by_cases hcc : c2 = c1
              · subst hcc; rw [lt_rest]; exact nil_lt hr1
              · exact lt_cnt (by omega)
            rw [h2] at this; cases this
          by_cases hcc : c2 = c1 + 1
          · subst hcc; rw [lt_irrefl]
          · exact lt_asymm (lt_cnt (by omega))
        · exact lt_asymm (lt_head (lt_of_ge e2e q2))
      · rcases lt_total e1 e q with k | k
        · show lt _ (sum (add e1 c1 r1) (add e 1 z)) = false
          rw [sum_lt k]
          exact pw_le hx ez h3
        · have hr1 : r1 ≠ z := fun z1 => by subst z1; rw [endO_one, lt_asymm k] at h1; cases h1
          rw [endO_add _ _ hr1] at h1
          show lt _ (sum (add e1 c1 r1) (add e 1 z)) = false
          rw [sum_gt k]
          by_cases q2 : e2 = e1
          · subst q2
            by_cases hcc : c2 = c1
            · subst hcc
              rw [lt_rest] at h2 ⊢
              have hr2 : r2 ≠ z := fun z2 => by
                subst z2
                rw [nil_lt hr1] at h2; cases h2
              rw [endO_add _ _ hr2] at h3
              exact raised_least ga.2.2.1 gx.2.2.1 h1 h2 h3
            · by_cases hc : c2 < c1
              · rw [lt_cnt hc] at h2; cases h2
              · exact lt_asymm (lt_cnt (by omega))
          · have h5 : lt e2 e1 = false := by
              cases h6 : lt e2 e1 with
              | false => rfl
              | true => rw [lt_head h6] at h2; cases h2
            exact lt_asymm (lt_head (lt_of_ge h5 q2))
/-- the terms at least e -/
def keep (e a : O) : O := of ((ts a).filter fun t => !lt t.1 e)
theorem keep_add (e e1 : O) (c1 : Int) (r1 : O) : keep e (add e1 c1 r1) = if lt e1 e = true then keep e r1 else add e1 c1 (keep e r1) := by
  unfold keep
  show of (((e1, c1) :: ts r1).filter _) = _
  rw [List.filter_cons]
  cases lt e1 e <;> rfl
theorem keep_none {e : O} : ∀ {r : O}, (∀ t ∈ ts r, lt t.1 e = true) → keep e r = z
  | r, h => by
    unfold keep
    rw [filter_none fun x hx => by rw [h x hx]; rfl]
    rfl
theorem ts_keep (e a : O) : ts (keep e a) = (ts a).filter fun t => !lt t.1 e := ts_of _
theorem under_keep {x e : O} : ∀ {a : O}, ok a = true → under x a = true → under x (keep e a) = true
  | z, _, _ => rfl
  | add e1 c1 r1, h, hu => by
    have g := ok_add.mp h
    rw [keep_add]
    split
    · refine under_keep g.2.2.1 ?_
      cases r1 with
      | z => rfl
      | add e2 c2 r2 => exact lt_trans _ _ _ g.2.2.2 hu
    · exact hu
theorem ok_keep {e : O} : ∀ {a : O}, ok a = true → ok (keep e a) = true
  | z, _ => rfl
  | add e1 c1 r1, h => by
    have g := ok_add.mp h
    rw [keep_add]
    split
    · exact ok_keep g.2.2.1
    · exact ok_add.mpr ⟨g.1, g.2.1, ok_keep g.2.2.1, under_keep g.2.2.1 g.2.2.2⟩
theorem dp_keep (e : O) : ∀ a : O, dp (keep e a) ≤ dp a
  | z => Nat.le_refl _
  | add e1 c1 r1 => by
    have := dp_keep e r1
    rw [keep_add]
    split
    · show _ ≤ max _ _; omega
    · show max _ _ ≤ max _ _; omega
theorem len_keep (e a : O) : (ts (keep e a)).length ≤ (ts a).length := by
  rw [ts_keep]; exact List.length_filter_le _ _
/-- the sum forgets the terms below -/
theorem sum_keep {e : O} {c : Int} {r : O} : ∀ {a : O}, ok a = true → sum (keep e a) (add e c r) = sum a (add e c r)
  | z, _ => rfl
  | add e1 c1 r1, h => by
    have g := ok_add.mp h
    rw [keep_add]
    by_cases k : lt e1 e = true
    · rw [if_pos k, sum_lt k, sum_keep g.2.2.1]
      have : ∀ t ∈ ts r1, lt t.1 e = true := fun t ht => lt_trans _ _ _ (under_all g.2.2.1 g.2.2.2 t ht) k
      rw [← sum_keep g.2.2.1, keep_none this, z_sum]
    · rw [if_neg k]
      by_cases q : e1 = e
      · subst q; rw [sum_eq, sum_eq]
      · have k2 : lt e e1 = true := lt_of_ge (Bool.eq_false_iff.mpr k) q
        rw [sum_gt k2, sum_gt k2, sum_keep g.2.2.1]
theorem keep_all {e : O} : ∀ {a : O}, (∀ t ∈ ts a, lt t.1 e = false) → keep e a = a
  | z, _ => rfl
  | add e1 c1 r1, h => by
    rw [keep_add, h (e1, c1) List.mem_cons_self, if_neg Bool.false_ne_true, keep_all fun t ht => h t (List.mem_cons_of_mem _ ht)]
/-- what the law's own raising does -/
theorem raised_law {a e : O} (ha : ok a = true) : (if e = z ∨ (keep e a = a ∧ a ≠ z) then a else sum (keep e a) (pw e)) = raisedO a e := by
  unfold raisedO
  by_cases he : e = z
  · rw [if_pos (.inl he)]
    subst he
    rw [not_lt_nil, if_neg Bool.false_ne_true]
  · by_cases hz : a = z
    · subst hz
      rw [if_neg (fun h => h.elim he fun h => h.2 rfl), endO_z, if_pos (nil_lt he)]
      rfl
    · cases k : lt (endO a) e with
      | false =>
        have : keep e a = a := keep_all fun t ht => ge_trans (end_le ha ht) k
        rw [if_pos (.inr ⟨this, hz⟩), if_neg Bool.false_ne_true]
      | true =>
        have : keep e a ≠ a := fun h => by
          obtain ⟨c, hc⟩ := end_mem hz
          have hc2 : (endO a, c) ∈ (ts a).filter fun t => !lt t.1 e := by rw [← ts_keep, h]; exact hc
          have := (List.mem_filter.mp hc2).2
          rw [show lt (endO a, c).1 e = true from k] at this
          cases this
        rw [if_neg (fun h => h.elim he fun h => this h.1), if_pos rfl]
        exact sum_keep ha
/-- the first terms -/
theorem ok_take : ∀ (a : O) (k : Nat), ok a = true → ok (of ((ts a).take k)) = true
  | _, 0, _ => rfl
  | z, _ + 1, _ => rfl
  | add e c r, k + 1, h => by
    have g := ok_add.mp h
    refine ok_add.mpr ⟨g.1, g.2.1, ok_take r k g.2.2.1, ?_⟩
    cases r with
    | z => cases k <;> rfl
    | add e2 c2 r2 => cases k with
      | zero => rfl
      | succ k => exact g.2.2.2
theorem dp_take (a : O) (k : Nat) : dp (of ((ts a).take k)) ≤ dp a := dp_of _ _ fun t ht => dp_mem (List.mem_of_mem_take ht)
theorem len_take (a : O) (k : Nat) : (ts (of ((ts a).take k))).length ≤ (ts a).length := by
  rw [ts_of, List.length_take]; omega
/-- so many times the power -/
def pwN (e : O) (n : Int) : O := if n = 0 then z else add e n z
end O
def spPow (K : PySem.W.Frag) : Sp := fun vs H Q _ => ∃ (x : V) (e : O) (n : Int), vs = [x, .int n] ∧ OA K H x e ∧ ∀ (v : V) (H' : Hp), Same H H' → OA K H' v (O.pwN e n) → Q v H'
/-- a function of two ordinals -/
def spO2 (K : PySem.W.Frag) (g : O → O → O) : Sp := fun vs H Q _ => ∃ (x y : V) (a b : O), vs = [x, y] ∧ OA K H x a ∧ OA K H y b ∧ O.ok a = true ∧ O.ok b = true ∧ O.dp a ≤ 46 ∧ O.dp b ≤ 46 ∧ (O.ts a).length ≤ 3600000 ∧ (O.ts b).length ≤ 3600000 ∧ ∀ (v : V) (H' : Hp), Same H H' → OA K H' v (g a b) → Q v H'
end Vw

set_option Elab.async false
set_option linter.all false
set_option maxRecDepth 100000
namespace Vw
open PySem PySem.W PyProof.Rows L2
namespace O
/-- what makes b when it is added to a -/
def gap : O → O → O
  | z, b => b
  | add _ _ _, z => z
  | add e c r, add e' c' r' => if e = e' then (if c = c' then gap r r' else add e' (c' - c) r') else add e' c' r'
theorem ok_gap : ∀ {a b : O}, ok a = true → ok b = true → lt a b = true → ok (gap a b) = true
  | z, b, _, hb, _ => by cases b <;> exact hb
  | add _ _ _, z, _, _, _ => rfl
  | add e c r, add e' c' r', ha, hb, h => by
    have ga := ok_add.mp ha
    have gb := ok_add.mp hb
    unfold gap
    simp only [lt] at h
    split
    · rename_i he; rw [if_pos he] at h
      split
      · rename_i hc; rw [if_pos hc] at h
        exact ok_gap ga.2.2.1 gb.2.2.1 h
      · rename_i hc; rw [if_neg hc] at h
        have := of_decide_eq_true h
        exact ok_add.mpr ⟨gb.1, by omega, gb.2.2.1, gb.2.2.2⟩
    · exact hb
theorem gap_ne : ∀ {a b : O}, lt a b = true → gap a b ≠ z
  | z, b, h => by cases b <;> first | (cases h; done) | (intro q; cases q)
  | add e c r, z, h => by cases h
  | add e c r, add e' c' r', h => by
    unfold gap
    simp only [lt] at h
    split
    · rename_i he; rw [if_pos he] at h
      split
      · rename_i hc; rw [if_pos hc] at h
        exact gap_ne h
      · intro q; cases q
    · intro q; cases q
/-- the exponents of the gap are exponents of b -/
theorem gap_exp : ∀ {a b : O} {t : O × Int}, t ∈ ts (gap a b) → ∃ c, (t.1, c) ∈ ts b
  | z, b, t, h => ⟨t.2, by cases b <;> exact h⟩
  | add e c r, z, t, h => by cases h
  | add e c r, add e' c' r', t, h => by
    unfold gap at h
    split at h
    · split at h
      · obtain ⟨c2, h2⟩ := gap_exp h
        exact ⟨c2, List.mem_cons_of_mem _ h2⟩
      · rcases List.mem_cons.mp h with q | q
        · subst q; exact ⟨c', List.mem_cons_self⟩
        · exact ⟨t.2, List.mem_cons_of_mem _ q⟩
    · exact ⟨t.2, h⟩
theorem sum_gap : ∀ {a b : O}, ok a = true → ok b = true → lt a b = true → sum a (gap a b) = b
  | z, b, _, _, _ => by cases b <;> (unfold gap; rw [z_sum])
  | add _ _ _, z, _, _, h => by cases h
  | add e c r, add e' c' r', ha, hb, h => by
    have ga := ok_add.mp ha
    have gb := ok_add.mp hb
    unfold gap
    simp only [lt] at h
    split
    · rename_i he; rw [if_pos he] at h
      subst he
      split
      · rename_i hc; rw [if_pos hc] at h
        subst hc
        have ih := sum_gap ga.2.2.1 gb.2.2.1 h
        have hne := gap_ne h
        cases hg : gap r r' with
        | z => exact absurd hg hne
        | add e2 c2 r2 =>
          rw [hg] at ih
          obtain ⟨c5, h5⟩ := gap_exp (a := r) (b := r') (t := (e2, c2)) (by rw [hg]; exact List.mem_cons_self)
          have := under_all gb.2.2.1 gb.2.2.2 _ h5
          rw [sum_gt this, ih]
      · rename_i hc; rw [if_neg hc] at h
        rw [sum_eq]
        congr 1
        omega
    · rename_i he; rw [if_neg he] at h
      rw [sum_lt h]
theorem dp_gap (a b : O) : dp (gap a b) ≤ dp b := by
  rw [← of_ts (gap a b)]
  refine dp_of _ _ fun t ht => ?_
  obtain ⟨c, h⟩ := gap_exp ht
  exact dp_mem (t := (t.1, c)) h
theorem len_gap : ∀ a b : O, (ts (gap a b)).length ≤ (ts b).length
  | z, b => by cases b <;> exact Nat.le_refl _
  | add _ _ _, z => Nat.zero_le _
  | add e c r, add e' c' r' => by
    unfold gap
    split
    · split
      · have := len_gap r r'; show _ ≤ (ts r').length + 1; omega
      · exact Nat.le_refl _
    · exact Nat.le_refl _
/-- the exponent of the first term -/
def headE : O → O
  | z => z
  | add e _ _ => e
theorem dp_headE (a : O) : dp (headE a) ≤ dp a := by
  cases a with
  | z => exact Nat.le_refl _
  | add e c r => show dp e ≤ max (dp e + 2) (dp r); omega
theorem ok_headE {a : O} (h : ok a = true) : ok (headE a) = true := by
  cases a with
  | z => rfl
  | add e c r => exact (ok_add.mp h).1
theorem len_headE {a : O} : (ts (headE a)).length ≤ wd a := by
  cases a with
  | z => exact Nat.zero_le _
  | add e c r =>
    have := len_wd e
    show (ts e).length ≤ max (wd e) (max ((ts r).length + 1) (wd r)); omega
def maxO (a b : O) : O := if lt a b = true then b else a
theorem maxO_ge1 (a b : O) : lt (maxO a b) a = false := by
  unfold maxO; split
  · rename_i h; exact lt_asymm h
  · exact lt_irrefl _
theorem maxO_ge2 (a b : O) : lt (maxO a b) b = false := by
  unfold maxO; split
  · exact lt_irrefl _
  · rename_i h; exact Bool.eq_false_iff.mpr h
theorem maxO_or (a b : O) : maxO a b = a ∨ maxO a b = b := by unfold maxO; split <;> simp
theorem maxO_le {a b c : O} (h1 : lt c a = false) (h2 : lt c b = false) : lt c (maxO a b) = false := by
  rcases maxO_or a b with h | h <;> rw [h] <;> assumption
/-- the least ordinal above the ends of all from a on, before b -/
def endLim (a b : O) : O := maxO (sum (endO a) one) (if gap a b = pw (headE (gap a b)) then headE (gap a b) else sum (headE (gap a b)) one)
theorem succ_ne (a : O) : sum a one ≠ z := sum_add_ne _ _ _ _
theorem succ_le {a b : O} (ha : ok a = true) (hb : ok b = true) (h : lt a b = true) : lt b (sum a one) = false := lt_succ_iff a b ha hb h
theorem lt_of_succ {a b : O} (ha : ok a = true) (h : lt b (sum a one) = false) : lt a b = true := lt_ge (lt_succ ha) h
theorem pw_lt {e x : O} (h : lt e (headE x) = true) : lt (pw e) x = true := by
  cases x with
  | z => rw [show headE z = z from rfl, not_lt_nil] at h; cases h
  | add e2 c2 r2 => exact lt_head h
theorem lt_pw {e x : O} (hx : x ≠ z) (h : lt (headE x) e = true) : lt x (pw e) = true := by
  cases x with
  | z => exact absurd rfl hx
  | add e2 c2 r2 => exact lt_head h
theorem pw_head {x : O} (hx : ok x = true) (hz : x ≠ z) : lt x (pw (headE x)) = false := by
  cases x with
  | z => exact absurd rfl hz
  | add e c r =>
    have g := ok_add.mp hx
    show lt (add e c r) (add e 1 z) = false
    by_cases hc : c = 1
    · subst hc; rw [lt_rest]; exact not_lt_nil _
    · exact lt_asymm (lt_cnt (by omega))
section
variable {a b : O} (ha : ok a = true) (hb : ok b = true) (h : lt a b = true)
include ha hb h
theorem lim_gt : lt (endO a) (endLim a b) = true := lt_of_succ (ok_end ha) (maxO_ge1 _ _)
theorem lim_ne : endLim a b ≠ z := fun q => by
  have := lim_gt ha hb h
  rw [q, not_lt_nil] at this; cases this
/-- the raised one is not before b -/
theorem lim_raised : lt (raisedO a (endLim a b)) b = false := by
  unfold raisedO
  rw [if_pos (lim_gt ha hb h)]
  have hg := ok_gap ha hb h
  have e := sum_gap ha hb h
  have hF : ok (endLim a b) = true := by
    unfold endLim
    rcases maxO_or (sum (endO a) one) (if gap a b = pw (headE (gap a b)) then headE (gap a b) else sum (headE (gap a b)) one) with q | q <;> rw [q]
    · exact ok_sum _ _ (ok_end ha) ok_one
    · split
      · exact ok_headE hg
      · exact ok_sum _ _ (ok_headE hg) ok_one
  have key : lt (pw (endLim a b)) (gap a b) = false := by
    have h2 := maxO_ge2 (sum (endO a) one) (if gap a b = pw (headE (gap a b)) then headE (gap a b) else sum (headE (gap a b)) one)
    have h2 : lt (endLim a b) (if gap a b = pw (headE (gap a b)) then headE (gap a b) else sum (headE (gap a b)) one) = false := h2
    split at h2
    · rename_i hp
      rw [hp]
      have hh : headE (pw (headE (gap a b))) = headE (gap a b) := rfl
      by_cases q : endLim a b = headE (gap a b)
      · rw [q]; exact lt_irrefl _
      · exact lt_asymm (lt_head (lt_of_ge h2 q))
    · exact lt_asymm (lt_pw (gap_ne h) (lt_of_succ (ok_headE hg) h2))
  have m := sum_mono_iff ha (ok_pw hF) hg
  rw [e] at m
  rw [m]; exact key
/-- the least such -/
theorem lim_least {e : O} (he : ok e = true) (hz : e ≠ z) (hr : lt (raisedO a e) b = false) : lt e (endLim a b) = false := by
  have hg := ok_gap ha hb h
  have es := sum_gap ha hb h
  unfold raisedO at hr
  split at hr
  · rename_i h1
    have m := sum_mono_iff ha (ok_pw he) hg
    rw [es, hr] at m
    have m : lt (pw e) (gap a b) = false := m.symm
    refine maxO_le (succ_le (ok_end ha) he h1) ?_
    have h3 : lt e (headE (gap a b)) = false := by
      cases q : lt e (headE (gap a b)) with
      | false => rfl
      | true => rw [pw_lt q] at m; cases m
    split
    · exact h3
    · rename_i hp
      refine succ_le (ok_headE hg) he (lt_of_ge h3 fun q => hp ?_)
      subst q
      exact eq_of (pw_head hg (gap_ne h)) m
  · rw [h] at hr; cases hr
/-- it is among the exponents of b, their successors, and 1 -/
theorem lim_some : endLim a b = one ∨ (∃ c, (endLim a b, c) ∈ ts b) ∨ ∃ e c, (e, c) ∈ ts b ∧ endLim a b = sum e one := by
  have hg := ok_gap ha hb h
  have hne := gap_ne h
  obtain ⟨c0, h0⟩ : ∃ c, (headE (gap a b), c) ∈ ts b := by
    cases q : gap a b with
    | z => exact absurd q hne
    | add e c r => exact gap_exp (a := a) (t := (e, c)) (by rw [q]; exact List.mem_cons_self)
  rcases maxO_or (sum (endO a) one) (if gap a b = pw (headE (gap a b)) then headE (gap a b) else sum (headE (gap a b)) one) with q | q
  · have q : endLim a b = sum (endO a) one := q
    by_cases hz : a = z
    · subst hz; left; rw [q]; rfl
    · right
      by_cases h5 : lt (endO a) (headE (gap a b)) = true
      · -- then the successor of the end is at most the head
        have h6 := succ_le (ok_end ha) (ok_headE hg) h5
        have h7 := maxO_ge2 (sum (endO a) one) (if gap a b = pw (headE (gap a b)) then headE (gap a b) else sum (headE (gap a b)) one)
        have h7 : lt (endLim a b) (if gap a b = pw (headE (gap a b)) then headE (gap a b) else sum (headE (gap a b)) one) = false := h7
        rw [q] at h7
        split at h7
        · have := eq_of h6 h7
          left
          refine ⟨c0, ?_⟩
          rw [q, ← this]; exact h0
        · have := lt_of_succ (ok_headE hg) h7
          rw [h6] at this; cases this
      · right
        have h5 := Bool.eq_false_iff.mpr h5
        -- the end of a stays an exponent of b
        obtain ⟨c, hc⟩ : ∃ c, (endO a, c) ∈ ts b := by
          rw [← sum_gap ha hb h]
          cases q2 : gap a b with
          | z => exact absurd q2 hne
          | add e2 c2 r2 =>
            rw [q2] at h5
            obtain ⟨c1, m1⟩ := end_mem hz
            by_cases q3 : endO a = e2
            · clear q h5 hg hne h0 q2
              have : ∀ x : O, ∃ c, (e2, c) ∈ ts (sum x (add e2 c2 r2)) := fun x => by
                induction x with
                | z => exact ⟨c2, by rw [z_sum]; exact List.mem_cons_self⟩
                | add e c r _ ih =>
                  by_cases k : e = e2
                  · subst k; rw [sum_eq]; exact ⟨_, List.mem_cons_self⟩
                  · rcases lt_total e e2 k with k | k
                    · rw [sum_lt k]; exact ⟨_, List.mem_cons_self⟩
                    · rw [sum_gt k]
                      obtain ⟨c', h'⟩ := ih
                      exact ⟨c', List.mem_cons_of_mem _ h'⟩
              rw [q3]; exact this a
            · have k : lt e2 (endO a) = true := lt_of_ge h5 q3
              have : ∀ x : O, ok x = true → (endO a, c1) ∈ ts x → (endO a, c1) ∈ ts (sum x (add e2 c2 r2)) := fun x hx hm => by
                induction x with
                | z => cases hm
                | add e c r _ ih =>
                  have gx := ok_add.mp hx
                  have k2 : lt e2 e = true := by
                    rcases List.mem_cons.mp hm with k3 | k3
                    · cases k3; exact k
                    · exact lt_trans _ _ _ k (under_all gx.2.2.1 gx.2.2.2 _ k3)
                  rw [sum_gt k2]
                  rcases List.mem_cons.mp hm with k3 | k3
                  · rw [k3]; exact List.mem_cons_self
                  · exact List.mem_cons_of_mem _ (ih gx.2.2.1 k3)
              exact ⟨c1, this a ha m1⟩
        exact ⟨_, _, hc, q⟩
  · have q : endLim a b = (if gap a b = pw (headE (gap a b)) then headE (gap a b) else sum (headE (gap a b)) one) := q
    right
    split at q
    · left; exact ⟨c0, by rw [q]; exact h0⟩
    · right; exact ⟨_, _, h0, q⟩
/-- none from a on before b ends so -/
theorem lim_above {x : O} (hx : ok x = true) (h1 : lt x a = false) (h2 : lt x b = true) : lt (endO x) (endLim a b) = true := by
  cases q : lt (endO x) (endLim a b) with
  | true => rfl
  | false =>
    have h3 := raised_least ha hx (lim_gt ha hb h) h1 q
    have h4 := lim_raised ha hb h
    unfold raisedO at h4
    rw [if_pos (lim_gt ha hb h)] at h4
    rw [ge_trans h3 h4] at h2; cases h2
end
end O
end Vw

set_option Elab.async false
set_option linter.all false
set_option maxRecDepth 100000
namespace Vw
open PySem PySem.W PyProof.Rows L2
/-! ### max(a, b), min(list) of ordinals -/
theorem O.alikeAll (os : List O) : AlikeAll (os.map O.toD) :=
  ⟨fun x hx y hy => by
    obtain ⟨a, _, rfl⟩ := List.mem_map.mp hx
    obtain ⟨b, _, rfl⟩ := List.mem_map.mp hy
    exact O.alike_toD a b, fun x hx e => by
    obtain ⟨a, _, rfl⟩ := List.mem_map.mp hx
    cases e⟩
theorem O.depthAll {n : Nat} : ∀ {os : List O}, (∀ o ∈ os, O.dp o ≤ n) → PyData.depthAll (os.map O.toD) ≤ n + 1
  | [], _ => Nat.zero_le _
  | o :: r, h => by
    have h1 := h o List.mem_cons_self
    have h2 := O.depthAll (os := r) fun x hx => h x (List.mem_cons_of_mem _ hx)
    show max (O.toD o).depth (PyData.depthAll (r.map O.toD)) ≤ n + 1
    rw [O.depth_toD]
    omega
section
variable {prog : Program} {w : World} {A : Around} {E : Value → Shared → Prop} {s : Shared}
theorem max_two_data {u v : Value} {d e : PyData} {as bs : List Addr} {Q : Value → Shared → Prop} (hh : A.handled = none) (r1 : Reads s.heap u d as) (r2 : Reads s.heap v e bs) (ha : AlikeAll [d, e]) (hu : A.units + 1 + PyData.depthAll [d, e] < cLine)
    (h : ∀ h' tk, (∀ b o, s.heap.get? b = some o → h'.get? b = some o) → Q (if dataLt d e = true then v else u) { s with heap := h', toks := tk }) : wpAny (model prog w) A (call (.builtin "max") [u, v]) Q E s := by
  have hname : (toString "max" ++ toString ".loop" : String) = "max.loop" := by decide
  refine call_function_tree F.kind_max F.plain_max F.entry_max (F.args_max2 _ _) ?_
  show wpAny _ A.in1 (Builtin.Builtins.bindParams "max" ["key", "default"] 0 ⟨[], []⟩ >>= _) _ _ s
  refine wpAny_bind (wpAny_of_eq (show Builtin.Builtins.bindParams "max" ["key", "default"] 0 ⟨[], []⟩ = pure [none, none] from rfl) ?_)
  show wpAny _ A.in1 (newTuple [u, v] >>= _) _ _ s
  refine wpAny_bind (wpAny_newObj_type ?_)
  have hT : (s.heap.push { cls := .type "tuple", data := .seq #[u, v] }).IsTuple s.heap.objs.size #[u, v] := ⟨_, Heap.get?_push_size _ rfl, rfl, 0, rfl⟩
  have hold : ∀ b o, s.heap.get? b = some o → (s.heap.push { cls := .type "tuple", data := .seq #[u, v] }).get? b = some o := fun b o e => Heap.get?_push_of_some _ e
  have hr : ReadsAll (s.heap.push { cls := .type "tuple", data := .seq #[u, v] }) (#[u, v] : Array Value).toList [d, e] (as ++ (bs ++ [])) := .cons (reads_keeps hold r1) (.cons (reads_keeps hold r2) .nil)
  refine wpAny_bind (iter_tupleW (A := A.in1) (s := { s with heap := s.heap.push { cls := .type "tuple", data := .seq #[u, v] } }) hh hT fun s₂ es W st hfp hw hk => ?_)
  refine wpAny_bind (wpAny_newObj_type ?_)
  have hSf : s₂.heap.objs.size ∉ [(s.heap.push { cls := .type "tuple", data := .seq #[u, v] }).objs.size, s.heap.objs.size] := fun hm => Nat.lt_irrefl _ (hfp _ hm)
  have hcmp := cmpIn_gt (prog := prog) (w := w) (A := A.in1) (s := { s with heap := s.heap.push { cls := .type "tuple", data := .seq #[u, v] } }) (vs := #[u, v]) hr ha (by show A.units + 1 + _ < _; exact hu)
  rw [hname]
  refine wpAny_pure ⟨plainId_quiet F.plain_max_loop _, codeAny_max_loop_firstH W (s.heap.push { cls := .type "tuple", data := .seq #[u, v] }) hw _ hcmp s₂.heap.objs.size hSf (fresh_in hk) _ (show 0 < 2 by decide) (fun b o e => Heap.get?_push_of_some _ (hk b o e)) (W.frame 0 s₂ _ s₂.toks st (Nat.le_refl _) fun b _ o e => Heap.get?_push_of_some _ e) (Heap.get?_push_size _ rfl) fun x s' hP hm => ?_⟩
  have hm := Moved.drop_new (tk := s₂.toks) hm (Nat.le_refl _)
  obtain ⟨h', tk, rfl, hk'⟩ := moved_old es rfl hm
  have q := h h' tk fun b o e => hk' b o (hold b o e)
  have hv : x = if dataLt d e = true then v else u := by
    have hP' : (#[u, v] : Array Value)[argBest (fun i j => dataLt ([d, e].getD j .none) ([d, e].getD i .none)) 1]? = some x := hP
    have hb : argBest (fun i j => dataLt ([d, e].getD j .none) ([d, e].getD i .none)) 1 = if dataLt d e = true then 1 else 0 := rfl
    rw [hb] at hP'
    by_cases g : dataLt d e = true
    · rw [if_pos g] at hP' ⊢; exact (Option.some.inj hP').symm
    · rw [if_neg g] at hP' ⊢; exact (Option.some.inj hP').symm
  rw [hv]; exact q
theorem min_list_at {l : Addr} {vs : Array Value} {x : PyData} {xs : List PyData} {as : List Addr} {Q : Value → Shared → Prop} (hh : A.handled = none) (hl : s.heap.IsList l vs) (hr : ReadsAll s.heap vs.toList (x :: xs) as) (ha : AlikeAll (x :: xs)) (hu : A.units + 1 + PyData.depthAll (x :: xs) < cLine)
    (h : ∀ (i : Nat) v h' tk, vs[i]? = some v → (x :: xs).getD i .none = minD x xs → (∀ b o, s.heap.get? b = some o → h'.get? b = some o) → Q v { s with heap := h', toks := tk }) :
    wpAny (model prog w) A (call (.builtin "min") [.ref l]) Q E s := by
  have hn : vs.size = xs.length + 1 := readsAll_len hr
  refine call_min_walkH (iter_listW (A := A.in1) hh hl fun s₂ e W st hfp hw hk => ?_)
  refine ⟨_, _, _, _, _, _, _, s.heap, _, rfl, W, st, hfp, by omega, hw, hk, cmpIn_lt (A := A.in1) hr ha (by show A.units + 1 + _ < _; exact hu), fun v s' hP m => ?_⟩
  obtain ⟨h', tk, rfl, hk'⟩ := moved_old e rfl m
  have e1 : vs.size - 1 = xs.length := by omega
  have e2 := (argBest_fold dataLt PyData.none x xs xs.length (Nat.le_refl _)).2
  rw [List.take_length] at e2
  refine h _ v h' tk hP ?_ hk'
  rw [e1]
  exact e2
end
def minO (x : O) (xs : List O) : O := xs.foldl (fun a y => if O.lt y a = true then y else a) x
theorem minD_toD (x : O) : ∀ xs : List O, minD (O.toD x) (xs.map O.toD) = O.toD (minO x xs) := fun xs => by
  unfold minD minO
  induction xs generalizing x with
  | nil => rfl
  | cons y ys ih =>
    rw [List.map_cons, List.foldl_cons, List.foldl_cons, O.lt_toD, ← ih]
    congr 1
    split <;> rfl
theorem minO_le : ∀ (xs : List O) (x : O), O.lt x (minO x xs) = false ∧ ∀ y ∈ xs, O.lt y (minO x xs) = false
  | [], x => ⟨O.lt_irrefl _, fun y h => by cases h⟩
  | y :: ys, x => by
    have ih := minO_le ys (if O.lt y x = true then y else x)
    have e : minO x (y :: ys) = minO (if O.lt y x = true then y else x) ys := rfl
    rw [e]
    by_cases g : O.lt y x = true
    · rw [if_pos g] at ih ⊢
      refine ⟨O.ge_trans (O.lt_asymm g) ih.1, fun z hz => ?_⟩
      rcases List.mem_cons.mp hz with h | h
      · subst h; exact ih.1
      · exact ih.2 z h
    · rw [if_neg g] at ih ⊢
      refine ⟨ih.1, fun z hz => ?_⟩
      rcases List.mem_cons.mp hz with h | h
      · subst h; exact O.ge_trans (Bool.eq_false_iff.mpr g) ih.1
      · exact ih.2 z h
theorem vals_at : ∀ {xs : List V} {us : List Value} {i : Nat} {u : Value}, Vals xs us → us[i]? = some u → ∃ x, xs[i]? = some x ∧ RelV x u
  | _, _, _, _, .nil, h => by simp at h
  | _, _, 0, _, .cons a t, h => by
    simp at h; subst h
    exact ⟨_, rfl, a⟩
  | _, _, i + 1, _, .cons a t, h => by
    obtain ⟨x, h1, h2⟩ := vals_at (i := i) t (by simpa using h)
    exact ⟨x, by simpa using h1, h2⟩
theorem dpAll_of {K : PySem.W.Frag} {H : Hp} : ∀ {xs : List V} {os : List O}, Paired (OA K H) xs os → DpAll K H xs (os.map O.toD)
  | _, _, .nil => .nil
  | _, _, .cons a t => .cons a.dp (dpAll_of t)
@[irreducible] def rMaxO (K : PySem.W.Frag) : List V → Hp → VK → Prop := fun vs H Q => ∃ (x y : V) (a b : O), vs = [x, y] ∧ OA K H x a ∧ OA K H y b ∧ O.dp a ≤ 60 ∧ O.dp b ≤ 60 ∧ Q (if O.lt a b = true then y else x) H
@[irreducible] def rMinO (K : PySem.W.Frag) : List V → Hp → VK → Prop := fun vs H Q => ∃ (l : Addr) (xs : List V) (os : List O), vs = [.ref l] ∧ SqL K H l xs ∧ Paired (OA K H) xs os ∧ os ≠ [] ∧ (∀ o ∈ os, O.dp o ≤ 60) ∧ ∀ (v : V) (m : O), m ∈ os → OA K H v m → (∀ o ∈ os, O.lt o m = false) → Q v H
section
variable {X : Cx}
theorem cr_maxO (hc : X.calm = true) (hu : X.A.units + 64 < cLine) : CallR X (.builtin "max") (rMaxO X.K) := by
  intro pins s σ H vs us Q I r h
  unfold rMaxO at h
  obtain ⟨x, y, a, b, rfl, hx, hy, da, db, q⟩ := h
  obtain ⟨u, v, rfl, rx, ry⟩ := vals2 r
  obtain ⟨as, r1⟩ := Dp.reads I _ x u hx.dp rx
  obtain ⟨bs, r2⟩ := Dp.reads I _ y v hy.dp ry
  have hd := O.depthAll (n := 60) (os := [a, b]) fun o ho => by
    simp only [List.mem_cons, List.not_mem_nil, or_false] at ho
    rcases ho with h | h <;> subst h <;> assumption
  have hd : PyData.depthAll [O.toD a, O.toD b] ≤ 61 := hd
  refine max_two_data (I.ok.hd hc) r1 r2 (O.alikeAll [a, b]) (by omega) fun h' tk hk => ⟨_, H, I.kept hk, ?_, q⟩
  rw [O.lt_toD]
  split <;> assumption
theorem cr_minO (hc : X.calm = true) (hu : X.A.units + 64 < cLine) : CallR X (.builtin "min") (rMinO X.K) := by
  intro pins s σ H vs us Q I r h
  unfold rMinO at h
  obtain ⟨l, xs, os, rfl, hs, hp, hne, hd, q⟩ := h
  obtain rfl := Vals.ref1 r
  obtain ⟨its, rv, hl, hz⟩ := I.list hs
  obtain ⟨as, ra⟩ := Dp.readsAll I _ _ _ (dpAll_of hp) rv
  have hdd := O.depthAll hd
  cases os with
  | nil => exact absurd rfl hne
  | cons o os =>
    refine min_list_at (I.ok.hd hc) hl.isList ra (O.alikeAll (o :: os)) (by show X.A.units + 1 + PyData.depthAll ((o :: os).map O.toD) < cLine; omega) fun i v h' tk hv hm hk => ?_
    rw [minD_toD] at hm
    have hv : its[i]? = some v := by simpa using hv
    obtain ⟨y, hy, ry⟩ := vals_at rv hv
    obtain ⟨m, hm2, om⟩ := paired_get hp hy
    have e : ((o :: os).map O.toD).getD i .none = O.toD m := by
      rw [List.getD_eq_getElem?_getD, List.getElem?_map, hm2]; rfl
    have e : O.toD o :: os.map O.toD = (o :: os).map O.toD := rfl
    rw [e, List.getD_eq_getElem?_getD, List.getElem?_map, hm2] at hm
    have hm : m = minO o os := O.toD_inj hm
    have hle := minO_le os o
    refine ⟨y, H, I.kept hk, ry, q y m (List.mem_of_getElem? hm2) om fun z hz => ?_⟩
    rw [hm]
    rcases List.mem_cons.mp hz with h | h
    · subst h; exact hle.1
    · exact hle.2 z h
end
section
variable {K : PySem.W.Frag} {H : Hp} {Q : VK}
theorem rd_max {x y : V} {a b : O} (hx : OA K H x a) (hy : OA K H y b) (da : O.dp a ≤ 60) (db : O.dp b ≤ 60) (q : ∀ v, OA K H v (O.maxO a b) → Q v H) : rMaxO K [x, y] H Q := by
  unfold rMaxO
  refine ⟨x, y, a, b, rfl, hx, hy, da, db, q _ ?_⟩
  unfold O.maxO
  split <;> assumption
theorem rd_min {l : Addr} {xs : List V} {os : List O} (hs : SqL K H l xs) (hp : Paired (OA K H) xs os) (hd : ∀ o ∈ os, O.dp o ≤ 60) (hn : os ≠ []) (q : ∀ v m, m ∈ os → OA K H v m → (∀ o ∈ os, O.lt o m = false) → Q v H) : rMinO K [.ref l] H Q := by
  unfold rMinO
  exact ⟨l, xs, os, rfl, hs, hp, hn, hd, q⟩
end
end Vw

set_option Elab.async false
set_option linter.all false
set_option maxRecDepth 100000
namespace Vw
open PySem PySem.W PyProof.Rows L2
namespace O
theorem drop_cons {a : O} {i : Nat} {t : O × Int} (h : (ts a)[i]? = some t) : of ((ts a).drop i) = add t.1 t.2 (of ((ts a).drop (i + 1))) := by
  obtain ⟨hi, e⟩ := List.getElem?_eq_some_iff.mp h
  rw [List.drop_eq_getElem_cons hi, e]
  rfl
theorem drop_nil {a : O} {i : Nat} (h : (ts a)[i]? = none) : of ((ts a).drop i) = z := by
  rw [List.drop_eq_nil_iff.mpr (List.getElem?_eq_none_iff.mp h)]
  rfl
/-- what the walk over equal terms keeps -/
def GapAt (a b : O) (i : Nat) : Prop := gap a b = gap (of ((ts a).drop i)) (of ((ts b).drop i)) ∧ lt (of ((ts a).drop i)) (of ((ts b).drop i)) = true
theorem GapAt.zero {a b : O} (h : lt a b = true) : GapAt a b 0 := by
  unfold GapAt
  rw [List.drop_zero, List.drop_zero, of_ts, of_ts]
  exact ⟨rfl, h⟩
theorem GapAt.other {a b : O} {i : Nat} {t : O × Int} (g : GapAt a b i) (h : (ts a)[i]? = some t) : ∃ t', (ts b)[i]? = some t' := by
  cases q : (ts b)[i]? with
  | some t' => exact ⟨t', rfl⟩
  | none =>
    have := g.2
    rw [drop_nil q, not_lt_nil] at this
    cases this
theorem GapAt.next {a b : O} {i : Nat} {t : O × Int} (g : GapAt a b i) (h : (ts a)[i]? = some t) (h2 : (ts b)[i]? = some t) : GapAt a b (i + 1) := by
  obtain ⟨g1, g2⟩ := g
  rw [drop_cons h, drop_cons h2] at g1 g2
  rw [lt_rest] at g2
  refine ⟨g1.trans ?_, g2⟩
  show (if t.1 = t.1 then (if t.2 = t.2 then _ else _) else _) = _
  rw [if_pos rfl, if_pos rfl]
theorem GapAt.short {a b : O} {i : Nat} (g : GapAt a b i) (h : (ts a)[i]? = none) : gap a b = of ((ts b).drop i) := by
  obtain ⟨g1, _⟩ := g
  rw [g1, drop_nil h]
  cases of ((ts b).drop i) <;> rfl
theorem GapAt.count {a b : O} {i : Nat} {t t' : O × Int} (g : GapAt a b i) (h : (ts a)[i]? = some t) (h2 : (ts b)[i]? = some t') (n : t ≠ t') (e : t.1 = t'.1) : gap a b = of ((t'.1, t'.2 - t.2) :: (ts b).drop (i + 1)) := by
  obtain ⟨g1, _⟩ := g
  rw [g1, drop_cons h, drop_cons h2]
  show (if t.1 = t'.1 then (if t.2 = t'.2 then _ else _) else _) = _
  rw [if_pos e, if_neg fun e2 => n (Prod.ext e e2)]
  rfl
theorem GapAt.exp {a b : O} {i : Nat} {t t' : O × Int} (g : GapAt a b i) (h : (ts a)[i]? = some t) (h2 : (ts b)[i]? = some t') (e : t.1 ≠ t'.1) : gap a b = of ((ts b).drop i) := by
  obtain ⟨g1, _⟩ := g
  rw [g1, drop_cons h, drop_cons h2]
  show (if t.1 = t'.1 then (if t.2 = t'.2 then _ else _) else _) = _
  rw [if_neg e]
theorem sum_exp : ∀ {a b : O} {t : O × Int}, t ∈ ts (sum a b) → (∃ c, (t.1, c) ∈ ts a) ∨ ∃ c, (t.1, c) ∈ ts b
  | a, z, t, h => by rw [sum_z] at h; exact .inl ⟨t.2, h⟩
  | z, b, t, h => by rw [z_sum] at h; exact .inr ⟨t.2, h⟩
  | add e c r, add e' c' r', t, h => by
    by_cases q : e = e'
    · subst q
      rw [sum_eq] at h
      rcases List.mem_cons.mp h with k | k
      · subst k; exact .inl ⟨c, List.mem_cons_self⟩
      · exact .inr ⟨t.2, List.mem_cons_of_mem _ k⟩
    · rcases lt_total e e' q with k | k
      · rw [sum_lt k] at h; exact .inr ⟨t.2, h⟩
      · rw [sum_gt k] at h
        rcases List.mem_cons.mp h with k2 | k2
        · subst k2; exact .inl ⟨c, List.mem_cons_self⟩
        · rcases sum_exp k2 with ⟨c2, h2⟩ | h2
          · exact .inl ⟨c2, List.mem_cons_of_mem _ h2⟩
          · exact .inr h2
theorem wd_sum (a b : O) : wd (sum a b) ≤ wd a + wd b := by
  rw [← of_ts (sum a b)]
  refine wd_of _ _ ?_ fun t ht => ?_
  · have := len_sum a b
    have := len_wd a
    have := len_wd b
    omega
  · rcases sum_exp ht with ⟨c, h⟩ | ⟨c, h⟩
    · have : wd t.1 ≤ wd a := wd_mem (t := (t.1, c)) h
      omega
    · have : wd t.1 ≤ wd b := wd_mem (t := (t.1, c)) h
      omega
theorem wd_pw (e : O) : wd (pw e) ≤ wd e + 1 := by
  show max (wd e) (max (0 + 1) 0) ≤ _
  omega
theorem wd_raised (a e : O) : wd (raisedO a e) ≤ wd a + wd e + 1 := by
  unfold raisedO
  split
  · have := wd_sum a (pw e)
    have := wd_pw e
    omega
  · omega
theorem wd_take (a : O) (k : Nat) : wd (of ((ts a).take k)) ≤ wd a := by
  refine wd_of _ _ ?_ fun t ht => wd_mem (List.mem_of_mem_take ht)
  have := len_wd a
  rw [List.length_take]; omega
theorem wd_end (a : O) : wd (endO a) ≤ wd a := by
  by_cases q : a = z
  · subst q; exact Nat.le_refl _
  · obtain ⟨c, hc⟩ := end_mem q
    exact wd_mem hc
theorem dp_max (a b : O) : dp (maxO a b) ≤ max (dp a) (dp b) := by
  rcases maxO_or a b with h | h <;> rw [h] <;> omega
theorem wd_max (a b : O) : wd (maxO a b) ≤ max (wd a) (wd b) := by
  rcases maxO_or a b with h | h <;> rw [h] <;> omega
theorem wd_headE (a : O) : wd (headE a) ≤ wd a := by
  cases a with
  | z => exact Nat.le_refl _
  | add e c r => show wd e ≤ max (wd e) _; omega
theorem wd_gap (a b : O) : wd (gap a b) ≤ wd b := by
  rw [← of_ts (gap a b)]
  refine wd_of _ _ ?_ fun t ht => ?_
  · have := len_gap a b
    have := len_wd b
    omega
  · obtain ⟨c, h⟩ := gap_exp ht
    exact wd_mem (t := (t.1, c)) h
theorem dp_lim (a b : O) : dp (endLim a b) ≤ max (max (dp a) (dp b)) 2 := by
  unfold endLim
  have h1 := dp_max (sum (endO a) one) (if gap a b = pw (headE (gap a b)) then headE (gap a b) else sum (headE (gap a b)) one)
  have h2 := dp_sum (endO a) one
  have h3 := dp_end a
  have h4 : dp one = 2 := by decide
  have h5 := dp_headE (gap a b)
  have h6 := dp_gap a b
  have h7 := dp_sum (headE (gap a b)) one
  by_cases hp : gap a b = pw (headE (gap a b))
  · rw [if_pos hp] at h1 ⊢; omega
  · rw [if_neg hp] at h1 ⊢; omega
theorem wd_lim (a b : O) : wd (endLim a b) ≤ wd a + wd b + 1 := by
  unfold endLim
  have h1 := wd_max (sum (endO a) one) (if gap a b = pw (headE (gap a b)) then headE (gap a b) else sum (headE (gap a b)) one)
  have h2 := wd_sum (endO a) one
  have h3 := wd_end a
  have h4 : wd one = 1 := by decide
  have h5 := wd_headE (gap a b)
  have h6 := wd_gap a b
  have h7 := wd_sum (headE (gap a b)) one
  by_cases hp : gap a b = pw (headE (gap a b))
  · rw [if_pos hp] at h1 ⊢; omega
  · rw [if_neg hp] at h1 ⊢; omega
end O
theorem eqv_tD (s t : O × Int) : PyData.eqv (O.tD s) (O.tD t) = decide (s = t) := by
  obtain ⟨a, c⟩ := s
  obtain ⟨b, d⟩ := t
  unfold O.tD
  simp only [PyData.eqv, PyData.eqvAll, O.eqv_toD, Bool.and_true, Prod.mk.injEq, Bool.decide_and]
  rfl
theorem shaped_tD {t : O × Int} (h : O.dp t.1 ≤ 50) : SeqAt.shaped (O.tD t) = true := by
  have h1 := O.lay_toD t.1
  have h2 := O.depth_toD t.1
  unfold SeqAt.shaped O.tD
  simp only [PyData.canLay0, PyData.canLayAll0, PyData.depth, PyData.depthAll, h1, h2, Bool.and_true, Bool.true_and, decide_eq_true_eq]
  omega
theorem rd_eqT {K : PySem.W.Frag} {H : Hp} {x y : V} {s t : O × Int} {Q : VK} (ha : TmA K H x s) (hb : TmA K H y t) (h : O.dp s.1 ≤ 50) (h2 : O.dp t.1 ≤ 50) (q : Q (.bl (decide (s = t))) H) : rEqO K x y H Q := by
  unfold rEqO
  exact ⟨_, _, ha.dp, hb.dp, shaped_tD h, shaped_tD h2, by rw [eqv_tD]; exact q⟩
/-- a function of one ordinal and a greater one -/
def spLim (K : PySem.W.Frag) (g : O → O → O) : Sp := fun vs H Q _ => ∃ (x y : V) (a b : O), vs = [x, y] ∧ OA K H x a ∧ OA K H y b ∧ O.ok a = true ∧ O.ok b = true ∧ O.lt a b = true ∧ O.dp a ≤ 40 ∧ O.dp b ≤ 40 ∧ O.wd a ≤ 1600000 ∧ O.wd b ≤ 1600000 ∧ ∀ (v : V) (H' : Hp), Same H H' → OA K H' v (g a b) → Q v H'
end Vw

set_option Elab.async false
set_option linter.all false
set_option maxRecDepth 100000
namespace Vw
open PySem PySem.W PyProof.Rows L2
/-! ### rows -/
def RowA (K : PySem.W.Frag) (H : Hp) (v : V) (os : List O) : Prop := ∃ a xs, v = .ref a ∧ TT K H a xs ∧ Paired (OA K H) xs os
def rowD (os : List O) : PyData := .tuple (os.map O.toD)
theorem eqvAll_toD : ∀ os ps : List O, PyData.eqvAll (os.map O.toD) (ps.map O.toD) = decide (os = ps)
  | [], [] => by simp [PyData.eqvAll]
  | [], p :: ps => by simp [PyData.eqvAll]
  | o :: os, [] => by simp [PyData.eqvAll]
  | o :: os, p :: ps => by
    simp only [List.map_cons, PyData.eqvAll, eqvAll_toD os ps, O.eqv_toD, List.cons.injEq, Bool.decide_and]
theorem eqv_rowD (os ps : List O) : PyData.eqv (rowD os) (rowD ps) = decide (os = ps) := by
  unfold rowD
  simp only [PyData.eqv, eqvAll_toD]
theorem lay_all : ∀ os : List O, PyData.canLayAll0 (os.map O.toD) = true
  | [] => rfl
  | o :: os => by simp only [List.map_cons, PyData.canLayAll0, O.lay_toD, lay_all os, Bool.and_self]
theorem shaped_rowD {os : List O} (h : ∀ o ∈ os, O.dp o ≤ 50) : SeqAt.shaped (rowD os) = true := by
  have h1 := lay_all os
  have h2 := O.depthAll h
  unfold SeqAt.shaped rowD
  rw [Bool.and_eq_true, decide_eq_true_eq]
  refine ⟨by simp only [PyData.canLay0, h1], ?_⟩
  have : (PyData.tuple (os.map O.toD)).depth = PyData.depthAll (os.map O.toD) + 1 := by simp only [PyData.depth]
  omega
/-- what the ordinals of a drawn row are -/
def Good (os : List O) : Prop := ∀ o ∈ os, O.ok o = true ∧ O.dp o ≤ 14 ∧ O.wd o ≤ 12
theorem Good.dp {os : List O} (h : Good os) : ∀ o ∈ os, O.dp o ≤ 50 := fun o ho => by have := (h o ho).2.1; omega
theorem Good.take {os : List O} (h : Good os) (k : Nat) : Good (os.take k) := fun o ho => h o (List.mem_of_mem_take ho)
theorem Good.app {os ps : List O} (h : Good os) (h2 : Good ps) : Good (os ++ ps) := fun o ho => (List.mem_append.mp ho).elim (h o) (h2 o)
section
variable {K : PySem.W.Frag} {H H' : Hp} {v x y : V} {os ps : List O} {Q : VK}
theorem RowA.tp (t : Tp H H') (h : RowA K H v os) : RowA K H' v os := by
  obtain ⟨a, xs, rfl, h1, h2⟩ := h
  exact ⟨a, xs, rfl, h1.tp t, paired_tp t h2⟩
theorem RowA.same (h : RowA K H v os) (s : Same H H') : RowA K H' v os := h.tp (same_tp s)
theorem RowA.dp (h : RowA K H v os) : Dp K H v (rowD os) := by
  obtain ⟨a, xs, rfl, h1, h2⟩ := h
  exact .tup h1.sq (dpAll_of h2)
theorem RowA.of {a : Addr} {xs : List V} (h : TT K H a xs) (p : Paired (OA K H) xs os) : RowA K H (.ref a) os := ⟨a, xs, rfl, h, p⟩
theorem rd_eqRow (hx : RowA K H x os) (hy : RowA K H y ps) (g : Good os) (g2 : Good ps) (q : Q (.bl (decide (os = ps))) H) : rEqO K x y H Q := by
  unfold rEqO
  exact ⟨_, _, hx.dp, hy.dp, shaped_rowD g.dp, shaped_rowD g2.dp, by rw [eqv_rowD]; exact q⟩
theorem rd_eqNilO {p p2 : Addr} {xs : List V} (h1 : SqL K H p xs) (h2 : Paired (OA K H) xs os) (h3 : SqL K H p2 []) (g : Good os) (q : Q (.bl os.isEmpty) H) : rEqO K (.ref p) (.ref p2) H Q := by
  unfold rEqO
  refine ⟨_, _, .lst h1 (dpAll_of h2), .lst h3 .nil, ?_, shaped_nil, ?_⟩
  · have e1 := lay_all os
    have e2 := O.depthAll g.dp
    unfold SeqAt.shaped
    rw [Bool.and_eq_true, decide_eq_true_eq]
    refine ⟨by simp only [PyData.canLay0, e1], ?_⟩
    have : (PyData.list (os.map O.toD)).depth = PyData.depthAll (os.map O.toD) + 1 := by simp only [PyData.depth]
    omega
  · rw [eqv_nil]
    cases os <;> exact q
end
/-- what is_below says -/
def below (k : Nat) (os ps : List O) : Bool := decide (os.take k = ps.take k) && O.lt (ps.getD k .z) (os.getD k .z)
theorem below_trans {k : Nat} {os ps qs : List O} (h1 : below k os ps = true) (h2 : below k ps qs = true) : below k os qs = true := by
  unfold below at *
  rw [Bool.and_eq_true, decide_eq_true_eq] at *
  exact ⟨h1.1.trans h2.1, O.lt_trans _ _ _ h2.2 h1.2⟩
theorem below_low {k j : Nat} {os ps qs : List O} (h1 : below k os ps = true) (hj : j < k) : below j os qs = below j ps qs := by
  unfold below at *
  rw [Bool.and_eq_true, decide_eq_true_eq] at h1
  have e1 : os.take j = ps.take j := by
    have := congrArg (List.take j) h1.1
    rw [List.take_take, List.take_take, Nat.min_eq_left (by omega)] at this
    exact this
  have e2 : os.getD j .z = ps.getD j .z := by
    have := congrArg (fun l => l[j]?) h1.1
    simp only [List.getElem?_take, if_pos hj] at this
    rw [List.getD_eq_getElem?_getD, List.getD_eq_getElem?_getD, this]
  rw [e1, e2]
@[irreducible] def spBelow (K : PySem.W.Frag) : Sp := fun vs H Q _ => ∃ (x y : V) (os ps : List O) (k m : Nat), vs = [.int (k : Nat), x, y] ∧ RowA K H x os ∧ RowA K H y ps ∧ Good os ∧ Good ps ∧ os.length = m ∧ ps.length = m ∧ k < m ∧ ∀ H', Same H H' → Q (.bl (below k os ps)) H'
/-- each ordinal but the first is at most the end of the one before -/
def Steps (os : List O) : Prop := ∀ i o p, os[i]? = some o → os[i + 1]? = some p → O.lt (endO o) p = false
theorem steps_nil : Steps [] := fun i o p h => by cases h
theorem steps_one (o : O) : Steps [o] := fun i o p h h2 => by
  cases i <;> cases h2
theorem steps_cons {o p : O} {os : List O} (h : O.lt (endO o) p = false) (hs : Steps (p :: os)) : Steps (o :: p :: os) := fun i a b h1 h2 => by
  cases i with
  | zero =>
    cases h1
    cases h2
    exact h
  | succ i => exact hs i a b h1 h2
/-- a row of m ordinals is drawn -/
def spRow (K : PySem.W.Frag) : Sp := fun vs H Q _ => ∃ (l b : Addr) (m : Nat), vs = [.ref b, .int (m : Nat)] ∧ m ≤ 3 ∧ Bag l H b ∧ ∀ (v : V) (os : List O) (H' : Hp), RowA K H' v os → os.length = m → Good os → Steps os → Kp b H H' → Bag l H' b → Q v H'
/-- some answer: yes or no -/
def spSome (K : PySem.W.Frag) : Sp := fun vs H Q _ => ∃ (x : V) (os : List O) (m : Nat), vs = [.int (m : Nat), x] ∧ RowA K H x os ∧ Good os ∧ os.length = m ∧ m ≤ 3 ∧ ∀ (r : Bool) (H' : Hp), Same H H' → Q (.bl r) H'
/-- an expression, what it answers said once -/
def tCutE (t : TE) : TE := fun σ H Q => ∃ Mid : V → Hp → Prop, t σ H Mid ∧ ∀ v H', Mid v H' → Q v H'
theorem pe_cut {X : Cx} {e : Expr} {t : TE} (h : PE X e t) : PE X e (tCutE t) := ⟨fun pins s σ H Q I ⟨Mid, h1, h2⟩ =>
  thn (h.run pins s σ H Mid I h1) fun u s1 ⟨v, H', J, r, q⟩ => ⟨v, H', J, r, h2 v H' q⟩⟩
end Vw

set_option Elab.async false
set_option linter.all false
set_option maxRecDepth 100000
set_option maxHeartbeats 4000000
/-! a def read off its class and called -/
namespace Vw
open PySem PySem.Spec PyProof.Rows L2
/-- C.m(e, ..), m a def of the class at C -/
def tCFun (C : Addr) (sp : Sp) (E : XK) (to : TE) (t : L2.TA) : TE := fun σ H Q => to σ H fun x H1 => x = .ref C ∧ t σ H1 fun vs H2 => sp vs H2 Q E
theorem pe_cfun {X : Cx} {CX : CXT} {k : Nat} {C f : Addr} {fd : FuncData} {ps : List Str} {sp : Sp} {E : XK} {o e : Expr} {es : List Expr} {m : Str} {pos apos : Pos} {to : TE} {t : L2.TA} {pl : Sem Bool} (he : PE X o to) (r : ClX.CRead X.K C (.type "type")) (c : PySem.W.findCls X.K (.ref C) (.type "type") m = some (.val (.ref f)))
    (F : FnOk X.prog X.w X.K X.mg X.base CX k f fd ps sp) (hr : Room k X.A) (hk : PySem.W.keepIn X.K (.ref f) = true) (hb : Binds X.K fd ps []) (hx : Passes CX X E) (ha : PA X (e :: es) t)
    (hst : starEach (e :: es) X.env = (false, eval e X.env) :: starEach es X.env := by rfl) (hpl : (backTo pos (starEach es X.env)).any (·.1) = false := by rfl)
    (ht : eval (.Call (.Attribute o m apos) (e :: es) [] pos) X.env = (do
      let ov ← eval o X.env
      standAt apos.atName
      let (f, first) ← holding [ov] (getMethod ov m pl)
      callWith pos f first (backTo pos (starEach (e :: es) X.env)) (backToKw pos (keywordEach [] X.env))) := by rfl) :
    PE X (.Call (.Attribute o m apos) (e :: es) [] pos) (tCFun C sp E to t) := by
  refine ⟨fun pins s σ H Q I h => ?_⟩
  refine PySem.W.methodCall_KW (pl := pl) (thn (he.run pins s σ H _ I h) fun u s1 ⟨x, H1, I1, rx, ex, q⟩ => ?_) ht
  subst ex
  obtain rfl : u = Value.ref C := rx
  refine PySem.W.method_cls I1.kIn r.ga (PySem.W.cls_value I1.kIn r.rd c rfl ?_)
  have I2 := I1.tok (s1.toks + 1)
  refine PySem.W.callWith_K (h₀ := X.base) I2.ok.mod.kin hk (thn (ha.run pos pins _ σ H1 _ I2 q) fun us s3 ⟨vs, H2, I3, rv, q2⟩ => ⟨I3.kIn, ?_⟩) hst hpl
  have q2 : sp (vs ++ []) H2 Q E := by rw [List.append_nil]; exact q2
  exact run_fn F hr hb .nil hx I3 rv q2
end Vw

set_option Elab.async false
set_option linter.all false
set_option maxRecDepth 100000
set_option maxHeartbeats 4000000
/-! instances of own classes, of several ones in one place: methods, bool, isinstance -/
namespace Vw
open PySem PySem.Spec PyProof.Rows L2
section
variable {prog : Program} {w : World} {A : Around} {E : Value → Shared → Prop} {s : Shared} {K : PySem.W.Frag} {x C f : Addr} {ox : Obj} {od : Option Obj}
/-- bool(x), x's class has a __bool__ of its own -/
theorem bool_own {Q : Value → Shared → Prop} (X : K.In s.heap) (I : PySem.W.InstAt s.heap x ox C od) (hs : PySem.W.findIn K (.ref C) "__bool__" = some (some (.ref f))) (hf : PySem.W.isFn K (.ref f) = true)
    (h : wpAny (model prog w) A.in1.in1 (call (.ref f) [.ref x]) (fun r s₁ => ∃ b, r = Value.bool b ∧ Q r s₁) E s) : wpAny (model prog w) A (call (.type "bool") [.ref x]) Q E s := by
  refine callType_codes (T := "bool") (Bi := Builtin.«object.__init__») (Q₁ := fun r s₁ => ∃ b, r = Value.bool b ∧ Q r s₁) PySem.F.called_bool (PySem.F.typeCall_bool_1 _) PySem.F.entry_object_init ?_ ?_
  · refine codeAny_of_tree ?_
    show wpAny _ A.in1.in1 (do checkBuiltinCall "bool.__new__" ⟨[.type "bool", .ref x], []⟩; again (.builtin "bool.__new__" ⟨[.type "bool", .ref x], []⟩)) _ _ s
    refine wpAny_bind (wpAny_of_eq (PySem.F.newCall_bool_1 _) (wpAny_pure ⟨plainId_quiet (by decide +kernel) _, codeAny_builtin PySem.F.entry_bool_new ?_⟩))
    rw [Around.under_plainId (by decide +kernel) _]
    unfold Builtin.«bool.__new__»
    refine wpAny_bind (wpAny_of_eq (a := true) (by first | rfl | kernel_rfl) ?_)
    refine PySem.W.KFB.if_not rfl ?_
    refine wpAny_bind (wpAny_of_eq (a := true) PySem.F.conv_sub_bool ?_)
    refine PySem.W.KFB.if_not rfl ?_
    refine wpAny_bind (wpAny_of_eq (a := [Value.ref x]) (by first | rfl | kernel_rfl) ?_)
    show wpAny _ _ (do ret (.bool (← truthy (.ref x)))) _ _ _
    refine wpAny_bind ?_
    unfold truthy
    refine wpAny_bind (m := callSpecial? (.ref x) (Str.ofString "__bool__")) (PySem.W.special_fn X I hs (beq_iff_eq.mp hf) (wpAny_mono h (fun r s' hr => ?_) fun _ _ y => y))
    obtain ⟨b, rfl, hq⟩ := hr
    exact wpAny_pure (wpAny_pure ⟨b, rfl, hq⟩)
  · rintro obj s₁ ⟨b, rfl, hq⟩
    exact ⟨rfl, PySem.F.args_object_init_2 _ _, object_init_meets PySem.F.called_bool.init.lookup PySem.F.called_bool.made (by decide) prog w A.in1 _ s₁ ⟨rfl, rfl, hq⟩⟩
end
/-- a method of the class at C that takes nothing and lets nothing out -/
structure Mth (P : Program) (w : World) (K : PySem.W.Frag) (mg : Str → Option Value) (base : Heap) (C : Addr) (m : Str) (k : Nat) (sp : Sp) : Prop where
  ex : ∃ f fd, PySem.W.findIn K (.ref C) m = some (some (.ref f)) ∧ PySem.W.isFn K (.ref f) = true ∧ PySem.W.keepIn K (.ref f) = true ∧ FnOk P w K mg base CX0 k f fd ["self"] sp ∧ Binds K fd ["self"] []
section
variable {X : Cx} {k : Nat}
/-- where a rule stands, without its frame (a comprehension's block has one of its own) -/
def At (X : Cx) (P : Program) (w : World) (K : PySem.W.Frag) (mg : Str → Option Value) (base : Heap) : Prop := X.prog = P ∧ X.w = w ∧ X.K = K ∧ X.mg = mg ∧ X.base = base
def rBoolOwn (P : Program) (w : World) (K : PySem.W.Frag) (mg : Str → Option Value) (base : Heap) (k : Nat) : List V → Hp → VK → Prop := fun xs H Q => ∃ (a C dx : Addr) (fs : List (Str × V)) (sp : Sp), xs = [.ref a] ∧ H a = some (.ins C dx fs) ∧ Mth P w K mg base C "__bool__" k sp ∧ sp [.ref a] H (fun z H' => ∃ b, z = .bl b ∧ Q z H') E0
theorem call_boolOwn {P : Program} {w : World} {K : PySem.W.Frag} {mg : Str → Option Value} {base : Heap} (at_ : At X P w K mg base) (hr : Room (k + 2) X.A) : CallR X (.type "bool") (rBoolOwn P w K mg base k) := by
  obtain ⟨rfl, rfl, rfl, rfl, rfl⟩ := at_
  intro pins s σ H xs us Q I r h
  obtain ⟨a, C, dx, fs, sp, rfl, ea, M, q⟩ := h
  obtain ⟨f, fd, hs, hf, hk, F, hb⟩ := M.ex
  obtain ⟨u, rfl, ru⟩ := r.one
  cases (show u = Value.ref a from ru)
  obtain ⟨mA, O, rr, _, _, _⟩ := ins_get I.hok ea
  obtain ⟨od, J, hl⟩ := O.look
  have hr2 : Room k X.A.in1.in1 := (show Room (k + 1) X.A.in1 from Room.in1 hr).in1
  have step : wpAny (model X.prog X.w) X.A.in1.in1 (call (.ref f) [.ref a]) (EP X pins σ fun z H' => ∃ b, z = .bl b ∧ Q z H') X.xe s := by
    refine wpAny_call (codeAny_mono (F.run X.A.in1.in1 X.stack s H ⟨[.ref a], []⟩ [.ref a] [.ref a] _ E0 hr2 I.env0.in1.in1 (hb s [.ref a] I.kIn rfl) (.cons rfl .nil) q) fun r s' hq => ?_)
    cases r with
    | error e => exact (show False from hq).elim
    | ok fl =>
      cases fl with
      | ret u => exact I.after hq
      | next => exact False.elim hq
      | brk => exact False.elim hq
      | cont => exact False.elim hq
  refine bool_own I.kIn J hs hf (wpAny_mono step (fun w s' z => ?_) fun _ _ x => x)
  obtain ⟨z', H', I', rz, b, eb, qz⟩ := z
  subst eb
  cases (show w = Value.bool b from rz)
  exact ⟨b, rfl, .bl b, H', I', rfl, qz⟩
/-- o.m() of an instance, whichever class it has -/
def tMethA (P : Program) (w : World) (K : PySem.W.Frag) (mg : Str → Option Value) (base : Heap) (m : Str) (k : Nat) (to : TE) : TE := fun σ H Q => to σ H fun x H1 => ∃ (a C dx : Addr) (fs : List (Str × V)) (sp : Sp), x = .ref a ∧ H1 a = some (.ins C dx fs) ∧ Cls K C ∧ Mth P w K mg base C m k sp ∧ fs.lookup m = none ∧ sp [.ref a] H1 Q E0
theorem pe_methA {P : Program} {w : World} {K : PySem.W.Frag} {mg : Str → Option Value} {base : Heap} (at_ : At X P w K mg base) {o : Expr} {to : TE} {m : Str} {pos apos : Pos} {pl : Sem Bool} (hr : Room k X.A) (he : PE X o to)
    (ht : eval (.Call (.Attribute o m apos) [] [] pos) X.env = (do
      let ov ← eval o X.env
      standAt apos.atName
      let (f, first) ← holding [ov] (getMethod ov m pl)
      callWith pos f first (backTo pos (starEach [] X.env)) (backToKw pos (keywordEach [] X.env))) := by rfl) :
    PE X (.Call (.Attribute o m apos) [] [] pos) (tMethA P w K mg base m k to) := by
  obtain ⟨rfl, rfl, rfl, rfl, rfl⟩ := at_
  refine ⟨fun pins s σ H Q I h => ?_⟩
  refine PySem.W.methodCall_KW (pl := pl) (thn (he.run pins s σ H _ I h) fun u s1 ⟨x, H1, I1, rx, a, C, dx, fs, sp, ex, ea, c, M, l, q⟩ => ?_) ht
  subst ex
  obtain rfl : u = Value.ref a := rx
  obtain ⟨f, fd, hs, hf, hk, F, hb⟩ := M.ex
  refine getmeth_ok I1 ea c ⟨hs, hf, hk⟩ l ?_
  exact PySem.W.callWith_K0 (first := [.ref a]) I1.kIn hk (run_fn (us := [.ref a]) (vs := [.ref a]) F hr hb .nil pass0 I1 (.cons rfl .nil) (by simpa using q))
end
/-- o.f, in a comprehension's block too -/
theorem pe_fldK {X : Cx} {K : PySem.W.Frag} (hK : X.K = K) {e : Expr} {ta : TE} {f : Str} {pos : Pos} (he : PE X e ta) (hb : attributeBase e f X.env (eval e X.env) = eval e X.env) : PE X (.Attribute e f pos) (tFld K ta f) := by
  subst hK
  exact pe_fld he hb
/-- what the written part says of a class of its own -/
structure OwnC (K : PySem.W.Frag) (C fI : Addr) : Prop where
  cl : Cls K C
  mkc : Mk K C fI
  ha : PySem.W.findIn K (.ref C) "__class__" = some (some (.builtin "object.__class__"))
  hn : PySem.W.specialIn K (.builtin "object.__class__") "__get__" = some (some (.builtin "getset_descriptor.__get__"))
  ht : PySem.W.takesIn K (.builtin "object.__class__") = some true
  hm : PySem.W.mroIn K C (.type "object") = some true
structure MtC (K : PySem.W.Frag) (C : Addr) (m : Str) (f : Addr) : Prop where
  at_ : PySem.W.findIn K (.ref C) m = some (some (.ref f))
  fn : PySem.W.isFn K (.ref f) = true
  kp : PySem.W.keepIn K (.ref f) = true
theorem OwnC.ty {K : PySem.W.Frag} {H : Hp} {a C dx fI : Addr} {fs : List (Str × V)} (o : OwnC K C fI) (e : H a = some (.ins C dx fs)) : TyX K H (.ref a) (.ref C) := .base (.ins e o.cl o.ha o.hn o.ht o.hm)
theorem MtC.mth {P : Program} {w : World} {K : PySem.W.Frag} {mg : Str → Option Value} {base : Heap} {C f : Addr} {fd : FuncData} {m : Str} {k : Nat} {sp : Sp} (M : MtC K C m f) (F : FnOk P w K mg base CX0 k f fd ["self"] sp) (b : Binds K fd ["self"] []) : Mth P w K mg base C m k sp := ⟨f, fd, M.at_, M.fn, M.kp, F, b⟩
end Vw

set_option Elab.async false
set_option linter.all false
set_option maxRecDepth 100000
set_option maxHeartbeats 4000000
namespace Vw
open PySem PySem.Spec PySem.W PyProof.Rows L2
/-! ### tuple * int, once or oftener -/
theorem tuple_mulW1 (l : Addr) (items : Array Value) (n : Nat) (dd : Option Addr) (sl : Array (Option Value)) (u : Tok) :
    Meets (Builtin.«tuple.__mul__» ⟨[.ref l, .int 1 u], []⟩) (fun _ R s => s.heap.get? l = some { cls := .type "tuple", dict := dd, data := .seq items n, slots := sl } ∧ R (.ok (.ret (Value.ref l))) s) :=
  .of_wp fun prog w A R s h => by
    obtain ⟨hp, g, d, tk, os⟩ := s
    obtain ⟨hl, h⟩ := h
    have f1 := AutoSeq1.idx_int
    have c0 : (decide ((1 : Int) < -(2 ^ 63)) || decide ((1 : Int) ≥ 2 ^ 63)) = false := by decide
    have c1 : (items.isEmpty || (1 : Int) == 1) = true := by simp
    wp_walk using wpAny_loadPart' hl
    repeat (first
      | (refine wpAny_ite_false (decide_eq_false (by rw [c0]; exact Bool.false_ne_true)) ?_; wp_walk using wpAny_loadPart' hl)
      | (refine wpAny_ite_true (decide_eq_true (by rw [c1])) ?_; wp_walk using wpAny_loadPart' hl))
    exact ⟨_, rfl, h⟩
@[irreducible] def rRepO (K : PySem.W.Frag) : R2 := fun x y H Q => ∃ l k xs, x = .ref l ∧ y = .int k ∧ TT K H l xs ∧ xs ≠ [] ∧ 1 ≤ k ∧ k ≤ 1000 ∧ xs.length ≤ 1000 ∧ ∀ p H', Same H H' → TT K H' p (List.replicate k.toNat xs).flatten → Q (.ref p) H'
theorem op_repO {X : Cx} : OpR X (binaryOp .Mult) (rRepO X.K) := by
  intro pins s σ H x y v u Q I rx ry h
  unfold rRepO at h
  obtain ⟨l, k, xs, rfl, rfl, hT, hne, h1, h2, hz, q⟩ := h
  by_cases h3 : k = 1
  · subst h3
    cases rx
    obtain ⟨t, rfl⟩ := ry
    obtain ⟨its, r, ⟨⟨cls, dd, data, sl⟩, ho, hc, n, hd⟩, hs⟩ := I.tuple hT.sq
    simp only at hc hd
    subst hc hd
    refine wpAny_binaryOp_repeat_ref (T := "tuple") (U := "int") (by decide) ⟨_, ho, rfl⟩ (fun s' => typeIs_int s' 1 t) noFill_tuple_mul F.fills_int_mul F.slot_int_rmul repeat_tuple F.slot_int_index.lookup
      (call_meets F.slot_int_rmul (typeIs_int s 1 t) F.entry_int_rmul (F.args_int_rmul_2 _ _) (int_rmul_tuple 1 t l its.toArray n dd sl)
        ⟨ho, rfl, ⟨_, ho, rfl⟩, call_meets F.slot_tuple_mul ⟨_, ho, rfl⟩ F.entry_tuple_mul (F.args_tuple_mul_2 _ _) (tuple_mulW1 l its.toArray n dd sl t) ⟨ho, ?_⟩⟩)
    have e : (List.replicate (1 : Int).toNat xs).flatten = xs := by simp
    rw [e] at q
    exact ⟨.ref l, H, I, rfl, q l H (Same.refl H) hT⟩
  · exact op_repT pins s σ H _ _ v u Q I rx ry ⟨l, k, xs, rfl, rfl, hT.sq, hne, by omega, h2, hz, fun p np => q p _ (same_new np) (.of upd_same)⟩
theorem rd_rep {K : PySem.W.Frag} {H : Hp} {Q : VK} {l : Addr} {x : V} {k : Int} (h : TT K H l [x]) (h1 : 1 ≤ k) (h2 : k ≤ 1000) (q : ∀ p H', Same H H' → TT K H' p (List.replicate k.toNat x) → Q (.ref p) H') : rRepO K (.ref l) (.int k) H Q := by
  unfold rRepO
  refine ⟨l, k, [x], rfl, rfl, h, by simp, h1, h2, (show 1 ≤ 1000 by decide), fun p H' s t => q p H' s ?_⟩
  have : (List.replicate k.toNat [x]).flatten = List.replicate k.toNat x := by simp
  rw [this] at t
  exact t
end Vw
namespace Vw
open PySem PySem.Spec PySem.W PyProof.Rows L2
def turnG {α : Type} : List α → List α → List α
  | [], [o, r, l] => [l, r, o]
  | _, _ => []
theorem turn_rel {vs : List V} {us : List Value} {zs : List V} {ws : List Value} (h1 : Vals vs us) (h2 : Vals zs ws) : Vals (turnG vs zs) (turnG us ws) := by
  cases h1 with
  | cons a t => exact .nil
  | nil =>
    cases h2 with
    | nil => exact .nil
    | cons a t => cases t with
      | nil => exact .nil
      | cons b t => cases t with
        | nil => exact .nil
        | cons c t => cases t with
          | nil => exact .cons c (.cons b (.cons a .nil))
          | cons d t => exact .nil
end Vw

set_option Elab.async false
set_option linter.all false
set_option maxRecDepth 100000
set_option maxHeartbeats 4000000
namespace Vw
open PySem PySem.Spec PySem.W PyProof.Rows L2
/-! ### tuple[::-1] -/
theorem adjust_rev (n : Nat) : Builtin.Slice.sliceAdjust none none (-1) (n : Int) = ((n : Int) - 1, -1) := by
  unfold Builtin.Slice.sliceAdjust
  simp
theorem places_rev (n : Nat) : Builtin.Slice.slicePlaces ((n : Int) - 1) (-1) (-1) = n := by
  unfold Builtin.Slice.slicePlaces
  have h1 : ¬ ((-1 : Int) > 0) := by omega
  simp only [h1, if_false]
  split <;> (try simp) <;> omega
theorem pick_rev (xs : List Value) : ((List.range xs.length).filterMap fun (m : Nat) => xs.toArray[(((xs.length : Nat) : Int) - 1 + (m : Int) * (-1)).toNat]?) = xs.reverse := by
  have e : ∀ k, k ≤ xs.length → ((List.range k).filterMap fun (m : Nat) => xs.toArray[(((xs.length : Nat) : Int) - 1 + (m : Int) * (-1)).toNat]?) = xs.reverse.take k := by
    intro k
    induction k with
    | zero => intro _; rfl
    | succ k ih =>
      intro hk
      rw [List.range_succ, List.filterMap_append, ih (by omega), List.take_add_one]
      congr 1
      have h1 : (((xs.length : Nat) : Int) - 1 + (k : Int) * (-1)).toNat = xs.length - 1 - k := by omega
      simp only [List.filterMap_cons, List.filterMap_nil]
      rw [h1, List.getElem?_reverse (by omega)]
      rw [List.getElem?_toArray]
      cases xs[xs.length - 1 - k]? <;> rfl
  have := e xs.length (Nat.le_refl _)
  rw [this, List.take_of_length_le (by rw [List.length_reverse]; exact Nat.le_refl _)]
section
variable {prog : Program} {w : World} {A : Around} {E : Value → Shared → Prop} {s : Shared}
theorem sliceApplied_rev {sl : Addr} {u : Tok} {n : Nat} {Q : Int × Int × Nat → Shared → Prop} (hs : s.heap.IsSliceOf sl .none .none (.int (-1) u))
    (h : Q ((n : Int) - 1, -1, n) s) : wpAny (model prog w) A (Builtin.Slice.sliceApplied (.ref sl) (pure (n : Int))) Q E s := by
  obtain ⟨os, hos, hcs, hds⟩ := id hs
  unfold Builtin.Slice.sliceApplied Builtin.Slice.sliceFields
  refine wpAny_bind (wpAny_bind (wpAny_field hos hds (x := .none) rfl (wpAny_bind (wpAny_field hos hds (x := .none) rfl (wpAny_bind (wpAny_field hos hds (x := .int (-1) u) rfl (wpAny_pure ?_)))))))
  refine wpAny_bind (PyProof.Rows.slicePart_int ?_)
  show wpAny _ _ (if ((-1 : Int) == 0) = true then _ else _) _ _ s
  rw [if_neg (by decide)]
  refine wpAny_bind (PyProof.Rows.slicePart_none (wpAny_bind (PyProof.Rows.slicePart_none (wpAny_bind (wpAny_pure ?_)))))
  show wpAny _ _ (match Builtin.Slice.sliceAdjust none none (-1) (n : Int) with | (lo, hi) => pure (lo, (-1 : Int), Builtin.Slice.slicePlaces lo hi (-1))) _ _ s
  rw [adjust_rev n]
  show wpAny _ _ (pure ((n : Int) - 1, (-1 : Int), Builtin.Slice.slicePlaces ((n : Int) - 1) (-1) (-1))) _ _ s
  rw [places_rev]
  exact wpAny_pure h
theorem getItem_tuple_rev {t sl : Addr} {items : List Value} {u : Tok} {Q : Value → Shared → Prop} (ht : IsTup s.heap t items.toArray) (hs : s.heap.IsSliceOf sl .none .none (.int (-1) u))
    (h : Q (.ref s.heap.objs.size) { s with heap := s.heap.push { cls := .type "tuple", data := .seq items.reverse.toArray } }) (hsz : items.length ≤ sizeLine) : wpAny (model prog w) A (getItem (.ref t) (.ref sl)) Q E s := by
  have htake : sizeOk (.seq items.reverse.toArray) := by
    show items.reverse.toArray.size ≤ sizeLine
    rw [List.size_toArray, List.length_reverse]; exact hsz
  obtain ⟨os, hos, hcs, hds⟩ := id hs
  have hTs : s.TypeIs (.ref sl) "slice" := ⟨os, hos, hcs⟩
  unfold getItem
  try with_reducible refine wpAny_holding ?_
  first | refine wpAny_bind (wpAny_pure ?_) | skip
  refine wpAny_bind (wpAny_sequenceKey ht.typeIs (by decide) ?_)
  refine wpAny_bind (wpAny_callSpecial?_slot (name := Str.ofString "__getitem__") ht.typeIs PyProof.Rows.slot_tuple_getitem
    (wpAny_call_entry PyProof.Rows.slot_tuple_getitem ht.typeIs PyProof.Rows.entry_tuple_getitem ?_ (PyProof.Rows.args_tuple_getitem _ _)))
  show wpAny _ _ (Builtin.Tuple.tupleItemsOf (.ref t) >>= _) _ _ s
  refine wpAny_bind (PyProof.Rows.tupleItemsOf_ ht ?_)
  refine wpAny_bind (wpAny_typeOf hTs ?_)
  rw [if_pos (by decide)]
  refine wpAny_bind (sliceApplied_rev (n := items.toArray.size) hs ?_)
  have hno : ¬ ((((items.toArray.size : Nat) : Int) - 1 == 0 && (-1 : Int) == 1 && items.toArray.size == items.toArray.size) = true) := by simp
  show wpAny _ _ (if ((((items.toArray.size : Nat) : Int) - 1 == 0 && (-1 : Int) == 1 && items.toArray.size == items.toArray.size) = true) then _ else _) _ _ s
  rw [if_neg hno]
  have hp : ((List.range items.toArray.size).filterMap fun (k : Nat) => items.toArray[(((items.toArray.size : Nat) : Int) - 1 + (k : Int) * (-1)).toNat]?).toArray = items.reverse.toArray := by
    rw [List.size_toArray]
    exact congrArg List.toArray (pick_rev items)
  rw [hp]
  first
    | exact wpAny_bind (m := Builtin.Tuple.tupleExact _) (wpAny_newObj_type (wpAny_pure ⟨_, rfl, wpAny_pure h⟩) htake)
    | exact wpAny_bind (m := Builtin.Tuple.tupleExact _) (wpAny_newObj_type (wpAny_bind (wpAny_pure (wpAny_pure ⟨_, rfl, wpAny_pure h⟩))) htake)
    | exact wpAny_bind (wpAny_bind (m := Builtin.Tuple.tupleExact _) (wpAny_newObj_type (wpAny_pure (wpAny_pure ⟨_, rfl, wpAny_pure h⟩)) htake))
    | exact wpAny_bind (wpAny_bind (m := Builtin.Tuple.tupleExact _) (wpAny_newObj_type (wpAny_pure ⟨_, rfl, wpAny_pure h⟩) htake))
end
section
variable {X : Cx}
def tRevT (K : PySem.W.Frag) (te : TE) : TE := fun σ H Q => te σ H fun x H1 => ∃ a xs, x = .ref a ∧ TT K H1 a xs ∧ ∀ p H', Same H1 H' → TT K H' p xs.reverse → Q (.ref p) H'
theorem pe_revT {e : Expr} {te : TE} {k : Nat} {p1 p2 p3 pos : Pos} (he : PE X e te) : PE X (.Subscript e (.Slice none none (some (.UnaryOp .USub (.Constant (.int 1) k p1) p2)) p3) pos) (tRevT X.K te) := by
  refine ⟨fun pins s σ H Q I h => ?_⟩
  refine Subscript_ (thn (he.run pins s σ H _ I h) fun v s1 ⟨x, H1, I1, r1, q1⟩ => ?_)
  obtain ⟨a, xs, ex, hx, q⟩ := q1
  subst ex
  cases r1
  have hst : PO X (some (.UnaryOp .USub (.Constant (.int 1) k p1) p2)) (tPart (tUn (rU fun i => .int (-i)) (tC (.int 1)))) := po_some (pe_un un_neg pe_int)
  refine wpAny_Slice (thn (po_none.run pins s1 σ H1 (fun o H2 => o = none ∧ H2 = H1) I1 ⟨rfl, rfl⟩) fun vl s2 ⟨l, H2, I2, pl, el, e2⟩ => ?_)
  subst el e2
  refine thn (po_none.run pins s2 σ H2 (fun o H3 => o = none ∧ H3 = H2) I2 ⟨rfl, rfl⟩) fun vu s3 ⟨u, H3, I3, pu, eu, e3⟩ => ?_
  subst eu e3
  refine thn (hst.run pins s3 σ H3 (fun o H4 => o = some (-1) ∧ H4 = H3) I3 ⟨1, rfl, -1, rfl, rfl, rfl⟩) fun vs s4 ⟨o, H4, I4, ps, eo, e4⟩ => ?_
  subst eo e4
  have I5 : Inv X pins σ H4 { s4 with heap := s4.heap.push { cls := .type "slice", data := .fields #[vl, vu, vs] } } := I4.kept (t' := s4.toks) fun b ob q => Heap.get?_push_of_some _ q
  obtain ⟨its, r, ht, hz⟩ := I5.tuple hx.sq
  cases pl
  cases pu
  cases ps
  show wpAny (model X.prog X.w) X.A (subscriptTail e (.Slice none none (some (.UnaryOp .USub (.Constant (.int 1) k p1) p2)) p3) (.ref a) (.ref s4.heap.objs.size)) (EP X pins σ Q) X.xe _
  refine tail_any (ops := [.ref a, .ref s4.heap.objs.size]) ht.typeIs (PyProof.Rows.slot_tuple_getitem.lookup) ?_ (by with_unfolding_all rfl)
  refine getItem_tuple_rev ht (Heap.IsSliceOf.new _ _ _ _) ?_ (by rw [← r.length]; exact hz)
  have np := I5.hok.fresh (Nat.le_refl (({ s4 with heap := s4.heap.push { cls := .type "slice", data := .fields #[.none, .none, .int (-1) _] } } : Shared).heap.objs.size))
  refine ⟨.ref _, _, I5.laid (t' := s4.toks) (o := .tup xs.reverse) (fun b ob q => Heap.get?_push_of_some _ q) (Nat.le_refl _) ?_, rfl, q _ _ (same_new np) (.of upd_same)⟩
  exact ⟨by rw [List.length_reverse]; exact hz, _, r.reverse, IsTup.new _ _⟩
end
end Vw

set_option Elab.async false
set_option linter.all false
set_option maxRecDepth 100000
namespace Vw
open PySem PySem.W PyProof.Rows L2
/-! ### data of bounded depth -/
def EltD (K : PySem.W.Frag) (H : Hp) (n : Nat) (v : V) : Prop := ∃ d, Dp K H v d ∧ d.depth ≤ n
section
variable {K : PySem.W.Frag} {H H' : Hp} {n m : Nat} {v : V}
theorem EltD.same (s : Same H H') (h : EltD K H n v) : EltD K H' n v := by
  obtain ⟨d, h1, h2⟩ := h
  exact ⟨d, dp_same s h1, h2⟩
theorem EltD.mono (h : EltD K H n v) (l : n ≤ m) : EltD K H m v := by
  obtain ⟨d, h1, h2⟩ := h
  exact ⟨d, h1, Nat.le_trans h2 l⟩
theorem EltD.int (i : Int) : EltD K H n (.int i) := ⟨_, .int i, by simp only [PyData.depth]; omega⟩
theorem EltD.bl (b : Bool) : EltD K H n (.bl b) := ⟨_, .bl b, by simp only [PyData.depth]; omega⟩
theorem EltD.str (x : Str) : EltD K H n (.str x) := ⟨_, .str x, by simp only [PyData.depth]; omega⟩
theorem EltD.non : EltD K H n .non := ⟨_, .non, by simp only [PyData.depth]; omega⟩
theorem EltD.ord {o : O} (h : OA K H v o) (l : O.dp o + 1 ≤ n) : EltD K H n v := ⟨_, h.dp, by rw [O.depth_toD]; exact l⟩
theorem EltD.term {t : O × Int} (h : TmA K H v t) (l : O.dp t.1 + 2 ≤ n) : EltD K H n v := ⟨_, h.dp, by rw [depth_tD]; exact l⟩
theorem elts_all : ∀ {xs : List V}, (∀ v ∈ xs, EltD K H n v) → ∃ ds, DpAll K H xs ds ∧ PyData.depthAll ds ≤ n
  | [], _ => ⟨[], .nil, Nat.zero_le _⟩
  | x :: xs, h => by
    obtain ⟨d, h1, h2⟩ := h x List.mem_cons_self
    obtain ⟨ds, h3, h4⟩ := elts_all (xs := xs) fun v hv => h v (List.mem_cons_of_mem _ hv)
    exact ⟨d :: ds, .cons h1 h3, by show max d.depth (PyData.depthAll ds) ≤ n; omega⟩
theorem EltD.tup {p : Addr} {xs : List V} (h : TT K H p xs) (hx : ∀ v ∈ xs, EltD K H n v) : EltD K H (n + 1) (.ref p) := by
  obtain ⟨ds, h1, h2⟩ := elts_all hx
  exact ⟨.tuple ds, .tup h.sq h1, by simp only [PyData.depth]; omega⟩
theorem EltD.lst {p : Addr} {xs : List V} (h : SqL K H p xs) (hx : ∀ v ∈ xs, EltD K H n v) : EltD K H (n + 1) (.ref p) := by
  obtain ⟨ds, h1, h2⟩ := elts_all hx
  exact ⟨.list ds, .lst h h1, by simp only [PyData.depth]; omega⟩
theorem elts_terms {xs : List V} {l : List (O × Int)} (h : Paired (TmA K H) xs l) (hl : ∀ t ∈ l, O.dp t.1 + 2 ≤ n) : ∀ v ∈ xs, EltD K H n v := fun v hv => by
  obtain ⟨i, hi, e⟩ := List.getElem_of_mem hv
  obtain ⟨t, ht, tv⟩ := paired_get h (List.getElem?_eq_some_iff.mpr ⟨hi, e⟩)
  exact .term tv (hl t (List.mem_of_getElem? ht))
end
/-- data of tuples alone: it stands as long as tuples do -/
def EltT (K : PySem.W.Frag) (H : Hp) (n : Nat) (v : V) : Prop := ∃ d, d.depth ≤ n ∧ ∀ H', Tp H H' → Dp K H' v d
/-- data that stands as long as all but b stays -/
def EltB (K : PySem.W.Frag) (H : Hp) (b : Addr) (n : Nat) (v : V) : Prop := ∃ d, d.depth ≤ n ∧ ∀ H', Kp b H H' → Dp K H' v d
section
variable {K : PySem.W.Frag} {H H' : Hp} {n m : Nat} {v : V} {b l : Addr}
theorem EltT.tp (h : EltT K H n v) (t : Tp H H') : EltT K H' n v := by
  obtain ⟨d, h1, h2⟩ := h
  exact ⟨d, h1, fun H2 t2 => h2 H2 (t.trans t2)⟩
theorem EltT.same (s : Same H H') (h : EltT K H n v) : EltT K H' n v := h.tp (same_tp s)
theorem EltT.mono (h : EltT K H n v) (l : n ≤ m) : EltT K H m v := by
  obtain ⟨d, h1, h2⟩ := h
  exact ⟨d, Nat.le_trans h1 l, h2⟩
theorem EltT.int (i : Int) : EltT K H n (.int i) := ⟨.int i, by simp only [PyData.depth]; omega, fun _ _ => .int i⟩
theorem EltT.bl (b : Bool) : EltT K H n (.bl b) := ⟨.bool b, by simp only [PyData.depth]; omega, fun _ _ => .bl b⟩
theorem EltT.str (x : Str) : EltT K H n (.str x) := ⟨.str x, by simp only [PyData.depth]; omega, fun _ _ => .str x⟩
theorem EltT.non : EltT K H n .non := ⟨.none, by simp only [PyData.depth]; omega, fun _ _ => .non⟩
theorem EltT.ord {o : O} (h : OA K H v o) (l : O.dp o + 1 ≤ n) : EltT K H n v := ⟨_, by rw [O.depth_toD]; exact l, fun _ t => (h.tp t).dp⟩
theorem EltT.term {t : O × Int} (h : TmA K H v t) (l : O.dp t.1 + 2 ≤ n) : EltT K H n v := ⟨_, by rw [depth_tD]; exact l, fun _ x => (h.tp x).dp⟩
theorem eltT_all : ∀ {xs : List V}, (∀ v ∈ xs, EltT K H n v) → ∃ ds, PyData.depthAll ds ≤ n ∧ ∀ H', Tp H H' → DpAll K H' xs ds
  | [], _ => ⟨[], Nat.zero_le _, fun _ _ => .nil⟩
  | x :: xs, h => by
    obtain ⟨d, h1, h2⟩ := h x List.mem_cons_self
    obtain ⟨ds, h3, h4⟩ := eltT_all (xs := xs) fun v hv => h v (List.mem_cons_of_mem _ hv)
    exact ⟨d :: ds, by show max d.depth (PyData.depthAll ds) ≤ n; omega, fun H' t => .cons (h2 H' t) (h4 H' t)⟩
theorem eltB_all : ∀ {xs : List V}, (∀ v ∈ xs, EltB K H b n v) → ∃ ds, PyData.depthAll ds ≤ n ∧ ∀ H', Kp b H H' → DpAll K H' xs ds
  | [], _ => ⟨[], Nat.zero_le _, fun _ _ => .nil⟩
  | x :: xs, h => by
    obtain ⟨d, h1, h2⟩ := h x List.mem_cons_self
    obtain ⟨ds, h3, h4⟩ := eltB_all (xs := xs) fun v hv => h v (List.mem_cons_of_mem _ hv)
    exact ⟨d :: ds, by show max d.depth (PyData.depthAll ds) ≤ n; omega, fun H' t => .cons (h2 H' t) (h4 H' t)⟩
theorem EltT.tup {p : Addr} {xs : List V} (h : TT K H p xs) (hx : ∀ v ∈ xs, EltT K H n v) : EltT K H (n + 1) (.ref p) := by
  obtain ⟨ds, h1, h2⟩ := eltT_all hx
  exact ⟨.tuple ds, by simp only [PyData.depth]; omega, fun H' t => .tup (h.tp t).sq (h2 H' t)⟩
theorem eltT_terms {xs : List V} {l : List (O × Int)} (h : Paired (TmA K H) xs l) (hl : ∀ t ∈ l, O.dp t.1 + 2 ≤ n) : ∀ v ∈ xs, EltT K H n v := fun v hv => by
  obtain ⟨i, hi, e⟩ := List.getElem_of_mem hv
  obtain ⟨t, ht, tv⟩ := paired_get h (List.getElem?_eq_some_iff.mpr ⟨hi, e⟩)
  exact .term tv (hl t (List.mem_of_getElem? ht))
theorem Bag.tpK (B : Bag l H b) (k : Kp b H H') : Tp H H' := B.tp k
theorem EltT.toB (h : EltT K H n v) (B : Bag l H b) : EltB K H b n v := by
  obtain ⟨d, h1, h2⟩ := h
  exact ⟨d, h1, fun H' k => h2 H' (B.tp k)⟩
theorem EltB.kp {H' : Hp} (h : EltB K H b n v) (k : Kp b H H') : EltB K H' b n v := by
  obtain ⟨d, h1, h2⟩ := h
  exact ⟨d, h1, fun H2 k2 => h2 H2 (k.trans k2)⟩
theorem EltB.same (s : Same H H') (h : EltB K H b n v) : EltB K H' b n v := h.kp (same_kp s)
theorem EltB.mono (h : EltB K H b n v) (l : n ≤ m) : EltB K H b m v := by
  obtain ⟨d, h1, h2⟩ := h
  exact ⟨d, Nat.le_trans h1 l, h2⟩
theorem EltB.elt (h : EltB K H b n v) : EltD K H n v := by
  obtain ⟨d, h1, h2⟩ := h
  exact ⟨d, h2 H (Kp.refl H), h1⟩
theorem EltT.elt (h : EltT K H n v) : EltD K H n v := by
  obtain ⟨d, h1, h2⟩ := h
  exact ⟨d, h2 H (Tp.refl H), h1⟩
theorem EltB.tup {p : Addr} {xs : List V} (B : Bag l H b) (h : TT K H p xs) (hx : ∀ v ∈ xs, EltB K H b n v) : EltB K H b (n + 1) (.ref p) := by
  obtain ⟨ds, h1, h2⟩ := eltB_all hx
  exact ⟨.tuple ds, by simp only [PyData.depth]; omega, fun H' k => .tup (h.tp (B.tp k)).sq (h2 H' k)⟩
theorem EltB.lst {p : Addr} {xs : List V} (hb : p ≠ b) (h : H p = some (.lst xs)) (hx : ∀ v ∈ xs, EltB K H b n v) : EltB K H b (n + 1) (.ref p) := by
  obtain ⟨ds, h1, h2⟩ := eltB_all hx
  exact ⟨.list ds, by simp only [PyData.depth]; omega, fun H' k => .lst (SqL.of (k _ _ hb h)) (h2 H' k)⟩
end
/-- a bent ordinal: any data, not deep -/
def spBent (K : PySem.W.Frag) (n : Nat) : Sp := fun vs H Q _ => ∃ (l b : Addr) (x : V) (o : O), vs = [.ref b, x] ∧ Bag l H b ∧ OA K H x o ∧ O.dp o < n ∧ O.dp o ≤ 20 ∧ O.wd o ≤ 100 ∧ ∀ (v : V) (H' : Hp), EltB K H' b (O.dp o + 5) v → Kp b H H' → Bag l H' b → Q v H'
/-- a number from 0 on, as an ordinal -/
def spNat (K : PySem.W.Frag) : Sp := fun vs H Q _ => ∃ n : Int, vs = [.int n] ∧ 0 ≤ n ∧ ∀ (v : V) (H' : Hp), Same H H' → OA K H' v (O.num n) → Q v H'
theorem O.pwN_num {n : Int} (h : 0 ≤ n) : O.pwN .z n = O.num n := by
  unfold O.pwN O.num
  by_cases e : n = 0
  · subst e; rfl
  · rw [if_neg e, if_pos (by omega)]
/-- a def with keyword-only defaults, as it is called -/
structure CalK (P : Program) (w : World) (K : PySem.W.Frag) (mg : Str → Option Value) (base : Heap) (k : Nat) (x : Str) (ps : List Str) (sp : Sp) (f : Addr) (fd : FuncData) : Prop where
  G : FnOk P w K mg base CX0 k f fd ps sp
  m : mg x = some (.ref f)
  kp : PySem.W.keepIn K (.ref f) = true
theorem kb_ofD {K : PySem.W.Frag} {x qual : Str} {st : Stmt} {kws : List (Str × V)} {f : Addr} {fd : FuncData} {ps ks : List Str} (F : FunD K x qual (defArgs st) (defBody st) (defScope st) [] kws f fd) (g : List Value → List Value → List Value) (gV : List V → List V → List V)
    (rel : ∀ {vs : List V} {us : List Value} {zs : List V} {ws : List Value}, Vals vs us → Vals zs ws → Vals (gV vs zs) (g us ws)) (hk : kws ≠ [])
    (h : ∀ (D : Addr) (doc pm : Value) (an : Option Addr) (cdv ct : Value) (us ws : List Value), (g us ws).length = ps.length → bindArgs (PySem.W.fnOf x qual (defArgs st) (defBody st) (defScope st) .none (.ref D) doc pm an cdv ct) ⟨us, ks.zip ws⟩ = pure (ps.zip (g us ws))) : KBinds K fd ps ks g gV := by
  obtain ⟨oc, od, dV, kV, doc, pm, an, cdv, ct, osl, rfl, lk, hcd, hD, hK⟩ := F.ex
  rcases hD with ⟨_, rfl⟩ | ⟨e, _⟩
  · rcases hK with e | ⟨D, rfl, hq⟩
    · exact absurd e hk
    · exact ⟨fun s us ws _ hl => .of_eq (h D doc pm an cdv ct us ws hl), rel⟩
  · exact absurd rfl e
def oneG {α : Type} : List α → List α → List α
  | [a], [b] => [a, b]
  | _, _ => []
theorem one_rel {vs : List V} {us : List Value} {zs : List V} {ws : List Value} (h1 : Vals vs us) (h2 : Vals zs ws) : Vals (oneG vs zs) (oneG us ws) := by
  cases h1 with
  | nil => exact .nil
  | cons a t => cases t with
    | cons b t => exact .nil
    | nil => cases h2 with
      | nil => exact .nil
      | cons b t => cases t with
        | nil => exact .cons a (.cons b .nil)
        | cons c t => exact .nil
/-- the power one, once -/
def O.omega : O := O.add O.one 1 .z
/-! ### the great ordinals -/
def wideO : O := O.of ((List.range 12).map fun k => (O.num (11 - (k : Nat)), 1 + (k : Nat)))
def deepO : Nat → O
  | 0 => O.num 2
  | k + 1 => O.of [(deepO k, 2), (.z, 1)]
def spGreat (K : PySem.W.Frag) : Sp := fun vs H Q _ => vs = [] ∧ ∀ (D : Addr) (x y : V) (H' : Hp), Same H H' → H' D = some (.lst [x, y]) → OA K H' x wideO → OA K H' y (deepO 5) → Q (.ref D) H'
theorem ok_wide : O.ok wideO = true := by decide
theorem ok_deep : O.ok (deepO 5) = true := by decide
/-- the last term twice is no ordinal -/
theorem twice_no {o : O} {t : O × Int} (h : (O.ts o).getLast? = some t) : isOrdB (.tuple (O.toDs o ++ [O.tD t])) = false := by
  have hl : 0 < (O.ts o).length := by
    cases e : O.ts o with
    | nil => rw [e] at h; cases h
    | cons a b => exact Nat.succ_pos _
  have h1 : (O.toDs o ++ [O.tD t])[(O.ts o).length - 1]? = some (O.tD t) := by
    rw [List.getElem?_append_left (by rw [O.toDs_ts, List.length_map]; omega), O.toDs_ts, List.getElem?_map]
    rw [List.getLast?_eq_getElem?] at h
    rw [h]; rfl
  have h2 : (O.toDs o ++ [O.tD t])[(O.ts o).length - 1 + 1]? = some (O.tD t) := by
    rw [show (O.ts o).length - 1 + 1 = (O.toDs o).length from by rw [O.toDs_ts, List.length_map]; omega]
    simp
  exact bad_order h1 h2 (O.lt_irrefl _)
/-- turned round, it is none -/
theorem rev_no {ds : List PyData} {t u : O × Int} {r : List PyData} (h : ds = O.tD t :: O.tD u :: r) (hl : O.lt u.1 t.1 = false) : isOrdB (.tuple ds) = false := by
  subst h
  exact bad_order (i := 0) rfl rfl hl
end Vw

set_option Elab.async false
set_option linter.all false
set_option maxRecDepth 100000
namespace Vw
open PySem PySem.W PyProof.Rows L2
/-! ### which data are rows -/
/-- each ordinal is at most the end of the one ahead of it -/
def IsRow (m : Int) (d : PyData) : Prop := ∃ os : List O, rowD os = d ∧ (os.length : Int) = m ∧ (∀ o ∈ os, O.ok o = true) ∧ Steps os
noncomputable def isRowB (m : Int) (d : PyData) : Bool := open Classical in decide (IsRow m d)
open Classical in
theorem isRow_t {m : Int} {d : PyData} (h : IsRow m d) : isRowB m d = true := by unfold isRowB; exact decide_eq_true h
open Classical in
theorem isRow_f {m : Int} {d : PyData} (h : ¬ IsRow m d) : isRowB m d = false := by unfold isRowB; exact decide_eq_false h
theorem isRow_other {m : Int} {d : PyData} (h : ∀ ds, d ≠ .tuple ds) : isRowB m d = false := isRow_f fun ⟨os, h1, _⟩ => h _ h1.symm
theorem isRow_len {m : Int} {ds : List PyData} (h : (ds.length : Int) ≠ m) : isRowB m (.tuple ds) = false := isRow_f fun ⟨os, h1, h2, _⟩ => h (by
  have : os.map O.toD = ds := PyData.tuple.inj h1
  rw [← this, List.length_map]; exact h2)
/-- the first i ordinals are right -/
def RPref (ds : List PyData) (os : List O) (i : Nat) : Prop := ds.take i = os.map O.toD ∧ (∀ o ∈ os, O.ok o = true) ∧ Steps os ∧ os.length = i
theorem rpref_nil (ds : List PyData) : RPref ds [] 0 := by
  refine ⟨rfl, ?_, ?_, rfl⟩
  · intro o h; cases h
  · intro i o p h; simp at h
theorem rpref_at {ds : List PyData} {os : List O} {i j : Nat} (h : RPref ds os i) (hj : j < i) : ∃ o, os[j]? = some o ∧ ds[j]? = some (O.toD o) := by
  obtain ⟨h1, _, _, h3⟩ := h
  have hl : j < os.length := by omega
  refine ⟨os[j], List.getElem?_eq_getElem hl, ?_⟩
  have : (ds.take i)[j]? = some (O.toD os[j]) := by rw [h1, List.getElem?_map, List.getElem?_eq_getElem hl]; rfl
  rw [List.getElem?_take, if_pos hj] at this
  exact this
theorem rpref_step {ds : List PyData} {os : List O} {i : Nat} {p : O} (h : RPref ds os i) (hd : ds[i]? = some (O.toD p)) (hp : O.ok p = true) (hl : ∀ o, os[i - 1]? = some o → 0 < i → O.lt (endO o) p = false) : RPref ds (os ++ [p]) (i + 1) := by
  obtain ⟨h1, h2, h3, h4⟩ := h
  refine ⟨by rw [List.take_add_one, hd, h1, List.map_append]; rfl, fun o ho => ?_, fun j o q ho hq => ?_, by rw [List.length_append, h4]; rfl⟩
  · rcases List.mem_append.mp ho with h | h
    · exact h2 o h
    · rw [List.mem_singleton.mp h]; exact hp
  · have hj : j + 1 < i + 1 := by
      have := (List.getElem?_eq_some_iff.mp hq).1
      rw [List.length_append, h4] at this
      exact this
    rw [List.getElem?_append_left (by omega)] at ho
    by_cases e : j + 1 = i
    · have hi : i - 1 = j := by omega
      rw [List.getElem?_append_right (by omega), h4, e, Nat.sub_self] at hq
      have hq : p = q := by simpa using hq
      subst hq
      exact hl o (by rw [hi]; exact ho) (by omega)
    · rw [List.getElem?_append_left (by omega)] at hq
      exact h3 j o q ho hq
theorem rpref_end {ds : List PyData} {os : List O} (h : RPref ds os ds.length) : isRowB (ds.length : Nat) (.tuple ds) = true := by
  obtain ⟨h1, h2, h3, h4⟩ := h
  rw [List.take_length] at h1
  exact isRow_t ⟨os, by unfold rowD; rw [h1], by rw [h4], h2, h3⟩
theorem row_ord {m : Int} {ds : List PyData} {i : Nat} {d : PyData} (hd : ds[i]? = some d) (h : isOrdB d = false) : isRowB m (.tuple ds) = false := isRow_f fun ⟨os, h1, _, h2, _⟩ => by
  have h3 : os.map O.toD = ds := PyData.tuple.inj h1
  rw [← h3, List.getElem?_map] at hd
  obtain ⟨o, ho, rfl⟩ := Option.map_eq_some_iff.mp hd
  rw [isOrd_toD (h2 o (List.mem_of_getElem? ho))] at h
  cases h
theorem row_step {m : Int} {ds : List PyData} {i : Nat} {o p : O} (h1 : ds[i]? = some (O.toD o)) (h2 : ds[i + 1]? = some (O.toD p)) (h : O.lt (endO o) p = true) : isRowB m (.tuple ds) = false := isRow_f fun ⟨os, e1, _, _, e2⟩ => by
  have h3 : os.map O.toD = ds := PyData.tuple.inj e1
  rw [← h3, List.getElem?_map] at h1 h2
  obtain ⟨o', ho, a1⟩ := Option.map_eq_some_iff.mp h1
  obtain ⟨p', hp, a2⟩ := Option.map_eq_some_iff.mp h2
  have := e2 i o' p' ho hp
  rw [O.toD_inj a1, O.toD_inj a2, h] at this
  cases this
/-- an ordinal as data: its end asked of data -/
def spEndD (K : PySem.W.Frag) : Sp := fun vs H Q _ => ∃ (x : V) (a : O), vs = [x] ∧ Dp K H x (O.toD a) ∧ O.dp a ≤ 50 ∧ ∀ (v : V) (H' : Hp), Same H H' → Dp K H' v (O.toD (endO a)) → Q v H'
theorem rd_eqD {K : PySem.W.Frag} {H : Hp} {x y : V} {a b : O} {Q : VK} (ha : Dp K H x (O.toD a)) (hb : Dp K H y (O.toD b)) (h : O.dp a ≤ 60) (h2 : O.dp b ≤ 60) (q : Q (.bl (decide (a = b))) H) : rEqO K x y H Q := by
  unfold rEqO
  exact ⟨_, _, ha, hb, O.shaped_toD h, O.shaped_toD h2, by rw [O.eqv_toD]; exact q⟩
def spIsRow (K : PySem.W.Frag) : Sp := fun vs H Q _ => ∃ (m : Int) (x : V) (d : PyData), vs = [.int m, x] ∧ Dp K H x d ∧ d.depth ≤ 50 ∧ ∀ H', Same H H' → Q (.bl (isRowB m d)) H'
end Vw

set_option Elab.async false
set_option linter.all false
set_option maxRecDepth 100000
namespace Vw
open PySem PySem.W PyProof.Rows L2
/-! ### sorted(..) of ordinals, ascending -/
def rSortedA (K : PySem.W.Frag) : List V → Hp → VK → Prop := fun vs H Q => ∃ (a : Addr) (xs : List V) (os : List O), vs = [V.ref a] ∧ SqL K H a xs ∧ Paired (OA K H) xs os ∧ (∀ o ∈ os, O.dp o ≤ 60) ∧
  ∀ (ys : List V) (os' : List O) (p : Addr), Paired (OA K H) ys os' → os'.Perm os → os'.Pairwise (fun a b => O.lt b a = false) → H p = none → Q (.ref p) (upd H p (.lst ys))
theorem dataLe_toDA (a b : O) : dataLe false O.toD a b = !O.lt b a := by
  show sortLe (listOrd itemOrd) false (fun b => keyToks (O.toD b)) a b = _
  rw [← O.lt_toD]
  rfl
theorem cr_sortedA {X : Cx} (hu : X.A.units + 64 < cLine) : CallR X (.builtin "sorted") (rSortedA X.K) := by
  intro pins s σ H vs us Q I r h
  obtain ⟨a, xs, os, rfl, hs, hp, hd, q⟩ := h
  obtain rfl := Vals.ref1 r
  obtain ⟨its, rv, hl, hz⟩ := I.list hs
  have e0 : EachIs (fun u o => ∃ x, RelV x u ∧ OA X.K H x o) its os := each_of (fun x u o a b => ⟨x, b, a⟩) hp rv
  have er : EachIs (fun v o => ∃ as, Reads s.heap v (O.toD o) as) its os := e0.mono fun u o ⟨x, rx, ox⟩ => Dp.reads I _ _ _ ox.dp rx
  have er' : EachIs (fun v o => ∃ as, Reads (sortingHeap (copyHeap s.heap its) (s.heap.objs.size + 1) its) v (O.toD o) as) its os := er.mono fun _ _ ⟨as, r⟩ => ⟨as, PyProof.Rows.Reads.keeps (fun _ _ => sorting_copy_old) r⟩
  have hal : AllAlike (os.map O.toD) := AllAlike.of O.alike_toD
  refine sorted_vals hl.isList (SortsAt.tups (s := { s with heap := sortingHeap (copyHeap s.heap its) (s.heap.objs.size + 1) its }) (each_map (R := fun v d => ∃ as, Reads (sortingHeap (copyHeap s.heap its) (s.heap.objs.size + 1) its) v d as) O.toD er') hal (fun d hd => ?_) (fun d hm => ?_)) (by rw [← rv.length]; exact hz) ?_
  · obtain ⟨o, _, rfl⟩ := List.mem_map.mp hd
    exact ⟨_, rfl⟩
  · obtain ⟨o, ho, rfl⟩ := List.mem_map.mp hm
    rw [O.depth_toD]
    have := hd o ho
    show X.A.units + 1 + 1 + _ < _
    omega
  · have e2 := sortVals_data (h' := sortingHeap (copyHeap s.heap its) (s.heap.objs.size + 1) its) (enc := O.toD) false e0 er' hal
    obtain ⟨ys, v1, v2⟩ := each_back e2
    obtain ⟨ep, he'⟩ := PyProof.Rows.sortedAll_at s.heap its (sortVals (dataKind (sortingHeap (copyHeap s.heap its) (s.heap.objs.size + 1) its) (os.map O.toD)) false its its).toArray
    have hlen : ys.length ≤ sizeLine := by
      rw [paired_len v2, (List.mergeSort_perm os _).length_eq, ← paired_len hp]
      exact hz
    refine ⟨.ref _, upd H (s.heap.objs.size + 1) (.lst ys), I.laid (t' := s.toks) (fun _ _ => PyProof.Rows.sortedAll_old) (Nat.le_succ _) ⟨hlen, _, ep, v1, he'⟩, rfl, q _ _ _ v2 (List.mergeSort_perm os _) ?_ (I.hok.fresh (Nat.le_succ _))⟩
    refine (List.pairwise_mergeSort (le := dataLe false O.toD) (fun a b c h1 h2 => ?_) (fun a b => ?_) os).imp fun {a b} h => ?_
    · rw [dataLe_toDA] at h1 h2 ⊢
      simp only [Bool.not_eq_true'] at h1 h2 ⊢
      exact O.ge_trans h2 h1
    · rw [dataLe_toDA, dataLe_toDA]
      by_cases e : a = b
      · subst e; rw [O.lt_irrefl]; rfl
      · rcases O.lt_total a b e with k | k
        · rw [k, O.lt_asymm k]; rfl
        · rw [k, O.lt_asymm k]; rfl
    · rw [dataLe_toDA] at h
      simpa using h
/-! ### stairs of n levels -/
def SD : Nat → Type
  | 0 => Bool
  | n + 1 => List (O × SD n)
def SD.dflt : (n : Nat) → SD n
  | 0 => false
  | _ + 1 => ([] : List _)
/-- the last inner stair whose begin is at most o: as the law walks -/
def pickGo {α : Type} (o : O) : α → List (O × α) → α
  | d, [] => d
  | d, t :: r => pickGo o (if O.lt o t.1 = true then d else t.2) r
/-- as the program walks -/
def pickBr {α : Type} (o : O) : α → List (O × α) → α
  | d, [] => d
  | d, t :: r => if O.lt o t.1 = true then d else pickBr o t.2 r
def firstS {n : Nat} : List (O × SD n) → SD n
  | [] => SD.dflt n
  | t :: _ => t.2
def pickS {n : Nat} (l : List (O × SD n)) (o : O) : SD n := pickGo o (firstS l) l
def Asc {α : Type} (l : List (O × α)) : Prop := l.Pairwise fun a b => O.lt a.1 b.1 = true
theorem pickGo_above {α : Type} {o : O} : ∀ {l : List (O × α)} {d : α}, (∀ t ∈ l, O.lt o t.1 = true) → pickGo o d l = d
  | [], _, _ => rfl
  | t :: r, d, h => by
    show pickGo o (if O.lt o t.1 = true then d else t.2) r = d
    rw [if_pos (h t List.mem_cons_self)]
    exact pickGo_above fun x hx => h x (List.mem_cons_of_mem _ hx)
theorem pick_eq {α : Type} {o : O} : ∀ {l : List (O × α)} {d : α}, Asc l → pickBr o d l = pickGo o d l
  | [], _, _ => rfl
  | t :: r, d, h => by
    have h' := List.pairwise_cons.mp h
    show (if O.lt o t.1 = true then d else pickBr o t.2 r) = pickGo o (if O.lt o t.1 = true then d else t.2) r
    by_cases e : O.lt o t.1 = true
    · rw [if_pos e, if_pos e]
      exact (pickGo_above fun x hx => O.lt_trans _ _ _ e (h'.1 x hx)).symm
    · rw [if_neg e, if_neg e]
      exact pick_eq h'.2
def okS : (n : Nat) → SD n → Prop
  | 0, _ => True
  | n + 1, (l : List (O × SD n)) => l ≠ [] ∧ Asc l ∧ (∀ t ∈ l, O.ok t.1 = true ∧ O.dp t.1 ≤ 8 ∧ O.wd t.1 ≤ 3) ∧ (∀ t ∈ l, okS n t.2) ∧ l.length ≤ 4 ∧ l.head?.map (·.1) = some O.z
def valS : (n : Nat) → SD n → List O → Bool
  | 0, (b : Bool), _ => b
  | n + 1, (l : List (O × SD n)), os => valS n (pickS l (os.headD .z)) os.tail
def oppS : (n : Nat) → SD n → SD n
  | 0, (b : Bool) => !b
  | n + 1, (l : List (O × SD n)) => l.map fun t => (t.1, oppS n t.2)
theorem pickGo_map {α : Type} (f : α → α) {o : O} : ∀ {l : List (O × α)} {d : α}, pickGo o (f d) (l.map fun t => (t.1, f t.2)) = f (pickGo o d l)
  | [], _ => rfl
  | t :: r, d => by
    show pickGo o (if O.lt o t.1 = true then f d else f t.2) _ = f (pickGo o (if O.lt o t.1 = true then d else t.2) r)
    by_cases e : O.lt o t.1 = true
    · rw [if_pos e, if_pos e]; exact pickGo_map f
    · rw [if_neg e, if_neg e]; exact pickGo_map f
theorem pickGo_mem {α : Type} {o : O} : ∀ {l : List (O × α)} {d : α}, pickGo o d l = d ∨ ∃ t ∈ l, pickGo o d l = t.2
  | [], _ => .inl rfl
  | t :: r, d => by
    show pickGo o (if O.lt o t.1 = true then d else t.2) r = d ∨ ∃ x ∈ t :: r, pickGo o (if O.lt o t.1 = true then d else t.2) r = x.2
    by_cases e : O.lt o t.1 = true
    · rw [if_pos e]
      rcases pickGo_mem (l := r) (d := d) with h | ⟨x, hx, h⟩
      · exact .inl h
      · exact .inr ⟨x, List.mem_cons_of_mem _ hx, h⟩
    · rw [if_neg e]
      rcases pickGo_mem (l := r) (d := t.2) with h | ⟨x, hx, h⟩
      · exact .inr ⟨t, List.mem_cons_self, h⟩
      · exact .inr ⟨x, List.mem_cons_of_mem _ hx, h⟩
theorem okS_pick {n : Nat} {l : List (O × SD n)} {o : O} (h : okS (n + 1) l) : okS n (pickS l o) := by
  have h4 : ∀ t ∈ l, okS n t.2 := h.2.2.2.1
  rcases pickGo_mem (o := o) (l := l) (d := firstS l) with e | ⟨t, ht, e⟩
  · have e' : pickS l o = firstS l := e
    rw [e']
    match l, h, h4 with
    | [], h, _ => exact absurd rfl h.1
    | t :: r, _, h4 => exact h4 t List.mem_cons_self
  · have e' : pickS l o = t.2 := e
    rw [e']; exact h4 t ht
theorem firstS_opp {n : Nat} {l : List (O × SD n)} (h : l ≠ []) : firstS (l.map fun t => (t.1, oppS n t.2)) = oppS n (firstS l) := by
  match l, h with
  | [], h => exact absurd rfl h
  | t :: r, _ => rfl
theorem okS_opp : ∀ (n : Nat) (s : SD n), okS n s → okS n (oppS n s)
  | 0, _, _ => trivial
  | n + 1, (l : List (O × SD n)), h => by
    obtain ⟨h1, h2, h3, h4, h5, h6⟩ := (h : l ≠ [] ∧ Asc l ∧ (∀ t ∈ l, O.ok t.1 = true ∧ O.dp t.1 ≤ 8 ∧ O.wd t.1 ≤ 3) ∧ (∀ t ∈ l, okS n t.2) ∧ l.length ≤ 4 ∧ l.head?.map (·.1) = some O.z)
    show (l.map fun t => (t.1, oppS n t.2)) ≠ [] ∧ Asc (l.map fun t => (t.1, oppS n t.2)) ∧ (∀ t ∈ (l.map fun t => (t.1, oppS n t.2)), O.ok t.1 = true ∧ O.dp t.1 ≤ 8 ∧ O.wd t.1 ≤ 3) ∧ (∀ t ∈ (l.map fun t => (t.1, oppS n t.2)), okS n t.2) ∧ (l.map fun t => (t.1, oppS n t.2)).length ≤ 4 ∧ (l.map fun t => (t.1, oppS n t.2)).head?.map (·.1) = some O.z
    refine ⟨fun z => h1 (List.map_eq_nil_iff.mp z), List.pairwise_map.mpr (h2.imp fun h => h), fun t ht => ?_, fun t ht => ?_, by rw [List.length_map]; exact h5, by rw [List.head?_map, Option.map_map]; exact h6⟩
    · obtain ⟨x, hx, rfl⟩ := List.mem_map.mp ht
      exact h3 x hx
    · obtain ⟨x, hx, rfl⟩ := List.mem_map.mp ht
      exact okS_opp n _ (h4 x hx)
theorem valS_opp : ∀ (n : Nat) (s : SD n) (os : List O), okS n s → valS n (oppS n s) os = !valS n s os
  | 0, _, _, _ => rfl
  | n + 1, (l : List (O × SD n)), os, h => by
    have e : pickS (l.map fun t => (t.1, oppS n t.2)) (os.headD .z) = oppS n (pickS l (os.headD .z)) := by
      unfold pickS
      rw [firstS_opp h.1]
      exact pickGo_map (oppS n)
    show valS n (pickS (l.map fun t => (t.1, oppS n t.2)) (os.headD .z)) os.tail = !valS n (pickS l (os.headD .z)) os.tail
    rw [e]
    exact valS_opp n _ _ (okS_pick h)
/-! ### as they stand in a heap: tuples alone -/
def SA (K : PySem.W.Frag) (H : Hp) : (n : Nat) → V → SD n → Prop
  | 0, v, (b : Bool) => v = .bl b
  | n + 1, v, (l : List (O × SD n)) => ∃ a xs, v = .ref a ∧ TT K H a xs ∧ Paired (fun x (t : O × SD n) => ∃ p u w, x = .ref p ∧ TT K H p [u, w] ∧ OA K H u t.1 ∧ SA K H n w t.2) xs l
def StA (K : PySem.W.Frag) (H : Hp) (n : Nat) (x : V) (t : O × SD n) : Prop := ∃ p u w, x = .ref p ∧ TT K H p [u, w] ∧ OA K H u t.1 ∧ SA K H n w t.2
section
variable {K : PySem.W.Frag} {H H' : Hp}
theorem SA.tp (t : Tp H H') : ∀ {n : Nat} {v : V} {s : SD n}, SA K H n v s → SA K H' n v s
  | 0, _, _, h => h
  | n + 1, _, _, ⟨a, xs, e, h1, h2⟩ => ⟨a, xs, e, h1.tp t, paired_mono (fun x y ⟨p, u, w, e1, e2, e3, e4⟩ => ⟨p, u, w, e1, e2.tp t, e3.tp t, SA.tp t e4⟩) h2⟩
theorem StA.tp {n : Nat} {x : V} {y : O × SD n} (t : Tp H H') (h : StA K H n x y) : StA K H' n x y := by
  obtain ⟨p, u, w, e1, e2, e3, e4⟩ := h
  exact ⟨p, u, w, e1, e2.tp t, e3.tp t, e4.tp t⟩
theorem steps_tp {n : Nat} {xs : List V} {l : List (O × SD n)} (t : Tp H H') (h : Paired (StA K H n) xs l) : Paired (StA K H' n) xs l := paired_mono (fun _ _ h => StA.tp t h) h
theorem SA.same {n : Nat} {v : V} {s : SD n} (h : SA K H n v s) (x : Same H H') : SA K H' n v s := h.tp (same_tp x)
theorem SA.un {n : Nat} {v : V} {l : List (O × SD n)} (h : SA K H (n + 1) v l) : ∃ a xs, v = .ref a ∧ TT K H a xs ∧ Paired (StA K H n) xs l := h
theorem SA.mk {n : Nat} {a : Addr} {xs : List V} {l : List (O × SD n)} (h : TT K H a xs) (p : Paired (StA K H n) xs l) : SA K H (n + 1) (.ref a) l := ⟨a, xs, rfl, h, p⟩
def stD : (n : Nat) → SD n → PyData
  | 0, (b : Bool) => .bool b
  | n + 1, (l : List (O × SD n)) => .tuple (l.map fun t => .tuple [O.toD t.1, stD n t.2])
theorem steps_dp {n : Nat} (ih : ∀ (v : V) (s : SD n), SA K H n v s → Dp K H v (stD n s)) : ∀ {xs : List V} {l : List (O × SD n)}, Paired (StA K H n) xs l → DpAll K H xs (l.map fun t => .tuple [O.toD t.1, stD n t.2])
  | _, _, .nil => .nil
  | _, _, .cons ⟨p, u, w, e1, e2, e3, e4⟩ t => by
    subst e1
    exact .cons (.tup e2.sq (.cons e3.dp (.cons (ih _ _ e4) .nil))) (steps_dp ih t)
theorem SA.dp : ∀ {n : Nat} {v : V} {s : SD n}, SA K H n v s → Dp K H v (stD n s)
  | 0, _, _, h => by
    have h : _ = V.bl _ := h
    rw [h]; exact .bl _
  | n + 1, _, _, ⟨a, xs, e, h1, h2⟩ => by
    subst e
    exact .tup h1.sq (steps_dp (fun _ _ h => SA.dp h) h2)
end
theorem rd_eqNilD {K : PySem.W.Frag} {H : Hp} {Q : VK} {os : List O} {p p2 : Addr} {xs : List V} (h1 : SqL K H p xs) (h2 : Paired (OA K H) xs os) (h3 : SqL K H p2 []) (g : ∀ o ∈ os, O.dp o ≤ 50) (q : Q (.bl os.isEmpty) H) : rEqO K (.ref p) (.ref p2) H Q := by
  unfold rEqO
  refine ⟨_, _, .lst h1 (dpAll_of h2), .lst h3 .nil, ?_, shaped_nil, ?_⟩
  · have e1 := lay_all os
    have e2 := O.depthAll g
    unfold SeqAt.shaped
    rw [Bool.and_eq_true, decide_eq_true_eq]
    refine ⟨by simp only [PyData.canLay0, e1], ?_⟩
    have : (PyData.list (os.map O.toD)).depth = PyData.depthAll (os.map O.toD) + 1 := by simp only [PyData.depth]
    omega
  · rw [eqv_nil]
    cases os <;> exact q
/-- a row near the begins of a stair -/
def spNear (K : PySem.W.Frag) : Sp := fun vs H Q _ => ∃ (l b L : Addr) (m : Nat) (v : V) (s : SD m), vs = [.ref b, .int (m : Nat), .ref L] ∧ H L = some (.lst [v]) ∧ L ≠ b ∧ SA K H m v s ∧ okS m s ∧ m ≤ 3 ∧ Bag l H b ∧ ∀ (w : V) (os : List O) (H' : Hp), RowA K H' w os → os.length = m → (∀ o ∈ os, O.ok o = true ∧ O.dp o ≤ 14) → Kp b H H' → Bag l H' b → Q w H'
/-- a drawn stair -/
def spStair (K : PySem.W.Frag) (j : Nat) : Sp := fun vs H Q _ => ∃ (l b : Addr) (n : Nat), vs = [.ref b, .int (n : Nat)] ∧ n < j ∧ j ≤ 10 ∧ Bag l H b ∧ ∀ (v : V) (s : SD n) (H' : Hp), SA K H' n v s → okS n s → Kp b H H' → Bag l H' b → Q v H'
/-- drawn begins: 0, then ascending -/
def spSteps (K : PySem.W.Frag) : Sp := fun vs H Q _ => ∃ (l b : Addr) (d : Nat), vs = [.ref b, .int (d : Nat)] ∧ d ≤ 3 ∧ Bag l H b ∧ ∀ (D : Addr) (xs : List V) (os : List O) (H' : Hp), H D = none → D ≠ b → D ≠ l → H' D = some (.lst xs) → Paired (OA K H') xs os → os.head? = some .z → os.length ≤ 4 → os.Pairwise (fun a b => O.lt a b = true) → (∀ o ∈ os, O.ok o = true ∧ O.dp o ≤ 8 ∧ O.wd o ≤ 3) → Kp b H H' → Bag l H' b → Q (.ref D) H'
/-- the inner stair at an ordinal -/
def spPick (K : PySem.W.Frag) : Sp := fun vs H Q _ => ∃ (v x : V) (n : Nat) (l : List (O × SD n)) (o : O), vs = [v, x] ∧ SA K H (n + 1) v l ∧ okS (n + 1) l ∧ OA K H x o ∧ O.dp o ≤ 50 ∧ ∀ (w : V) (H' : Hp), Same H H' → SA K H' n w (pickS l o) → Q w H'
/-- whether a row is in a stair's set -/
def spVal (K : PySem.W.Frag) : Sp := fun vs H Q _ => ∃ (v x : V) (n : Nat) (s : SD n) (os : List O), vs = [v, x] ∧ SA K H n v s ∧ okS n s ∧ RowA K H x os ∧ os.length = n ∧ (∀ o ∈ os, O.dp o ≤ 50) ∧ ∀ H', Same H H' → Q (.bl (valS n s os)) H'
def spOpp (K : PySem.W.Frag) (j : Nat) : Sp := fun vs H Q _ => ∃ (v : V) (n : Nat) (s : SD n), vs = [v] ∧ SA K H n v s ∧ okS n s ∧ n < j ∧ ∀ (w : V) (H' : Hp), Same H H' → SA K H' n w (oppS n s) → Q w H'
/-- some of the begins -/
def spBegins (K : PySem.W.Frag) (j : Nat) : Sp := fun vs H Q _ => ∃ (v : V) (n d : Nat) (s : SD n), vs = [v, .int (d : Nat)] ∧ SA K H n v s ∧ okS n s ∧ d < n ∧ n < j ∧ j ≤ 10 ∧ ∀ (D : Addr) (xs : List V) (os : List O) (H' : Hp), Same H H' → H' D = some (.lst xs) → H D = none → Paired (OA K H') xs os → os.length ≤ 4 ^ (d + 1) → (∀ o ∈ os, O.ok o = true ∧ O.dp o ≤ 8 ∧ O.wd o ≤ 3) → Q (.ref D) H'
end Vw

set_option Elab.async false
set_option linter.all false
set_option maxRecDepth 100000
namespace Vw
open PySem PySem.W PyProof.Rows L2
/-! ### stairs among any data -/
/-- the first i items are right steps with these begins -/
structure SPre (p : PyData → Prop) (ds : List PyData) (os : List O) (i : Nat) : Prop where
  len : os.length = i
  at_ : ∀ (j : Nat) (o : O), os[j]? = some o → ∃ inner, ds[j]? = some (PyData.tuple [O.toD o, inner]) ∧ O.ok o = true ∧ p inner
  asc : os.Pairwise fun a b => O.lt a b = true
  first : ∀ o : O, os.head? = some o → o = .z
def IsSt : Nat → PyData → Prop
  | 0, d => ∃ b, d = .bool b
  | n + 1, d => ∃ ds os, d = .tuple ds ∧ ds ≠ [] ∧ SPre (IsSt n) ds os ds.length
def IsStep (n : Nat) (d : PyData) : Prop := ∃ o inner, d = .tuple [O.toD o, inner] ∧ O.ok o = true ∧ IsSt n inner
noncomputable def isStB (n : Nat) (d : PyData) : Bool := open Classical in decide (IsSt n d)
noncomputable def isStepB (n : Nat) (d : PyData) : Bool := open Classical in decide (IsStep n d)
open Classical in
theorem isSt_t {n : Nat} {d : PyData} (h : IsSt n d) : isStB n d = true := by unfold isStB; exact decide_eq_true h
open Classical in
theorem isSt_f {n : Nat} {d : PyData} (h : ¬ IsSt n d) : isStB n d = false := by unfold isStB; exact decide_eq_false h
open Classical in
theorem isSt_of {n : Nat} {d : PyData} (h : isStB n d = true) : IsSt n d := by unfold isStB at h; exact of_decide_eq_true h
open Classical in
theorem isStep_t {n : Nat} {d : PyData} (h : IsStep n d) : isStepB n d = true := by unfold isStepB; exact decide_eq_true h
open Classical in
theorem isStep_f {n : Nat} {d : PyData} (h : ¬ IsStep n d) : isStepB n d = false := by unfold isStepB; exact decide_eq_false h
open Classical in
theorem isStep_of {n : Nat} {d : PyData} (h : isStepB n d = true) : IsStep n d := by unfold isStepB at h; exact of_decide_eq_true h
theorem isStep_no {n : Nat} {d : PyData} (h : isStepB n d = false) : ¬ IsStep n d := fun z => by rw [isStep_t z] at h; cases h
theorem isSt_no {n : Nat} {d : PyData} (h : isStB n d = false) : ¬ IsSt n d := fun z => by rw [isSt_t z] at h; cases h
theorem isSt_zero (d : PyData) : isStB 0 d = isin d "bool" := by
  cases d with
  | bool b => exact (isSt_t (n := 0) ⟨b, rfl⟩).trans rfl
  | _ => exact (isSt_f (n := 0) fun ⟨b, h⟩ => by cases h).trans rfl
theorem isSt_other {n : Nat} {d : PyData} (h : ∀ ds, d ≠ .tuple ds) : isStB (n + 1) d = false := isSt_f fun ⟨ds, os, h1, _⟩ => h _ h1
theorem isSt_empty {n : Nat} : isStB (n + 1) (.tuple []) = false := isSt_f fun ⟨ds, os, h1, h2, _⟩ => by
  cases h1; exact h2 rfl
theorem isStep_other {n : Nat} {d : PyData} (h : ∀ a b, d ≠ .tuple [a, b]) : isStepB n d = false := isStep_f fun ⟨o, i, h1, _⟩ => h _ _ h1
theorem isStep_two {n : Nat} (a b : PyData) : isStepB n (.tuple [a, b]) = (isOrdB a && isStB n b) := by
  cases h : isOrdB a && isStB n b with
  | true =>
    rw [Bool.and_eq_true] at h
    obtain ⟨o, rfl, ho⟩ := isOrd_of h.1
    exact isStep_t ⟨o, b, rfl, ho, isSt_of h.2⟩
  | false =>
    refine isStep_f fun ⟨o, i, h1, h2, h3⟩ => ?_
    have h4 : a = O.toD o ∧ b = i := by simpa using h1
    rw [h4.1, h4.2, isOrd_toD h2, isSt_t h3] at h
    cases h
section
variable {n : Nat} {ds : List PyData} {os : List O} {p : PyData → Prop} {i : Nat}
theorem full_at (h : SPre p ds os ds.length) {d : PyData} (hd : ds[i]? = some d) : ∃ o inner, os[i]? = some o ∧ d = .tuple [O.toD o, inner] ∧ O.ok o = true ∧ p inner := by
  have hi : i < os.length := by rw [h.len]; exact (List.getElem?_eq_some_iff.mp hd).1
  obtain ⟨inner, h1, h2, h3⟩ := h.at_ i _ (List.getElem?_eq_getElem hi)
  rw [hd] at h1
  exact ⟨_, inner, List.getElem?_eq_getElem hi, Option.some.inj h1, h2, h3⟩
theorem bad_step {d : PyData} (hd : ds[i]? = some d) (h : ¬ IsStep n d) : isStB (n + 1) (.tuple ds) = false := isSt_f fun ⟨ds', os, h1, _, h3⟩ => by
  cases h1
  obtain ⟨o, inner, _, e, h4, h5⟩ := full_at h3 hd
  exact h ⟨o, inner, e, h4, h5⟩
theorem two_inj {o o' : O} {a b : PyData} (h : PyData.tuple [O.toD o, a] = .tuple [O.toD o', b]) : o = o' := by
  have : O.toD o = O.toD o' ∧ a = b := by simpa using h
  exact O.toD_inj this.1
theorem bad_first {o : O} {a : PyData} (hd : ds[0]? = some (PyData.tuple [O.toD o, a])) (h : o ≠ .z) : isStB (n + 1) (.tuple ds) = false := isSt_f fun ⟨ds', os, h1, _, h3⟩ => by
  cases h1
  obtain ⟨o', inner, ho, e, _, _⟩ := full_at h3 hd
  refine h ((two_inj e).trans (h3.first o' ?_))
  rw [List.head?_eq_getElem?]; exact ho
theorem bad_asc {o1 o2 : O} {a b : PyData} (h1 : ds[i]? = some (PyData.tuple [O.toD o1, a])) (h2 : ds[i + 1]? = some (PyData.tuple [O.toD o2, b])) (h : O.lt o1 o2 = false) : isStB (n + 1) (.tuple ds) = false := isSt_f fun ⟨ds', os, e1, _, h3⟩ => by
  cases e1
  obtain ⟨p1, _, g1, e1, _, _⟩ := full_at h3 h1
  obtain ⟨p2, _, g2, e2, _, _⟩ := full_at h3 h2
  obtain ⟨i1, f1⟩ := List.getElem?_eq_some_iff.mp g1
  obtain ⟨i2, f2⟩ := List.getElem?_eq_some_iff.mp g2
  have := List.pairwise_iff_getElem.mp h3.asc i (i + 1) i1 i2 (Nat.lt_succ_self i)
  rw [f1, f2, ← two_inj e1, ← two_inj e2, h] at this
  cases this
theorem spre_nil (ds : List PyData) : SPre p ds [] 0 := ⟨rfl, (fun j o h => by cases h), List.Pairwise.nil, (fun o h => by cases h)⟩
theorem spre_last (h : SPre p ds os (i + 1)) : ∃ o inner, os.getLast? = some o ∧ ds[i]? = some (PyData.tuple [O.toD o, inner]) := by
  have hi : i < os.length := by rw [h.len]; exact Nat.lt_succ_self i
  obtain ⟨inner, h1, _⟩ := h.at_ i _ (List.getElem?_eq_getElem hi)
  refine ⟨os[i], inner, ?_, h1⟩
  rw [List.getLast?_eq_getElem?, h.len]
  exact List.getElem?_eq_getElem hi
theorem spre_step {o : O} {inner : PyData} (h : SPre p ds os i) (hd : ds[i]? = some (PyData.tuple [O.toD o, inner])) (ho : O.ok o = true) (hp : p inner) (h0 : i = 0 → o = .z) (hl : ∀ o', os.getLast? = some o' → O.lt o' o = true) : SPre p ds (os ++ [o]) (i + 1) := by
  refine ⟨by rw [List.length_append, h.len]; rfl, fun j o' hj => ?_, ?_, fun o' h' => ?_⟩
  · by_cases hji : j < i
    · rw [List.getElem?_append_left (by rw [h.len]; exact hji)] at hj
      exact h.at_ j o' hj
    · have hj2 : j < (os ++ [o]).length := (List.getElem?_eq_some_iff.mp hj).1
      rw [List.length_append, h.len] at hj2
      have : j = i := by have : j < i + 1 := hj2; omega
      subst this
      rw [List.getElem?_append_right (by rw [h.len]; exact Nat.le_refl _), h.len, Nat.sub_self] at hj
      cases hj
      exact ⟨inner, hd, ho, hp⟩
  · refine List.pairwise_append.mpr ⟨h.asc, List.pairwise_singleton _ _, fun a ha c hc => ?_⟩
    rw [List.mem_singleton.mp hc]
    obtain ⟨l, hlast⟩ : ∃ l, os.getLast? = some l := by
      cases e : os.getLast? with
      | some l => exact ⟨l, rfl⟩
      | none => rw [List.getLast?_eq_none_iff.mp e] at ha; cases ha
    have hlo := hl l hlast
    have hne : os ≠ [] := fun z => by rw [z] at ha; cases ha
    have es : os = os.dropLast ++ [l] := by
      rw [List.getLast?_eq_some_getLast hne] at hlast
      have := Option.some.inj hlast
      rw [← this, List.dropLast_concat_getLast]
    have hasc := h.asc
    rw [es] at hasc ha
    rcases List.mem_append.mp ha with h1 | h1
    · exact O.lt_trans _ _ _ ((List.pairwise_append.mp hasc).2.2 a h1 l (List.mem_singleton.mpr rfl)) hlo
    · rw [List.mem_singleton.mp h1]; exact hlo
  · cases os with
    | nil =>
      cases h'
      exact h0 h.len.symm
    | cons a r => exact h.first o' h'
theorem spre_end (h : SPre (IsSt n) ds os ds.length) (hne : ds ≠ []) : isStB (n + 1) (.tuple ds) = true := isSt_t ⟨ds, os, rfl, hne, h⟩
end
/-- stairs are stairs -/
theorem isSt_stD : ∀ (n : Nat) (s : SD n), okS n s → IsSt n (stD n s)
  | 0, (b : Bool), _ => ⟨b, rfl⟩
  | n + 1, (l : List (O × SD n)), h => by
    obtain ⟨h1, h2, h3, h4, h5, h6⟩ := (h : l ≠ [] ∧ Asc l ∧ (∀ t ∈ l, O.ok t.1 = true ∧ O.dp t.1 ≤ 8 ∧ O.wd t.1 ≤ 3) ∧ (∀ t ∈ l, okS n t.2) ∧ l.length ≤ 4 ∧ l.head?.map (·.1) = some O.z)
    refine ⟨l.map fun t => .tuple [O.toD t.1, stD n t.2], l.map (·.1), rfl, fun z => h1 (List.map_eq_nil_iff.mp z), ⟨by rw [List.length_map, List.length_map], fun j o hj => ?_, (by have h2' : l.Pairwise fun a b => O.lt a.1 b.1 = true := h2; exact List.pairwise_map.mpr h2'), fun o ho => ?_⟩⟩
    · rw [List.getElem?_map] at hj
      obtain ⟨t, ht, rfl⟩ := Option.map_eq_some_iff.mp hj
      have hm := List.mem_of_getElem? ht
      exact ⟨stD n t.2, by rw [List.getElem?_map, ht]; rfl, (h3 t hm).1, isSt_stD n t.2 (h4 t hm)⟩
    · rw [List.head?_map, h6] at ho
      exact (Option.some.inj ho).symm
theorem depth_stD : ∀ (n : Nat) (s : SD n), okS n s → (stD n s).depth ≤ 11 + 2 * n
  | 0, (b : Bool), _ => by show (PyData.bool b).depth ≤ _; simp only [PyData.depth]; omega
  | n + 1, (l : List (O × SD n)), h => by
    have h3 : ∀ t ∈ l, O.ok t.1 = true ∧ O.dp t.1 ≤ 8 ∧ O.wd t.1 ≤ 3 := h.2.2.1
    have h4 : ∀ t ∈ l, okS n t.2 := h.2.2.2.1
    have key : ∀ l : List (O × SD n), (∀ t ∈ l, O.dp t.1 ≤ 8) → (∀ t ∈ l, okS n t.2) → PyData.depthAll (l.map fun t => .tuple [O.toD t.1, stD n t.2]) ≤ 12 + 2 * n := by
      intro l
      induction l with
      | nil => intro _ _; exact Nat.zero_le _
      | cons t r ih =>
        intro g1 g2
        have i1 := ih (fun x hx => g1 x (List.mem_cons_of_mem _ hx)) (fun x hx => g2 x (List.mem_cons_of_mem _ hx))
        have i2 := depth_stD n t.2 (g2 t List.mem_cons_self)
        have i3 := g1 t List.mem_cons_self
        simp only [List.map_cons, PyData.depthAll, PyData.depth, O.depth_toD]
        omega
    have := key l (fun t ht => (h3 t ht).2.1) h4
    show (PyData.tuple (l.map fun t => .tuple [O.toD t.1, stD n t.2])).depth ≤ _
    simp only [PyData.depth]
    omega
theorem rd_neD2 {K : PySem.W.Frag} {H : Hp} {x y : V} {a b : O} {Q : VK} (ha : Dp K H x (O.toD a)) (hb : Dp K H y (O.toD b)) (h : O.dp a ≤ 60) (h2 : O.dp b ≤ 60) (q : Q (.bl (!decide (a = b))) H) : rNeO K x y H Q := by
  unfold rNeO
  exact ⟨_, _, ha, hb, O.shaped_toD h, O.shaped_toD h2, by rw [O.eqv_toD]; exact q⟩
theorem nil_dp {K : PySem.W.Frag} {H : Hp} {a : Addr} (h : TT K H a []) : Dp K H (.ref a) (O.toD .z) := .tup h.sq .nil
/-- whether any data is a stair -/
def spIsSt (K : PySem.W.Frag) (j : Nat) : Sp := fun vs H Q _ => ∃ (m : Nat) (x : V) (d : PyData), vs = [.int (m : Nat), x] ∧ m < j ∧ Dp K H x d ∧ d.depth ≤ 55 ∧ ∀ H', Same H H' → Q (.bl (isStB m d)) H'
def spIsStep (K : PySem.W.Frag) (j : Nat) : Sp := fun vs H Q _ => ∃ (m : Nat) (x : V) (d : PyData), vs = [.int ((m + 1 : Nat) : Int), x] ∧ m < j ∧ Dp K H x d ∧ d.depth ≤ 55 ∧ ∀ H', Same H H' → Q (.bl (isStepB m d)) H'
/-- a bent stair -/
def spBentSt (K : PySem.W.Frag) (j : Nat) : Sp := fun vs H Q _ => ∃ (l b : Addr) (v : V) (n : Nat) (s : SD n), vs = [.ref b, v] ∧ Bag l H b ∧ SA K H n v s ∧ okS n s ∧ n < j ∧ j ≤ 5 ∧ ∀ (w : V) (H' : Hp), EltB K H' b (20 + 4 * n) w → Kp b H H' → Bag l H' b → Q w H'
theorem EltT.stair {K : PySem.W.Frag} {H : Hp} {n m : Nat} {v : V} {s : SD n} (h : SA K H n v s) (ok : okS n s) (l : 11 + 2 * n ≤ m) : EltT K H m v := ⟨_, Nat.le_trans (depth_stD n s ok) l, fun _ t => (h.tp t).dp⟩
/-- one step at each level -/
def flatS : (m : Nat) → Bool → SD m
  | 0, b => b
  | m + 1, b => ([(O.z, flatS m b)] : List (O × SD m))
theorem okS_flat : ∀ (m : Nat) (b : Bool), okS m (flatS m b)
  | 0, _ => trivial
  | m + 1, b => ⟨fun z => (by cases z), List.pairwise_singleton _ _, fun t ht => by rw [List.mem_singleton.mp ht]; exact (by decide : O.ok .z = true ∧ O.dp .z ≤ 8 ∧ O.wd .z ≤ 3), fun t ht => by rw [List.mem_singleton.mp ht]; exact okS_flat m b, (by show 1 ≤ 4; decide), rfl⟩
def spFlat (K : PySem.W.Frag) : Sp := fun vs H Q _ => ∃ (m : Nat) (v : Bool), vs = [.int (m : Nat), .bl v] ∧ m ≤ 10 ∧ ∀ (w : V) (H' : Hp), Same H H' → SA K H' m w (flatS m v) → Q w H'
end Vw

set_option Elab.async false
set_option linter.all false
set_option maxRecDepth 100000
/-! rows and stairs: where two stairs part (plain; for tidy) -/
namespace Vw
open PySem PySem.W PyProof.Rows L2
open O
/-- a row of n levels -/
def Row (n : Nat) (os : List O) : Prop := os.length = n ∧ (∀ o ∈ os, ok o = true) ∧ Steps os
theorem row_cons {n : Nat} {x : O} {r : List O} : Row (n + 1) (x :: r) ↔ ok x = true ∧ Row n r ∧ ∀ h, r.head? = some h → lt (endO x) h = false := by
  constructor
  · intro ⟨h1, h2, h3⟩
    refine ⟨h2 x List.mem_cons_self, ⟨by simpa using h1, fun o ho => h2 o (List.mem_cons_of_mem _ ho), fun i o p e1 e2 => h3 (i + 1) o p e1 e2⟩, fun h hh => ?_⟩
    cases r with
    | nil => cases hh
    | cons y s => exact h3 0 x h rfl hh
  · intro ⟨h1, ⟨h2, h3, h4⟩, h5⟩
    refine ⟨by simp [h2], fun o ho => ?_, fun i o p e1 e2 => ?_⟩
    · rcases List.mem_cons.mp ho with h | h
      · rw [h]; exact h1
      · exact h3 o h
    · cases i with
      | zero =>
        cases e1
        cases r with
        | nil => cases e2
        | cons y s => exact h5 p e2
      | succ i => exact h4 i o p e1 e2
/-- rows in their order, the first place first -/
def lexLt : List O → List O → Bool
  | x :: r, y :: s => lt x y || (decide (x = y) && lexLt r s)
  | _, _ => false
theorem lex_head {x y : O} {r s : List O} (h : lt x y = true) : lexLt (x :: r) (y :: s) = true := by
  show (lt x y || _) = true
  rw [h]; rfl
theorem lex_tail {x : O} {r s : List O} (h : lexLt r s = true) : lexLt (x :: r) (x :: s) = true := by
  show (lt x x || (decide (x = x) && lexLt r s)) = true
  rw [h, decide_eq_true rfl]; simp
theorem lex_cases {x y : O} {r s : List O} (h : lexLt (x :: r) (y :: s) = true) : lt x y = true ∨ (x = y ∧ lexLt r s = true) := by
  have h : (lt x y || (decide (x = y) && lexLt r s)) = true := h
  simp only [Bool.or_eq_true, Bool.and_eq_true, decide_eq_true_eq] at h
  exact h
/-- a row of the same length whose first is below is before -/
theorem lex_of_head {n : Nat} {r s : List O} {h : O} (hr : Row n r) (hs : Row n s) (e : s.head? = some h) (hl : ∀ g, r.head? = some g → lt g h = true) : lexLt r s = true := by
  cases s with
  | nil => cases e
  | cons y s =>
    cases e
    cases r with
    | nil => have := hr.1; have h2 := hs.1; simp at this h2; omega
    | cons x r => exact lex_head (hl x rfl)
/-- the least ordinal from b on that may stand ahead of r -/
def reachO (b : O) (r : List O) : O := match r with
  | [] => b
  | h :: _ => raisedO b h
theorem reach_ge {n : Nat} {b : O} {r : List O} (hb : ok b = true) (hr : Row n r) : lt (reachO b r) b = false := by
  cases r with
  | nil => exact lt_irrefl b
  | cons h r => exact raised_ge hb (hr.2.1 h List.mem_cons_self)
theorem reach_ok {n : Nat} {b : O} {r : List O} (hb : ok b = true) (hr : Row n r) : ok (reachO b r) = true := by
  cases r with
  | nil => exact hb
  | cons h r => exact ok_raised hb (hr.2.1 h List.mem_cons_self)
theorem reach_row {n : Nat} {b : O} {r : List O} (hb : ok b = true) (hr : Row n r) : Row (n + 1) (reachO b r :: r) := by
  refine row_cons.mpr ⟨reach_ok hb hr, hr, fun h e => ?_⟩
  cases r with
  | nil => cases e
  | cons g r =>
    obtain rfl : g = h := Option.some.inj e
    exact end_raised b g
/-- what stands below it cannot stand ahead of r -/
theorem reach_least {n : Nat} {b x : O} {r : List O} (hb : ok b = true) (hx : ok x = true) (hr : Row n r) (h1 : lt x b = false) (h2 : lt x (reachO b r) = true) : ∃ h, r.head? = some h ∧ lt (endO x) h = true := by
  cases r with
  | nil => rw [show reachO b [] = b from rfl, h1] at h2; cases h2
  | cons h r =>
    refine ⟨h, rfl, ?_⟩
    have h2 : lt x (raisedO b h) = true := h2
    by_cases e : lt (endO x) h = true
    · exact e
    · exfalso
      have e := Bool.eq_false_iff.mpr e
      by_cases g : lt (endO b) h = true
      · unfold raisedO at h2
        rw [if_pos g] at h2
        rw [raised_least hb hx g h1 e] at h2
        cases h2
      · unfold raisedO at h2
        rw [if_neg g, h1] at h2
        cases h2
/-! ### where two stairs part -/
/-- all places where one of two stairs changes -/
def insO (o : O) : List O → List O
  | [] => [o]
  | p :: r => if lt o p = true then o :: p :: r else if o = p then p :: r else p :: insO o r
def bsOf {α β : Type} (l1 : List (O × α)) (l2 : List (O × β)) : List O := (l1.map (·.1) ++ l2.map (·.1)).foldr insO []
def AscO (l : List O) : Prop := l.Pairwise fun a b => lt a b = true
theorem ins_mem {o x : O} : ∀ {l : List O}, x ∈ insO o l ↔ x = o ∨ x ∈ l
  | [] => by simp [insO]
  | p :: r => by
    unfold insO
    split
    · simp
    · split
      · rename_i h; subst h; simp
      · rw [List.mem_cons, ins_mem, List.mem_cons]
        constructor
        · rintro (h | h | h)
          · exact .inr (.inl h)
          · exact .inl h
          · exact .inr (.inr h)
        · rintro (h | h | h)
          · exact .inr (.inl h)
          · exact .inl h
          · exact .inr (.inr h)
theorem ins_asc {o : O} : ∀ {l : List O}, AscO l → AscO (insO o l)
  | [], _ => List.pairwise_singleton _ _
  | p :: r, h => by
    have h' := List.pairwise_cons.mp h
    unfold insO
    split
    · rename_i e
      refine List.pairwise_cons.mpr ⟨fun x hx => ?_, h⟩
      rcases List.mem_cons.mp hx with q | q
      · rw [q]; exact e
      · exact lt_trans _ _ _ e (h'.1 x q)
    · split
      · exact h
      · rename_i e1 e2
        refine List.pairwise_cons.mpr ⟨fun x hx => ?_, ins_asc h'.2⟩
        rcases ins_mem.mp hx with q | q
        · rw [q]
          rcases lt_total o p e2 with z | z
          · exact absurd z e1
          · exact z
        · exact h'.1 x q
theorem fold_asc : ∀ l : List O, AscO (l.foldr insO [])
  | [] => .nil
  | x :: r => ins_asc (fold_asc r)
theorem fold_mem {x : O} : ∀ {l : List O}, x ∈ l.foldr insO [] ↔ x ∈ l
  | [] => Iff.rfl
  | y :: r => by
    show x ∈ insO y (r.foldr insO []) ↔ _
    rw [ins_mem, fold_mem, List.mem_cons]
def partGo {n : Nat} (pn : SD n → SD n → Option (List O)) (l1 l2 : List (O × SD n)) : List O → Option (List O)
  | [] => none
  | b :: rest => match pn (pickS l1 b) (pickS l2 b) with
    | none => partGo pn l1 l2 rest
    | some r => if (match rest with
        | [] => true
        | c :: _ => lt (reachO b r) c) = true then some (reachO b r :: r) else partGo pn l1 l2 rest
/-- the first row where they part, as the program finds it -/
def partS : (n : Nat) → SD n → SD n → Option (List O)
  | 0, (a : Bool), (b : Bool) => if a = b then none else some []
  | n + 1, (l1 : List (O × SD n)), (l2 : List (O × SD n)) => partGo (partS n) l1 l2 (bsOf l1 l2)
/-- what is wanted of it -/
def Parts (n : Nat) (a b : SD n) (r : Option (List O)) : Prop := match r with
  | none => ∀ os, Row n os → valS n a os = valS n b os
  | some r => Row n r ∧ valS n a r ≠ valS n b r ∧ ∀ os, Row n os → lexLt os r = true → valS n a os = valS n b os
theorem pick_same {α : Type} {b x : O} : ∀ {l : List (O × α)} {d : α}, lt x b = false → (∀ t ∈ l, lt b t.1 = true → lt x t.1 = true) → pickGo x d l = pickGo b d l
  | [], _, _, _ => rfl
  | t :: r, d, h, hn => by
    have e : lt x t.1 = lt b t.1 := by
      cases g : lt b t.1 with
      | true => exact hn t List.mem_cons_self g
      | false => exact ge_trans h g
    show pickGo x (if lt x t.1 = true then d else t.2) r = pickGo b (if lt b t.1 = true then d else t.2) r
    rw [e]
    exact pick_same h fun t ht => hn t (List.mem_cons_of_mem _ ht)
/-- from b on, below the next of bs, nothing changes -/
def Cov {α : Type} (l : List (O × α)) (b : O) (rest : List O) : Prop := ∀ t ∈ l, lt b t.1 = true → t.1 ∈ rest
theorem cov_same {n : Nat} {l : List (O × SD n)} {b x : O} {rest : List O} (hc : Cov l b rest) (h : lt x b = false) (hx : ∀ c ∈ rest, lt x c = true) : pickS l x = pickS l b := pick_same h fun t ht g => hx _ (hc t ht g)
theorem asc_all {b x : O} {rest : List O} (h : AscO (b :: rest)) (hx : ∀ c, rest.head? = some c → lt x c = true) : ∀ c ∈ rest, lt x c = true := fun c hc => by
  cases rest with
  | nil => cases hc
  | cons d r =>
    have h1 := hx d rfl
    rcases List.mem_cons.mp hc with q | q
    · rw [q]; exact h1
    · exact lt_trans _ _ _ h1 ((List.pairwise_cons.mp (List.pairwise_cons.mp h).2).1 c q)
theorem valS_cons {n : Nat} (l : List (O × SD n)) (x : O) (r : List O) : valS (n + 1) l (x :: r) = valS n (pickS l x) r := rfl
theorem row_ex {n : Nat} {os : List O} (h : Row (n + 1) os) : ∃ x r, os = x :: r := by
  cases os with
  | nil => have := h.1; simp at this
  | cons x r => exact ⟨x, r, rfl⟩
theorem partGo_ok {n : Nat} {pn : SD n → SD n → Option (List O)} {l1 l2 : List (O × SD n)} (hp : ∀ b, Parts n (pickS l1 b) (pickS l2 b) (pn (pickS l1 b) (pickS l2 b))) : ∀ {bs : List O} {b : O} {rest : List O}, bs = b :: rest → AscO bs → (∀ c ∈ bs, ok c = true) → Cov l1 b rest → Cov l2 b rest →
    match partGo pn l1 l2 bs with
    | none => ∀ x r, Row (n + 1) (x :: r) → lt x b = false → valS (n + 1) l1 (x :: r) = valS (n + 1) l2 (x :: r)
    | some os => ∃ x r, os = x :: r ∧ lt x b = false ∧ Row (n + 1) os ∧ valS (n + 1) l1 os ≠ valS (n + 1) l2 os ∧ ∀ y s, Row (n + 1) (y :: s) → lt y b = false → lexLt (y :: s) os = true → valS (n + 1) l1 (y :: s) = valS (n + 1) l2 (y :: s)
  | _, b, [], rfl, ha, ho, c1, c2 => by
    have hb := ho b List.mem_cons_self
    have same : ∀ x r, lt x b = false → (valS (n + 1) l1 (x :: r) = valS n (pickS l1 b) r ∧ valS (n + 1) l2 (x :: r) = valS n (pickS l2 b) r) := fun x r h => by
      have h0 : ∀ c ∈ ([] : List O), lt x c = true := fun _ z => nomatch z
      rw [valS_cons, valS_cons, cov_same c1 h h0, cov_same c2 h h0]; exact ⟨rfl, rfl⟩
    have q := hp b
    unfold partGo
    cases e : pn (pickS l1 b) (pickS l2 b) with
    | none =>
      rw [e] at q
      intro x r hr h
      rw [(same x r h).1, (same x r h).2]
      exact q r (row_cons.mp hr).2.1
    | some r0 =>
      rw [e] at q
      obtain ⟨q1, q2, q3⟩ := q
      have hge := reach_ge hb q1
      refine ⟨_, _, rfl, hge, reach_row hb q1, by rw [(same _ _ hge).1, (same _ _ hge).2]; exact q2, fun y s hr h hl => ?_⟩
      rw [(same y s h).1, (same y s h).2]
      have hr' := row_cons.mp hr
      refine q3 s hr'.2.1 ?_
      rcases lex_cases hl with z | ⟨_, z⟩
      · obtain ⟨g, g1, g2⟩ := reach_least hb hr'.1 q1 h z
        exact lex_of_head hr'.2.1 q1 g1 fun k hk => ge_lt (hr'.2.2 k hk) g2
      · exact z
  | _, b, c :: rest, rfl, ha, ho, c1, c2 => by
    have hb := ho b List.mem_cons_self
    have ha' := List.pairwise_cons.mp ha
    have hbc : lt b c = true := ha'.1 c List.mem_cons_self
    have ih := partGo_ok (n := n) (pn := pn) (l1 := l1) (l2 := l2) hp (bs := c :: rest) (b := c) (rest := rest) rfl ha'.2 (fun x hx => ho x (List.mem_cons_of_mem _ hx))
      (fun t ht g => by
        have := c1 t ht (lt_trans _ _ _ hbc g)
        rcases List.mem_cons.mp this with z | z
        · rw [z, lt_irrefl] at g; cases g
        · exact z)
      (fun t ht g => by
        have := c2 t ht (lt_trans _ _ _ hbc g)
        rcases List.mem_cons.mp this with z | z
        · rw [z, lt_irrefl] at g; cases g
        · exact z)
    have same : ∀ x r, lt x b = false → lt x c = true → (valS (n + 1) l1 (x :: r) = valS n (pickS l1 b) r ∧ valS (n + 1) l2 (x :: r) = valS n (pickS l2 b) r) := fun x r h h2 => by
      have hx := asc_all (x := x) ha fun d hd => by
        obtain rfl : c = d := Option.some.inj hd
        exact h2
      rw [valS_cons, valS_cons, cov_same c1 h hx, cov_same c2 h hx]; exact ⟨rfl, rfl⟩
    have q := hp b
    -- below c nothing parts
    have go : (∀ y s, Row (n + 1) (y :: s) → lt y b = false → lt y c = true → valS (n + 1) l1 (y :: s) = valS (n + 1) l2 (y :: s)) → (match partGo pn l1 l2 (c :: rest) with
        | none => ∀ x r, Row (n + 1) (x :: r) → lt x b = false → valS (n + 1) l1 (x :: r) = valS (n + 1) l2 (x :: r)
        | some os => ∃ x r, os = x :: r ∧ lt x b = false ∧ Row (n + 1) os ∧ valS (n + 1) l1 os ≠ valS (n + 1) l2 os ∧ ∀ y s, Row (n + 1) (y :: s) → lt y b = false → lexLt (y :: s) os = true → valS (n + 1) l1 (y :: s) = valS (n + 1) l2 (y :: s)) := fun low => by
      cases e : partGo pn l1 l2 (c :: rest) with
      | none =>
        rw [e] at ih
        intro x r hr h
        by_cases g : lt x c = true
        · exact low x r hr h g
        · exact ih x r hr (Bool.eq_false_iff.mpr g)
      | some os =>
        rw [e] at ih
        obtain ⟨x, r, rfl, i1, i2, i3, i4⟩ := ih
        refine ⟨x, r, rfl, ge_trans i1 (lt_asymm hbc), i2, i3, fun y s hr h hl => ?_⟩
        by_cases g : lt y c = true
        · exact low y s hr h g
        · exact i4 y s hr (Bool.eq_false_iff.mpr g) hl
    have unf : partGo pn l1 l2 (b :: c :: rest) = (match pn (pickS l1 b) (pickS l2 b) with
      | none => partGo pn l1 l2 (c :: rest)
      | some r => if lt (reachO b r) c = true then some (reachO b r :: r) else partGo pn l1 l2 (c :: rest)) := rfl
    rw [unf]
    cases e : pn (pickS l1 b) (pickS l2 b) with
    | none =>
      rw [e] at q
      exact go fun y s hr h h2 => by
        rw [(same y s h h2).1, (same y s h h2).2]
        exact q s (row_cons.mp hr).2.1
    | some r0 =>
      rw [e] at q
      obtain ⟨q1, q2, q3⟩ := q
      have hge := reach_ge hb q1
      have low : ∀ y s, Row (n + 1) (y :: s) → lt y b = false → lt y c = true → lexLt (y :: s) (reachO b r0 :: r0) = true → valS (n + 1) l1 (y :: s) = valS (n + 1) l2 (y :: s) := fun y s hr h h2 hl => by
        rw [(same y s h h2).1, (same y s h h2).2]
        have hr' := row_cons.mp hr
        refine q3 s hr'.2.1 ?_
        rcases lex_cases hl with z | ⟨_, z⟩
        · obtain ⟨g, g1, g2⟩ := reach_least hb hr'.1 q1 h z
          exact lex_of_head hr'.2.1 q1 g1 fun k hk => ge_lt (hr'.2.2 k hk) g2
        · exact z
      by_cases g : lt (reachO b r0) c = true
      · show (match (if lt (reachO b r0) c = true then some (reachO b r0 :: r0) else partGo pn l1 l2 (c :: rest)) with
          | none => _
          | some os => _)
        rw [if_pos g]
        refine ⟨_, _, rfl, hge, reach_row hb q1, by rw [(same _ _ hge g).1, (same _ _ hge g).2]; exact q2, fun y s hr h hl => ?_⟩
        have hy : lt y c = true := by
          rcases lex_cases hl with z | ⟨z, _⟩
          · exact lt_trans _ _ _ z g
          · rw [z]; exact g
        exact low y s hr h hy hl
      · show (match (if lt (reachO b r0) c = true then some (reachO b r0 :: r0) else partGo pn l1 l2 (c :: rest)) with
          | none => _
          | some os => _)
        rw [if_neg g]
        exact go fun y s hr h h2 => low y s hr h h2 (lex_head (lt_ge h2 (Bool.eq_false_iff.mpr g)))
/-- a stair, of any size -/
def okW : (n : Nat) → SD n → Prop
  | 0, _ => True
  | n + 1, (l : List (O × SD n)) => l.head?.map (·.1) = some O.z ∧ Asc l ∧ (∀ t ∈ l, ok t.1 = true) ∧ ∀ t ∈ l, okW n t.2
theorem okS_W : ∀ (n : Nat) (s : SD n), okS n s → okW n s
  | 0, _, _ => trivial
  | n + 1, (l : List (O × SD n)), h => by
    obtain ⟨h1, h2, h3, h4, h5, h6⟩ := (h : l ≠ [] ∧ Asc l ∧ (∀ t ∈ l, O.ok t.1 = true ∧ O.dp t.1 ≤ 8 ∧ O.wd t.1 ≤ 3) ∧ (∀ t ∈ l, okS n t.2) ∧ l.length ≤ 4 ∧ l.head?.map (·.1) = some O.z)
    exact ⟨h6, h2, fun t ht => (h3 t ht).1, fun t ht => okS_W n _ (h4 t ht)⟩
theorem okW_head {n : Nat} {l : List (O × SD n)} (h : okW (n + 1) l) : ∃ i r, l = (z, i) :: r := by
  have h1 : l.head?.map (·.1) = some O.z := h.1
  cases l with
  | nil => cases h1
  | cons t r =>
    obtain ⟨o, i⟩ := t
    have h1 : some o = some O.z := h1
    cases h1
    exact ⟨i, r, rfl⟩
theorem okW_pick {n : Nat} {l : List (O × SD n)} (h : okW (n + 1) l) (o : O) : okW n (pickS l o) := by
  have h4 : ∀ t ∈ l, okW n t.2 := h.2.2.2
  rcases pickGo_mem (o := o) (l := l) (d := firstS l) with e | ⟨t, ht, e⟩
  · have e' : pickS l o = firstS l := e
    rw [e']
    obtain ⟨i, r, rfl⟩ := okW_head h
    exact h4 _ List.mem_cons_self
  · have e' : pickS l o = t.2 := e
    rw [e']; exact h4 t ht
theorem bs_mem {α β : Type} {l1 : List (O × α)} {l2 : List (O × β)} {x : O} : x ∈ bsOf l1 l2 ↔ (∃ t ∈ l1, t.1 = x) ∨ ∃ t ∈ l2, t.1 = x := by
  unfold bsOf
  rw [fold_mem, List.mem_append, List.mem_map, List.mem_map]
theorem partS_ok : ∀ (n : Nat) (a b : SD n), okW n a → okW n b → Parts n a b (partS n a b)
  | 0, (a : Bool), (b : Bool), _, _ => by
    show Parts 0 a b (if a = b then none else some [])
    by_cases e : a = b
    · rw [if_pos e]; intro os _; show (a : Bool) = b; exact e
    · rw [if_neg e]
      exact ⟨⟨rfl, (fun _ h => by cases h), steps_nil⟩, e, fun os _ h => by cases os <;> cases h⟩
  | n + 1, (l1 : List (O × SD n)), (l2 : List (O × SD n)), h1, h2 => by
    have asc : AscO (bsOf l1 l2) := fold_asc _
    have hok : ∀ c ∈ bsOf l1 l2, ok c = true := fun c hc => by
      rcases bs_mem.mp hc with ⟨t, ht, e⟩ | ⟨t, ht, e⟩
      · rw [← e]; exact h1.2.2.1 t ht
      · rw [← e]; exact h2.2.2.1 t ht
    have hz : z ∈ bsOf l1 l2 := by
      obtain ⟨i, r, e⟩ := okW_head h1
      exact bs_mem.mpr (.inl ⟨(z, i), by rw [e]; exact List.mem_cons_self, rfl⟩)
    show Parts (n + 1) l1 l2 (partGo (partS n) l1 l2 (bsOf l1 l2))
    cases e : bsOf l1 l2 with
    | nil => rw [e] at hz; cases hz
    | cons b rest =>
      rw [e] at asc hok hz
      have asc' := List.pairwise_cons.mp asc
      have hb : b = z := by
        rcases List.mem_cons.mp hz with q | q
        · exact q.symm
        · have := asc'.1 z q
          rw [not_lt_nil] at this; cases this
      have cov : ∀ {l : List (O × SD n)}, (∀ t ∈ l, t.1 ∈ bsOf l1 l2) → Cov l b rest := fun h t ht g => by
        have := h t ht
        rw [e] at this
        rcases List.mem_cons.mp this with q | q
        · rw [q, lt_irrefl] at g; cases g
        · exact q
      have r := partGo_ok (n := n) (pn := partS n) (l1 := l1) (l2 := l2) (fun c => partS_ok n _ _ (okW_pick h1 c) (okW_pick h2 c)) (bs := b :: rest) rfl asc hok
        (cov fun t ht => bs_mem.mpr (.inl ⟨t, ht, rfl⟩)) (cov fun t ht => bs_mem.mpr (.inr ⟨t, ht, rfl⟩))
      have hx : ∀ x : O, lt x b = false := fun x => by rw [hb]; exact not_lt_nil x
      cases q : partGo (partS n) l1 l2 (b :: rest) with
      | none =>
        rw [q] at r
        intro os ho
        obtain ⟨x, s, rfl⟩ := row_ex ho
        exact r x s ho (hx x)
      | some os =>
        rw [q] at r
        obtain ⟨x, s, rfl, _, r2, r3, r4⟩ := r
        refine ⟨r2, r3, fun ys hy hl => ?_⟩
        obtain ⟨y, s2, rfl⟩ := row_ex hy
        exact r4 y s2 hy (hx y) hl
end Vw

set_option Elab.async false
set_option linter.all false
set_option maxRecDepth 100000
/-! tidy stairs (plain): tidy keeps the rows -/
namespace Vw
open PySem PySem.W PyProof.Rows L2
open O
/-! ### picks -/
theorem pick_app {α : Type} {o : O} : ∀ {a b : List (O × α)} {d : α}, pickGo o d (a ++ b) = pickGo o (pickGo o d a) b
  | [], _, _ => rfl
  | t :: r, b, d => pick_app (a := r) (b := b)
theorem pick_filter {α : Type} {o : O} {p : O × α → Bool} : ∀ {l : List (O × α)} {d : α}, (∀ t ∈ l, p t = false → lt o t.1 = true) → pickGo o d (l.filter p) = pickGo o d l
  | [], _, _ => rfl
  | t :: r, d, h => by
    have hr : ∀ x ∈ r, p x = false → lt o x.1 = true := fun x hx => h x (List.mem_cons_of_mem _ hx)
    rw [List.filter_cons]
    cases e : p t with
    | true =>
      rw [if_pos rfl]
      exact pick_filter (d := if lt o t.1 = true then d else t.2) hr
    | false =>
      rw [if_neg (by decide)]
      have := h t List.mem_cons_self e
      show _ = pickGo o (if lt o t.1 = true then d else t.2) r
      rw [if_pos this]
      exact pick_filter hr
theorem pick_from {α : Type} {o b : O} (hb : lt o b = false) : ∀ {l : List (O × α)} {d : α}, Asc l → pickGo o (pickGo b d l) (l.filter fun t => lt b t.1) = pickGo o d l
  | [], _, _ => rfl
  | t :: r, d, h => by
    have h' := List.pairwise_cons.mp h
    cases e : lt b t.1 with
    | true =>
      have all : ∀ x ∈ t :: r, lt b x.1 = true := fun x hx => by
        rcases List.mem_cons.mp hx with q | q
        · rw [q]; exact e
        · exact lt_trans _ _ _ e (h'.1 x q)
      rw [pickGo_above all, List.filter_eq_self.mpr all]
    | false =>
      rw [List.filter_cons, if_neg (by rw [e]; decide)]
      have ho : lt o t.1 = false := ge_trans hb e
      show pickGo o (pickGo b (if lt b t.1 = true then d else t.2) r) _ = pickGo o (if lt o t.1 = true then d else t.2) r
      rw [e, ho]
      exact pick_from hb h'.2
theorem pick_dep {α : Type} {o : O} {t : O × α} {r : List (O × α)} (d d' : α) (h : lt o t.1 = false) : pickGo o d (t :: r) = pickGo o d' (t :: r) := by
  show pickGo o (if lt o t.1 = true then d else t.2) r = pickGo o (if lt o t.1 = true then d' else t.2) r
  rw [h]; rfl
theorem pickS_d {n : Nat} {l : List (O × SD n)} (h : okW (n + 1) l) (o : O) (d : SD n) : pickS l o = pickGo o d l := by
  obtain ⟨i, r, rfl⟩ := okW_head h
  exact pick_dep _ _ (not_lt_nil o)
/-! ### one stair below a bound, another from it on -/
def splice : (n : Nat) → SD n → SD n → O → SD n
  | 0, (b : Bool), _, _ => b
  | n + 1, (l1 : List (O × SD n)), (l2 : List (O × SD n)), bd => (l1.filter fun t => lt t.1 bd) ++ (bd, pickS l2 bd) :: (l2.filter fun t => lt bd t.1)
theorem splice_ok : ∀ {n : Nat} {a b : SD n} {bd : O}, okW n a → okW n b → ok bd = true → bd ≠ z → okW n (splice n a b bd)
  | 0, _, _, _, _, _, _, _ => trivial
  | n + 1, (l1 : List (O × SD n)), (l2 : List (O × SD n)), bd, h1, h2, hb, hz => by
    obtain ⟨i, r, e1⟩ := okW_head h1
    refine ⟨?_, ?_, fun t ht => ?_, fun t ht => ?_⟩
    · show (((l1.filter fun t => lt t.1 bd) ++ (bd, pickS l2 bd) :: (l2.filter fun t => lt bd t.1)).head?.map (·.1)) = some O.z
      rw [e1, List.filter_cons, if_pos (nil_lt hz)]; rfl
    · refine List.pairwise_append.mpr ⟨h1.2.1.filter _, List.pairwise_cons.mpr ⟨fun t ht => (List.mem_filter.mp ht).2, h2.2.1.filter _⟩, fun x hx y hy => ?_⟩
      have hx := (List.mem_filter.mp hx).2
      rcases List.mem_cons.mp hy with q | q
      · rw [q]; exact hx
      · exact lt_trans _ _ _ hx (List.mem_filter.mp q).2
    · have ht : t ∈ (l1.filter fun t => lt t.1 bd) ++ (bd, pickS l2 bd) :: (l2.filter fun t => lt bd t.1) := ht
      rcases List.mem_append.mp ht with q | q
      · exact h1.2.2.1 t (List.mem_filter.mp q).1
      · rcases List.mem_cons.mp q with q | q
        · rw [q]; exact hb
        · exact h2.2.2.1 t (List.mem_filter.mp q).1
    · have ht : t ∈ (l1.filter fun t => lt t.1 bd) ++ (bd, pickS l2 bd) :: (l2.filter fun t => lt bd t.1) := ht
      rcases List.mem_append.mp ht with q | q
      · exact h1.2.2.2 t (List.mem_filter.mp q).1
      · rcases List.mem_cons.mp q with q | q
        · rw [q]; exact okW_pick h2 bd
        · exact h2.2.2.2 t (List.mem_filter.mp q).1
theorem splice_pick {n : Nat} {l1 l2 : List (O × SD n)} {bd o : O} (h1 : okW (n + 1) l1) (h2 : okW (n + 1) l2) (hb : ok bd = true) (hz : bd ≠ z) : pickS (n := n) (splice (n + 1) l1 l2 bd) o = if lt o bd = true then pickS l1 o else pickS l2 o := by
  have hs := splice_ok (n := n + 1) (a := l1) (b := l2) h1 h2 hb hz
  rw [pickS_d hs o (firstS l1)]
  show pickGo o (firstS l1) ((l1.filter fun t => lt t.1 bd) ++ (bd, pickS l2 bd) :: (l2.filter fun t => lt bd t.1)) = _
  rw [pick_app]
  by_cases e : lt o bd = true
  · rw [if_pos e, pickGo_above (fun t ht => by
      rcases List.mem_cons.mp ht with q | q
      · rw [q]; exact e
      · exact lt_trans _ _ _ e (List.mem_filter.mp q).2)]
    exact pick_filter fun t _ g => lt_ge e g
  · rw [if_neg e]
    have e := Bool.eq_false_iff.mpr e
    show pickGo o (if lt o bd = true then _ else pickS l2 bd) (l2.filter fun t => lt bd t.1) = _
    rw [e]
    exact pick_from e h2.2.1
theorem splice_val {n : Nat} {a b : SD n} {bd : O} (h1 : okW n a) (h2 : okW n b) (hb : ok bd = true) (hz : bd ≠ z) {r : List O} (hr : Row n r) (h0 : n = 0 → a = b) :
    valS n (splice n a b bd) r = if (∀ h, r.head? = some h → lt h bd = true) then valS n a r else valS n b r := by
  cases n with
  | zero =>
    obtain rfl := h0 rfl
    show valS 0 a r = _
    split <;> rfl
  | succ n =>
    obtain ⟨x, s, rfl⟩ := row_ex hr
    show valS n (pickS (n := n) (splice (n + 1) a b bd) x) s = _
    rw [splice_pick h1 h2 hb hz]
    by_cases e : lt x bd = true
    · rw [if_pos e, if_pos (fun h hh => by obtain rfl : x = h := Option.some.inj hh; exact e)]; rfl
    · rw [if_neg e, if_neg (fun q => e (q x rfl))]; rfl
/-! ### as long as they stay alike -/
def ltO (o : O) : Option O → Bool
  | none => true
  | some l => lt o l
def nextO {α : Type} (rest : List (O × α)) (lim : Option O) : Option O := match rest with
  | [] => lim
  | t :: _ => some t.1
/-- where the second stair, from b on, is first other than the one before -/
def conf {n : Nat} (before inner : SD n) (bd b : O) : Option O := match partS n before inner with
  | none => none
  | some [] => some b
  | some (h :: r) => if lt h bd = true then some (reachO b (h :: r)) else none
theorem conf_some {n : Nat} {before inner : SD n} {bd b f : O} (h1 : okW n before) (h2 : okW n inner) (h : conf before inner bd b = some f) : ∃ r, Row n r ∧ f = reachO b r ∧ ∀ os, Row n os → lexLt os r = true → valS n before os = valS n inner os := by
  have q := partS_ok n before inner h1 h2
  unfold conf at h
  cases e : partS n before inner with
  | none => rw [e] at h; cases h
  | some r =>
    rw [e] at h q
    obtain ⟨q1, _, q3⟩ := q
    refine ⟨r, q1, ?_, q3⟩
    cases r with
    | nil => exact (Option.some.inj h).symm
    | cons g r =>
      have h : (if lt g bd = true then some (reachO b (g :: r)) else none) = some f := h
      split at h
      · exact (Option.some.inj h).symm
      · cases h
theorem conf_low {n : Nat} {before inner : SD n} {bd b f x : O} {r : List O} (h1 : okW n before) (h2 : okW n inner) (hb : ok b = true) (h : conf before inner bd b = some f) (hr : Row (n + 1) (x :: r)) (hx : lt x b = false) (hf : lt x f = true) : valS n before r = valS n inner r := by
  obtain ⟨r0, q1, rfl, q3⟩ := conf_some h1 h2 h
  have hr' := row_cons.mp hr
  obtain ⟨g, g1, g2⟩ := reach_least hb hr'.1 q1 hx hf
  exact q3 r hr'.2.1 (lex_of_head hr'.2.1 q1 g1 fun k hk => ge_lt (hr'.2.2 k hk) g2)
theorem conf_none {n : Nat} {before inner : SD n} {bd b : O} {r : List O} (h1 : okW n before) (h2 : okW n inner) (h : conf before inner bd b = none) (hr : Row n r) (hx : ∀ g, r.head? = some g → lt g bd = true) : valS n before r = valS n inner r := by
  have q := partS_ok n before inner h1 h2
  unfold conf at h
  cases e : partS n before inner with
  | none => rw [e] at q; exact q r hr
  | some r0 =>
    rw [e] at h q
    obtain ⟨q1, _, q3⟩ := q
    cases r0 with
    | nil => cases h
    | cons g r0 =>
      have h : (if lt g bd = true then some (reachO b (g :: r0)) else none) = none := h
      split at h
      · cases h
      · rename_i hg
        exact q3 r hr (lex_of_head hr q1 rfl fun k hk => lt_ge (hx k hk) (Bool.eq_false_iff.mpr hg))
theorem conf_zero {before inner : Bool} {bd b : O} (h : conf (n := 0) before inner bd b = none) : before = inner := by
  unfold conf at h
  have e : partS 0 before inner = if before = inner then none else some [] := rfl
  rw [e] at h
  by_cases q : before = inner
  · exact q
  · rw [if_neg q] at h; cases h
theorem conf_zero_some {before inner : Bool} {bd b f : O} (h : conf (n := 0) before inner bd b = some f) : f = b := by
  unfold conf at h
  have e : partS 0 before inner = if before = inner then none else some [] := rfl
  rw [e] at h
  by_cases q : before = inner
  · rw [if_pos q] at h; cases h
  · rw [if_neg q] at h; exact (Option.some.inj h).symm
theorem ok_lim {a b : O} (ha : ok a = true) (hb : ok b = true) (h : lt a b = true) : ok (endLim a b) = true := by
  have hg := ok_headE (ok_gap ha hb h)
  unfold endLim
  rcases maxO_or (sum (endO a) one) (if gap a b = pw (headE (gap a b)) then headE (gap a b) else sum (headE (gap a b)) one) with e | e
  · rw [e]; exact ok_sum _ _ (ok_end ha) ok_one
  · rw [e]
    split
    · exact hg
    · exact ok_sum _ _ hg ok_one
def longGo {n : Nat} (lim : Option O) : O → SD n → List (O × SD n) → List (O × SD n)
  | low, before, [] => [(low, before)]
  | low, before, t :: rest => match conf before t.2 (endLim low t.1) t.1 with
    | none => longGo lim low (splice n before t.2 (endLim low t.1)) rest
    | some f => if ltO f (nextO rest lim) = true then (low, before) :: longGo lim f t.2 rest else longGo lim low (splice n before t.2 (endLim low t.1)) rest
/-- the cells that are walked -/
structure Cells {n : Nat} (lim : Option O) (low : O) (before : SD n) (rest : List (O × SD n)) : Prop where
  okl : ok low = true
  bef : okW n before
  asc : Asc ((low, before) :: rest)
  ok : ∀ t ∈ rest, ok t.1 = true
  inn : ∀ t ∈ rest, okW n t.2
  blw : ∀ t ∈ rest, ltO t.1 lim = true
theorem ltO_trans {a b : O} {l : Option O} (h : lt a b = true) (h2 : ltO b l = true) : ltO a l = true := by
  cases l with
  | none => rfl
  | some c => exact lt_trans _ _ _ h h2
theorem longGo_ok {n : Nat} {lim : Option O} : ∀ {rest : List (O × SD n)} {low : O} {before : SD n}, Cells lim low before rest →
    (∃ i R', longGo lim low before rest = (low, i) :: R' ∧ Cells lim low i R') ∧
    ∀ x r d, Row (n + 1) (x :: r) → lt x low = false → ltO x lim = true → valS n (pickGo x d (longGo lim low before rest)) r = valS n (pickGo x d ((low, before) :: rest)) r
  | [], low, before, C => ⟨⟨before, [], rfl, C⟩, fun _ _ _ _ _ _ => rfl⟩
  | t :: rest, low, before, C => by
    obtain ⟨b, inner⟩ := t
    have asc' := List.pairwise_cons.mp C.asc
    have hlb : lt low b = true := asc'.1 (b, inner) List.mem_cons_self
    have asc2 := List.pairwise_cons.mp asc'.2
    have hb := C.ok (b, inner) List.mem_cons_self
    have hi := C.inn (b, inner) List.mem_cons_self
    have hbl := C.blw (b, inner) List.mem_cons_self
    have hbd : ok (endLim low b) = true := ok_lim C.okl hb hlb
    have hbz : endLim low b ≠ z := lim_ne C.okl hb hlb
    have hnext : ltO b (nextO rest lim) = true := by
      cases rest with
      | nil => exact hbl
      | cons u rest => exact asc2.1 u List.mem_cons_self
    -- what is not pushed
    have spl : (∀ x r, Row (n + 1) (x :: r) → lt x b = false → ltO x (nextO rest lim) = true → (∀ g, r.head? = some g → lt g (endLim low b) = true) → valS n before r = valS n inner r) → (n = 0 → before = inner) →
        (∃ i R', longGo lim low (splice n before inner (endLim low b)) rest = (low, i) :: R' ∧ Cells lim low i R') ∧
        ∀ x r d, Row (n + 1) (x :: r) → lt x low = false → ltO x lim = true → valS n (pickGo x d (longGo lim low (splice n before inner (endLim low b)) rest)) r = valS n (pickGo x d ((low, before) :: (b, inner) :: rest)) r := fun same h0 => by
      have Cs : Cells lim low (splice n before inner (endLim low b)) rest := ⟨C.okl, splice_ok C.bef hi hbd hbz, List.pairwise_cons.mpr ⟨fun t ht => asc'.1 t (List.mem_cons_of_mem _ ht), asc2.2⟩, fun t ht => C.ok t (List.mem_cons_of_mem _ ht), fun t ht => C.inn t (List.mem_cons_of_mem _ ht), fun t ht => C.blw t (List.mem_cons_of_mem _ ht)⟩
      obtain ⟨ih1, ih2⟩ := longGo_ok Cs
      refine ⟨ih1, fun x r d hr hx hl => ?_⟩
      rw [ih2 x r d hr hx hl]
      have e1 : pickGo x d ((low, splice n before inner (endLim low b)) :: rest) = pickGo x (splice n before inner (endLim low b)) rest := by
        show pickGo x (if lt x low = true then d else _) rest = _
        rw [hx]; rfl
      have e2 : pickGo x d ((low, before) :: (b, inner) :: rest) = pickGo x (if lt x b = true then before else inner) rest := by
        show pickGo x (if lt x b = true then (if lt x low = true then d else before) else inner) rest = _
        rw [hx]; rfl
      rw [e1, e2]
      have hr' := row_cons.mp hr
      -- at a cell of the rest both are the same
      have key : (∀ u ∈ rest, lt x u.1 = true) → ltO x (nextO rest lim) = true → valS n (splice n before inner (endLim low b)) r = valS n (if lt x b = true then before else inner) r := fun hall hn => by
        rw [splice_val C.bef hi hbd hbz hr'.2.1 h0]
        by_cases g : lt x b = true
        · rw [if_pos g, if_pos (fun h hh => ge_lt (hr'.2.2 h hh) (lim_above C.okl hb hlb hr'.1 hx g))]
        · rw [if_neg g]
          split
          · rename_i hc
            exact same x r hr (Bool.eq_false_iff.mpr g) hn hc
          · rfl
      cases rest with
      | nil => exact key (fun _ h => nomatch h) hl
      | cons u rest =>
        by_cases g : lt x u.1 = true
        · have hall : ∀ w ∈ u :: rest, lt x w.1 = true := fun w hw => by
            rcases List.mem_cons.mp hw with q | q
            · rw [q]; exact g
            · exact lt_trans _ _ _ g ((List.pairwise_cons.mp asc2.2).1 w q)
          rw [pickGo_above hall, pickGo_above hall]
          exact key hall g
        · rw [pick_dep _ (if lt x b = true then before else inner) (Bool.eq_false_iff.mpr g)]
    have unf : longGo lim low before ((b, inner) :: rest) = (match conf before inner (endLim low b) b with
      | none => longGo lim low (splice n before inner (endLim low b)) rest
      | some f => if ltO f (nextO rest lim) = true then (low, before) :: longGo lim f inner rest else longGo lim low (splice n before inner (endLim low b)) rest) := rfl
    cases e : conf before inner (endLim low b) b with
    | none =>
      have u1 : longGo lim low before ((b, inner) :: rest) = longGo lim low (splice n before inner (endLim low b)) rest := by rw [unf]; simp only [e]
      rw [u1]
      exact spl (fun x r hr _ _ hc => conf_none C.bef hi e (row_cons.mp hr).2.1 hc) fun h => by subst h; exact conf_zero e
    | some f =>
      obtain ⟨r0, q1, qf, _⟩ := conf_some C.bef hi e
      have hfb : lt f b = false := by rw [qf]; exact reach_ge hb q1
      have hf : ok f = true := by rw [qf]; exact reach_ok hb q1
      by_cases g : ltO f (nextO rest lim) = true
      · have u1 : longGo lim low before ((b, inner) :: rest) = (low, before) :: longGo lim f inner rest := by rw [unf]; simp only [e]; exact if_pos g
        rw [u1]
        have hlf : lt low f = true := lt_ge hlb hfb
        have hfr : ∀ u ∈ rest, lt f u.1 = true := fun u hu => by
          cases rest with
          | nil => cases hu
          | cons w rest =>
            rcases List.mem_cons.mp hu with q | q
            · rw [q]; exact g
            · exact lt_trans _ _ _ (show lt f w.1 = true from g) ((List.pairwise_cons.mp asc2.2).1 u q)
        have hfl : ltO f lim = true := by
          cases rest with
          | nil => exact g
          | cons w rest => exact ltO_trans (show lt f w.1 = true from g) (C.blw w (List.mem_cons_of_mem _ List.mem_cons_self))
        have Cf : Cells lim f inner rest := ⟨hf, hi, List.pairwise_cons.mpr ⟨hfr, asc2.2⟩, fun t ht => C.ok t (List.mem_cons_of_mem _ ht), fun t ht => C.inn t (List.mem_cons_of_mem _ ht), fun t ht => C.blw t (List.mem_cons_of_mem _ ht)⟩
        obtain ⟨⟨i, R', eR, CR⟩, ih2⟩ := longGo_ok Cf
        have ascR := List.pairwise_cons.mp CR.asc
        refine ⟨⟨before, _, rfl, ⟨C.okl, C.bef, ?_, ?_, ?_, ?_⟩⟩, fun x r d hr hx hl => ?_⟩
        · rw [eR]
          refine List.pairwise_cons.mpr ⟨fun t ht => ?_, CR.asc⟩
          rcases List.mem_cons.mp ht with q | q
          · rw [q]; exact hlf
          · exact lt_trans _ _ _ hlf (ascR.1 t q)
        · rw [eR]
          intro t ht
          rcases List.mem_cons.mp ht with q | q
          · rw [q]; exact hf
          · exact CR.ok t q
        · rw [eR]
          intro t ht
          rcases List.mem_cons.mp ht with q | q
          · rw [q]; exact CR.bef
          · exact CR.inn t q
        · rw [eR]
          intro t ht
          rcases List.mem_cons.mp ht with q | q
          · rw [q]; exact hfl
          · exact CR.blw t q
        · have e1 : pickGo x d ((low, before) :: longGo lim f inner rest) = pickGo x before (longGo lim f inner rest) := by
            show pickGo x (if lt x low = true then d else before) _ = _
            rw [hx]; rfl
          have e2 : pickGo x d ((low, before) :: (b, inner) :: rest) = pickGo x (if lt x b = true then before else inner) rest := by
            show pickGo x (if lt x b = true then (if lt x low = true then d else before) else inner) rest = _
            rw [hx]; rfl
          rw [e1, e2]
          by_cases k : lt x f = true
          · have all1 : ∀ t ∈ longGo lim f inner rest, lt x t.1 = true := fun t ht => by
              rw [eR] at ht
              rcases List.mem_cons.mp ht with q | q
              · rw [q]; exact k
              · exact lt_trans _ _ _ k (ascR.1 t q)
            rw [pickGo_above all1, pickGo_above fun t ht => lt_trans _ _ _ k (hfr t ht)]
            by_cases g2 : lt x b = true
            · rw [if_pos g2]
            · rw [if_neg g2]
              exact conf_low C.bef hi hb e hr (Bool.eq_false_iff.mpr g2) k
          · have k := Bool.eq_false_iff.mpr k
            have hxb : lt x b = false := ge_trans k hfb
            rw [ih2 x r before hr k hl, hxb]
            have e3 : pickGo x before ((f, inner) :: rest) = pickGo x inner rest := by
              show pickGo x (if lt x f = true then before else inner) rest = _
              rw [k]; rfl
            rw [e3]; rfl
      · have u1 : longGo lim low before ((b, inner) :: rest) = longGo lim low (splice n before inner (endLim low b)) rest := by rw [unf]; simp only [e]; exact if_neg g
        rw [u1]
        refine spl (fun x r hr hx hn _ => conf_low C.bef hi hb e hr hx ?_) fun h => ?_
        · cases q : nextO rest lim with
          | none => rw [q] at g; exact absurd rfl g
          | some c =>
            rw [q] at g hn
            exact lt_ge hn (Bool.eq_false_iff.mpr g)
        · subst h
          rw [conf_zero_some e] at g
          exact absurd hnext g
/-! ### tidy -/
def limO (low : O) : Option O → Option O
  | none => none
  | some h => some (endLim low h)
def tidyCells {n : Nat} (f : SD n → Option O → SD n) (lim : Option O) : List (O × SD n) → List (O × SD n)
  | [] => []
  | t :: rest => (t.1, f t.2 (limO t.1 (nextO rest lim))) :: tidyCells f lim rest
def longest {n : Nat} (lim : Option O) (l : List (O × SD n)) : List (O × SD n) := match l.filter fun t => ltO t.1 lim with
  | [] => []
  | t :: rest => longGo lim t.1 t.2 rest
def tidyB : (n : Nat) → SD n → Option O → SD n
  | 0, (b : Bool), _ => b
  | n + 1, (l : List (O × SD n)), lim => tidyCells (tidyB n) lim (longest lim l)
def LimOk (lim : Option O) : Prop := ∀ h, lim = some h → ok h = true ∧ h ≠ z
theorem starts_same {n : Nat} {f : SD n → Option O → SD n} {lim : Option O} : ∀ l : List (O × SD n), (tidyCells f lim l).map (·.1) = l.map (·.1)
  | [] => rfl
  | t :: rest => congrArg (t.1 :: ·) (starts_same rest)
/-- what is wanted of the tidying of the level below -/
def Keeps {n : Nat} (f : SD n → Option O → SD n) : Prop := ∀ s lim, okW n s → LimOk lim → okW n (f s lim) ∧ ∀ r, Row n r → (∀ h, r.head? = some h → ltO h lim = true) → valS n (f s lim) r = valS n s r
theorem Cells.tail {n : Nat} {lim : Option O} {low b : O} {i j : SD n} {R : List (O × SD n)} (C : Cells lim low i ((b, j) :: R)) : Cells lim b j R :=
  ⟨C.ok (b, j) List.mem_cons_self, C.inn (b, j) List.mem_cons_self, (List.pairwise_cons.mp C.asc).2, fun t ht => C.ok t (List.mem_cons_of_mem _ ht), fun t ht => C.inn t (List.mem_cons_of_mem _ ht), fun t ht => C.blw t (List.mem_cons_of_mem _ ht)⟩
theorem limO_ok {low : O} {l : Option O} (hl : ok low = true) (h : ∀ c, l = some c → ok c = true ∧ lt low c = true) : LimOk (limO low l) := by
  cases l with
  | none => exact fun c h => by cases h
  | some c =>
    obtain ⟨h1, h2⟩ := h c rfl
    intro d hd
    obtain rfl : endLim low c = d := Option.some.inj hd
    exact ⟨ok_lim hl h1 h2, lim_ne hl h1 h2⟩
theorem limO_head {n : Nat} {low x : O} {r : List O} {l : Option O} (hl : ok low = true) (h : ∀ c, l = some c → ok c = true ∧ lt low c = true) (hr : Row (n + 1) (x :: r)) (hx : lt x low = false) (hn : ltO x l = true) : ∀ g, r.head? = some g → ltO g (limO low l) = true := fun g hg => by
  cases l with
  | none => rfl
  | some c =>
    obtain ⟨h1, h2⟩ := h c rfl
    have hr' := row_cons.mp hr
    exact ge_lt (hr'.2.2 g hg) (lim_above hl h1 h2 hr'.1 hx hn)
theorem cells_next {n : Nat} {lim : Option O} {low : O} {i : SD n} {R : List (O × SD n)} (C : Cells lim low i R) (hl : ltO low lim = true) (ho : LimOk lim) : ∀ c, nextO R lim = some c → ok c = true ∧ lt low c = true := fun c hc => by
  cases R with
  | nil =>
    have hc : lim = some c := hc
    subst hc
    exact ⟨(ho c rfl).1, hl⟩
  | cons t R =>
    obtain rfl : t.1 = c := Option.some.inj hc
    exact ⟨C.ok t List.mem_cons_self, (List.pairwise_cons.mp C.asc).1 t List.mem_cons_self⟩
theorem cells_val {n : Nat} {f : SD n → Option O → SD n} (hf : Keeps f) {lim : Option O} (ho : LimOk lim) : ∀ {R : List (O × SD n)} {low : O} {i : SD n}, Cells lim low i R → ltO low lim = true →
    (∀ t ∈ tidyCells f lim ((low, i) :: R), okW n t.2) ∧ ∀ x r d, Row (n + 1) (x :: r) → lt x low = false → ltO x lim = true → valS n (pickGo x d (tidyCells f lim ((low, i) :: R))) r = valS n (pickGo x d ((low, i) :: R)) r
  | [], low, i, C, hl => by
    have hn := cells_next C hl ho
    have k := hf i (limO low (nextO [] lim)) C.bef (limO_ok C.okl hn)
    refine ⟨fun t ht => by rw [List.mem_singleton.mp ht]; exact k.1, fun x r d hr hx hxl => ?_⟩
    show valS n (if lt x low = true then d else f i (limO low (nextO [] lim))) r = valS n (if lt x low = true then d else i) r
    rw [hx]
    exact k.2 r (row_cons.mp hr).2.1 (limO_head C.okl hn hr hx hxl)
  | (b, j) :: R, low, i, C, hl => by
    have hn := cells_next C hl ho
    have k := hf i (limO low (nextO ((b, j) :: R) lim)) C.bef (limO_ok C.okl hn)
    obtain ⟨ih1, ih2⟩ := cells_val hf ho C.tail (C.blw (b, j) List.mem_cons_self)
    refine ⟨fun t ht => ?_, fun x r d hr hx hxl => ?_⟩
    · rcases List.mem_cons.mp ht with q | q
      · rw [q]; exact k.1
      · exact ih1 t q
    · have e1 : pickGo x d (tidyCells f lim ((low, i) :: (b, j) :: R)) = pickGo x (f i (limO low (nextO ((b, j) :: R) lim))) (tidyCells f lim ((b, j) :: R)) := by
        show pickGo x (if lt x low = true then d else _) _ = _
        rw [hx]; rfl
      have e2 : pickGo x d ((low, i) :: (b, j) :: R) = pickGo x i ((b, j) :: R) := by
        show pickGo x (if lt x low = true then d else i) _ = _
        rw [hx]; rfl
      rw [e1, e2]
      by_cases g : lt x b = true
      · have asc := List.pairwise_cons.mp (List.pairwise_cons.mp C.asc).2
        have all : ∀ t ∈ (b, j) :: R, lt x t.1 = true := fun t ht => by
          rcases List.mem_cons.mp ht with q | q
          · rw [q]; exact g
          · exact lt_trans _ _ _ g (asc.1 t q)
        have all2 : ∀ t ∈ tidyCells f lim ((b, j) :: R), lt x t.1 = true := fun t ht => by
          have : t.1 ∈ (tidyCells f lim ((b, j) :: R)).map (·.1) := List.mem_map.mpr ⟨t, ht, rfl⟩
          rw [starts_same] at this
          obtain ⟨u, hu, e⟩ := List.mem_map.mp this
          rw [← e]; exact all u hu
        rw [pickGo_above all, pickGo_above all2]
        exact k.2 r (row_cons.mp hr).2.1 (limO_head C.okl hn hr hx g)
      · exact ih2 x r _ hr (Bool.eq_false_iff.mpr g) hxl |>.trans (by rw [pick_dep _ i (Bool.eq_false_iff.mpr g)])
theorem tidy_keeps : ∀ n : Nat, Keeps (tidyB n)
  | 0 => fun s lim _ _ => ⟨trivial, fun _ _ _ => rfl⟩
  | n + 1 => fun (l : List (O × SD n)) lim h ho => by
    have hz : ltO z lim = true := by
      cases lim with
      | none => rfl
      | some L => exact nil_lt (ho L rfl).2
    obtain ⟨i, r0, el⟩ := okW_head h
    have ef : l.filter (fun t => ltO t.1 lim) = (z, i) :: r0.filter fun t => ltO t.1 lim := by
      rw [el, List.filter_cons, if_pos hz]
    have elong : longest lim l = longGo lim z i (r0.filter fun t => ltO t.1 lim) := by
      unfold longest
      rw [ef]
    have C : Cells lim z i (r0.filter fun t => ltO t.1 lim) := by
      refine ⟨rfl, ?_, ?_, fun t ht => ?_, fun t ht => ?_, fun t ht => (List.mem_filter.mp ht).2⟩
      · exact h.2.2.2 (z, i) (by rw [el]; exact List.mem_cons_self)
      · rw [← ef]; exact h.2.1.filter _
      · exact h.2.2.1 t (by rw [el]; exact List.mem_cons_of_mem _ (List.mem_filter.mp ht).1)
      · exact h.2.2.2 t (by rw [el]; exact List.mem_cons_of_mem _ (List.mem_filter.mp ht).1)
    obtain ⟨⟨i2, R, eR, CR⟩, hv⟩ := longGo_ok C
    have et : tidyB (n + 1) l lim = tidyCells (tidyB n) lim ((z, i2) :: R) := by
      show tidyCells (tidyB n) lim (longest lim l) = _
      rw [elong, eR]
    obtain ⟨c1, c2⟩ := cells_val (tidy_keeps n) ho CR hz
    have okT : okW (n + 1) (tidyCells (tidyB n) lim ((z, i2) :: R) : List (O × SD n)) := by
      refine ⟨rfl, ?_, fun t ht => ?_, c1⟩
      · have : ((tidyCells (tidyB n) lim ((z, i2) :: R)).map (·.1)).Pairwise fun a b => lt a b = true := by
          rw [starts_same]
          exact List.pairwise_map.mpr CR.asc
        exact List.pairwise_map.mp this
      · have : t.1 ∈ (tidyCells (tidyB n) lim ((z, i2) :: R)).map (·.1) := List.mem_map.mpr ⟨t, ht, rfl⟩
        rw [starts_same] at this
        obtain ⟨u, hu, e⟩ := List.mem_map.mp this
        rw [← e]
        rcases List.mem_cons.mp hu with q | q
        · rw [q]; rfl
        · exact CR.ok u q
    rw [et]
    refine ⟨okT, fun os hr hh => ?_⟩
    obtain ⟨x, r, rfl⟩ := row_ex hr
    have hx : ltO x lim = true := hh x rfl
    show valS n (pickS (tidyCells (tidyB n) lim ((z, i2) :: R)) x) r = valS n (pickS l x) r
    rw [pickS_d okT x (SD.dflt n), pickS_d h x (SD.dflt n), c2 x r _ hr (not_lt_nil x) hx, ← eR, hv x r _ hr (not_lt_nil x) hx, ← ef]
    rw [pick_filter fun t _ g => by
      cases lim with
      | none => cases g
      | some L => exact lt_ge (show lt x L = true from hx) g]
/-- tidy keeps the rows -/
theorem tidy_val {n : Nat} {s : SD n} (h : okW n s) : okW n (tidyB n s none) ∧ ∀ r, Row n r → valS n (tidyB n s none) r = valS n s r :=
  ⟨(tidy_keeps n s none h fun _ h => by cases h).1, fun r hr => (tidy_keeps n s none h fun _ h => by cases h).2 r hr fun _ _ => rfl⟩
end Vw

set_option Elab.async false
set_option linter.all false
set_option maxRecDepth 100000
/-! tidy stairs (plain): what is tidy, and that there is one alone -/
namespace Vw
open PySem PySem.W PyProof.Rows L2
open O
/-- a difference of two cells that shows at once -/
def DiffAt {n : Nat} (low : O) (i : SD n) (f : O) (j : SD n) : Prop := ∃ r, Row n r ∧ valS n i r ≠ valS n j r ∧ ∀ h, r.head? = some h → lt h (endLim low f) = true ∧ lt (endO f) h = false
def TiCells {n : Nat} (P : SD n → Option O → Prop) (lim : Option O) : List (O × SD n) → Prop
  | [] => True
  | t :: rest => P t.2 (limO t.1 (nextO rest lim)) ∧ (∀ u, rest.head? = some u → DiffAt t.1 t.2 u.1 u.2) ∧ TiCells P lim rest
def IsTi : (n : Nat) → SD n → Option O → Prop
  | 0, _, _ => True
  | n + 1, (l : List (O × SD n)), lim => TiCells (IsTi n) lim l ∧ ∀ t ∈ l, ltO t.1 lim = true
/-- what stands ahead of r below the next -/
theorem reach_lt {n : Nat} {low : O} {r : List O} {l : Option O} (hl : ok low = true) (hr : Row n r) (h : ∀ c, l = some c → ok c = true ∧ lt low c = true) (hh : ∀ g, r.head? = some g → ltO g (limO low l) = true) : ltO (reachO low r) l = true := by
  cases l with
  | none => rfl
  | some c =>
    obtain ⟨h1, h2⟩ := h c rfl
    cases r with
    | nil => exact h2
    | cons g r =>
      have hg : lt g (endLim low c) = true := hh g rfl
      have gok := hr.2.1 g List.mem_cons_self
      show lt (raisedO low g) c = true
      cases q : lt (raisedO low g) c with
      | true => rfl
      | false =>
        by_cases gz : g = z
        · subst gz
          have e : raisedO low z = low := by unfold raisedO; rw [if_neg (by rw [not_lt_nil]; decide)]
          rw [e, h2] at q; cases q
        · have := lim_least hl h1 h2 gok gz q
          rw [hg] at this; cases this
theorem pick_first {n : Nat} {x low : O} {i d : SD n} {R : List (O × SD n)} (hx : lt x low = false) (h : ∀ t ∈ R, lt x t.1 = true) : pickGo x d ((low, i) :: R) = i := by
  show pickGo x (if lt x low = true then d else i) R = i
  rw [hx]
  exact pickGo_above h
theorem all_above {n : Nat} {lim : Option O} {low x : O} {i : SD n} {R : List (O × SD n)} (C : Cells lim low i R) (h : ltO x (nextO R lim) = true) : ∀ t ∈ R, lt x t.1 = true := fun t ht => by
  cases R with
  | nil => cases ht
  | cons u R =>
    have h : lt x u.1 = true := h
    rcases List.mem_cons.mp ht with q | q
    · rw [q]; exact h
    · exact lt_trans _ _ _ h ((List.pairwise_cons.mp (List.pairwise_cons.mp C.asc).2).1 t q)
/-- alike from low on -/
def Alike {n : Nat} (lim : Option O) (low : O) (l1 l2 : List (O × SD n)) : Prop := ∀ x r d, Row (n + 1) (x :: r) → lt x low = false → ltO x lim = true → valS n (pickGo x d l1) r = valS n (pickGo x d l2) r
theorem next_not {n : Nat} {lim : Option O} {low b : O} {i i2 j : SD n} {R1 R2 : List (O × SD n)} (C1 : Cells lim low i ((b, i2) :: R1)) (C2 : Cells lim low j R2) (hl : ltO low lim = true) (ho : LimOk lim)
    (D : DiffAt low i b i2) (A : Alike lim low ((low, i) :: (b, i2) :: R1) ((low, j) :: R2)) : ltO b (nextO R2 lim) = false := by
  obtain ⟨r, hr, hd, hh⟩ := D
  have hb := C1.ok (b, i2) List.mem_cons_self
  have hlb : lt low b = true := (List.pairwise_cons.mp C1.asc).1 (b, i2) List.mem_cons_self
  have hxb : lt (reachO low r) b = true := reach_lt (l := some b) C1.okl hr (fun c hc => by obtain rfl : b = c := Option.some.inj hc; exact ⟨hb, hlb⟩) fun g hg => (hh g hg).1
  have rx := reach_row C1.okl hr
  have gx := reach_ge C1.okl hr
  have rb : Row (n + 1) (b :: r) := row_cons.mpr ⟨hb, hr, fun h e => (hh h e).2⟩
  cases q : ltO b (nextO R2 lim) with
  | false => rfl
  | true =>
    exfalso
    have hbl := C1.blw (b, i2) List.mem_cons_self
    have asc2 := List.pairwise_cons.mp (List.pairwise_cons.mp C1.asc).2
    have a1 := A (reachO low r) r i rx gx (ltO_trans hxb hbl)
    have a2 := A b r i rb (lt_asymm hlb) hbl
    have u2 := all_above C2 q
    rw [pick_first gx (fun t ht => by
      rcases List.mem_cons.mp ht with z | z
      · rw [z]; exact hxb
      · exact lt_trans _ _ _ hxb (asc2.1 t z)), pick_first gx (fun t ht => lt_trans _ _ _ hxb (u2 t ht))] at a1
    have e3 : pickGo b i ((low, i) :: (b, i2) :: R1) = i2 := by
      show pickGo b (if lt b low = true then i else i) ((b, i2) :: R1) = i2
      exact pick_first (lt_irrefl b) fun t ht => asc2.1 t ht
    rw [e3, pick_first (lt_asymm hlb) u2] at a2
    exact hd (a1.trans a2.symm)
theorem uniq_cells {n : Nat} {P : SD n → Option O → Prop} (hu : ∀ s t lim, okW n s → okW n t → LimOk lim → P s lim → P t lim → (∀ r, Row n r → (∀ h, r.head? = some h → ltO h lim = true) → valS n s r = valS n t r) → s = t) {lim : Option O} (ho : LimOk lim) :
    ∀ {R1 R2 : List (O × SD n)} {low : O} {i j : SD n}, Cells lim low i R1 → Cells lim low j R2 → ltO low lim = true → TiCells P lim ((low, i) :: R1) → TiCells P lim ((low, j) :: R2) → Alike lim low ((low, i) :: R1) ((low, j) :: R2) → (low, i) :: R1 = (low, j) :: R2 := by
  intro R1
  induction R1 with
  | nil =>
    intro R2 low i j C1 C2 hl T1 T2 A
    cases R2 with
    | cons c R2 =>
      obtain ⟨c, j2⟩ := c
      have := next_not C2 C1 hl ho (T2.2.1 (c, j2) rfl) fun x r d h1 h2 h3 => (A x r d h1 h2 h3).symm
      rw [show ltO c (nextO [] lim) = true from C2.blw (c, j2) List.mem_cons_self] at this
      cases this
    | nil =>
      have hn := cells_next C1 hl ho
      have : i = j := hu i j _ C1.bef C2.bef (limO_ok C1.okl hn) T1.1 T2.1 fun r hr hh => by
        have hx := reach_lt (l := nextO [] lim) C1.okl hr hn hh
        have := A (reachO low r) r i (reach_row C1.okl hr) (reach_ge C1.okl hr) hx
        rw [pick_first (reach_ge C1.okl hr) (fun t ht => by cases ht), pick_first (reach_ge C1.okl hr) (fun t ht => by cases ht)] at this
        exact this
      rw [this]
  | cons t R1 ih =>
    obtain ⟨b, i2⟩ := t
    intro R2 low i j C1 C2 hl T1 T2 A
    cases R2 with
    | nil =>
      have := next_not C1 C2 hl ho (T1.2.1 (b, i2) rfl) A
      rw [show ltO b (nextO [] lim) = true from C1.blw (b, i2) List.mem_cons_self] at this
      cases this
    | cons c R2 =>
      obtain ⟨c, j2⟩ := c
      have n1 : lt b c = false := next_not C1 C2 hl ho (T1.2.1 (b, i2) rfl) A
      have n2 : lt c b = false := next_not C2 C1 hl ho (T2.2.1 (c, j2) rfl) fun x r d h1 h2 h3 => (A x r d h1 h2 h3).symm
      obtain rfl : b = c := eq_of n1 n2
      have hn := cells_next C1 hl ho
      have e1 : i = j := hu i j _ C1.bef C2.bef (limO_ok C1.okl hn) T1.1 T2.1 fun r hr hh => by
        have hx := reach_lt (l := nextO ((b, i2) :: R1) lim) C1.okl hr hn hh
        have hb : lt (reachO low r) b = true := hx
        have := A (reachO low r) r i (reach_row C1.okl hr) (reach_ge C1.okl hr) (ltO_trans hb (C1.blw (b, i2) List.mem_cons_self))
        rw [pick_first (reach_ge C1.okl hr) (all_above C1 hx), pick_first (reach_ge C1.okl hr) (all_above C2 hx)] at this
        exact this
      have hlb : lt low b = true := (List.pairwise_cons.mp C1.asc).1 (b, i2) List.mem_cons_self
      have e2 := ih (R2 := R2) (low := b) (i := i2) (j := j2) C1.tail C2.tail (C1.blw (b, i2) List.mem_cons_self) T1.2.2 T2.2.2 fun x r d h1 h2 h3 => by
        have hxl : lt x low = false := ge_trans h2 (lt_asymm hlb)
        have := A x r d h1 hxl h3
        have f1 : pickGo x d ((low, i) :: (b, i2) :: R1) = pickGo x d ((b, i2) :: R1) := by
          show pickGo x (if lt x low = true then d else i) ((b, i2) :: R1) = _
          exact pick_dep _ _ h2
        have f2 : pickGo x d ((low, j) :: (b, j2) :: R2) = pickGo x d ((b, j2) :: R2) := by
          show pickGo x (if lt x low = true then d else j) ((b, j2) :: R2) = _
          exact pick_dep _ _ h2
        rw [f1, f2] at this
        exact this
      rw [e1, e2]
theorem cells_of {n : Nat} {l : List (O × SD n)} {lim : Option O} (h : okW (n + 1) l) (hb : ∀ t ∈ l, ltO t.1 lim = true) : ∃ i R, l = (z, i) :: R ∧ Cells lim z i R := by
  obtain ⟨i, R, rfl⟩ := okW_head h
  exact ⟨i, R, rfl, ⟨rfl, h.2.2.2 _ List.mem_cons_self, h.2.1, fun t ht => h.2.2.1 t (List.mem_cons_of_mem _ ht), fun t ht => h.2.2.2 t (List.mem_cons_of_mem _ ht), fun t ht => hb t (List.mem_cons_of_mem _ ht)⟩⟩
/-- tidy stairs of the same rows are the same -/
theorem tidy_uniq : ∀ (n : Nat) (s t : SD n) (lim : Option O), okW n s → okW n t → LimOk lim → IsTi n s lim → IsTi n t lim → (∀ r, Row n r → (∀ h, r.head? = some h → ltO h lim = true) → valS n s r = valS n t r) → s = t
  | 0, (a : Bool), (b : Bool), _, _, _, _, _, _, h => h [] ⟨rfl, (fun _ h => by cases h), steps_nil⟩ fun _ h => by cases h
  | n + 1, (l1 : List (O × SD n)), (l2 : List (O × SD n)), lim, h1, h2, ho, T1, T2, hv => by
    obtain ⟨i, R1, e1, C1⟩ := cells_of h1 T1.2
    obtain ⟨j, R2, e2, C2⟩ := cells_of h2 T2.2
    have hz : ltO z lim = true := by
      cases lim with
      | none => rfl
      | some L => exact nil_lt (ho L rfl).2
    have t1 := T1.1
    have t2 := T2.1
    rw [e1] at t1
    rw [e2] at t2
    have := uniq_cells (P := IsTi n) (fun s t lim => tidy_uniq n s t lim) ho C1 C2 hz t1 t2 fun x r d hr _ hx => by
      have := hv (x :: r) hr fun h hh => by obtain rfl : x = h := Option.some.inj hh; exact hx
      have this : valS n (pickS l1 x) r = valS n (pickS l2 x) r := this
      rw [pickS_d h1 x d, pickS_d h2 x d, e1, e2] at this
      exact this
    rw [e1, e2]; exact this
/-! ### what tidy makes is tidy -/
theorem conf_diff {n : Nat} {before inner : SD n} {bd b f : O} (h1 : okW n before) (h2 : okW n inner) (h : conf before inner bd b = some f) : ∃ r, Row n r ∧ f = reachO b r ∧ valS n before r ≠ valS n inner r ∧ ∀ g, r.head? = some g → lt g bd = true := by
  have q := partS_ok n before inner h1 h2
  unfold conf at h
  cases e : partS n before inner with
  | none => rw [e] at h; cases h
  | some r =>
    rw [e] at h q
    obtain ⟨q1, q2, _⟩ := q
    cases r with
    | nil => exact ⟨[], q1, (Option.some.inj h).symm, q2, fun g hg => by cases hg⟩
    | cons g r =>
      have h : (if lt g bd = true then some (reachO b (g :: r)) else none) = some f := h
      split at h
      · rename_i hg
        exact ⟨g :: r, q1, (Option.some.inj h).symm, q2, fun k hk => by obtain rfl : g = k := Option.some.inj hk; exact hg⟩
      · cases h
theorem lim_mono {a b c : O} (ha : ok a = true) (hb : ok b = true) (hc : ok c = true) (hab : lt a b = true) (hbc : lt c b = false) : lt (endLim a c) (endLim a b) = false := by
  have hac : lt a c = true := lt_ge hab hbc
  exact lim_least ha hb hab (ok_lim ha hc hac) (lim_ne ha hc hac) (ge_trans (lim_raised ha hc hac) hbc)
def Diffs {n : Nat} : List (O × SD n) → Prop
  | [] => True
  | t :: rest => (∀ u, rest.head? = some u → DiffAt t.1 t.2 u.1 u.2) ∧ Diffs rest
theorem long_diff {n : Nat} {lim : Option O} : ∀ {rest : List (O × SD n)} {low : O} {before : SD n}, Cells lim low before rest → Diffs (longGo lim low before rest)
  | [], low, before, C => ⟨(fun u h => by cases h), trivial⟩
  | t :: rest, low, before, C => by
    obtain ⟨b, inner⟩ := t
    have asc' := List.pairwise_cons.mp C.asc
    have hlb : lt low b = true := asc'.1 (b, inner) List.mem_cons_self
    have asc2 := List.pairwise_cons.mp asc'.2
    have hb := C.ok (b, inner) List.mem_cons_self
    have hi := C.inn (b, inner) List.mem_cons_self
    have hbl := C.blw (b, inner) List.mem_cons_self
    have hbd : ok (endLim low b) = true := ok_lim C.okl hb hlb
    have hbz : endLim low b ≠ z := lim_ne C.okl hb hlb
    have Cs : Cells lim low (splice n before inner (endLim low b)) rest := ⟨C.okl, splice_ok C.bef hi hbd hbz, List.pairwise_cons.mpr ⟨fun t ht => asc'.1 t (List.mem_cons_of_mem _ ht), asc2.2⟩, fun t ht => C.ok t (List.mem_cons_of_mem _ ht), fun t ht => C.inn t (List.mem_cons_of_mem _ ht), fun t ht => C.blw t (List.mem_cons_of_mem _ ht)⟩
    have unf : longGo lim low before ((b, inner) :: rest) = (match conf before inner (endLim low b) b with
      | none => longGo lim low (splice n before inner (endLim low b)) rest
      | some f => if ltO f (nextO rest lim) = true then (low, before) :: longGo lim f inner rest else longGo lim low (splice n before inner (endLim low b)) rest) := rfl
    cases e : conf before inner (endLim low b) b with
    | none =>
      have u1 : longGo lim low before ((b, inner) :: rest) = longGo lim low (splice n before inner (endLim low b)) rest := by rw [unf]; simp only [e]
      rw [u1]
      exact long_diff Cs
    | some f =>
      by_cases g : ltO f (nextO rest lim) = true
      · have u1 : longGo lim low before ((b, inner) :: rest) = (low, before) :: longGo lim f inner rest := by rw [unf]; simp only [e]; exact if_pos g
        rw [u1]
        obtain ⟨r, q1, qf, q2, q3⟩ := conf_diff C.bef hi e
        have hfb : lt f b = false := by rw [qf]; exact reach_ge hb q1
        have hf : ok f = true := by rw [qf]; exact reach_ok hb q1
        have rowf : Row (n + 1) (f :: r) := by rw [qf]; exact reach_row hb q1
        have hfr : ∀ u ∈ rest, lt f u.1 = true := fun u hu => by
          cases rest with
          | nil => cases hu
          | cons w rest =>
            rcases List.mem_cons.mp hu with q | q
            · rw [q]; exact g
            · exact lt_trans _ _ _ (show lt f w.1 = true from g) ((List.pairwise_cons.mp asc2.2).1 u q)
        have hfl : ltO f lim = true := by
          cases rest with
          | nil => exact g
          | cons w rest => exact ltO_trans (show lt f w.1 = true from g) (C.blw w (List.mem_cons_of_mem _ List.mem_cons_self))
        have Cf : Cells lim f inner rest := ⟨hf, hi, List.pairwise_cons.mpr ⟨hfr, asc2.2⟩, fun t ht => C.ok t (List.mem_cons_of_mem _ ht), fun t ht => C.inn t (List.mem_cons_of_mem _ ht), fun t ht => C.blw t (List.mem_cons_of_mem _ ht)⟩
        obtain ⟨⟨i, R', eR, CR⟩, hv⟩ := longGo_ok Cf
        refine ⟨fun u hu => ?_, long_diff Cf⟩
        rw [eR] at hu
        obtain rfl : (f, i) = u := Option.some.inj hu
        refine ⟨r, q1, ?_, fun h hh => ⟨lt_ge (q3 h hh) (lim_mono C.okl hb hf hlb hfb), (row_cons.mp rowf).2.2 h hh⟩⟩
        have := hv f r inner rowf (lt_irrefl f) hfl
        rw [eR, pick_first (lt_irrefl f) ((List.pairwise_cons.mp CR.asc).1), pick_first (lt_irrefl f) hfr] at this
        show valS n before r ≠ valS n i r
        rw [this]; exact q2
      · have u1 : longGo lim low before ((b, inner) :: rest) = longGo lim low (splice n before inner (endLim low b)) rest := by rw [unf]; simp only [e]; exact if_neg g
        rw [u1]
        exact long_diff Cs
theorem cells_ti {n : Nat} (hk : Keeps (tidyB n)) (ht : ∀ s lim, okW n s → LimOk lim → IsTi n (tidyB n s lim) lim) {lim : Option O} (ho : LimOk lim) : ∀ {R : List (O × SD n)} {low : O} {i : SD n}, Cells lim low i R → ltO low lim = true → Diffs ((low, i) :: R) → TiCells (IsTi n) lim (tidyCells (tidyB n) lim ((low, i) :: R))
  | [], low, i, C, hl, _ => ⟨ht i _ C.bef (limO_ok C.okl (cells_next C hl ho)), (fun u h => by cases h), trivial⟩
  | (b, j) :: R, low, i, C, hl, D => by
    have hn := cells_next C hl ho
    have hbl := C.blw (b, j) List.mem_cons_self
    refine ⟨ht i _ C.bef (limO_ok C.okl hn), fun u hu => ?_, cells_ti hk ht ho C.tail hbl D.2⟩
    obtain rfl : (b, tidyB n j (limO b (nextO R lim))) = u := Option.some.inj hu
    obtain ⟨r, hr, hd, hh⟩ := D.1 (b, j) rfl
    have hb := C.ok (b, j) List.mem_cons_self
    have hn2 := cells_next C.tail hbl ho
    have rb : Row (n + 1) (b :: r) := row_cons.mpr ⟨hb, hr, fun h e => (hh h e).2⟩
    have k1 := (hk i _ C.bef (limO_ok C.okl hn)).2 r hr fun h e => (hh h e).1
    have hbn : ltO b (nextO R lim) = true := by
      cases R with
      | nil => exact hbl
      | cons w R => exact (List.pairwise_cons.mp C.tail.asc).1 w List.mem_cons_self
    have k2 := (hk j _ C.tail.bef (limO_ok hb hn2)).2 r hr (limO_head hb hn2 rb (lt_irrefl b) hbn)
    refine ⟨r, hr, ?_, hh⟩
    show valS n (tidyB n i (limO low (some b))) r ≠ valS n (tidyB n j (limO b (nextO R lim))) r
    rw [show valS n (tidyB n i (limO low (some b))) r = valS n i r from k1, k2]
    exact hd
theorem tidy_ti : ∀ (n : Nat) (s : SD n) (lim : Option O), okW n s → LimOk lim → IsTi n (tidyB n s lim) lim
  | 0, _, _, _, _ => trivial
  | n + 1, (l : List (O × SD n)), lim, h, ho => by
    have hz : ltO z lim = true := by
      cases lim with
      | none => rfl
      | some L => exact nil_lt (ho L rfl).2
    obtain ⟨i, r0, el⟩ := okW_head h
    have ef : l.filter (fun t => ltO t.1 lim) = (z, i) :: r0.filter fun t => ltO t.1 lim := by
      rw [el, List.filter_cons, if_pos hz]
    have elong : longest lim l = longGo lim z i (r0.filter fun t => ltO t.1 lim) := by
      unfold longest
      rw [ef]
    have C : Cells lim z i (r0.filter fun t => ltO t.1 lim) := by
      refine ⟨rfl, ?_, ?_, fun t ht => ?_, fun t ht => ?_, fun t ht => (List.mem_filter.mp ht).2⟩
      · exact h.2.2.2 (z, i) (by rw [el]; exact List.mem_cons_self)
      · rw [← ef]; exact h.2.1.filter _
      · exact h.2.2.1 t (by rw [el]; exact List.mem_cons_of_mem _ (List.mem_filter.mp ht).1)
      · exact h.2.2.2 t (by rw [el]; exact List.mem_cons_of_mem _ (List.mem_filter.mp ht).1)
    obtain ⟨⟨i2, R, eR, CR⟩, _⟩ := longGo_ok C
    have D := long_diff C
    rw [eR] at D
    have et : tidyB (n + 1) l lim = tidyCells (tidyB n) lim ((z, i2) :: R) := by
      show tidyCells (tidyB n) lim (longest lim l) = _
      rw [elong, eR]
    rw [et]
    refine ⟨cells_ti (tidy_keeps n) (fun s lim => tidy_ti n s lim) ho CR hz D, fun t ht => ?_⟩
    have : t.1 ∈ (tidyCells (tidyB n) lim ((z, i2) :: R)).map (·.1) := List.mem_map.mpr ⟨t, ht, rfl⟩
    rw [starts_same] at this
    obtain ⟨u, hu, e⟩ := List.mem_map.mp this
    rw [← e]
    rcases List.mem_cons.mp hu with q | q
    · rw [q]; exact hz
    · exact CR.blw u q
/-- tidying stairs of the same rows gives the same -/
theorem tidy_same {n : Nat} {s t : SD n} (hs : okW n s) (ht : okW n t) (h : ∀ r, Row n r → valS n s r = valS n t r) : tidyB n s none = tidyB n t none := by
  have lo : LimOk none := fun _ h => by cases h
  refine tidy_uniq n _ _ none (tidy_val hs).1 (tidy_val ht).1 lo (tidy_ti n s none hs lo) (tidy_ti n t none ht lo) fun r hr _ => ?_
  rw [(tidy_val hs).2 r hr, (tidy_val ht).2 r hr]
  exact h r hr
/-- what is tidy stays -/
theorem tidy_id {n : Nat} {s : SD n} (hs : okW n s) (h : IsTi n s none) : tidyB n s none = s := by
  have lo : LimOk none := fun _ h => by cases h
  exact tidy_uniq n _ _ none (tidy_val hs).1 hs lo (tidy_ti n s none hs lo) h fun r hr _ => (tidy_val hs).2 r hr
end Vw

set_option Elab.async false
set_option linter.all false
set_option maxRecDepth 100000
/-! how deep and how wide tidy stairs are (plain) -/
namespace Vw
open PySem PySem.W PyProof.Rows L2
namespace O
def sz : O → Nat
  | z => 1
  | add e _ r => sz e + sz r + 1
theorem sz_mem : ∀ {r : O} {p : O × Int}, p ∈ ts r → sz p.1 < sz r
  | z, p, h => by cases h
  | add e c r, p, h => by
    rcases List.mem_cons.mp h with q | q
    · subst q; show sz e < sz e + sz r + 1; omega
    · have := sz_mem q; show _ < sz e + sz r + 1; omega
theorem dp_all {d : Nat} : ∀ {r : O}, (∀ p ∈ ts r, dp p.1 ≤ d) → dp r ≤ d + 2
  | z, _ => Nat.zero_le _
  | add e c r, h => by
    have h1 := h (e, c) List.mem_cons_self
    have h2 := dp_all (r := r) fun p hp => h p (List.mem_cons_of_mem _ hp)
    show max (dp e + 2) (dp r) ≤ d + 2
    have h1 : dp e ≤ d := h1
    omega
theorem ok_all : ∀ {r : O}, ok r = true → ∀ p ∈ ts r, ok p.1 = true
  | z, _, p, h => by cases h
  | add e c r, hr, p, h => by
    have g := ok_add.mp hr
    rcases List.mem_cons.mp h with q | q
    · rw [q]; exact g.1
    · exact ok_all g.2.2.1 p q
theorem dp_mono_aux : ∀ (k : Nat) (a b : O), sz a + sz b ≤ k → ok a = true → ok b = true → lt b a = false → dp a ≤ dp b
  | 0, a, b, hk, _, _, _ => by
    have : 0 < sz a := by cases a <;> exact Nat.succ_pos _
    omega
  | k + 1, z, b, _, _, _, _ => Nat.zero_le _
  | k + 1, add e c r, z, _, _, _, h => by cases h
  | k + 1, add e c r, add e' c' r', hk, ha, hb, h => by
    have hk : sz e + sz r + 1 + (sz e' + sz r' + 1) ≤ k + 1 := hk
    have ga := ok_add.mp ha
    have gb := ok_add.mp hb
    have key : lt e' e = false := by
      cases q : lt e' e with
      | false => rfl
      | true => rw [lt_head q] at h; cases h
    have h1 := dp_mono_aux k e e' (by omega) ga.1 gb.1 key
    have hall := under_all ga.2.2.1 ga.2.2.2
    have h2 : dp r ≤ dp e + 2 := dp_all fun p hp => dp_mono_aux k p.1 e (by have := sz_mem hp; omega) (ok_all ga.2.2.1 p hp) ga.1 (lt_asymm (hall p hp))
    show max (dp e + 2) (dp r) ≤ max (dp e' + 2) (dp r')
    omega
/-- what is less is not deeper -/
theorem dp_mono {a b : O} (ha : ok a = true) (hb : ok b = true) (h : lt b a = false) : dp a ≤ dp b := dp_mono_aux _ a b (Nat.le_refl _) ha hb h
theorem dp_end2 {a : O} (h : a ≠ z) : dp (endO a) + 2 ≤ dp a := by
  obtain ⟨c, hm⟩ := end_mem h
  exact dp_mem hm
theorem dp_headE2 {a : O} (h : a ≠ z) : dp (headE a) + 2 ≤ dp a := by
  cases a with
  | z => exact absurd rfl h
  | add e c r => show dp e + 2 ≤ max (dp e + 2) (dp r); omega
theorem dp_sum1 (e : O) : ∀ a : O, dp (sum a (pw e)) ≤ max (dp a) (dp e + 2)
  | z => by
    rw [z_sum]
    show max (dp e + 2) 0 ≤ _
    omega
  | add e1 c1 r1 => by
    have ih := dp_sum1 e r1
    by_cases h : lt e1 e = true
    · rw [pw, sum_lt h]; show max (dp e + 2) 0 ≤ _; omega
    · by_cases h2 : e1 = e
      · subst h2; rw [pw, sum_eq]; show max (dp e1 + 2) 0 ≤ _; omega
      · have h3 : lt e e1 = true := by
          rcases lt_total e1 e h2 with q | q
          · exact absurd q h
          · exact q
        rw [pw, sum_gt h3]
        show max (dp e1 + 2) (dp (sum r1 (pw e))) ≤ max (max (dp e1 + 2) (dp r1)) (dp e + 2)
        omega
/-- an end limit is less deep than what it is of -/
theorem dp_lim2 {a b : O} (ha : ok a = true) (hb : ok b = true) (h : lt a b = true) : dp (endLim a b) + 2 ≤ max (max (dp a) (dp b)) 4 := by
  have g0 := gap_ne h
  have g1 := dp_gap a b
  have g2 := dp_headE2 g0
  have hz : dp z = 0 := rfl
  have e1 : dp (endO a) + 2 ≤ max (dp a) 2 := by
    by_cases q : a = z
    · subst q; show dp z + 2 ≤ _; omega
    · have := dp_end2 q; omega
  have s1 := dp_sum1 z (endO a)
  have s2 := dp_sum1 z (headE (gap a b))
  unfold endLim
  rcases maxO_or (sum (endO a) one) (if gap a b = pw (headE (gap a b)) then headE (gap a b) else sum (headE (gap a b)) one) with e | e
  · rw [e]
    show dp (sum (endO a) (pw z)) + 2 ≤ _
    omega
  · rw [e]
    split
    · omega
    · show dp (sum (headE (gap a b)) (pw z)) + 2 ≤ _
      omega
theorem wd_pw1 (e : O) : wd (pw e) ≤ max (wd e) 1 := by
  show max (wd e) (max (0 + 1) 0) ≤ _
  omega
theorem len_sum1 (e : O) : ∀ a : O, (ts (sum a (pw e))).length ≤ (ts a).length + 1
  | z => by rw [z_sum]; exact Nat.le_refl 1
  | add e1 c1 r1 => by
    have ih := len_sum1 e r1
    by_cases h : lt e1 e = true
    · rw [pw, sum_lt h]; show 1 ≤ (ts r1).length + 1 + 1; omega
    · by_cases h2 : e1 = e
      · subst h2; rw [pw, sum_eq]; show 0 + 1 ≤ (ts r1).length + 1 + 1; omega
      · have h3 : lt e e1 = true := by
          rcases lt_total e1 e h2 with q | q
          · exact absurd q h
          · exact q
        rw [pw, sum_gt h3]
        show (ts (sum r1 (pw e))).length + 1 ≤ (ts r1).length + 1 + 1
        omega
theorem wd_sum1 (e : O) : ∀ a : O, wd (sum a (pw e)) ≤ max (wd a + 1) (wd e)
  | z => by
    rw [z_sum]
    have := wd_pw1 e
    show _ ≤ max (0 + 1) (wd e)
    omega
  | add e1 c1 r1 => by
    have ih := wd_sum1 e r1
    have il := len_sum1 e r1
    by_cases h : lt e1 e = true
    · rw [pw, sum_lt h]
      have := wd_pw1 e
      show wd (pw e) ≤ _
      omega
    · by_cases h2 : e1 = e
      · subst h2; rw [pw, sum_eq]
        show max (wd e1) (max (0 + 1) 0) ≤ max (max (wd e1) (max ((ts r1).length + 1) (wd r1)) + 1) (wd e1)
        omega
      · have h3 : lt e e1 = true := by
          rcases lt_total e1 e h2 with q | q
          · exact absurd q h
          · exact q
        rw [pw, sum_gt h3]
        show max (wd e1) (max ((ts (sum r1 (pw e))).length + 1) (wd (sum r1 (pw e)))) ≤ max (max (wd e1) (max ((ts r1).length + 1) (wd r1)) + 1) (wd e)
        omega
theorem wd_raised1 (a e : O) : wd (raisedO a e) ≤ max (wd a + 1) (wd e) := by
  unfold raisedO
  split
  · exact wd_sum1 e a
  · omega
theorem wd_lim1 (a b : O) : wd (endLim a b) ≤ max (wd a) (wd b) + 1 := by
  have h1 := wd_sum1 z (endO a)
  have h2 := wd_end a
  have h3 := wd_headE (gap a b)
  have h4 := wd_gap a b
  have h5 := wd_sum1 z (headE (gap a b))
  have hz : wd z = 0 := rfl
  unfold endLim
  rcases maxO_or (sum (endO a) one) (if gap a b = pw (headE (gap a b)) then headE (gap a b) else sum (headE (gap a b)) one) with e | e
  · rw [e]
    show wd (sum (endO a) (pw z)) ≤ _
    omega
  · rw [e]
    split
    · omega
    · show wd (sum (headE (gap a b)) (pw z)) ≤ _
      omega
end O
open O
/-! ### stairs of bounded begins -/
def Bs (D W L : Nat) : (n : Nat) → SD n → Prop
  | 0, _ => True
  | n + 1, (l : List (O × SD n)) => l.length ≤ L ∧ ∀ t ∈ l, dp t.1 ≤ D ∧ wd t.1 ≤ W ∧ Bs D W L n t.2
theorem Bs.mono {D W L W' L' : Nat} (hw : W ≤ W') (hl : L ≤ L') : ∀ {n : Nat} {s : SD n}, Bs D W L n s → Bs D W' L' n s
  | 0, _, _ => trivial
  | n + 1, (l : List (O × SD n)), h => ⟨Nat.le_trans h.1 hl, fun t ht => ⟨(h.2 t ht).1, Nat.le_trans (h.2 t ht).2.1 hw, Bs.mono hw hl (h.2 t ht).2.2⟩⟩
theorem Bs.pick {D W L n : Nat} {l : List (O × SD n)} (ok : okW (n + 1) l) (h : Bs D W L (n + 1) l) (o : O) : Bs D W L n (pickS l o) := by
  have h2 := h.2
  rcases pickGo_mem (o := o) (l := l) (d := firstS l) with e | ⟨t, ht, e⟩
  · have e' : pickS l o = firstS l := e
    rw [e']
    obtain ⟨i, r, rfl⟩ := okW_head ok
    exact (h2 _ List.mem_cons_self).2.2
  · have e' : pickS l o = t.2 := e
    rw [e']; exact (h2 t ht).2.2
theorem partGo_some {n : Nat} {pn : SD n → SD n → Option (List O)} {l1 l2 : List (O × SD n)} : ∀ {bs : List O} {os : List O}, partGo pn l1 l2 bs = some os → ∃ b r, b ∈ bs ∧ pn (pickS l1 b) (pickS l2 b) = some r ∧ os = reachO b r :: r
  | [], os, h => by cases h
  | b :: rest, os, h => by
    have unf : partGo pn l1 l2 (b :: rest) = (match pn (pickS l1 b) (pickS l2 b) with
      | none => partGo pn l1 l2 rest
      | some r => if (match (generalizing := false) rest with
        | [] => true
        | c :: _ => lt (reachO b r) c) = true then some (reachO b r :: r) else partGo pn l1 l2 rest) := rfl
    rw [unf] at h
    cases e : pn (pickS l1 b) (pickS l2 b) with
    | none =>
      rw [e] at h
      obtain ⟨c, r, h1, h2, h3⟩ := partGo_some h
      exact ⟨c, r, List.mem_cons_of_mem _ h1, h2, h3⟩
    | some r =>
      rw [e] at h
      have again : partGo pn l1 l2 rest = some os → ∃ b' r, b' ∈ b :: rest ∧ pn (pickS l1 b') (pickS l2 b') = some r ∧ os = reachO b' r :: r := fun h => by
        obtain ⟨c, r, h1, h2, h3⟩ := partGo_some h
        exact ⟨c, r, List.mem_cons_of_mem _ h1, h2, h3⟩
      cases rest with
      | nil => exact ⟨b, r, List.mem_cons_self, e, (Option.some.inj (show some (reachO b r :: r) = some os from h)).symm⟩
      | cons c tail =>
        have h : (if lt (reachO b r) c = true then some (reachO b r :: r) else partGo pn l1 l2 (c :: tail)) = some os := h
        split at h
        · exact ⟨b, r, List.mem_cons_self, e, (Option.some.inj h).symm⟩
        · exact again h
theorem reach_bd {b : O} {r : List O} {D W : Nat} (hb : dp b ≤ D) (hw : wd b + 1 ≤ W) (hr : ∀ h, r.head? = some h → dp h + 2 ≤ D ∧ wd h ≤ W) : dp (reachO b r) ≤ D ∧ wd (reachO b r) ≤ W := by
  cases r with
  | nil => exact ⟨hb, by show wd b ≤ W; omega⟩
  | cons h r =>
    have q := hr h rfl
    have h1 := dp_raised b h
    have h2 := wd_raised1 b h
    exact ⟨by show dp (raisedO b h) ≤ D; omega, by show wd (raisedO b h) ≤ W; omega⟩
theorem part_bd {D W L : Nat} : ∀ {n : Nat} {a b : SD n} {os : List O}, okW n a → okW n b → Bs D W L n a → Bs D W L n b → partS n a b = some os → ∀ o ∈ os, dp o ≤ D + 2 * n ∧ wd o ≤ W + n
  | 0, (a : Bool), (b : Bool), os, _, _, _, _, h => by
    have e : partS 0 a b = if a = b then none else some [] := rfl
    rw [e] at h
    split at h
    · cases h
    · cases h; intro o ho; cases ho
  | n + 1, (l1 : List (O × SD n)), (l2 : List (O × SD n)), os, k1, k2, h1, h2, h => by
    have h : partGo (partS n) l1 l2 (bsOf l1 l2) = some os := h
    obtain ⟨b, r, hb, hp, rfl⟩ := partGo_some h
    have ih := part_bd (okW_pick k1 b) (okW_pick k2 b) (h1.pick k1 b) (h2.pick k2 b) hp
    have hbd : dp b ≤ D ∧ wd b ≤ W := by
      rcases bs_mem.mp hb with ⟨t, ht, e⟩ | ⟨t, ht, e⟩
      · rw [← e]; exact ⟨(h1.2 t ht).1, (h1.2 t ht).2.1⟩
      · rw [← e]; exact ⟨(h2.2 t ht).1, (h2.2 t ht).2.1⟩
    intro o ho
    rcases List.mem_cons.mp ho with q | q
    · rw [q]
      exact reach_bd (by omega) (by omega) fun g hg => by
        have := ih g (List.mem_of_mem_head? hg)
        omega
    · have := ih o q
      omega
theorem splice_bd {D W L1 L2 : Nat} : ∀ {n : Nat} {a b : SD n} {bd : O}, okW n b → Bs D W L1 n a → Bs D W L2 n b → dp bd ≤ D → wd bd ≤ W → Bs D W (L1 + L2 + 1) n (splice n a b bd)
  | 0, _, _, _, _, _, _, _, _ => trivial
  | n + 1, (l1 : List (O × SD n)), (l2 : List (O × SD n)), bd, k2, h1, h2, hd, hw => by
    refine ⟨?_, fun t ht => ?_⟩
    · show ((l1.filter fun t => lt t.1 bd) ++ (bd, pickS l2 bd) :: (l2.filter fun t => lt bd t.1)).length ≤ _
      have a1 := List.length_filter_le (fun t => lt t.1 bd) l1
      have a2 := List.length_filter_le (fun t => lt bd t.1) l2
      have b1 := h1.1
      have b2 := h2.1
      rw [List.length_append, List.length_cons]
      omega
    · have ht : t ∈ (l1.filter fun t => lt t.1 bd) ++ (bd, pickS l2 bd) :: (l2.filter fun t => lt bd t.1) := ht
      rcases List.mem_append.mp ht with q | q
      · have := h1.2 t (List.mem_filter.mp q).1
        exact ⟨this.1, this.2.1, this.2.2.mono (Nat.le_refl _) (by omega)⟩
      · rcases List.mem_cons.mp q with q | q
        · rw [q]; exact ⟨hd, hw, (h2.pick k2 bd).mono (Nat.le_refl _) (by omega)⟩
        · have := h2.2 t (List.mem_filter.mp q).1
          exact ⟨this.1, this.2.1, this.2.2.mono (Nat.le_refl _) (by omega)⟩
theorem conf_part {n : Nat} {before inner : SD n} {bd b f : O} (h1 : okW n before) (h2 : okW n inner) (h : conf before inner bd b = some f) : ∃ r, partS n before inner = some r ∧ Row n r ∧ f = reachO b r ∧ ∀ g, r.head? = some g → lt g bd = true := by
  have q := partS_ok n before inner h1 h2
  unfold conf at h
  cases e : partS n before inner with
  | none => rw [e] at h; cases h
  | some r =>
    rw [e] at h q
    cases r with
    | nil => exact ⟨[], rfl, q.1, (Option.some.inj h).symm, fun g hg => by cases hg⟩
    | cons g r =>
      have h : (if lt g bd = true then some (reachO b (g :: r)) else none) = some f := h
      split at h
      · rename_i hg
        exact ⟨g :: r, rfl, q.1, (Option.some.inj h).symm, fun k hk => by obtain rfl : g = k := Option.some.inj hk; exact hg⟩
      · cases h
/-- the longest cells -/
theorem long_bd {n D L : Nat} (hD : 4 ≤ D) {lim : Option O} : ∀ {rest : List (O × SD n)} {low : O} {before : SD n} {W M : Nat}, Cells lim low before rest → dp low ≤ D → wd low ≤ W → Bs D W M n before → L ≤ M → (∀ t ∈ rest, dp t.1 ≤ D ∧ wd t.1 ≤ W ∧ Bs D W L n t.2) →
    (longGo lim low before rest).length ≤ rest.length + 1 ∧ ∀ t ∈ longGo lim low before rest, dp t.1 ≤ D ∧ wd t.1 ≤ W + rest.length * (n + 2) ∧ Bs D (W + rest.length * (n + 2)) (M + rest.length * (L + 1)) n t.2
  | [], low, before, W, M, C, h1, h2, h3, _, _ => ⟨Nat.le_refl _, fun t ht => by
      rw [List.mem_singleton.mp ht]
      exact ⟨h1, by show wd low ≤ W + 0 * (n + 2); omega, h3.mono (by simp) (by simp)⟩⟩
  | t :: rest, low, before, W, M, C, h1, h2, h3, hM, hr => by
    obtain ⟨b, inner⟩ := t
    have asc' := List.pairwise_cons.mp C.asc
    have hlb : lt low b = true := asc'.1 (b, inner) List.mem_cons_self
    have asc2 := List.pairwise_cons.mp asc'.2
    have hb := C.ok (b, inner) List.mem_cons_self
    have hi := C.inn (b, inner) List.mem_cons_self
    have hbl := C.blw (b, inner) List.mem_cons_self
    have hbd : ok (endLim low b) = true := ok_lim C.okl hb hlb
    have hbz : endLim low b ≠ z := lim_ne C.okl hb hlb
    obtain ⟨r1, r2, r3⟩ := hr (b, inner) List.mem_cons_self
    have d1 : dp (endLim low b) + 2 ≤ max (max (dp low) (dp b)) 4 := dp_lim2 C.okl hb hlb
    have w1 := wd_lim1 low b
    have r1 : dp b ≤ D := r1
    have r2 : wd b ≤ W := r2
    have dbd : dp (endLim low b) + 2 ≤ D := by omega
    have Cs : Cells lim low (splice n before inner (endLim low b)) rest := ⟨C.okl, splice_ok C.bef hi hbd hbz, List.pairwise_cons.mpr ⟨fun t ht => asc'.1 t (List.mem_cons_of_mem _ ht), asc2.2⟩, fun t ht => C.ok t (List.mem_cons_of_mem _ ht), fun t ht => C.inn t (List.mem_cons_of_mem _ ht), fun t ht => C.blw t (List.mem_cons_of_mem _ ht)⟩
    have e1 : (rest.length + 1) * (n + 2) = rest.length * (n + 2) + (n + 2) := Nat.succ_mul _ _
    have e2 : (rest.length + 1) * (L + 1) = rest.length * (L + 1) + (L + 1) := Nat.succ_mul _ _
    have spl := long_bd (n := n) (L := L) hD (W := W + 1) (M := M + L + 1) Cs h1 (by omega) (splice_bd hi (h3.mono (Nat.le_succ _) (Nat.le_refl _)) (r3.mono (Nat.le_succ _) (Nat.le_refl _)) (by omega) (by omega)) (by omega) fun t ht => by
      have := hr t (List.mem_cons_of_mem _ ht)
      exact ⟨this.1, by omega, this.2.2.mono (Nat.le_succ _) (Nat.le_refl _)⟩
    have spl' : (longGo lim low (splice n before inner (endLim low b)) rest).length ≤ (rest.length + 1) + 1 ∧ ∀ t ∈ longGo lim low (splice n before inner (endLim low b)) rest, dp t.1 ≤ D ∧ wd t.1 ≤ W + (rest.length + 1) * (n + 2) ∧ Bs D (W + (rest.length + 1) * (n + 2)) (M + (rest.length + 1) * (L + 1)) n t.2 :=
      ⟨by omega, fun t ht => by
        have := spl.2 t ht
        exact ⟨this.1, by omega, this.2.2.mono (by omega) (by omega)⟩⟩
    have unf : longGo lim low before ((b, inner) :: rest) = (match conf before inner (endLim low b) b with
      | none => longGo lim low (splice n before inner (endLim low b)) rest
      | some f => if ltO f (nextO rest lim) = true then (low, before) :: longGo lim f inner rest else longGo lim low (splice n before inner (endLim low b)) rest) := rfl
    show (longGo lim low before ((b, inner) :: rest)).length ≤ (rest.length + 1) + 1 ∧ ∀ t ∈ longGo lim low before ((b, inner) :: rest), dp t.1 ≤ D ∧ wd t.1 ≤ W + (rest.length + 1) * (n + 2) ∧ Bs D (W + (rest.length + 1) * (n + 2)) (M + (rest.length + 1) * (L + 1)) n t.2
    cases e : conf before inner (endLim low b) b with
    | none =>
      have u1 : longGo lim low before ((b, inner) :: rest) = longGo lim low (splice n before inner (endLim low b)) rest := by rw [unf]; simp only [e]
      rw [u1]; exact spl'
    | some f =>
      by_cases g : ltO f (nextO rest lim) = true
      · have u1 : longGo lim low before ((b, inner) :: rest) = (low, before) :: longGo lim f inner rest := by rw [unf]; simp only [e]; exact if_pos g
        rw [u1]
        obtain ⟨r, qp, q1, qf, q3⟩ := conf_part C.bef hi e
        have pb := part_bd C.bef hi h3 (r3.mono (Nat.le_refl _) hM) qp
        have hfb : lt f b = false := by rw [qf]; exact reach_ge hb q1
        have hf : ok f = true := by rw [qf]; exact reach_ok hb q1
        have fb : dp f ≤ D ∧ wd f ≤ W + n + 1 := by
          rw [qf]
          exact reach_bd r1 (by omega) fun g hg => by
            have m1 := dp_mono (q1.2.1 g (List.mem_of_mem_head? hg)) hbd (lt_asymm (q3 g hg))
            have m2 := pb g (List.mem_of_mem_head? hg)
            omega
        have hfr : ∀ u ∈ rest, lt f u.1 = true := fun u hu => by
          cases rest with
          | nil => cases hu
          | cons w rest =>
            rcases List.mem_cons.mp hu with q | q
            · rw [q]; exact g
            · exact lt_trans _ _ _ (show lt f w.1 = true from g) ((List.pairwise_cons.mp asc2.2).1 u q)
        have Cf : Cells lim f inner rest := ⟨hf, hi, List.pairwise_cons.mpr ⟨hfr, asc2.2⟩, fun t ht => C.ok t (List.mem_cons_of_mem _ ht), fun t ht => C.inn t (List.mem_cons_of_mem _ ht), fun t ht => C.blw t (List.mem_cons_of_mem _ ht)⟩
        have ih := long_bd (n := n) (L := L) hD (W := W + n + 1) (M := M) Cf fb.1 fb.2 (r3.mono (by omega) hM) hM fun t ht => by
          have := hr t (List.mem_cons_of_mem _ ht)
          exact ⟨this.1, by omega, this.2.2.mono (by omega) (Nat.le_refl _)⟩
        refine ⟨by rw [List.length_cons]; omega, fun t ht => ?_⟩
        rcases List.mem_cons.mp ht with q | q
        · rw [q]; exact ⟨h1, by show wd low ≤ _; omega, h3.mono (by omega) (by omega)⟩
        · have := ih.2 t q
          exact ⟨this.1, by omega, this.2.2.mono (by omega) (by omega)⟩
      · have u1 : longGo lim low before ((b, inner) :: rest) = longGo lim low (splice n before inner (endLim low b)) rest := by rw [unf]; simp only [e]; exact if_neg g
        rw [u1]; exact spl'
/-! ### tidy -/
def tbW : Nat → Nat → Nat → Nat
  | 0, W, _ => W
  | n + 1, W, L => tbW n (W + L * (n + 2)) (L + L * (L + 1))
def tbL : Nat → Nat → Nat
  | 0, _ => 0
  | n + 1, L => max L (tbL n (L + L * (L + 1)))
theorem tbW_ge : ∀ (n W L : Nat), W ≤ tbW n W L
  | 0, W, L => Nat.le_refl _
  | n + 1, W, L => Nat.le_trans (Nat.le_add_right _ _) (tbW_ge n _ _)
theorem tidyCells_mem {n : Nat} {f : SD n → Option O → SD n} {lim : Option O} (ho : LimOk lim) : ∀ {R : List (O × SD n)} {low : O} {i : SD n} {t : O × SD n}, Cells lim low i R → ltO low lim = true → t ∈ tidyCells f lim ((low, i) :: R) → ∃ u ∈ (low, i) :: R, ∃ lim', okW n u.2 ∧ LimOk lim' ∧ t = (u.1, f u.2 lim')
  | [], low, i, t, C, hl, h => ⟨(low, i), List.mem_cons_self, _, C.bef, limO_ok C.okl (cells_next C hl ho), List.mem_singleton.mp h⟩
  | (b, j) :: R, low, i, t, C, hl, h => by
    rcases List.mem_cons.mp h with q | q
    · exact ⟨(low, i), List.mem_cons_self, _, C.bef, limO_ok C.okl (cells_next C hl ho), q⟩
    · obtain ⟨v, h1, h2⟩ := tidyCells_mem ho C.tail (C.blw (b, j) List.mem_cons_self) q
      exact ⟨v, List.mem_cons_of_mem _ h1, h2⟩
theorem tidyCells_len {n : Nat} {f : SD n → Option O → SD n} {lim : Option O} (l : List (O × SD n)) : (tidyCells f lim l).length = l.length := by
  have := congrArg List.length (starts_same (f := f) (lim := lim) l)
  rw [List.length_map, List.length_map] at this
  exact this
theorem tidy_bd {D : Nat} (hD : 4 ≤ D) : ∀ (n : Nat) (s : SD n) (lim : Option O) (W L : Nat), okW n s → LimOk lim → Bs D W L n s → Bs D (tbW n W L) (tbL n L) n (tidyB n s lim)
  | 0, _, _, _, _, _, _, _ => trivial
  | n + 1, (l : List (O × SD n)), lim, W, L, h, ho, hb => by
    have hz : ltO O.z lim = true := by
      cases lim with
      | none => rfl
      | some L => exact O.nil_lt (ho L rfl).2
    obtain ⟨i, r0, el⟩ := okW_head h
    have ef : l.filter (fun t => ltO t.1 lim) = (O.z, i) :: r0.filter fun t => ltO t.1 lim := by
      rw [el, List.filter_cons, if_pos hz]
    have elong : longest lim l = longGo lim O.z i (r0.filter fun t => ltO t.1 lim) := by
      unfold longest
      rw [ef]
    have C : Cells lim O.z i (r0.filter fun t => ltO t.1 lim) := by
      refine ⟨rfl, ?_, ?_, fun t ht => ?_, fun t ht => ?_, fun t ht => (List.mem_filter.mp ht).2⟩
      · exact h.2.2.2 (O.z, i) (by rw [el]; exact List.mem_cons_self)
      · rw [← ef]; exact h.2.1.filter _
      · exact h.2.2.1 t (by rw [el]; exact List.mem_cons_of_mem _ (List.mem_filter.mp ht).1)
      · exact h.2.2.2 t (by rw [el]; exact List.mem_cons_of_mem _ (List.mem_filter.mp ht).1)
    obtain ⟨⟨i2, R, eR, CR⟩, _⟩ := longGo_ok C
    have hl : l.length ≤ L := hb.1
    have hlen : (r0.filter fun t => ltO t.1 lim).length + 1 ≤ L := by
      have := List.length_filter_le (fun t => ltO t.1 lim) r0
      rw [el, List.length_cons] at hl
      omega
    have hall := hb.2
    have B := long_bd (n := n) (L := L) hD (W := W) (M := L) C (Nat.zero_le _) (Nat.zero_le _) (hall (O.z, i) (by rw [el]; exact List.mem_cons_self)).2.2 (Nat.le_refl _) fun t ht => hall t (by rw [el]; exact List.mem_cons_of_mem _ (List.mem_filter.mp ht).1)
    rw [eR] at B
    have et : tidyB (n + 1) l lim = tidyCells (tidyB n) lim ((O.z, i2) :: R) := by
      show tidyCells (tidyB n) lim (longest lim l) = _
      rw [elong, eR]
    have m1 : (r0.filter fun t => ltO t.1 lim).length * (n + 2) ≤ L * (n + 2) := Nat.mul_le_mul_right _ (by omega)
    have m2 : (r0.filter fun t => ltO t.1 lim).length * (L + 1) ≤ L * (L + 1) := Nat.mul_le_mul_right _ (by omega)
    have bi : ∀ t ∈ (O.z, i2) :: R, O.dp t.1 ≤ D ∧ O.wd t.1 ≤ W + L * (n + 2) ∧ Bs D (W + L * (n + 2)) (L + L * (L + 1)) n t.2 := fun t ht => by
      have := B.2 t ht
      exact ⟨this.1, by omega, this.2.2.mono (by omega) (by omega)⟩
    have bl := B.1
    rw [et]
    refine ⟨?_, fun t ht => ?_⟩
    · show (tidyCells (tidyB n) lim ((O.z, i2) :: R)).length ≤ max L _
      rw [tidyCells_len]
      omega
    · obtain ⟨u, hu, lim', ku, kl, rfl⟩ := tidyCells_mem ho CR hz ht
      have bu := bi u hu
      have wk := tbW_ge n (W + L * (n + 2)) (L + L * (L + 1))
      refine ⟨bu.1, Nat.le_trans bu.2.1 wk, ?_⟩
      exact (tidy_bd hD n u.2 lim' _ _ ku kl bu.2.2).mono (Nat.le_refl _) (Nat.le_max_right _ _)
end Vw

set_option Elab.async false
set_option linter.all false
set_option maxRecDepth 100000
/-! rows and limits as they stand in a heap, for tidy -/
namespace Vw
open PySem PySem.W PyProof.Rows L2
section
variable {K : PySem.W.Frag} {H H' : Hp} {x y v : V} {os ps : List O} {Q : VK}
theorem rd_eqRowD (hx : RowA K H x os) (hy : RowA K H y ps) (g : ∀ o ∈ os, O.dp o ≤ 50) (g2 : ∀ o ∈ ps, O.dp o ≤ 50) (q : Q (.bl (decide (os = ps))) H) : rEqO K x y H Q := by
  unfold rEqO
  exact ⟨_, _, hx.dp, hy.dp, shaped_rowD g, shaped_rowD g2, by rw [eqv_rowD]; exact q⟩
theorem rd_neRowD (hx : RowA K H x os) (hy : RowA K H y ps) (g : ∀ o ∈ os, O.dp o ≤ 50) (g2 : ∀ o ∈ ps, O.dp o ≤ 50) (q : Q (.bl (!decide (os = ps))) H) : rNeO K x y H Q := by
  unfold rNeO
  exact ⟨_, _, hx.dp, hy.dp, shaped_rowD g, shaped_rowD g2, by rw [eqv_rowD]; exact q⟩
theorem nil_row {p : Addr} (h : TT K H p []) : RowA K H (.ref p) [] := RowA.of h .nil
theorem drop_at {α : Type} {l : List α} {i : Nat} {t : α} (h : l[i]? = some t) : l.drop i = t :: l.drop (i + 1) := by
  have hi := (List.getElem?_eq_some_iff.mp h).1
  rw [List.drop_eq_getElem_cons hi, (List.getElem?_eq_some_iff.mp h).2]
/-- a limit: none, or an ordinal -/
def LimA (K : PySem.W.Frag) (H : Hp) (v : V) : Option O → Prop
  | none => v = .non
  | some o => OA K H v o
theorem LimA.tp {l : Option O} (t : Tp H H') (h : LimA K H v l) : LimA K H' v l := by
  cases l with
  | none => exact h
  | some o => exact OA.tp t h
/-- what is asked of the ordinals of stairs that are tidied -/
def Fit (o : O) : Prop := O.ok o = true ∧ O.dp o ≤ 30 ∧ O.wd o ≤ 1500000
end
def spReach (K : PySem.W.Frag) : Sp := fun vs H Q _ => ∃ (x y : V) (b : O) (os : List O), vs = [x, y] ∧ OA K H x b ∧ RowA K H y os ∧ Fit b ∧ (∀ o ∈ os, Fit o) ∧ ∀ (v : V) (H' : Hp), Same H H' → OA K H' v (reachO b os) → Q v H'
def spBeh (K : PySem.W.Frag) : Sp := fun vs H Q _ => ∃ (D : Addr) (w : V) (n i : Nat) (xs : List V) (l : List (O × SD n)) (lim : Option O), vs = [.ref D, .int (i : Nat), w] ∧ H D = some (.lst xs) ∧ Paired (StA K H n) xs l ∧ i < l.length ∧ LimA K H w lim ∧ ∀ v : V, LimA K H v (nextO (l.drop (i + 1)) lim) → Q v H
end Vw

set_option Elab.async false
set_option linter.all false
set_option maxRecDepth 100000
/-! two stairs side by side -/
namespace Vw
open PySem PySem.W PyProof.Rows L2
theorem pick_at {α : Type} {l : List (O × α)} (ha : Asc l) {a : Nat} {t : O × α} {o : O} (ht : l[a]? = some t) (h1 : O.lt o t.1 = false) (h2 : ∀ u, l[a + 1]? = some u → O.lt o u.1 = true) (d : α) : pickGo o d l = t.2 := by
  have e : l = l.take a ++ t :: l.drop (a + 1) := by
    have := List.take_append_drop a l
    rw [drop_at ht] at this
    exact this.symm
  have hd : ∀ x ∈ l.drop (a + 1), O.lt o x.1 = true := fun x hx => by
    obtain ⟨k, hk⟩ := List.mem_iff_getElem?.mp hx
    rw [List.getElem?_drop] at hk
    have hlen : a + 1 < l.length := by have := (List.getElem?_eq_some_iff.mp hk).1; omega
    have hu := h2 _ (List.getElem?_eq_getElem hlen)
    cases k with
    | zero =>
      rw [Nat.add_zero, List.getElem?_eq_getElem hlen] at hk
      obtain rfl := Option.some.inj hk
      exact hu
    | succ k =>
      have hk2 := List.getElem?_eq_some_iff.mp hk
      have := List.pairwise_iff_getElem.mp ha (a + 1) (a + 1 + (k + 1)) hlen hk2.1 (by omega)
      rw [hk2.2] at this
      exact O.lt_trans _ _ _ hu this
  rw [e, pick_app]
  show pickGo o (if O.lt o t.1 = true then _ else t.2) _ = t.2
  rw [h1]
  exact pickGo_above hd
theorem asc_ext : ∀ {l r : List O}, AscO l → AscO r → (∀ x, x ∈ l ↔ x ∈ r) → l = r
  | [], [], _, _, _ => rfl
  | [], y :: r, _, _, h => absurd ((h y).mpr List.mem_cons_self) (by simp)
  | x :: l, [], _, _, h => absurd ((h x).mp List.mem_cons_self) (by simp)
  | x :: l, y :: r, hl, hr, h => by
    have hl' := List.pairwise_cons.mp hl
    have hr' := List.pairwise_cons.mp hr
    have e : x = y := by
      rcases List.mem_cons.mp ((h x).mp List.mem_cons_self) with q | q
      · exact q
      · rcases List.mem_cons.mp ((h y).mpr List.mem_cons_self) with z | z
        · exact z.symm
        · have a := hr'.1 x q
          have b := hl'.1 y z
          rw [O.lt_asymm a] at b; cases b
    subst e
    refine congrArg (x :: ·) (asc_ext hl'.2 hr'.2 fun z => ?_)
    constructor
    · intro hz
      rcases List.mem_cons.mp ((h z).mp (List.mem_cons_of_mem _ hz)) with q | q
      · subst q; have := hl'.1 z hz; rw [O.lt_irrefl] at this; cases this
      · exact q
    · intro hz
      rcases List.mem_cons.mp ((h z).mpr (List.mem_cons_of_mem _ hz)) with q | q
      · subst q; have := hr'.1 z hz; rw [O.lt_irrefl] at this; cases this
      · exact q
/-- the begins so far, each once -/
structure Once (ss : List O) (j : Nat) (fb : List O) : Prop where
  asc : AscO fb
  mem : ∀ x, x ∈ fb ↔ x ∈ ss.take j
  last : fb.getLast? = (ss.take j).getLast?
theorem once_nil (ss : List O) : Once ss 0 [] := ⟨.nil, fun x => by simp, rfl⟩
theorem take_last {ss : List O} {j : Nat} {b : O} (h : ss[j]? = some b) : (ss.take (j + 1)).getLast? = some b := by
  rw [List.take_add_one, h]; simp
theorem asc_last {l : List O} {x y : O} (h : AscO l) (hl : l.getLast? = some y) (hx : x ∈ l) : x = y ∨ O.lt x y = true := by
  obtain ⟨r, rfl⟩ : ∃ r, l = r ++ [y] := ⟨_, (List.getLast?_eq_some_iff.mp hl).choose_spec⟩
  rcases List.mem_append.mp hx with q | q
  · exact .inr ((List.pairwise_append.mp h).2.2 x q y (List.mem_singleton.mpr rfl))
  · exact .inl (List.mem_singleton.mp q)
theorem once_new {ss : List O} {j : Nat} {fb : List O} {b : O} (hs : ss.Pairwise fun a b => O.lt b a = false) (h : Once ss j fb) (hb : ss[j]? = some b) (hn : ∀ y, fb.getLast? = some y → y ≠ b) : Once ss (j + 1) (fb ++ [b]) := by
  refine ⟨?_, fun x => ?_, ?_⟩
  · refine List.pairwise_append.mpr ⟨h.asc, List.pairwise_singleton _ _, fun x hx y hy => ?_⟩
    rw [List.mem_singleton.mp hy]
    have hne : fb ≠ [] := fun z => by rw [z] at hx; cases hx
    have hl : fb.getLast? = some (fb.getLast hne) := List.getLast?_eq_some_getLast hne
    have hm : fb.getLast hne ∈ ss.take j := (h.mem _).mp (List.getLast_mem hne)
    obtain ⟨i, hi⟩ := List.mem_iff_getElem?.mp hm
    have hij : i < j := by
      have := (List.getElem?_eq_some_iff.mp hi).1
      rw [List.length_take] at this; omega
    rw [List.getElem?_take_of_lt hij] at hi
    have i1 := List.getElem?_eq_some_iff.mp hi
    have i2 := List.getElem?_eq_some_iff.mp hb
    have le := List.pairwise_iff_getElem.mp hs i j i1.1 i2.1 hij
    rw [i1.2, i2.2] at le
    have lb : O.lt (fb.getLast hne) b = true := O.lt_of_ge le (fun z => hn _ hl z.symm)
    rcases asc_last h.asc hl hx with q | q
    · rw [q]; exact lb
    · exact O.lt_trans _ _ _ q lb
  · rw [List.take_add_one, hb, List.mem_append, List.mem_append, h.mem]; simp
  · rw [take_last hb]; simp
theorem once_old {ss : List O} {j : Nat} {fb : List O} {b : O} (h : Once ss j fb) (hb : ss[j]? = some b) (hl : fb.getLast? = some b) : Once ss (j + 1) fb := by
  refine ⟨h.asc, fun x => ?_, by rw [take_last hb]; exact hl⟩
  rw [List.take_add_one, hb, List.mem_append, h.mem]
  constructor
  · exact fun q => .inl q
  · rintro (q | q)
    · exact q
    · have q : x ∈ [b] := q
      rw [List.mem_singleton.mp q]
      exact (h.mem b).mp (List.mem_of_getLast? hl)
theorem once_bs {α β : Type} {l1 : List (O × α)} {l2 : List (O × β)} {ss fb : List O} {j : Nat} (hp : ss.Perm (l1.map (·.1) ++ l2.map (·.1))) (h : Once ss j fb) (hj : ss.length ≤ j) : fb = bsOf l1 l2 := by
  refine asc_ext h.asc (fold_asc _) fun x => ?_
  rw [h.mem, List.take_of_length_le hj, hp.mem_iff, bs_mem, List.mem_append, List.mem_map, List.mem_map]
/-- three side by side -/
def TrA (K : PySem.W.Frag) (H : Hp) (n : Nat) (v : V) (t : O × SD n × SD n) : Prop := ∃ p u w1 w2, v = .ref p ∧ TT K H p [u, w1, w2] ∧ OA K H u t.1 ∧ SA K H n w1 t.2.1 ∧ SA K H n w2 t.2.2
theorem TrA.tp {K : PySem.W.Frag} {H H' : Hp} {n : Nat} {v : V} {t : O × SD n × SD n} (x : Tp H H') (h : TrA K H n v t) : TrA K H' n v t := by
  obtain ⟨p, u, w1, w2, e, h1, h2, h3, h4⟩ := h
  exact ⟨p, u, w1, w2, e, h1.tp x, h2.tp x, h3.tp x, h4.tp x⟩
theorem tri_tp {K : PySem.W.Frag} {H H' : Hp} {n : Nat} {xs : List V} {l : List (O × SD n × SD n)} (x : Tp H H') (h : Paired (TrA K H n) xs l) : Paired (TrA K H' n) xs l := paired_mono (fun _ _ a => a.tp x) h
def tri {n : Nat} (l1 l2 : List (O × SD n)) (b : O) : O × SD n × SD n := (b, pickS l1 b, pickS l2 b)
def spPair (K : PySem.W.Frag) : Sp := fun vs H Q _ => ∃ (v1 v2 : V) (n : Nat) (l1 l2 : List (O × SD n)), vs = [v1, v2] ∧ SA K H (n + 1) v1 l1 ∧ SA K H (n + 1) v2 l2 ∧ okW (n + 1) l1 ∧ okW (n + 1) l2 ∧ (∀ t ∈ l1, O.dp t.1 ≤ 30) ∧ (∀ t ∈ l2, O.dp t.1 ≤ 30) ∧ l1.length ≤ 1500000 ∧ l2.length ≤ 1500000 ∧
  ∀ (D : Addr) (xs : List V) (H' : Hp), Same H H' → H' D = some (.lst xs) → Paired (TrA K H' n) xs ((bsOf l1 l2).map (tri l1 l2)) → Q (.ref D) H'
theorem for_enumL {K : PySem.W.Frag} {a : Addr} {xs : List V} {g : L2.TG} {tb : L2.TS} {D : Ends} {σ : L2.St} {H : Hp} (Pv : Nat → L2.St → Hp → Prop) (h0 : Pv 0 σ H) (hl : ∀ i σ H, i ≤ xs.length → Pv i σ H → SqL K H a xs)
    (hs : ∀ i x T σ H, xs[i]? = some x → Pv i σ H → H T = none → g (.ref T) σ (upd H T (.tup [.int (i : Nat), x])) fun σ2 H2 => tb { D with nx := Pv (i + 1), ct := Pv (i + 1), bk := D.nx } σ2 H2) (hd : ∀ σ H, Pv xs.length σ H → D.nx σ H) :
    ∃ W : Nat → Nat → L2.St → Hp → Prop, (∃ m, W 0 m σ H) ∧ ∀ i m σ H, W i m σ H →
      ((Ite K a).stop i H ∧ D.nx σ H) ∨ ((Ite K a).go i H ∧ ∃ N : L2.St → Hp → Prop, (∀ σ' H', N σ' H' → ∃ m', m' < m ∧ W (i + 1) m' σ' H') ∧ ∀ x H', (Ite K a).yld i H x H' → g x σ H' fun σ2 H2 => tb { D with nx := N, ct := N, bk := D.nx } σ2 H2) := by
  refine ⟨fun i m σ H => m = xs.length - i ∧ i ≤ xs.length ∧ Pv i σ H, ⟨xs.length, by simp, Nat.zero_le _, h0⟩, ?_⟩
  rintro i m σ H ⟨rfl, hi, p⟩
  have q := hl i σ H hi p
  by_cases hlt : i < xs.length
  · refine .inr ⟨⟨xs, xs[i], q, List.getElem?_eq_getElem hlt⟩, Pv (i + 1), fun σ' H' p' => ⟨xs.length - (i + 1), by omega, rfl, hlt, p'⟩, fun v H' y => ?_⟩
    obtain ⟨T, x, rfl, nT, rfl, hx⟩ := y
    exact hs i x T σ H (hx xs q) p nT
  · obtain rfl : i = xs.length := by omega
    exact .inl ⟨⟨xs, q, Nat.le_refl _⟩, hd σ H p⟩
end Vw

set_option Elab.async false
set_option linter.all false
set_option maxRecDepth 100000
/-! how large stairs are: weights of all their steps; what tidy and joins make of them (plain) -/
namespace Vw
open PySem PySem.W PyProof.Rows L2
open O
namespace O
theorem len_sumE (e : O) : ∀ a : O, a ≠ z → lt (endO a) e = true → (ts (sum a (pw e))).length ≤ (ts a).length
  | z, h, _ => absurd rfl h
  | add e1 c1 r1, _, h => by
    by_cases h1 : lt e1 e = true
    · rw [pw, sum_lt h1]; show 1 ≤ (ts r1).length + 1; omega
    · by_cases h2 : e1 = e
      · subst h2; rw [pw, sum_eq]; show 0 + 1 ≤ (ts r1).length + 1; omega
      · have h3 : lt e e1 = true := by
          rcases lt_total e1 e h2 with q | q
          · exact absurd q h1
          · exact q
        have hz : r1 ≠ z := fun q => by
          subst q
          rw [endO_one] at h
          exact h1 h
        rw [endO_add e1 c1 hz] at h
        have := len_sumE e r1 hz h
        rw [pw, sum_gt h3]
        show (ts (sum r1 (pw e))).length + 1 ≤ (ts r1).length + 1
        omega
theorem wd_sumE (e : O) : ∀ a : O, lt (endO a) e = true → wd (sum a (pw e)) ≤ max (max (wd a) (wd e)) 1
  | z, _ => by
    rw [z_sum]
    have := wd_pw1 e
    omega
  | add e1 c1 r1, h => by
    by_cases h1 : lt e1 e = true
    · rw [pw, sum_lt h1]
      have := wd_pw1 e
      show wd (pw e) ≤ _
      omega
    · by_cases h2 : e1 = e
      · subst h2; rw [pw, sum_eq]
        show max (wd e1) (max (0 + 1) 0) ≤ max (max (max (wd e1) (max ((ts r1).length + 1) (wd r1))) (wd e1)) 1
        omega
      · have h3 : lt e e1 = true := by
          rcases lt_total e1 e h2 with q | q
          · exact absurd q h1
          · exact q
        have hz : r1 ≠ z := fun q => by
          subst q
          rw [endO_one] at h
          exact h1 h
        rw [endO_add e1 c1 hz] at h
        have ih := wd_sumE e r1 h
        have il := len_sumE e r1 hz h
        rw [pw, sum_gt h3]
        show max (wd e1) (max ((ts (sum r1 (pw e))).length + 1) (wd (sum r1 (pw e)))) ≤ max (max (max (wd e1) (max ((ts r1).length + 1) (wd r1))) (wd e)) 1
        omega
theorem wd_raised0 (a e : O) : wd (raisedO a e) ≤ max (max (wd a) (wd e)) 1 := by
  unfold raisedO
  split
  · rename_i h; exact wd_sumE e a h
  · omega
end O
theorem reach_wd {b : O} {r : List O} {W : Nat} (h1 : 1 ≤ W) (hw : wd b ≤ W) (hr : ∀ h, r.head? = some h → wd h ≤ W) : wd (reachO b r) ≤ W := by
  cases r with
  | nil => exact hw
  | cons h r =>
    have q := hr h rfl
    have h2 := wd_raised0 b h
    show wd (raisedO b h) ≤ W
    omega
theorem part_wd {D W L : Nat} (hW : 1 ≤ W) : ∀ {n : Nat} {a b : SD n} {os : List O}, okW n a → okW n b → Bs D W L n a → Bs D W L n b → partS n a b = some os → ∀ o ∈ os, wd o ≤ W
  | 0, (a : Bool), (b : Bool), os, _, _, _, _, h => by
    have e : partS 0 a b = if a = b then none else some [] := rfl
    rw [e] at h
    split at h
    · cases h
    · cases h; intro o ho; cases ho
  | n + 1, (l1 : List (O × SD n)), (l2 : List (O × SD n)), os, k1, k2, h1, h2, h => by
    have h : partGo (partS n) l1 l2 (bsOf l1 l2) = some os := h
    obtain ⟨b, r, hb, hp, rfl⟩ := partGo_some h
    have ih := part_wd hW (okW_pick k1 b) (okW_pick k2 b) (h1.pick k1 b) (h2.pick k2 b) hp
    have hbd : wd b ≤ W := by
      rcases bs_mem.mp hb with ⟨t, ht, e⟩ | ⟨t, ht, e⟩
      · rw [← e]; exact (h1.2 t ht).2.1
      · rw [← e]; exact (h2.2 t ht).2.1
    intro o ho
    rcases List.mem_cons.mp ho with q | q
    · rw [q]; exact reach_wd hW hbd fun g hg => ih g (List.mem_of_mem_head? hg)
    · exact ih o q
/-! ### weights -/
def mu (w : Nat → Nat) (c : Nat) : (n : Nat) → SD n → Nat
  | 0, _ => c
  | n + 1, (l : List (O × SD n)) => w n * l.length + (l.map fun t => mu w c n t.2).sum
/-- the leaves -/
def lv (n : Nat) (s : SD n) : Nat := mu (fun _ => 0) 1 n s
/-- the steps that have stairs within -/
def gr (n : Nat) (s : SD n) : Nat := mu (fun n => if n = 0 then 0 else 1) 0 n s
/-- by how much begins may grow at a step -/
def wk (n : Nat) : Nat := if n = 0 then 0 else 1
theorem gr_succ {n : Nat} (l : List (O × SD n)) : gr (n + 1) l = wk n * l.length + (l.map fun t => gr n t.2).sum := rfl
theorem mu_succ {w : Nat → Nat} {c n : Nat} (l : List (O × SD n)) : mu w c (n + 1) l = w n * l.length + (l.map fun t => mu w c n t.2).sum := rfl
theorem lv_pos : ∀ (n : Nat) (s : SD n), okW n s → 1 ≤ lv n s
  | 0, _, _ => Nat.le_refl 1
  | n + 1, (l : List (O × SD n)), h => by
    obtain ⟨i, r, rfl⟩ := okW_head h
    have := lv_pos n i (h.2.2.2 _ List.mem_cons_self)
    show 1 ≤ 0 * _ + (lv n i + (r.map fun t => lv n t.2).sum)
    omega
theorem sum_ge {α : Type} (f : α → Nat) : ∀ {l : List α}, (∀ t ∈ l, 1 ≤ f t) → l.length ≤ (l.map f).sum
  | [], _ => Nat.le_refl 0
  | t :: r, h => by
    have h1 := h t List.mem_cons_self
    have h2 := sum_ge f (l := r) fun x hx => h x (List.mem_cons_of_mem _ hx)
    show r.length + 1 ≤ f t + (r.map f).sum
    omega
theorem sum_mem {α : Type} (f : α → Nat) : ∀ {l : List α} {t : α}, t ∈ l → f t ≤ (l.map f).sum
  | x :: r, t, h => by
    show _ ≤ f x + (r.map f).sum
    rcases List.mem_cons.mp h with q | q
    · rw [q]; omega
    · have := sum_mem f q; omega
theorem lv_len {n : Nat} {l : List (O × SD n)} (h : okW (n + 1) l) : l.length ≤ lv (n + 1) l := by
  show _ ≤ 0 * l.length + (l.map fun t => lv n t.2).sum
  have := sum_ge (fun t : O × SD n => lv n t.2) (l := l) fun t ht => lv_pos n t.2 (h.2.2.2 t ht)
  omega
theorem mu_mem {w : Nat → Nat} {c n : Nat} {l : List (O × SD n)} {t : O × SD n} (h : t ∈ l) : w n * l.length + mu w c n t.2 ≤ mu w c (n + 1) l := by
  have := sum_mem (fun t : O × SD n => mu w c n t.2) h
  rw [mu_succ]; omega
theorem lv_mem {n : Nat} {l : List (O × SD n)} {t : O × SD n} (h : t ∈ l) : lv n t.2 ≤ lv (n + 1) l := by
  have := mu_mem (w := fun _ => 0) (c := 1) h
  unfold lv; omega
theorem Bs.len {D W L N : Nat} : ∀ {n : Nat} {s : SD n}, okW n s → Bs D W L n s → lv n s ≤ N → Bs D W N n s
  | 0, _, _, _, _ => trivial
  | n + 1, (l : List (O × SD n)), k, h, hl => ⟨Nat.le_trans (lv_len k) hl, fun t ht => ⟨(h.2 t ht).1, (h.2 t ht).2.1, Bs.len (k.2.2.2 t ht) (h.2 t ht).2.2 (Nat.le_trans (lv_mem ht) hl)⟩⟩
theorem pick_sum {α : Type} (f : α → Nat) (o : O) : ∀ (l : List (O × α)) (d : α), f (pickGo o d l) + ((l.filter fun t => lt o t.1).map fun t => f t.2).sum ≤ f d + (l.map fun t => f t.2).sum
  | [], d => Nat.le_refl _
  | t :: r, d => by
    rw [List.filter_cons]
    show f (pickGo o (if lt o t.1 = true then d else t.2) r) + _ ≤ f d + (f t.2 + (r.map fun t => f t.2).sum)
    by_cases e : lt o t.1 = true
    · rw [if_pos e, if_pos e]
      have := pick_sum f o r d
      show f (pickGo o d r) + (f t.2 + ((r.filter fun t => lt o t.1).map fun t => f t.2).sum) ≤ _
      omega
    · rw [if_neg e, if_neg e]
      have := pick_sum f o r t.2
      omega
theorem filter_sum {α : Type} (f : α → Nat) (p : α → Bool) : ∀ l : List α, ((l.filter p).map f).sum ≤ (l.map f).sum
  | [] => Nat.le_refl _
  | t :: r => by
    have ih := filter_sum f p r
    rw [List.filter_cons]
    split
    · show f t + ((r.filter p).map f).sum ≤ f t + (r.map f).sum; omega
    · show ((r.filter p).map f).sum ≤ f t + (r.map f).sum; omega
theorem mu_filter {w : Nat → Nat} {c n : Nat} (l : List (O × SD n)) (p : O × SD n → Bool) : mu w c (n + 1) (l.filter p : List (O × SD n)) ≤ mu w c (n + 1) l := by
  rw [mu_succ, mu_succ]
  have h1 := filter_sum (fun t : O × SD n => mu w c n t.2) p l
  have h2 := Nat.mul_le_mul_left (w n) (List.length_filter_le p l)
  omega
theorem mu_splice {w : Nat → Nat} {c : Nat} : ∀ {n : Nat} {a b : SD n} {bd : O}, okW n b → mu w c n (splice n a b bd) ≤ mu w c n a + mu w c n b
  | 0, _, _, _, _ => Nat.le_add_right _ _
  | n + 1, (l1 : List (O × SD n)), (l2 : List (O × SD n)), bd, k2 => by
    obtain ⟨i, r, rfl⟩ := okW_head k2
    have hf : ((z, i) :: r).filter (fun t => lt bd t.1) = r.filter fun t => lt bd t.1 := by
      rw [List.filter_cons, if_neg (by rw [not_lt_nil]; decide)]
    have hp : pickS ((z, i) :: r) bd = pickGo bd i r := by
      show pickGo bd (if lt bd z = true then i else i) r = _
      rw [not_lt_nil]; rfl
    show mu w c (n + 1) ((l1.filter fun t => lt t.1 bd) ++ (bd, pickS ((z, i) :: r) bd) :: (((z, i) :: r).filter fun t => lt bd t.1) : List (O × SD n)) ≤ _
    rw [hf, hp, mu_succ, mu_succ, mu_succ, List.map_append, List.sum_append, List.length_append]
    have h1 := filter_sum (fun t : O × SD n => mu w c n t.2) (fun t => lt t.1 bd) l1
    have h2 := List.length_filter_le (fun t : O × SD n => lt t.1 bd) l1
    have h3 := List.length_filter_le (fun t : O × SD n => lt bd t.1) r
    have h4 := pick_sum (fun s : SD n => mu w c n s) bd r i
    have h5 : w n * ((l1.filter fun t => lt t.1 bd).length + ((bd, pickGo bd i r) :: r.filter fun t => lt bd t.1).length) ≤ w n * l1.length + w n * ((z, i) :: r).length := by
      rw [← Nat.mul_add]
      exact Nat.mul_le_mul_left _ (by rw [List.length_cons, List.length_cons]; omega)
    show _ + (_ + (mu w c n (pickGo bd i r) + ((r.filter fun t => lt bd t.1).map fun t => mu w c n t.2).sum)) ≤ _ + _ + (_ + (mu w c n i + (r.map fun t => mu w c n t.2).sum))
    omega
theorem long_len {n : Nat} {lim : Option O} : ∀ {rest : List (O × SD n)} {low : O} {before : SD n}, (longGo lim low before rest).length ≤ rest.length + 1
  | [], _, _ => Nat.le_refl _
  | t :: rest, low, before => by
    have i1 := long_len (lim := lim) (rest := rest) (low := low) (before := splice n before t.2 (endLim low t.1))
    have unf : longGo lim low before (t :: rest) = (match conf before t.2 (endLim low t.1) t.1 with
      | none => longGo lim low (splice n before t.2 (endLim low t.1)) rest
      | some f => if ltO f (nextO rest lim) = true then (low, before) :: longGo lim f t.2 rest else longGo lim low (splice n before t.2 (endLim low t.1)) rest) := rfl
    rw [unf, List.length_cons]
    split
    · omega
    · rename_i f _
      split
      · have i2 := long_len (lim := lim) (rest := rest) (low := f) (before := t.2)
        rw [List.length_cons]; omega
      · omega
theorem long_sum {n : Nat} {lim : Option O} (f : SD n → Nat) (hf : ∀ a b bd, okW n b → f (splice n a b bd) ≤ f a + f b) : ∀ {rest : List (O × SD n)} {low : O} {before : SD n}, (∀ t ∈ rest, okW n t.2) → ((longGo lim low before rest).map fun t => f t.2).sum ≤ f before + (rest.map fun t => f t.2).sum
  | [], _, _, _ => Nat.le_refl _
  | t :: rest, low, before, h => by
    have hr : ∀ t ∈ rest, okW n t.2 := fun t ht => h t (List.mem_cons_of_mem _ ht)
    have i1 := long_sum f hf (lim := lim) (rest := rest) (low := low) (before := splice n before t.2 (endLim low t.1)) hr
    have sp := hf before t.2 (endLim low t.1) (h t List.mem_cons_self)
    have unf : longGo lim low before (t :: rest) = (match conf before t.2 (endLim low t.1) t.1 with
      | none => longGo lim low (splice n before t.2 (endLim low t.1)) rest
      | some f => if ltO f (nextO rest lim) = true then (low, before) :: longGo lim f t.2 rest else longGo lim low (splice n before t.2 (endLim low t.1)) rest) := rfl
    rw [unf]
    show _ ≤ f before + (f t.2 + (rest.map fun t => f t.2).sum)
    split
    · omega
    · rename_i g _
      split
      · have i2 := long_sum f hf (lim := lim) (rest := rest) (low := g) (before := t.2) hr
        show f before + ((longGo lim g t.2 rest).map fun t => f t.2).sum ≤ _
        omega
      · omega
theorem mu_long {w : Nat → Nat} {c n : Nat} {lim : Option O} {rest : List (O × SD n)} {low : O} {before : SD n} (h : ∀ t ∈ rest, okW n t.2) : mu w c (n + 1) (longGo lim low before rest : List (O × SD n)) ≤ mu w c (n + 1) ((low, before) :: rest : List (O × SD n)) := by
  have h1 := long_sum (lim := lim) (low := low) (before := before) (fun s => mu w c n s) (fun a b bd k => mu_splice k) h
  have h2 := Nat.mul_le_mul_left (w n) (long_len (lim := lim) (rest := rest) (low := low) (before := before))
  rw [mu_succ, mu_succ]
  show _ ≤ w n * (rest.length + 1) + (mu w c n before + (rest.map fun t => mu w c n t.2).sum)
  omega
theorem long_gr {n : Nat} {lim : Option O} {rest : List (O × SD n)} {low : O} {before : SD n} (h : ∀ t ∈ rest, okW n t.2) {u : O × SD n} (hu : u ∈ longGo lim low before rest) : rest.length * wk n + gr n u.2 ≤ gr (n + 1) ((low, before) :: rest : List (O × SD n)) := by
  have h1 := long_sum (lim := lim) (low := low) (before := before) (fun s => gr n s) (fun a b bd k => mu_splice k) h
  have h2 := sum_mem (fun t : O × SD n => gr n t.2) hu
  rw [gr_succ]
  show _ ≤ wk n * (rest.length + 1) + (gr n before + (rest.map fun t => gr n t.2).sum)
  have : wk n * (rest.length + 1) = rest.length * wk n + wk n := by rw [Nat.mul_succ, Nat.mul_comm]
  omega
theorem okW_filter {n : Nat} {l : List (O × SD n)} {lim : Option O} (h : okW (n + 1) l) (ho : LimOk lim) : ∃ i r, l.filter (fun t => ltO t.1 lim) = (z, i) :: r ∧ Cells lim z i r ∧ longest lim l = longGo lim z i r ∧ ltO z lim = true ∧ r.length + 1 ≤ l.length ∧ ∀ t ∈ (z, i) :: r, t ∈ l := by
  have hz : ltO z lim = true := by
    cases lim with
    | none => rfl
    | some L => exact nil_lt (ho L rfl).2
  obtain ⟨i, r0, el⟩ := okW_head h
  have ef : l.filter (fun t => ltO t.1 lim) = (z, i) :: r0.filter fun t => ltO t.1 lim := by
    rw [el, List.filter_cons, if_pos hz]
  have elong : longest lim l = longGo lim z i (r0.filter fun t => ltO t.1 lim) := by
    unfold longest
    rw [ef]
  refine ⟨i, _, ef, ⟨rfl, ?_, ?_, fun t ht => ?_, fun t ht => ?_, fun t ht => (List.mem_filter.mp ht).2⟩, elong, hz, ?_, fun t ht => ?_⟩
  · exact h.2.2.2 (z, i) (by rw [el]; exact List.mem_cons_self)
  · rw [← ef]; exact h.2.1.filter _
  · exact h.2.2.1 t (by rw [el]; exact List.mem_cons_of_mem _ (List.mem_filter.mp ht).1)
  · exact h.2.2.2 t (by rw [el]; exact List.mem_cons_of_mem _ (List.mem_filter.mp ht).1)
  · rw [el, List.length_cons]
    have := List.length_filter_le (fun t : O × SD n => ltO t.1 lim) r0
    omega
  · rw [el]
    rcases List.mem_cons.mp ht with q | q
    · rw [q]; exact List.mem_cons_self
    · exact List.mem_cons_of_mem _ (List.mem_filter.mp q).1
theorem mu_cells {w : Nat → Nat} {c n : Nat} {f : SD n → Option O → SD n} {lim : Option O} (ho : LimOk lim) (hf : ∀ s l, okW n s → LimOk l → mu w c n (f s l) ≤ mu w c n s) : ∀ {R : List (O × SD n)} {low : O} {i : SD n}, Cells lim low i R → ltO low lim = true → mu w c (n + 1) (tidyCells f lim ((low, i) :: R) : List (O × SD n)) ≤ mu w c (n + 1) ((low, i) :: R : List (O × SD n))
  | [], low, i, C, hl => by
    rw [mu_succ, mu_succ, tidyCells_len]
    have := hf i (limO low (nextO [] lim)) C.bef (limO_ok C.okl (cells_next C hl ho))
    show _ + (mu w c n (f i (limO low (nextO [] lim))) + 0) ≤ _ + (mu w c n i + 0)
    omega
  | (b, j) :: R, low, i, C, hl => by
    have ih := mu_cells ho hf C.tail (C.blw (b, j) List.mem_cons_self)
    rw [mu_succ, mu_succ, tidyCells_len] at ih ⊢
    have := hf i (limO low (nextO ((b, j) :: R) lim)) C.bef (limO_ok C.okl (cells_next C hl ho))
    show _ + (mu w c n (f i (limO low (nextO ((b, j) :: R) lim))) + ((tidyCells f lim ((b, j) :: R)).map fun t => mu w c n t.2).sum) ≤ _ + (mu w c n i + ((((b, j) :: R : List (O × SD n))).map fun t => mu w c n t.2).sum)
    omega
/-- tidy makes nothing heavier -/
theorem mu_tidy {w : Nat → Nat} {c : Nat} : ∀ (n : Nat) (s : SD n) (lim : Option O), okW n s → LimOk lim → mu w c n (tidyB n s lim) ≤ mu w c n s
  | 0, _, _, _, _ => Nat.le_refl _
  | n + 1, (l : List (O × SD n)), lim, h, ho => by
    obtain ⟨i, r, ef, C, el, hz, _, _⟩ := okW_filter h ho
    obtain ⟨⟨i2, R, eR, CR⟩, _⟩ := longGo_ok C
    have h1 := mu_cells (w := w) (c := c) ho (fun s l => mu_tidy n s l) CR hz
    have h2 := mu_long (w := w) (c := c) (lim := lim) (low := z) (before := i) (rest := r) C.inn
    have h3 := mu_filter (w := w) (c := c) l (fun t => ltO t.1 lim)
    have et : tidyB (n + 1) l lim = tidyCells (tidyB n) lim ((z, i2) :: R) := by
      show tidyCells (tidyB n) lim (longest lim l) = _
      rw [el, eR]
    rw [et]
    rw [eR] at h2
    rw [ef] at h3
    exact Nat.le_trans h1 (Nat.le_trans h2 h3)
theorem lv_tidy {n : Nat} {s : SD n} {lim : Option O} (h : okW n s) (ho : LimOk lim) : lv n (tidyB n s lim) ≤ lv n s := mu_tidy n s lim h ho
theorem gr_tidy {n : Nat} {s : SD n} {lim : Option O} (h : okW n s) (ho : LimOk lim) : gr n (tidyB n s lim) ≤ gr n s := mu_tidy n s lim h ho
theorem splice_sz {D W L1 L2 n : Nat} {a b : SD n} {bd : O} (k2 : okW n b) (h1 : Bs D W L1 n a) (h2 : Bs D W L2 n b) (hd : dp bd ≤ D) (hw : wd bd ≤ W + 1) : Bs D (W + wk n) (L1 + L2 + 1) n (splice n a b bd) := by
  cases n with
  | zero => trivial
  | succ n => exact splice_bd k2 (h1.mono (Nat.le_succ _) (Nat.le_refl _)) (h2.mono (Nat.le_succ _) (Nat.le_refl _)) hd hw
/-- one step of the longest cells: what is kept -/
theorem conf_sz {n D W L : Nat} (hD : 4 ≤ D) (hW : 1 ≤ W) {before inner : SD n} {low b f : O} (h1 : okW n before) (h2 : okW n inner) (hl : ok low = true) (hb : ok b = true) (hlb : lt low b = true) (b1 : Bs D W L n before) (b2 : Bs D W L n inner) (dl : dp low ≤ D) (db : dp b ≤ D ∧ wd b ≤ W) (h : conf before inner (endLim low b) b = some f) : dp f ≤ D ∧ wd f ≤ W ∧ ok f = true ∧ lt f b = false := by
  obtain ⟨r, qp, q1, qf, q3⟩ := conf_part h1 h2 h
  have hbd : ok (endLim low b) = true := ok_lim hl hb hlb
  have d1 : dp (endLim low b) + 2 ≤ max (max (dp low) (dp b)) 4 := dp_lim2 hl hb hlb
  have pw := part_wd hW h1 h2 b1 b2 qp
  rw [qf]
  refine ⟨(reach_bd (W := W + wd b + 1 + (r.map wd).sum) (b := b) (r := r) db.1 (by omega) fun g hg => ?_).1, reach_wd hW db.2 fun g hg => pw g (List.mem_of_mem_head? hg), reach_ok hb q1, reach_ge hb q1⟩
  have hm := List.mem_of_mem_head? hg
  have m1 := dp_mono (q1.2.1 g hm) hbd (lt_asymm (q3 g hg))
  have m2 := sum_mem wd hm
  have := db.1
  omega
theorem long_sz {n D L : Nat} (hD : 4 ≤ D) {lim : Option O} : ∀ {rest : List (O × SD n)} {low : O} {before : SD n} {W : Nat}, 1 ≤ W → Cells lim low before rest → dp low ≤ D → wd low ≤ W → Bs D W L n before → (∀ t ∈ rest, dp t.1 ≤ D ∧ wd t.1 ≤ W ∧ Bs D W L n t.2) → mu (fun _ => 0) 1 (n + 1) ((low, before) :: rest : List (O × SD n)) ≤ L →
    ∀ t ∈ longGo lim low before rest, dp t.1 ≤ D ∧ wd t.1 ≤ W + rest.length * wk n ∧ Bs D (W + rest.length * wk n) L n t.2
  | [], low, before, W, _, C, h1, h2, h3, _, _ => fun t ht => by
      rw [List.mem_singleton.mp ht]
      exact ⟨h1, by show wd low ≤ W + 0 * wk n; omega, h3.mono (by simp) (Nat.le_refl _)⟩
  | t :: rest, low, before, W, hW, C, h1, h2, h3, hr, hL => by
    obtain ⟨b, inner⟩ := t
    have asc' := List.pairwise_cons.mp C.asc
    have hlb : lt low b = true := asc'.1 (b, inner) List.mem_cons_self
    have asc2 := List.pairwise_cons.mp asc'.2
    have hb := C.ok (b, inner) List.mem_cons_self
    have hi := C.inn (b, inner) List.mem_cons_self
    have hbl := C.blw (b, inner) List.mem_cons_self
    have hbd : ok (endLim low b) = true := ok_lim C.okl hb hlb
    have hbz : endLim low b ≠ z := lim_ne C.okl hb hlb
    obtain ⟨r1, r2, r3⟩ := hr (b, inner) List.mem_cons_self
    have d1 : dp (endLim low b) + 2 ≤ max (max (dp low) (dp b)) 4 := dp_lim2 C.okl hb hlb
    have w1 := wd_lim1 low b
    have r1 : dp b ≤ D := r1
    have r2 : wd b ≤ W := r2
    have dbd : dp (endLim low b) + 2 ≤ D := by omega
    have hspl := splice_ok C.bef hi hbd hbz
    have Cs : Cells lim low (splice n before inner (endLim low b)) rest := ⟨C.okl, hspl, List.pairwise_cons.mpr ⟨fun t ht => asc'.1 t (List.mem_cons_of_mem _ ht), asc2.2⟩, fun t ht => C.ok t (List.mem_cons_of_mem _ ht), fun t ht => C.inn t (List.mem_cons_of_mem _ ht), fun t ht => C.blw t (List.mem_cons_of_mem _ ht)⟩
    have e1 : (rest.length + 1) * wk n = rest.length * wk n + wk n := Nat.succ_mul _ _
    have hL' : 0 * _ + (lv n before + (lv n inner + (rest.map fun t => lv n t.2).sum)) ≤ L := hL
    have ms : lv n (splice n before inner (endLim low b)) ≤ lv n before + lv n inner := mu_splice hi
    have spl := long_sz (n := n) (L := L) hD (W := W + wk n) (by omega) Cs h1 (by omega) (Bs.len hspl (splice_sz hi h3 r3 (by omega) (by omega)) (by omega)) (fun t ht => by
      have := hr t (List.mem_cons_of_mem _ ht)
      exact ⟨this.1, by omega, this.2.2.mono (Nat.le_add_right _ _) (Nat.le_refl _)⟩) (by show 0 * _ + (lv n (splice n before inner (endLim low b)) + (rest.map fun t => lv n t.2).sum) ≤ L; omega)
    have spl' : ∀ t ∈ longGo lim low (splice n before inner (endLim low b)) rest, dp t.1 ≤ D ∧ wd t.1 ≤ W + (rest.length + 1) * wk n ∧ Bs D (W + (rest.length + 1) * wk n) L n t.2 := fun t ht => by
        have := spl t ht
        exact ⟨this.1, by omega, this.2.2.mono (by omega) (Nat.le_refl _)⟩
    have unf : longGo lim low before ((b, inner) :: rest) = (match conf before inner (endLim low b) b with
      | none => longGo lim low (splice n before inner (endLim low b)) rest
      | some f => if ltO f (nextO rest lim) = true then (low, before) :: longGo lim f inner rest else longGo lim low (splice n before inner (endLim low b)) rest) := rfl
    show ∀ t ∈ longGo lim low before ((b, inner) :: rest), dp t.1 ≤ D ∧ wd t.1 ≤ W + (rest.length + 1) * wk n ∧ Bs D (W + (rest.length + 1) * wk n) L n t.2
    cases e : conf before inner (endLim low b) b with
    | none =>
      have u1 : longGo lim low before ((b, inner) :: rest) = longGo lim low (splice n before inner (endLim low b)) rest := by rw [unf]; simp only [e]
      rw [u1]; exact spl'
    | some f =>
      by_cases g : ltO f (nextO rest lim) = true
      · have u1 : longGo lim low before ((b, inner) :: rest) = (low, before) :: longGo lim f inner rest := by rw [unf]; simp only [e]; exact if_pos g
        rw [u1]
        obtain ⟨f1, f2, hf, hfb⟩ := conf_sz hD hW C.bef hi C.okl hb hlb h3 r3 h1 ⟨r1, r2⟩ e
        have hfr : ∀ u ∈ rest, lt f u.1 = true := fun u hu => by
          cases rest with
          | nil => cases hu
          | cons w rest =>
            rcases List.mem_cons.mp hu with q | q
            · rw [q]; exact g
            · exact lt_trans _ _ _ (show lt f w.1 = true from g) ((List.pairwise_cons.mp asc2.2).1 u q)
        have Cf : Cells lim f inner rest := ⟨hf, hi, List.pairwise_cons.mpr ⟨hfr, asc2.2⟩, fun t ht => C.ok t (List.mem_cons_of_mem _ ht), fun t ht => C.inn t (List.mem_cons_of_mem _ ht), fun t ht => C.blw t (List.mem_cons_of_mem _ ht)⟩
        have ih := long_sz (n := n) (L := L) hD (W := W) hW Cf f1 f2 r3 (fun t ht => hr t (List.mem_cons_of_mem _ ht)) (by show 0 * _ + (lv n inner + (rest.map fun t => lv n t.2).sum) ≤ L; omega)
        intro t ht
        rcases List.mem_cons.mp ht with q | q
        · rw [q]; exact ⟨h1, by show wd low ≤ _; omega, h3.mono (by omega) (Nat.le_refl _)⟩
        · have := ih t q
          exact ⟨this.1, by omega, this.2.2.mono (by omega) (Nat.le_refl _)⟩
      · have u1 : longGo lim low before ((b, inner) :: rest) = longGo lim low (splice n before inner (endLim low b)) rest := by rw [unf]; simp only [e]; exact if_neg g
        rw [u1]; exact spl'
theorem gr_mem {n : Nat} {l : List (O × SD n)} {t : O × SD n} (h : t ∈ l) : wk n * l.length + gr n t.2 ≤ gr (n + 1) l := mu_mem (w := fun n => if n = 0 then 0 else 1) (c := 0) h
/-- what tidy makes is not much larger -/
theorem tidy_sz {D : Nat} (hD : 4 ≤ D) : ∀ (n : Nat) (s : SD n) (lim : Option O) (W L : Nat), 1 ≤ W → okW n s → LimOk lim → Bs D W L n s → lv n s ≤ L → Bs D (W + gr n s) L n (tidyB n s lim)
  | 0, _, _, _, _, _, _, _, _, _ => trivial
  | n + 1, (l : List (O × SD n)), lim, W, L, hW, h, ho, hb, hL => by
    obtain ⟨i, r, ef, C, el, hz, hlen, hm⟩ := okW_filter h ho
    obtain ⟨⟨i2, R, eR, CR⟩, _⟩ := longGo_ok C
    have b2 := hb.2
    have hl2 := hb.1
    have mf := mu_filter (w := fun _ => 0) (c := 1) l (fun t => ltO t.1 lim)
    rw [ef] at mf
    have hLl : mu (fun _ => 0) 1 (n + 1) ((z, i) :: r : List (O × SD n)) ≤ L := Nat.le_trans mf hL
    have B := long_sz (n := n) (L := L) hD (W := W) hW C (Nat.zero_le _) (Nat.zero_le _) (b2 (z, i) (hm _ List.mem_cons_self)).2.2 (fun t ht => b2 t (hm t (List.mem_cons_of_mem _ ht))) hLl
    have g1 := mu_long (w := fun n => if n = 0 then 0 else 1) (c := 0) (lim := lim) (low := z) (before := i) (rest := r) C.inn
    have g2 := mu_filter (w := fun n => if n = 0 then 0 else 1) (c := 0) l (fun t => ltO t.1 lim)
    rw [ef] at g2
    have g3 : gr (n + 1) (longGo lim z i r : List (O × SD n)) ≤ gr (n + 1) l := Nat.le_trans g1 g2
    have l1 := mu_long (w := fun _ => 0) (c := 1) (lim := lim) (low := z) (before := i) (rest := r) C.inn
    have l3 : lv (n + 1) (longGo lim z i r : List (O × SD n)) ≤ L := Nat.le_trans l1 hLl
    rw [eR] at B l3
    have et : tidyB (n + 1) l lim = tidyCells (tidyB n) lim ((z, i2) :: R) := by
      show tidyCells (tidyB n) lim (longest lim l) = _
      rw [el, eR]
    rw [et]
    -- a cell of the longest, with what its tidying adds
    have key : ∀ u ∈ (z, i2) :: R, W + r.length * wk n + gr n u.2 ≤ W + gr (n + 1) l := fun u hu => by
      have h0 := long_gr (lim := lim) (low := z) (before := i) C.inn (u := u) (by rw [eR]; exact hu)
      have h1 : gr (n + 1) ((z, i) :: r : List (O × SD n)) ≤ gr (n + 1) l := g2
      omega
    refine ⟨by
      show (tidyCells (tidyB n) lim ((z, i2) :: R)).length ≤ L
      rw [tidyCells_len]
      have := lv_len (n := n) (l := (z, i2) :: R) ⟨rfl, CR.asc, fun t ht => by
        rcases List.mem_cons.mp ht with q | q
        · rw [q]; rfl
        · exact CR.ok t q, fun t ht => by
        rcases List.mem_cons.mp ht with q | q
        · rw [q]; exact CR.bef
        · exact CR.inn t q⟩
      omega, fun t ht => ?_⟩
    obtain ⟨u, hu, lim', ku, kl, rfl⟩ := tidyCells_mem ho CR hz ht
    have bu := B u hu
    have k := key u hu
    refine ⟨bu.1, by have := bu.2.1; show wd u.1 ≤ _; omega, ?_⟩
    exact (tidy_sz hD n u.2 lim' (W + r.length * wk n) L (by omega) ku kl bu.2.2 (Nat.le_trans (lv_mem (l := (z, i2) :: R) hu) l3)).mono k (Nat.le_refl _)
end Vw

set_option Elab.async false
set_option linter.all false
set_option maxRecDepth 100000
/-! two stairs joined step by step; what is asked of stairs that are computed with (plain) -/
namespace Vw
open PySem PySem.W PyProof.Rows L2
open O
theorem Bs.monoD {D D' W L : Nat} (hd : D ≤ D') : ∀ {n : Nat} {s : SD n}, Bs D W L n s → Bs D' W L n s
  | 0, _, _ => trivial
  | n + 1, (l : List (O × SD n)), h => ⟨h.1, fun t ht => ⟨Nat.le_trans (h.2 t ht).1 hd, (h.2 t ht).2.1, Bs.monoD hd (h.2 t ht).2.2⟩⟩
theorem okS_bs : ∀ (n : Nat) (s : SD n), okS n s → Bs 8 3 4 n s
  | 0, _, _ => trivial
  | n + 1, (l : List (O × SD n)), h => ⟨h.2.2.2.2.1, fun t ht => ⟨(h.2.2.1 t ht).2.1, (h.2.2.1 t ht).2.2, okS_bs n t.2 (h.2.2.2.1 t ht)⟩⟩
theorem sum_le {α : Type} (f : α → Nat) {B : Nat} : ∀ {l : List α}, (∀ t ∈ l, f t ≤ B) → (l.map f).sum ≤ l.length * B
  | [], _ => by simp
  | t :: r, h => by
    have h1 := h t List.mem_cons_self
    have h2 := sum_le f (l := r) fun x hx => h x (List.mem_cons_of_mem _ hx)
    show f t + (r.map f).sum ≤ (r.length + 1) * B
    rw [Nat.succ_mul]; omega
theorem okS_lv : ∀ (n : Nat) (s : SD n), okS n s → lv n s ≤ 4 ^ n
  | 0, _, _ => Nat.le_refl 1
  | n + 1, (l : List (O × SD n)), h => by
    have h1 := sum_le (fun t : O × SD n => lv n t.2) (l := l) (B := 4 ^ n) fun t ht => okS_lv n t.2 (h.2.2.2.1 t ht)
    have h2 := Nat.mul_le_mul_right (4 ^ n) h.2.2.2.2.1
    show 0 * l.length + (l.map fun t => lv n t.2).sum ≤ 4 ^ n * 4
    rw [Nat.mul_comm (4 ^ n) 4]
    omega
/-- the steps that have stairs within, by the leaves -/
theorem gr_lv : ∀ (n : Nat) (s : SD n), okW n s → gr n s ≤ n * lv n s
  | 0, _, _ => Nat.zero_le _
  | n + 1, (l : List (O × SD n)), h => by
    have h1 : ∀ l : List (O × SD n), (∀ t ∈ l, okW n t.2) → (l.map fun t => gr n t.2).sum ≤ n * (l.map fun t => lv n t.2).sum := by
      intro l
      induction l with
      | nil => intro _; exact Nat.zero_le _
      | cons t r ih =>
        intro g
        have i1 := ih fun x hx => g x (List.mem_cons_of_mem _ hx)
        have i2 := gr_lv n t.2 (g t List.mem_cons_self)
        show gr n t.2 + (r.map fun t => gr n t.2).sum ≤ n * (lv n t.2 + (r.map fun t => lv n t.2).sum)
        rw [Nat.mul_add]; omega
    have h2 := h1 l h.2.2.2
    have h3 := lv_len h
    have h4 : wk n * l.length ≤ l.length := by
      have : wk n ≤ 1 := by unfold wk; split <;> omega
      have := Nat.mul_le_mul_right l.length this
      omega
    have h5 : (l.map fun t => lv n t.2).sum ≤ lv (n + 1) l := by
      show (l.map fun t => lv n t.2).sum ≤ 0 * l.length + (l.map fun t => lv n t.2).sum; omega
    have h6 := Nat.mul_le_mul_left n h5
    show wk n * l.length + (l.map fun t => gr n t.2).sum ≤ (n + 1) * lv (n + 1) l
    rw [Nat.succ_mul]; omega
theorem isSt_W : ∀ (n : Nat) (s : SD n), okW n s → IsSt n (stD n s)
  | 0, (b : Bool), _ => ⟨b, rfl⟩
  | n + 1, (l : List (O × SD n)), h => by
    obtain ⟨h6, h2, h3, h4⟩ := (h : l.head?.map (·.1) = some O.z ∧ Asc l ∧ (∀ t ∈ l, ok t.1 = true) ∧ ∀ t ∈ l, okW n t.2)
    have hne : l ≠ [] := fun z => by rw [z] at h6; cases h6
    refine ⟨l.map fun t => .tuple [O.toD t.1, stD n t.2], l.map (·.1), rfl, fun z => hne (List.map_eq_nil_iff.mp z), ⟨by rw [List.length_map, List.length_map], fun j o hj => ?_, (by have h2' : l.Pairwise fun a b => O.lt a.1 b.1 = true := h2; exact List.pairwise_map.mpr h2'), fun o ho => ?_⟩⟩
    · rw [List.getElem?_map] at hj
      obtain ⟨t, ht, rfl⟩ := Option.map_eq_some_iff.mp hj
      have hm := List.mem_of_getElem? ht
      exact ⟨stD n t.2, by rw [List.getElem?_map, ht]; rfl, h3 t hm, isSt_W n t.2 (h4 t hm)⟩
    · rw [List.head?_map, h6] at ho
      exact (Option.some.inj ho).symm
theorem depth_W {D W L : Nat} : ∀ (n : Nat) (s : SD n), Bs D W L n s → (stD n s).depth ≤ D + 3 + 2 * n
  | 0, (b : Bool), _ => by show (PyData.bool b).depth ≤ _; simp only [PyData.depth]; omega
  | n + 1, (l : List (O × SD n)), h => by
    have h3 := h.2
    have key : ∀ l : List (O × SD n), (∀ t ∈ l, O.dp t.1 ≤ D ∧ O.wd t.1 ≤ W ∧ Bs D W L n t.2) → PyData.depthAll (l.map fun t => .tuple [O.toD t.1, stD n t.2]) ≤ D + 4 + 2 * n := by
      intro l
      induction l with
      | nil => intro _; exact Nat.zero_le _
      | cons t r ih =>
        intro g1
        have i1 := ih (fun x hx => g1 x (List.mem_cons_of_mem _ hx))
        have i2 := depth_W n t.2 (g1 t List.mem_cons_self).2.2
        have i3 := (g1 t List.mem_cons_self).1
        simp only [List.map_cons, PyData.depthAll, PyData.depth, O.depth_toD]
        omega
    have := key l h3
    show (PyData.tuple (l.map fun t => .tuple [O.toD t.1, stD n t.2])).depth ≤ _
    simp only [PyData.depth]
    omega
/-! ### joins -/
def joinS (op : Bool → Bool → Bool) : (n : Nat) → SD n → SD n → SD n
  | 0, (a : Bool), (b : Bool) => op a b
  | n + 1, (l1 : List (O × SD n)), (l2 : List (O × SD n)) => (bsOf l1 l2).map fun o => (o, joinS op n (pickS l1 o) (pickS l2 o))
theorem bs_z {n : Nat} {β : Type} {l1 : List (O × SD n)} {l2 : List (O × β)} (h : okW (n + 1) l1) : ∃ r, bsOf l1 l2 = z :: r := by
  obtain ⟨i, r, rfl⟩ := okW_head h
  have hm : z ∈ bsOf ((z, i) :: r) l2 := bs_mem.mpr (.inl ⟨_, List.mem_cons_self, rfl⟩)
  have ha : AscO (bsOf ((z, i) :: r) l2) := fold_asc _
  cases e : bsOf ((z, i) :: r) l2 with
  | nil => rw [e] at hm; cases hm
  | cons x s =>
    rw [e] at hm ha
    rcases List.mem_cons.mp hm with q | q
    · rw [← q]; exact ⟨s, rfl⟩
    · have := (List.pairwise_cons.mp ha).1 z q
      rw [not_lt_nil] at this; cases this
theorem bs_ok {n : Nat} {l1 l2 : List (O × SD n)} (h1 : okW (n + 1) l1) (h2 : okW (n + 1) l2) : ∀ o ∈ bsOf l1 l2, ok o = true := fun o ho => by
  rcases bs_mem.mp ho with ⟨t, ht, e⟩ | ⟨t, ht, e⟩
  · rw [← e]; exact h1.2.2.1 t ht
  · rw [← e]; exact h2.2.2.1 t ht
theorem ins_len (o : O) : ∀ l : List O, (insO o l).length ≤ l.length + 1
  | [] => Nat.le_refl 1
  | p :: r => by
    have := ins_len o r
    unfold insO
    split
    · simp
    · split
      · simp
      · simp only [List.length_cons]; omega
theorem bs_len {α β : Type} (l1 : List (O × α)) (l2 : List (O × β)) : (bsOf l1 l2).length ≤ l1.length + l2.length := by
  have key : ∀ l : List O, (l.foldr insO []).length ≤ l.length := by
    intro l
    induction l with
    | nil => exact Nat.le_refl 0
    | cons x r ih =>
      have := ins_len x (r.foldr insO [])
      show (insO x (r.foldr insO [])).length ≤ r.length + 1
      omega
  have := key (l1.map (·.1) ++ l2.map (·.1))
  rw [List.length_append, List.length_map, List.length_map] at this
  exact this
theorem okW_join {op : Bool → Bool → Bool} : ∀ (n : Nat) (a b : SD n), okW n a → okW n b → okW n (joinS op n a b)
  | 0, _, _, _, _ => trivial
  | n + 1, (l1 : List (O × SD n)), (l2 : List (O × SD n)), h1, h2 => by
    obtain ⟨r, e⟩ := bs_z (l2 := l2) h1
    have ha : AscO (bsOf l1 l2) := fold_asc _
    show (((bsOf l1 l2).map fun o => (o, joinS op n (pickS l1 o) (pickS l2 o))).head?.map (·.1) = some O.z) ∧ Asc ((bsOf l1 l2).map fun o => (o, joinS op n (pickS l1 o) (pickS l2 o))) ∧ (∀ t ∈ ((bsOf l1 l2).map fun o => (o, joinS op n (pickS l1 o) (pickS l2 o))), ok t.1 = true) ∧ ∀ t ∈ ((bsOf l1 l2).map fun o => (o, joinS op n (pickS l1 o) (pickS l2 o))), okW n t.2
    refine ⟨by rw [e]; rfl, List.pairwise_map.mpr (ha.imp fun h => h), fun t ht => ?_, fun t ht => ?_⟩
    · obtain ⟨o, ho, rfl⟩ := List.mem_map.mp ht
      exact bs_ok h1 h2 o ho
    · obtain ⟨o, ho, rfl⟩ := List.mem_map.mp ht
      exact okW_join n _ _ (okW_pick h1 o) (okW_pick h2 o)
theorem last_le {x : O} : ∀ {bs : List O}, AscO bs → (∃ b ∈ bs, lt x b = false) → ∃ b ∈ bs, lt x b = false ∧ ∀ c ∈ bs, lt b c = true → lt x c = true
  | [], _, ⟨b, hb, _⟩ => by cases hb
  | c :: r, h, ⟨b, hb, hx⟩ => by
    have h' := List.pairwise_cons.mp h
    by_cases e : ∃ b ∈ r, lt x b = false
    · obtain ⟨b, hb, h1, h2⟩ := last_le h'.2 e
      refine ⟨b, List.mem_cons_of_mem _ hb, h1, fun d hd hl => ?_⟩
      rcases List.mem_cons.mp hd with q | q
      · rw [q, lt_asymm (h'.1 b hb)] at hl; cases hl
      · exact h2 d q hl
    · rcases List.mem_cons.mp hb with q | q
      · refine ⟨c, List.mem_cons_self, by rw [← q]; exact hx, fun d hd hl => ?_⟩
        rcases List.mem_cons.mp hd with z | z
        · rw [z, lt_irrefl] at hl; cases hl
        · cases g : lt x d with
          | true => rfl
          | false => exact absurd ⟨d, z, g⟩ e
      · exact absurd ⟨b, q, hx⟩ e
theorem pick_map {α : Type} {x b : O} (g : O → α) : ∀ {bs : List O} {d : α}, AscO bs → b ∈ bs → lt x b = false → (∀ c ∈ bs, lt b c = true → lt x c = true) → pickGo x d (bs.map fun o => (o, g o)) = g b
  | [], _, _, h, _, _ => by cases h
  | c :: r, d, ha, hb, h1, h2 => by
    have ha' := List.pairwise_cons.mp ha
    show pickGo x (if lt x c = true then d else g c) (r.map fun o => (o, g o)) = g b
    rcases List.mem_cons.mp hb with q | q
    · subst q
      rw [h1]
      exact pickGo_above fun t ht => by
        obtain ⟨o, ho, rfl⟩ := List.mem_map.mp ht
        exact h2 o (List.mem_cons_of_mem _ ho) (ha'.1 o ho)
    · exact pick_map g ha'.2 q h1 fun c hc => h2 c (List.mem_cons_of_mem _ hc)
theorem bs_last {n : Nat} {l1 l2 : List (O × SD n)} (h1 : okW (n + 1) l1) (x : O) : ∃ b ∈ bsOf l1 l2, lt x b = false ∧ pickS l1 x = pickS l1 b ∧ pickS l2 x = pickS l2 b ∧ ∀ c ∈ bsOf l1 l2, lt b c = true → lt x c = true := by
  obtain ⟨r, e⟩ := bs_z (l2 := l2) h1
  obtain ⟨b, hb, hx, hn⟩ := last_le (x := x) (fold_asc (l1.map (·.1) ++ l2.map (·.1))) ⟨z, by show z ∈ bsOf l1 l2; rw [e]; exact List.mem_cons_self, not_lt_nil x⟩
  exact ⟨b, hb, hx, pick_same hx fun t ht hl => hn t.1 (bs_mem.mpr (.inl ⟨t, ht, rfl⟩)) hl, pick_same hx fun t ht hl => hn t.1 (bs_mem.mpr (.inr ⟨t, ht, rfl⟩)) hl, hn⟩
theorem pick_join {op : Bool → Bool → Bool} {n : Nat} {l1 l2 : List (O × SD n)} (h1 : okW (n + 1) l1) (h2 : okW (n + 1) l2) (x : O) : pickS (n := n) (joinS op (n + 1) l1 l2) x = joinS op n (pickS l1 x) (pickS l2 x) := by
  obtain ⟨b, hb, hx, e1, e2, hn⟩ := bs_last (l2 := l2) h1 x
  rw [e1, e2, pickS_d (okW_join (op := op) (n + 1) l1 l2 h1 h2) x (SD.dflt n)]
  exact pick_map (fun o => joinS op n (pickS l1 o) (pickS l2 o)) (fold_asc _) hb hx hn
theorem val_join {op : Bool → Bool → Bool} : ∀ (n : Nat) (a b : SD n) (r : List O), okW n a → okW n b → valS n (joinS op n a b) r = op (valS n a r) (valS n b r)
  | 0, _, _, _, _, _ => rfl
  | n + 1, (l1 : List (O × SD n)), (l2 : List (O × SD n)), r, h1, h2 => by
    show valS n (pickS (n := n) (joinS op (n + 1) l1 l2) (r.headD .z)) r.tail = op (valS n (pickS l1 (r.headD .z)) r.tail) (valS n (pickS l2 (r.headD .z)) r.tail)
    rw [pick_join h1 h2]
    exact val_join n _ _ _ (okW_pick h1 _) (okW_pick h2 _)
theorem bs_join {op : Bool → Bool → Bool} {D W L1 L2 : Nat} : ∀ (n : Nat) (a b : SD n), okW n a → okW n b → Bs D W L1 n a → Bs D W L2 n b → Bs D W (L1 + L2) n (joinS op n a b)
  | 0, _, _, _, _, _, _ => trivial
  | n + 1, (l1 : List (O × SD n)), (l2 : List (O × SD n)), h1, h2, b1, b2 => by
    show ((bsOf l1 l2).map fun o => (o, joinS op n (pickS l1 o) (pickS l2 o))).length ≤ L1 + L2 ∧ ∀ t ∈ ((bsOf l1 l2).map fun o => (o, joinS op n (pickS l1 o) (pickS l2 o))), dp t.1 ≤ D ∧ wd t.1 ≤ W ∧ Bs D W (L1 + L2) n t.2
    have l1' := b1.1
    have l2' := b2.1
    refine ⟨by rw [List.length_map]; have := bs_len l1 l2; omega, fun t ht => ?_⟩
    obtain ⟨o, ho, rfl⟩ := List.mem_map.mp ht
    have ih := bs_join (op := op) n _ _ (okW_pick h1 o) (okW_pick h2 o) (b1.pick h1 o) (b2.pick h2 o)
    rcases bs_mem.mp ho with ⟨t, ht, e⟩ | ⟨t, ht, e⟩
    · rw [← e] at ih ⊢; exact ⟨(b1.2 t ht).1, (b1.2 t ht).2.1, ih⟩
    · rw [← e] at ih ⊢; exact ⟨(b2.2 t ht).1, (b2.2 t ht).2.1, ih⟩
/-! ### weights of joins -/
/-- what is picked at b, with all behind it -/
def ts_ {α : Type} (f : α → Nat) (b : O) (d : α) (l : List (O × α)) : Nat := f (pickGo b d l) + ((l.filter fun t => lt b t.1).map fun t => f t.2).sum
theorem ts_cons {α : Type} (f : α → Nat) (b : O) (d : α) (t : O × α) (r : List (O × α)) : ts_ f b d (t :: r) = if lt b t.1 = true then ts_ f b d r + f t.2 else ts_ f b t.2 r := by
  unfold ts_
  rw [List.filter_cons]
  show f (pickGo b (if lt b t.1 = true then d else t.2) r) + _ = _
  by_cases e : lt b t.1 = true
  · rw [if_pos e, if_pos e, if_pos e]
    show _ + (f t.2 + ((r.filter fun t => lt b t.1).map fun t => f t.2).sum) = _
    omega
  · rw [if_neg e, if_neg e, if_neg e]
theorem ts_later {α : Type} (f : α → Nat) {b0 b1 : O} (hb : lt b0 b1 = true) : ∀ {l : List (O × α)} {d : α}, Asc l → ts_ f b1 d l ≤ ts_ f b0 d l ∧ ((∃ t ∈ l, t.1 = b1) → f (pickGo b0 d l) + ts_ f b1 d l ≤ ts_ f b0 d l)
  | [], d, _ => ⟨Nat.le_refl _, fun ⟨t, ht, _⟩ => by cases ht⟩
  | t :: r, d, h => by
    have h' := List.pairwise_cons.mp h
    rw [ts_cons, ts_cons]
    show _ ∧ (_ → f (pickGo b0 (if lt b0 t.1 = true then d else t.2) r) + _ ≤ _)
    by_cases e1 : lt b1 t.1 = true
    · have e0 : lt b0 t.1 = true := lt_trans _ _ _ hb e1
      rw [if_pos e1, if_pos e0, if_pos e0]
      have ih := ts_later f hb (l := r) (d := d) h'.2
      refine ⟨by omega, fun ⟨u, hu, hu1⟩ => ?_⟩
      exfalso
      rcases List.mem_cons.mp hu with q | q
      · rw [← hu1, q, lt_irrefl] at e1; cases e1
      · have := lt_trans _ _ _ e1 (h'.1 u q)
        rw [hu1, lt_irrefl] at this; cases this
    · rw [if_neg e1]
      by_cases e0 : lt b0 t.1 = true
      · rw [if_pos e0, if_pos e0]
        have all : ∀ u ∈ r, lt b0 u.1 = true := fun u hu => lt_trans _ _ _ e0 (h'.1 u hu)
        have a1 : ts_ f b0 d r = f d + (r.map fun t => f t.2).sum := by
          unfold ts_
          rw [pickGo_above all, List.filter_eq_self.mpr all]
        have a2 : ts_ f b1 t.2 r ≤ f t.2 + (r.map fun t => f t.2).sum := pick_sum f b1 r t.2
        rw [a1, pickGo_above all]
        exact ⟨by omega, fun _ => by omega⟩
      · rw [if_neg e0, if_neg e0]
        have ih := ts_later f hb (l := r) (d := t.2) h'.2
        refine ⟨ih.1, fun ⟨u, hu, hu1⟩ => ih.2 ?_⟩
        rcases List.mem_cons.mp hu with q | q
        · exfalso
          rw [← q, hu1] at e0
          exact e0 hb
        · exact ⟨u, q, hu1⟩
theorem pairs_sum {α β : Type} (f : α → Nat) (g : β → Nat) (F : α → β → Nat) (hF : ∀ a b, F a b ≤ f a * g b) {l1 : List (O × α)} {l2 : List (O × β)} {d1 : α} {d2 : β} (a1 : Asc l1) (a2 : Asc l2) : ∀ {r : List O} {b : O}, AscO (b :: r) → (∀ c ∈ r, (∃ t ∈ l1, t.1 = c) ∨ ∃ t ∈ l2, t.1 = c) →
    ((b :: r).map fun o => F (pickGo o d1 l1) (pickGo o d2 l2)).sum ≤ ts_ f b d1 l1 * ts_ g b d2 l2
  | [], b, _, _ => by
    show F _ _ + 0 ≤ _
    refine Nat.le_trans (hF _ _) (Nat.mul_le_mul ?_ ?_)
    · unfold ts_; omega
    · unfold ts_; omega
  | c :: r, b, h, hm => by
    have h' := List.pairwise_cons.mp h
    have hbc := h'.1 c List.mem_cons_self
    have ih := pairs_sum f g F hF (d1 := d1) (d2 := d2) a1 a2 h'.2 fun c hc => hm c (List.mem_cons_of_mem _ hc)
    have t1 := ts_later f hbc (d := d1) a1
    have t2 := ts_later g hbc (d := d2) a2
    have h0 := hF (pickGo b d1 l1) (pickGo b d2 l2)
    show F (pickGo b d1 l1) (pickGo b d2 l2) + ((c :: r).map fun o => F (pickGo o d1 l1) (pickGo o d2 l2)).sum ≤ _
    have p1 : f (pickGo b d1 l1) ≤ ts_ f b d1 l1 := by unfold ts_; omega
    have p2 : g (pickGo b d2 l2) ≤ ts_ g b d2 l2 := by unfold ts_; omega
    rcases hm c List.mem_cons_self with q | q
    · have k := t1.2 q
      have m1 := Nat.mul_le_mul_right (ts_ g b d2 l2) k
      rw [Nat.add_mul] at m1
      have m2 := Nat.mul_le_mul_left (ts_ f c d1 l1) t2.1
      have m3 := Nat.mul_le_mul_left (f (pickGo b d1 l1)) p2
      omega
    · have k := t2.2 q
      have m1 := Nat.mul_le_mul_left (ts_ f b d1 l1) k
      rw [Nat.mul_add] at m1
      have m2 := Nat.mul_le_mul_right (ts_ g c d2 l2) t1.1
      have m3 := Nat.mul_le_mul_right (g (pickGo b d2 l2)) p1
      omega
theorem ts_z {α : Type} (f : α → Nat) {i : α} {r : List (O × α)} (d : α) : ts_ f z d ((z, i) :: r) ≤ (((z, i) :: r : List (O × α)).map fun t => f t.2).sum := by
  rw [ts_cons, if_neg (by rw [lt_irrefl]; decide)]
  exact pick_sum f z r i
theorem sum_const {α : Type} (f : α → Nat) (c : Nat) : ∀ l : List α, (l.map fun t => c + f t).sum = c * l.length + (l.map f).sum
  | [] => by simp
  | t :: r => by
    have := sum_const f c r
    show c + f t + (r.map fun t => c + f t).sum = c * (r.length + 1) + (f t + (r.map f).sum)
    rw [Nat.mul_succ]; omega
theorem sum_mono {α : Type} {f g : α → Nat} : ∀ {l : List α}, (∀ t ∈ l, f t ≤ g t) → (l.map f).sum ≤ (l.map g).sum
  | [], _ => Nat.le_refl _
  | t :: r, h => by
    have h1 := h t List.mem_cons_self
    have h2 := sum_mono (l := r) fun x hx => h x (List.mem_cons_of_mem _ hx)
    show f t + (r.map f).sum ≤ g t + (r.map g).sum
    omega
theorem mu_join {w : Nat → Nat} {c : Nat} {op : Bool → Bool → Bool} : ∀ (n : Nat) (a b : SD n), okW n a → okW n b → mu w c n (joinS op n a b) ≤ mu w c n a * mu w c n b
  | 0, _, _, _, _ => Nat.le_mul_self c
  | n + 1, (l1 : List (O × SD n)), (l2 : List (O × SD n)), h1, h2 => by
    obtain ⟨r, e⟩ := bs_z (l2 := l2) h1
    have ha : AscO (z :: r) := by rw [← e]; exact fold_asc _
    have hm : ∀ c ∈ r, (∃ t ∈ l1, t.1 = c) ∨ ∃ t ∈ l2, t.1 = c := fun c hc => bs_mem.mp (by rw [e]; exact List.mem_cons_of_mem _ hc)
    have key := pairs_sum (fun s : SD n => w n + mu w c n s) (fun s : SD n => w n + mu w c n s) (fun a b => w n + mu w c n a * mu w c n b) (fun a b => by
      have q := Nat.le_mul_self (w n)
      rw [Nat.add_mul, Nat.mul_add, Nat.mul_add]; omega) (d1 := firstS l1) (d2 := firstS l2) h1.2.1 h2.2.1 ha hm
    have u1 : ts_ (fun s : SD n => w n + mu w c n s) z (firstS l1) l1 ≤ mu w c (n + 1) l1 := by
      obtain ⟨i, s, rfl⟩ := okW_head h1
      rw [mu_succ, ← sum_const]
      exact ts_z _ _
    have u2 : ts_ (fun s : SD n => w n + mu w c n s) z (firstS l2) l2 ≤ mu w c (n + 1) l2 := by
      obtain ⟨i, s, rfl⟩ := okW_head h2
      rw [mu_succ, ← sum_const]
      exact ts_z _ _
    refine Nat.le_trans ?_ (Nat.le_trans key (Nat.mul_le_mul u1 u2))
    show mu w c (n + 1) ((bsOf l1 l2).map fun o => (o, joinS op n (pickS l1 o) (pickS l2 o)) : List (O × SD n)) ≤ _
    rw [mu_succ, ← sum_const (fun t : O × SD n => mu w c n t.2), e, List.map_map]
    refine sum_mono fun o ho => ?_
    have ih := mu_join (w := w) (c := c) (op := op) n (pickS l1 o) (pickS l2 o) (okW_pick h1 o) (okW_pick h2 o)
    show w n + mu w c n (joinS op n (pickS l1 o) (pickS l2 o)) ≤ w n + mu w c n (pickS l1 o) * mu w c n (pickS l2 o)
    omega
theorem lv_join {op : Bool → Bool → Bool} {n : Nat} {a b : SD n} (h1 : okW n a) (h2 : okW n b) : lv n (joinS op n a b) ≤ lv n a * lv n b := mu_join n a b h1 h2
/-! ### the least row of a value -/
theorem okW_flat : ∀ (m : Nat) (b : Bool), okW m (flatS m b) := fun m b => okS_W m _ (okS_flat m b)
theorem val_flat : ∀ (m : Nat) (b : Bool) (r : List O), valS m (flatS m b) r = b
  | 0, _, _ => rfl
  | m + 1, b, r => by
    have e : pickS ([(O.z, flatS m b)] : List (O × SD m)) (r.headD .z) = flatS m b := by
      show (if lt (r.headD .z) z = true then flatS m b else flatS m b) = flatS m b
      split <;> rfl
    show valS m (pickS ([(O.z, flatS m b)] : List (O × SD m)) (r.headD .z)) r.tail = b
    rw [e]
    exact val_flat m b _
theorem pick_flat {m : Nat} (b : Bool) (o : O) : pickS (n := m) (flatS (m + 1) b) o = flatS m b := by
  show (if lt o z = true then flatS m b else flatS m b) = flatS m b
  split <;> rfl
theorem bs_flat {D W L : Nat} (hL : 1 ≤ L) : ∀ (m : Nat) (b : Bool), Bs D W L m (flatS m b)
  | 0, _ => trivial
  | m + 1, b => ⟨hL, fun t ht => by rw [List.mem_singleton.mp ht]; exact ⟨Nat.zero_le _, Nat.zero_le _, bs_flat hL m b⟩⟩
theorem lv_flat : ∀ (m : Nat) (b : Bool), lv m (flatS m b) = 1
  | 0, _ => rfl
  | m + 1, b => by
    have := lv_flat m b
    show 0 * 1 + (lv m (flatS m b) + 0) = 1
    omega
/-- the least row whose value is w -/
def leastS (w : Bool) (n : Nat) (s : SD n) : Option (List O) := partS n s (flatS n (!w))
theorem bs_own {n : Nat} {l : List (O × SD n)} (h : okW (n + 1) l) (b : Bool) : bsOf l (flatS (n + 1) b : List (O × SD n)) = l.map (·.1) := by
  refine asc_ext (fold_asc _) (List.pairwise_map.mpr h.2.1) fun x => ?_
  refine (bs_mem (l1 := l) (l2 := (flatS (n + 1) b : List (O × SD n)))).trans ?_
  rw [List.mem_map]
  constructor
  · rintro (q | ⟨t, ht, e⟩)
    · exact q
    · obtain ⟨i, r, rfl⟩ := okW_head h
      have ht : t ∈ ([(O.z, flatS n b)] : List (O × SD n)) := ht
      rw [List.mem_singleton.mp ht] at e
      exact ⟨_, List.mem_cons_self, e⟩
  · exact .inl
theorem pick_own {n : Nat} {l : List (O × SD n)} (ha : Asc l) {t : O × SD n} (ht : t ∈ l) : pickS l t.1 = t.2 := by
  obtain ⟨a, ha1⟩ := List.mem_iff_getElem?.mp ht
  exact pick_at ha ha1 (lt_irrefl _) (fun u hu => by
    have h1 := List.getElem?_eq_some_iff.mp ha1
    have h2 := List.getElem?_eq_some_iff.mp hu
    have := List.pairwise_iff_getElem.mp ha a (a + 1) h1.1 h2.1 (by omega)
    rw [h1.2, h2.2] at this
    exact this) _
theorem bool_ne {x w : Bool} (h : x ≠ !w) : x = w := by cases x <;> cases w <;> first | rfl | exact absurd rfl h
theorem least_none {w : Bool} {n : Nat} {s : SD n} (h : okW n s) (e : leastS w n s = none) {r : List O} (hr : Row n r) : valS n s r = !w := by
  have q := partS_ok n s (flatS n (!w)) h (okW_flat n _)
  unfold leastS at e
  rw [e] at q
  rw [q r hr, val_flat]
theorem least_some {w : Bool} {n : Nat} {s : SD n} {r : List O} (h : okW n s) (e : leastS w n s = some r) : Row n r ∧ valS n s r = w ∧ ∀ os, Row n os → lexLt os r = true → valS n s os = !w := by
  have q := partS_ok n s (flatS n (!w)) h (okW_flat n _)
  unfold leastS at e
  rw [e] at q
  obtain ⟨q1, q2, q3⟩ := q
  rw [val_flat] at q2
  refine ⟨q1, bool_ne q2, fun os ho hl => ?_⟩
  rw [q3 os ho hl, val_flat]
theorem least_none_iff {w : Bool} {n : Nat} {s : SD n} (h : okW n s) : leastS w n s = none ↔ ∀ r, Row n r → valS n s r = !w := by
  constructor
  · exact fun e r hr => least_none h e hr
  · intro g
    cases e : leastS w n s with
    | none => rfl
    | some r =>
      obtain ⟨q1, q2, _⟩ := least_some h e
      rw [g r q1] at q2
      cases w <;> cases q2
theorem xor_f {a b : Bool} : ((a != b) = false) ↔ a = b := by cases a <;> cases b <;> decide
/-- alike: no row of one alone -/
theorem alike_iff {n : Nat} {a b : SD n} (h1 : okW n a) (h2 : okW n b) : leastS true n (joinS (fun x y => x != y) n a b) = none ↔ ∀ r, Row n r → valS n a r = valS n b r := by
  rw [least_none_iff (okW_join n a b h1 h2)]
  constructor
  · intro g r hr
    have := g r hr
    rw [val_join n a b r h1 h2] at this
    exact xor_f.mp this
  · intro g r hr
    rw [val_join n a b r h1 h2]
    exact xor_f.mpr (g r hr)
end Vw

set_option Elab.async false
set_option linter.all false
set_option maxRecDepth 100000
/-! what is asked of the defs about stairs of any size -/
namespace Vw
open PySem PySem.W PyProof.Rows L2
/-- what can be computed with -/
abbrev BB (n : Nat) (s : SD n) : Prop := Bs 20 1000000 1500000 n s
/-- inner_at, of any stair -/
def spPickW (K : PySem.W.Frag) : Sp := fun vs H Q _ => ∃ (v x : V) (n : Nat) (l : List (O × SD n)) (o : O), vs = [v, x] ∧ SA K H (n + 1) v l ∧ okW (n + 1) l ∧ (∀ t ∈ l, O.dp t.1 ≤ 30) ∧ OA K H x o ∧ O.dp o ≤ 50 ∧ ∀ (w : V) (H' : Hp), Same H H' → SA K H' n w (pickS l o) → Q w H'
/-- whether a row is in a stair's set -/
def spValW (K : PySem.W.Frag) : Sp := fun vs H Q _ => ∃ (v x : V) (n : Nat) (s : SD n) (os : List O), vs = [v, x] ∧ SA K H n v s ∧ okW n s ∧ BB n s ∧ RowA K H x os ∧ os.length = n ∧ (∀ o ∈ os, O.dp o ≤ 50) ∧ ∀ H', Same H H' → Q (.bl (valS n s os)) H'
/-- the longest cells -/
def spLong (K : PySem.W.Frag) (j : Nat) : Sp := fun vs H Q _ => ∃ (v u : V) (n : Nat) (l : List (O × SD n)) (lim : Option O) (W : Nat), vs = [v, u] ∧ n < j ∧ j ≤ 5 ∧ SA K H (n + 1) v l ∧ okW (n + 1) l ∧ LimA K H u lim ∧ LimOk lim ∧ (∀ h, lim = some h → O.dp h ≤ 20 ∧ O.wd h + (n + 1) ≤ 1000010) ∧ 1 ≤ W ∧ Bs 20 W 1500000 (n + 1) l ∧ W + gr (n + 1) l ≤ 1000000 ∧ lv (n + 1) l ≤ 1500000 ∧
  ∀ (D : Addr) (xs : List V) (H' : Hp), Same H H' → H' D = some (.lst xs) → Paired (StA K H' n) xs (longest lim l) → Q (.ref D) H'
/-- tidy, before a limit -/
def spTidyB (K : PySem.W.Frag) (j : Nat) : Sp := fun vs H Q _ => ∃ (v u : V) (n : Nat) (s : SD n) (lim : Option O) (W : Nat), vs = [v, u] ∧ n < j ∧ j ≤ 5 ∧ SA K H n v s ∧ okW n s ∧ LimA K H u lim ∧ LimOk lim ∧ (∀ h, lim = some h → O.dp h ≤ 20 ∧ O.wd h + n ≤ 1000010) ∧ 1 ≤ W ∧ Bs 20 W 1500000 n s ∧ W + gr n s ≤ 1000000 ∧ lv n s ≤ 1500000 ∧
  ∀ (w : V) (H' : Hp), Same H H' → SA K H' n w (tidyB n s lim) → Q w H'
/-- one step of it -/
def spTidySt (K : PySem.W.Frag) (j : Nat) : Sp := fun vs H Q _ => ∃ (D : Addr) (u : V) (n i : Nat) (xs : List V) (l : List (O × SD n)) (t : O × SD n) (lim : Option O) (W : Nat), vs = [.ref D, .int (i : Nat), u] ∧ n < j ∧ j ≤ 5 ∧ H D = some (.lst xs) ∧ Paired (StA K H n) xs l ∧ l[i]? = some t ∧ LimA K H u lim ∧ (∀ h, lim = some h → O.dp h ≤ 20 ∧ O.wd h + (n + 1) ≤ 1000010) ∧
  (∀ c, nextO (l.drop (i + 1)) lim = some c → O.ok c = true ∧ O.lt t.1 c = true ∧ O.dp c ≤ 20 ∧ O.wd c + (n + 1) ≤ 1000010) ∧ O.ok t.1 = true ∧ okW n t.2 ∧ O.dp t.1 ≤ 20 ∧ O.wd t.1 ≤ W ∧ 1 ≤ W ∧ Bs 20 W 1500000 n t.2 ∧ W + gr n t.2 ≤ 1000000 ∧ lv n t.2 ≤ 1500000 ∧
  ∀ (w : V) (H' : Hp), Same H H' → StA K H' n w (t.1, tidyB n t.2 (limO t.1 (nextO (l.drop (i + 1)) lim))) → Q w H'
def spTidy (K : PySem.W.Frag) : Sp := fun vs H Q _ => ∃ (v : V) (n : Nat) (s : SD n) (W : Nat), vs = [v] ∧ n ≤ 3 ∧ SA K H n v s ∧ okW n s ∧ 1 ≤ W ∧ Bs 20 W 1500000 n s ∧ W + gr n s ≤ 1000000 ∧ lv n s ≤ 1500000 ∧
  ∀ (w : V) (H' : Hp), Same H H' → SA K H' n w (tidyB n s none) → Q w H'
/-- the begins at a depth -/
def begS : (n : Nat) → Nat → SD n → List O
  | 0, _, _ => []
  | n + 1, 0, (l : List (O × SD n)) => l.map (·.1)
  | n + 1, d + 1, (l : List (O × SD n)) => (l.map fun t => begS n d t.2).flatten
/-- some of the begins -/
def spBegsW (K : PySem.W.Frag) (j : Nat) : Sp := fun vs H Q _ => ∃ (v : V) (n d : Nat) (s : SD n) (W : Nat), vs = [v, .int (d : Nat)] ∧ SA K H n v s ∧ okW n s ∧ Bs 20 W 1500000 n s ∧ lv n s ≤ 1500000 ∧ d < n ∧ n < j ∧ j ≤ 10 ∧ ∀ (D : Addr) (xs : List V) (os : List O) (H' : Hp), Same H H' → H' D = some (.lst xs) → H D = none → Paired (OA K H') xs os → os.length ≤ lv n s → (∀ o ∈ os, O.ok o = true ∧ O.dp o ≤ 20 ∧ O.wd o ≤ W) → os = begS n d s → Q (.ref D) H'
/-- a row near the begins of some stairs -/
def spNearW (K : PySem.W.Frag) : Sp := fun vs H Q _ => ∃ (l b L : Addr) (m : Nat) (ws : List V) (ss : List (SD m)) (W : Nat), vs = [.ref b, .int (m : Nat), .ref L] ∧ H L = some (.lst ws) ∧ L ≠ b ∧ L ≠ l ∧ Paired (SA K H m) ws ss ∧ (∀ s ∈ ss, okW m s ∧ Bs 20 W 1500000 m s ∧ lv m s ≤ 1500000) ∧ ss.length ≤ 5 ∧ 1 ≤ W ∧ W ≤ 1000000 ∧ m ≤ 3 ∧ Bag l H b ∧ ∀ (w : V) (os : List O) (H' : Hp), RowA K H' w os → Row m os → (∀ o ∈ os, O.dp o ≤ 30 ∧ O.wd o ≤ W + 3) → Kp b H H' → Bag l H' b → Q w H'
def spOppW (K : PySem.W.Frag) (j : Nat) : Sp := fun vs H Q _ => ∃ (v : V) (n : Nat) (s : SD n), vs = [v] ∧ SA K H n v s ∧ okW n s ∧ BB n s ∧ n < j ∧ ∀ (w : V) (H' : Hp), Same H H' → SA K H' n w (oppS n s) → Q w H'
/-- what is asked of each of the longest cells holds -/
theorem long_all {n : Nat} {l : List (O × SD n)} {lim : Option O} {W : Nat} (ok : okW (n + 1) l) (ho : LimOk lim) (hn : n < 5) (hlb : ∀ h, lim = some h → O.dp h ≤ 20 ∧ O.wd h + (n + 1) ≤ 1000010) (hW : 1 ≤ W) (hb : Bs 20 W 1500000 (n + 1) l) (hg : W + gr (n + 1) l ≤ 1000000) (hl : lv (n + 1) l ≤ 1500000) :
    (longest lim l).length ≤ 1500000 ∧ ∃ W', 1 ≤ W' ∧ ∀ (i : Nat) (t : O × SD n), (longest lim l)[i]? = some t → (∀ c, nextO ((longest lim l).drop (i + 1)) lim = some c → O.ok c = true ∧ O.lt t.1 c = true ∧ O.dp c ≤ 20 ∧ O.wd c + (n + 1) ≤ 1000010) ∧ O.ok t.1 = true ∧ okW n t.2 ∧ O.dp t.1 ≤ 20 ∧ O.wd t.1 ≤ W' ∧ Bs 20 W' 1500000 n t.2 ∧ W' + gr n t.2 ≤ 1000000 ∧ lv n t.2 ≤ 1500000 := by
  obtain ⟨i0, rs, ef, C, el, hz, hrl, hm⟩ := okW_filter ok ho
  have mf := mu_filter (w := fun _ => 0) (c := 1) l (fun t => ltO t.1 lim)
  rw [ef] at mf
  have hL : mu (fun _ => 0) 1 (n + 1) ((O.z, i0) :: rs : List (O × SD n)) ≤ 1500000 := Nat.le_trans mf hl
  have gf := mu_filter (w := fun n => if n = 0 then 0 else 1) (c := 0) l (fun t => ltO t.1 lim)
  rw [ef] at gf
  have B := long_sz (n := n) (L := 1500000) (D := 20) (by decide) (W := W) hW C (Nat.zero_le _) (Nat.zero_le _) (hb.2 (O.z, i0) (hm _ List.mem_cons_self)).2.2 (fun t ht => hb.2 t (hm t (List.mem_cons_of_mem _ ht))) hL
  obtain ⟨⟨i2, R, eR, CR⟩, _⟩ := longGo_ok C
  have G : ∀ u ∈ longGo lim O.z i0 rs, rs.length * wk n + gr n u.2 ≤ gr (n + 1) l := fun u hu => Nat.le_trans (long_gr C.inn hu) gf
  have Lv : ∀ u ∈ longGo lim O.z i0 rs, lv n u.2 ≤ 1500000 := fun u hu => by
    have h1 := mu_long (w := fun _ => 0) (c := 1) (lim := lim) (low := O.z) (before := i0) (rest := rs) C.inn
    have h2 := lv_mem (l := longGo lim O.z i0 rs) hu
    have h1 : lv (n + 1) (longGo lim O.z i0 rs : List (O × SD n)) ≤ _ := h1
    omega
  rw [el]
  have hlen := long_len (lim := lim) (rest := rs) (low := O.z) (before := i0)
  have hl2 := hb.1
  refine ⟨by omega, W + rs.length * wk n, by omega, fun i t ht => ?_⟩
  have htm := List.mem_of_getElem? ht
  have b := B t htm
  have g := G t htm
  have okT : okW (n + 1) (longGo lim O.z i0 rs : List (O × SD n)) := by
    rw [eR]
    refine ⟨rfl, CR.asc, fun t ht => ?_, fun t ht => ?_⟩
    · rcases List.mem_cons.mp ht with q | q
      · rw [q]; rfl
      · exact CR.ok t q
    · rcases List.mem_cons.mp ht with q | q
      · rw [q]; exact CR.bef
      · exact CR.inn t q
  refine ⟨fun c hc => ?_, okT.2.2.1 t htm, okT.2.2.2 t htm, b.1, b.2.1, b.2.2, by omega, Lv t htm⟩
  cases hd : (longGo lim O.z i0 rs).drop (i + 1) with
  | nil =>
    rw [hd] at hc
    have hc : lim = some c := hc
    have hbl : ltO t.1 lim = true := by
      rw [eR] at htm
      rcases List.mem_cons.mp htm with q | q
      · rw [q]; exact hz
      · exact CR.blw t q
    rw [hc] at hbl
    exact ⟨(ho c hc).1, hbl, (hlb c hc).1, (hlb c hc).2⟩
  | cons u r =>
    rw [hd] at hc
    obtain rfl : u.1 = c := Option.some.inj hc
    have hu : (longGo lim O.z i0 rs)[i + 1]? = some u := by
      have := congrArg List.head? hd
      rw [List.head?_drop] at this
      exact this
    have hum := List.mem_of_getElem? hu
    have bu := B u hum
    have gu := G u hum
    refine ⟨okT.2.2.1 u hum, ?_, bu.1, by have := bu.2.1; omega⟩
    have h1 := List.getElem?_eq_some_iff.mp ht
    have h2 := List.getElem?_eq_some_iff.mp hu
    have := List.pairwise_iff_getElem.mp okT.2.1 i (i + 1) h1.1 h2.1 (by omega)
    rw [h1.2, h2.2] at this
    exact this
theorem cells_at {n : Nat} {f : SD n → Option O → SD n} {lim : Option O} : ∀ {R : List (O × SD n)} {i : Nat} {t : O × SD n}, R[i]? = some t → (tidyCells f lim R)[i]? = some (t.1, f t.2 (limO t.1 (nextO (R.drop (i + 1)) lim)))
  | [], _, _, h => by cases h
  | u :: r, 0, t, h => by
    obtain rfl : u = t := Option.some.inj h
    rfl
  | u :: r, i + 1, t, h => cells_at (R := r) (i := i) h
end Vw

set_option Elab.async false
set_option linter.all false
set_option maxRecDepth 100000
/-! the law's own defs about stairs: joins, least rows, what is tidy, more steps -/
namespace Vw
open PySem PySem.W PyProof.Rows L2
open O
def PtA (K : PySem.W.Frag) (H : Hp) (v : V) : Option (List O) → Prop
  | none => v = .non
  | some os => RowA K H v os
theorem lay_steps {n : Nat} (ih : ∀ s : SD n, (stD n s).canLay0 = true) : ∀ l : List (O × SD n), PyData.canLayAll0 (l.map fun t => .tuple [O.toD t.1, stD n t.2]) = true
  | [] => rfl
  | t :: r => by simp only [List.map_cons, PyData.canLayAll0, PyData.canLay0, O.lay_toD, ih t.2, lay_steps ih r, Bool.and_self]
theorem lay_stD : ∀ (n : Nat) (s : SD n), (stD n s).canLay0 = true
  | 0, (b : Bool) => rfl
  | n + 1, (l : List (O × SD n)) => by
    have := lay_steps (lay_stD n) l
    show (PyData.tuple (l.map fun t => .tuple [O.toD t.1, stD n t.2])).canLay0 = true
    simp only [PyData.canLay0, this]
theorem depth_steps {D W L n : Nat} : ∀ {l : List (O × SD n)}, (∀ t ∈ l, O.dp t.1 ≤ D ∧ O.wd t.1 ≤ W ∧ Bs D W L n t.2) → PyData.depthAll (l.map fun t => .tuple [O.toD t.1, stD n t.2]) ≤ D + 4 + 2 * n
  | [], _ => Nat.zero_le _
  | t :: r, g1 => by
    have i1 := depth_steps (l := r) (fun x hx => g1 x (List.mem_cons_of_mem _ hx))
    have i2 := depth_W n t.2 (g1 t List.mem_cons_self).2.2
    have i3 := (g1 t List.mem_cons_self).1
    simp only [List.map_cons, PyData.depthAll, PyData.depth, O.depth_toD]
    omega
/-- a list of steps against the empty list -/
theorem rd_eqNilSt {K : PySem.W.Frag} {H : Hp} {Q : VK} {n D W L : Nat} {l : List (O × SD n)} {p p2 : Addr} {xs : List V} (h1 : SqL K H p xs) (h2 : Paired (StA K H n) xs l) (h3 : SqL K H p2 []) (hb : ∀ t ∈ l, O.dp t.1 ≤ D ∧ O.wd t.1 ≤ W ∧ Bs D W L n t.2) (hD : D + 2 * n ≤ 50) (q : Q (.bl l.isEmpty) H) : rEqO K (.ref p) (.ref p2) H Q := by
  unfold rEqO
  refine ⟨_, _, .lst h1 (steps_dp (fun _ _ h => SA.dp h) h2), .lst h3 .nil, ?_, shaped_nil, ?_⟩
  · have e1 := lay_steps (lay_stD n) l
    have e2 := depth_steps hb
    unfold SeqAt.shaped
    rw [Bool.and_eq_true, decide_eq_true_eq]
    refine ⟨by simp only [PyData.canLay0, e1], ?_⟩
    have : (PyData.list (l.map fun t => .tuple [O.toD t.1, stD n t.2])).depth = PyData.depthAll (l.map fun t => .tuple [O.toD t.1, stD n t.2]) + 1 := by simp only [PyData.depth]
    omega
  · rw [eqv_nil]
    cases l <;> exact q
/-- what stands by place, then what stands by name -/
def appG {α : Type} (us ws : List α) : List α := us ++ ws
theorem app_rel {vs : List V} {us : List Value} {zs : List V} {ws : List Value} (h1 : Vals vs us) (h2 : Vals zs ws) : Vals (appG vs zs) (appG us ws) := by
  unfold appG
  induction h1 with
  | nil => exact h2
  | cons a t ih => exact .cons a ih
/-! ### joins by a word -/
def opW (w : Str) : Bool → Bool → Bool := fun a b => if w = "or" then a || b else if w = "and" then a && b else a != b
def spJoin (K : PySem.W.Frag) (j : Nat) : Sp := fun vs H Q _ => ∃ (w : Str) (v1 v2 : V) (n : Nat) (a b : SD n) (W L1 L2 : Nat), vs = [.str w, v1, v2] ∧ n < j ∧ j ≤ 5 ∧ SA K H n v1 a ∧ SA K H n v2 b ∧ okW n a ∧ okW n b ∧ Bs 20 W L1 n a ∧ Bs 20 W L2 n b ∧ L1 + L2 ≤ 3000000 ∧
  ∀ (v : V) (H' : Hp), Same H H' → SA K H' n v (joinS (opW w) n a b) → Q v H'
def spLeast (K : PySem.W.Frag) (j : Nat) : Sp := fun vs H Q _ => ∃ (v : V) (w : Bool) (n : Nat) (s : SD n) (W : Nat), vs = [v, .bl w] ∧ n < j ∧ j ≤ 5 ∧ SA K H n v s ∧ okW n s ∧ Bs 20 W 3000000 n s ∧ 1 ≤ W ∧ W ≤ 1000000 ∧
  ∀ (v : V) (H' : Hp), Same H H' → PtA K H' v (leastS w n s) → Q v H'
def spAlike (K : PySem.W.Frag) (j : Nat) : Sp := fun vs H Q _ => ∃ (v1 v2 : V) (n : Nat) (a b : SD n) (W : Nat), vs = [v1, v2] ∧ n < j ∧ j ≤ 5 ∧ SA K H n v1 a ∧ SA K H n v2 b ∧ okW n a ∧ okW n b ∧ Bs 20 W 1500000 n a ∧ Bs 20 W 1500000 n b ∧ 1 ≤ W ∧ W ≤ 1000000 ∧
  ∀ H' : Hp, Same H H' → Q (.bl (decide (leastS true n (joinS (fun x y => x != y) n a b) = none))) H'
theorem raised_z (b : O) : raisedO b z = b := by unfold raisedO; rw [not_lt_nil]; rfl
theorem reach_headD (b : O) (r : List O) : reachO b r = raisedO b (r.headD z) := by
  cases r with
  | nil => exact (raised_z b).symm
  | cons h r => rfl
/-! ### what is tidy -/
def spTi (K : PySem.W.Frag) (j : Nat) : Sp := fun vs H Q _ => ∃ (v u : V) (n : Nat) (s : SD n) (lim : Option O) (W : Nat), vs = [v, u] ∧ n < j ∧ j ≤ 5 ∧ SA K H n v s ∧ okW n s ∧ LimA K H u lim ∧ LimOk lim ∧ (∀ h, lim = some h → O.dp h ≤ 20 ∧ O.wd h + n ≤ 1000010) ∧ 1 ≤ W ∧ W ≤ 1000000 ∧ Bs 20 W 1500000 n s ∧ IsTi n s lim ∧
  ∀ H' : Hp, Same H H' → Q (.bl true) H'
theorem ti_at {n : Nat} {P : SD n → Option O → Prop} {lim : Option O} : ∀ {l : List (O × SD n)} {k : Nat} {t : O × SD n}, TiCells P lim l → l[k]? = some t → P t.2 (limO t.1 (nextO (l.drop (k + 1)) lim)) ∧ ∀ u, l[k + 1]? = some u → DiffAt t.1 t.2 u.1 u.2
  | [], _, _, _, h => by cases h
  | u :: r, 0, t, h, ht => by
    obtain rfl : u = t := Option.some.inj ht
    refine ⟨h.1, fun x hx => h.2.1 x ?_⟩
    cases r with
    | nil => cases hx
    | cons y s => exact hx
  | u :: r, k + 1, t, h, ht => ti_at (l := r) (k := k) h.2.2 ht
theorem diff_least {n : Nat} {i j : SD n} {low f : O} (hi : okW n i) (hj : okW n j) (hl : ok low = true) (hf : ok f = true) (hlf : lt low f = true) (D : DiffAt low i f j) : ∃ r, leastS true n (joinS (fun x y => x != y) n i j) = some r ∧ Row n r ∧ lt (r.headD z) (endLim low f) = true ∧ raisedO f (r.headD z) = f := by
  obtain ⟨r, hr, hd, hh⟩ := D
  have oj := okW_join (op := fun x y => x != y) n i j hi hj
  cases e : leastS true n (joinS (fun x y => x != y) n i j) with
  | none => exact absurd ((alike_iff hi hj).mp e r hr) hd
  | some r0 =>
    obtain ⟨q1, q2, q3⟩ := least_some oj e
    have nl : lexLt r r0 = false := by
      cases g : lexLt r r0 with
      | false => rfl
      | true =>
        have := q3 r hr g
        rw [val_join n i j r hi hj] at this
        exact absurd (xor_f.mp this) hd
    refine ⟨r0, rfl, q1, ?_⟩
    cases n with
    | zero =>
      have : r0 = [] := List.length_eq_zero_iff.mp q1.1
      subst this
      exact ⟨nil_lt (lim_ne hl hf hlf), raised_z f⟩
    | succ n =>
      obtain ⟨x, s, rfl⟩ := row_ex hr
      obtain ⟨y, t, rfl⟩ := row_ex q1
      obtain ⟨h1, h2⟩ := hh x rfl
      have xy : lt x y = false := by
        cases g : lt x y with
        | false => rfl
        | true => rw [lex_head g] at nl; cases nl
      refine ⟨?_, ?_⟩
      · show lt y (endLim low f) = true
        exact ge_lt xy h1
      · show raisedO f y = f
        unfold raisedO
        rw [if_neg (by rw [ge_trans h2 xy]; decide)]
/-! ### more steps -/
theorem finer_val {n : Nat} {l R : List (O × SD n)} (hl : okW (n + 1) l) (hR : okW (n + 1) R) (hm : ∀ t ∈ l, ∃ u ∈ R, u.1 = t.1) (hv : ∀ u ∈ R, ∀ r, valS n u.2 r = valS n (pickS l u.1) r) (r : List O) : valS (n + 1) R r = valS (n + 1) l r := by
  obtain ⟨i, s, eR⟩ := okW_head hR
  have hasc : AscO (R.map (·.1)) := List.pairwise_map.mpr (show R.Pairwise fun a b => lt a.1 b.1 = true from hR.2.1)
  obtain ⟨b, hb, hx, hn⟩ := last_le (x := r.headD z) (bs := R.map (·.1)) hasc ⟨z, by rw [eR]; exact List.mem_cons_self, not_lt_nil _⟩
  obtain ⟨u, hu, rfl⟩ := List.mem_map.mp hb
  have e1 : pickS l (r.headD z) = pickS l u.1 := pick_same hx fun t ht g => by
    obtain ⟨w, hw, e⟩ := hm t ht
    rw [← e] at g ⊢
    exact hn w.1 (List.mem_map.mpr ⟨w, hw, rfl⟩) g
  have e2 : pickS R (r.headD z) = u.2 := by
    have e3 : pickS R (r.headD z) = pickS R u.1 := pick_same hx fun t ht g => hn t.1 (List.mem_map.mpr ⟨t, ht, rfl⟩) g
    exact e3.trans (pick_own hR.2.1 hu)
  show valS n (pickS R (r.headD z)) r.tail = valS n (pickS l (r.headD z)) r.tail
  rw [e1, e2]
  exact hv u hu _
def spSplit (K : PySem.W.Frag) (j : Nat) : Sp := fun vs H Q _ => ∃ (l b : Addr) (v : V) (n : Nat) (s : SD n), vs = [.ref b, v] ∧ Bag l H b ∧ SA K H n v s ∧ okS n s ∧ n < j ∧ j ≤ 5 ∧ ∀ (w : V) (s' : SD n) (H' : Hp), SA K H' n w s' → okW n s' → Bs 8 3 8 n s' → lv n s' ≤ 8 ^ n → (∀ r, valS n s' r = valS n s r) → Kp b H H' → Bag l H' b → Q w H'
end Vw

set_option Elab.async false
set_option linter.all false
set_option maxRecDepth 100000
set_option maxHeartbeats 4000000
/-! operators of an own class: +, *, -x, in, not in, == -/
namespace Vw
open PySem PySem.Spec PyProof.Rows L2
section
variable {X : Cx} {CX : CXT} {n : Nat} {C f : Addr} {fd : FuncData} {ps : List Str} {sp : Sp} {E : XK}
/-- two instances of the class at C -/
def rTwo (C : Addr) (sp : Sp) (E : XK) : R2 := fun x y H Q => ∃ a dx fs b dy gs, x = .ref a ∧ y = .ref b ∧ H a = some (.ins C dx fs) ∧ H b = some (.ins C dy gs) ∧ sp [x, y] H Q E
theorem op_two {op : Operator} (hc : PySem.W.selfFirst X.K C = true) (hs : PySem.W.findIn X.K (.ref C) (PySem.dunder op.info.2) = some (some (.ref f))) (hf : PySem.W.isFn X.K (.ref f) = true)
    (F : FnOk X.prog X.w X.K X.mg X.base CX n f fd ps sp) (hb : Binds X.K fd ps []) (hr : Room n X.A) (hx : Passes CX X E) : OpR X (binaryOp op) (rTwo C sp E) := by
  intro pins s σ H x y v u Q I rx ry h
  obtain ⟨a, dx, fs, b, dy, gs, rfl, rfl, ha, hb', q⟩ := h
  cases (show v = Value.ref a from rx)
  cases (show u = Value.ref b from ry)
  obtain ⟨m1, O1, _⟩ := ins_get I.hok ha
  obtain ⟨m2, O2, _⟩ := ins_get I.hok hb'
  obtain ⟨d1, J1, _⟩ := O1.look
  obtain ⟨d2, J2, _⟩ := O2.look
  obtain ⟨m, hF⟩ := I.fr
  have step := run_fn (us := [.ref a, .ref b]) (vs := [V.ref a, V.ref b]) F hr hb .nil hx I (.cons rfl (.cons rfl .nil)) q
  refine PySem.W.binop_K (op := op) hF I.ok.mod.kin J1 J2.type hc hs hf (wpAny_mono step (fun w s' z => ?_) fun _ _ e => e)
  obtain ⟨r, H', I', rr, qr⟩ := z
  exact SlX.cmpback rr ⟨r, H', I', rr, qr⟩
/-- an instance of the class at C -/
def rOneI (C : Addr) (sp : Sp) (E : XK) : V → Hp → VK → Prop := fun x H Q => ∃ a dx fs, x = .ref a ∧ H a = some (.ins C dx fs) ∧ sp [x] H Q E
theorem un_negI (hs : PySem.W.findIn X.K (.ref C) "__neg__" = some (some (.ref f))) (hf : PySem.W.isFn X.K (.ref f) = true)
    (F : FnOk X.prog X.w X.K X.mg X.base CX n f fd ps sp) (hb : Binds X.K fd ps []) (hr : Room n X.A) (hx : Passes CX X E) : UnR X (unaryOp .USub) (rOneI C sp E) := by
  intro pins s σ H x v Q I rx h
  obtain ⟨a, dx, fs, rfl, ha, q⟩ := h
  cases (show v = Value.ref a from rx)
  obtain ⟨m1, O1, _⟩ := ins_get I.hok ha
  obtain ⟨d1, J1, _⟩ := O1.look
  obtain ⟨m, hF⟩ := I.fr
  exact PySem.W.ksp_neg hF I.ok.mod.kin J1 hs hf (run_fn (us := [.ref a]) (vs := [V.ref a]) F hr hb .nil hx I (.cons rfl .nil) q)
/-- y in x, x an instance of the class at C: its def answers a truth value -/
def rInI (C : Addr) (neg : Bool) (sp : Sp) (E : XK) : R2 := fun y x H Q => ∃ a dx fs, x = .ref a ∧ H a = some (.ins C dx fs) ∧ sp [x, y] H (fun z H' => ∃ b, z = .bl b ∧ Q (.bl (b != neg)) H') E
theorem contains_step {pins : List (Addr × Obj)} {s : Shared} {σ : L2.St} {H : Hp} {y : V} {u : Value} {a : Addr} {Q : VK} {neg : Bool} (hs : PySem.W.findIn X.K (.ref C) "__contains__" = some (some (.ref f))) (hf : PySem.W.isFn X.K (.ref f) = true)
    (F : FnOk X.prog X.w X.K X.mg X.base CX n f fd ps sp) (hb : Binds X.K fd ps []) (hr : Room n X.A) (hx : Passes CX X E) (I : Inv X pins σ H s) (ry : RelV y u) (q : sp [.ref a, y] H (fun z H' => ∃ b, z = .bl b ∧ Q (.bl (b != neg)) H') E) :
    wpAny (model X.prog X.w) X.A (call (.ref f) [.ref a, u]) (fun r s' => wpAny (model X.prog X.w) X.A (truthy r) (fun b s' => EP X pins σ Q (.bool (b != neg)) s') X.xe s') X.xe s := by
  refine wpAny_mono (run_fn (us := [.ref a, u]) (vs := [V.ref a, y]) F hr hb .nil hx I (.cons rfl (.cons ry .nil)) q) (fun w s' z => ?_) fun _ _ e => e
  obtain ⟨r, H', I', rr, b, eb, qr⟩ := z
  subst eb
  cases (show w = Value.bool b from rr)
  exact wpAny_pure ⟨.bl (b != neg), H', I', rfl, qr⟩
theorem op_inI (hs : PySem.W.findIn X.K (.ref C) "__contains__" = some (some (.ref f))) (hf : PySem.W.isFn X.K (.ref f) = true)
    (F : FnOk X.prog X.w X.K X.mg X.base CX n f fd ps sp) (hb : Binds X.K fd ps []) (hr : Room n X.A) (hx : Passes CX X E) : OpR X (compareOp .In) (rInI C false sp E) := by
  intro pins s σ H y x u v Q I ry rx h
  obtain ⟨a, dx, fs, rfl, ha, q⟩ := h
  cases (show v = Value.ref a from rx)
  obtain ⟨m1, O1, _⟩ := ins_get I.hok ha
  obtain ⟨d1, J1, _⟩ := O1.look
  obtain ⟨m, hF⟩ := I.fr
  refine PySem.W.in_K hF I.ok.mod.kin J1 hs hf (wpAny_mono (contains_step (neg := false) hs hf F hb hr hx I ry q) (fun w s' z => wpAny_mono z (fun b s'' z => ?_) fun _ _ e => e) fun _ _ e => e)
  rwa [Bool.bne_false] at z
theorem op_notInI (hs : PySem.W.findIn X.K (.ref C) "__contains__" = some (some (.ref f))) (hf : PySem.W.isFn X.K (.ref f) = true)
    (F : FnOk X.prog X.w X.K X.mg X.base CX n f fd ps sp) (hb : Binds X.K fd ps []) (hr : Room n X.A) (hx : Passes CX X E) : OpR X (compareOp .NotIn) (rInI C true sp E) := by
  intro pins s σ H y x u v Q I ry rx h
  obtain ⟨a, dx, fs, rfl, ha, q⟩ := h
  cases (show v = Value.ref a from rx)
  obtain ⟨m1, O1, _⟩ := ins_get I.hok ha
  obtain ⟨d1, J1, _⟩ := O1.look
  obtain ⟨m, hF⟩ := I.fr
  refine PySem.W.notIn_K hF I.ok.mod.kin J1 hs hf (wpAny_mono (contains_step (neg := true) hs hf F hb hr hx I ry q) (fun w s' z => wpAny_mono z (fun b s'' z => ?_) fun _ _ e => e) fun _ _ e => e)
  rwa [Bool.bne_true] at z
/-- x == y, x and y instances of the class at C -/
theorem op_eqI (hs : PySem.W.findIn X.K (.ref C) "__eq__" = some (some (.ref f))) (hf : PySem.W.isFn X.K (.ref f) = true) (hn : PySem.W.notFirst X.K C (.ref C) = true)
    (F : FnOk X.prog X.w X.K X.mg X.base CX n f fd ps sp) (hb : Binds X.K fd ps []) (hr : Room n X.A) (hx : Passes CX X E) : OpR X (compareOp .Eq) (rTwo C sp E) := by
  intro pins s σ H x y v u Q I rx ry h
  obtain ⟨a, dx, fs, b, dy, gs, rfl, rfl, ha, hb', q⟩ := h
  cases (show v = Value.ref a from rx)
  cases (show u = Value.ref b from ry)
  obtain ⟨m1, O1, _⟩ := ins_get I.hok ha
  obtain ⟨m2, O2, _⟩ := ins_get I.hok hb'
  obtain ⟨d1, J1, _⟩ := O1.look
  obtain ⟨d2, J2, _⟩ := O2.look
  obtain ⟨m, hF⟩ := I.fr
  show wpAny _ _ (richCompare .Eq _ _) _ _ _
  refine PySem.W.cmp_K (op := .Eq) (tb := .ref C) hr.units0 hF I.ok.mod.kin J1 J2.type hn hs hf (wpAny_mono (run_fn (us := [.ref a, .ref b]) (vs := [V.ref a, V.ref b]) F hr hb .nil hx I (.cons rfl (.cons rfl .nil)) q) (fun w s' z => ?_) fun _ _ e => e)
  obtain ⟨r, H', I', rr, qr⟩ := z
  exact SlX.cmpback rr ⟨r, H', I', rr, qr⟩
end
end Vw

set_option Elab.async false
set_option linter.all false
set_option maxRecDepth 100000
/-! how many stairs stand within a stair, level by level; meanings in a heap -/
namespace Vw
open PySem PySem.W PyProof.Rows L2
open O
/-- the stairs of k levels within -/
def ns (k : Nat) : (n : Nat) → SD n → Nat
  | 0, _ => if k = 0 then 1 else 0
  | n + 1, (l : List (O × SD n)) => if k = n + 1 then 1 else (l.map fun t => ns k n t.2).sum
theorem ns_self : ∀ (k : Nat) (s : SD k), ns k k s = 1
  | 0, _ => rfl
  | k + 1, (l : List (O × SD k)) => if_pos rfl
theorem sum_zero {α : Type} {f : α → Nat} : ∀ {l : List α}, (∀ t ∈ l, f t = 0) → (l.map f).sum = 0
  | [], _ => rfl
  | t :: r, h => by
    show f t + (r.map f).sum = 0
    rw [h t List.mem_cons_self, sum_zero (l := r) fun x hx => h x (List.mem_cons_of_mem _ hx)]
theorem ns_above : ∀ (k n : Nat) (s : SD n), n < k → ns k n s = 0
  | k, 0, _, h => if_neg (by omega)
  | k, n + 1, (l : List (O × SD n)), h => by
    show (if k = n + 1 then 1 else (l.map fun t => ns k n t.2).sum) = 0
    rw [if_neg (by omega)]
    exact sum_zero fun t _ => ns_above k n t.2 (by omega)
theorem ns_succ {k n : Nat} (l : List (O × SD n)) (h : k ≠ n + 1) : ns k (n + 1) l = (l.map fun t => ns k n t.2).sum := if_neg h
theorem sum_one {α : Type} {f : α → Nat} : ∀ {l : List α}, (∀ t ∈ l, f t = 1) → (l.map f).sum = l.length
  | [], _ => rfl
  | t :: r, h => by
    show f t + (r.map f).sum = r.length + 1
    rw [h t List.mem_cons_self, sum_one (l := r) fun x hx => h x (List.mem_cons_of_mem _ hx)]
    omega
theorem ns_len {k : Nat} (l : List (O × SD k)) : ns k (k + 1) l = l.length := by
  rw [ns_succ l (by omega)]
  exact sum_one fun t _ => ns_self k t.2
theorem sum_eq {α : Type} {f g : α → Nat} : ∀ {l : List α}, (∀ t ∈ l, f t = g t) → (l.map f).sum = (l.map g).sum
  | [], _ => rfl
  | t :: r, h => by
    show f t + (r.map f).sum = g t + (r.map g).sum
    rw [h t List.mem_cons_self, sum_eq (l := r) fun x hx => h x (List.mem_cons_of_mem _ hx)]
theorem ns_lv : ∀ (n : Nat) (s : SD n), ns 0 n s = lv n s
  | 0, _ => rfl
  | n + 1, (l : List (O × SD n)) => by
    rw [ns_succ l (by omega)]
    have := sum_eq (l := l) (f := fun t => ns 0 n t.2) (g := fun t => lv n t.2) fun t _ => ns_lv n t.2
    show _ = 0 * l.length + (l.map fun t => lv n t.2).sum
    omega
/-- as a weight, for k from 1 on -/
theorem ns_mu {k : Nat} (hk : 1 ≤ k) : ∀ (n : Nat) (s : SD n), k ≠ n → ns k n s = mu (fun i => if i = k then 1 else 0) 0 n s
  | 0, _, h => if_neg (by omega)
  | n + 1, (l : List (O × SD n)), h => by
    rw [ns_succ l h, mu_succ]
    by_cases e : n = k
    · subst e
      rw [if_pos rfl]
      have h1 : (l.map fun t => ns n n t.2).sum = l.length := sum_one fun t _ => ns_self n t.2
      have h2 : (l.map fun t => mu (fun i => if i = n then 1 else 0) 0 n t.2).sum = 0 := by
        have below : ∀ (m : Nat) (s : SD m), m ≤ n → mu (fun i => if i = n then 1 else 0) 0 m s = 0 := by
          intro m
          induction m with
          | zero => intro _ _; rfl
          | succ m ih =>
            intro s hm
            obtain ⟨s, rfl⟩ : ∃ l0 : List (O × SD m), l0 = s := ⟨s, rfl⟩
            rw [mu_succ, if_neg (by omega), sum_zero fun t _ => ih t.2 (by omega)]; omega
        exact sum_zero fun t _ => below n t.2 (Nat.le_refl _)
      omega
    · rw [if_neg e]
      have := sum_eq (l := l) (f := fun t => ns k n t.2) (g := fun t => mu (fun i => if i = k then 1 else 0) 0 n t.2) fun t _ => ns_mu hk n t.2 (fun z => e z.symm)
      omega
theorem ns_tidy {k n : Nat} {s : SD n} {lim : Option O} (h : okW n s) (ho : LimOk lim) : ns k n (tidyB n s lim) ≤ ns k n s := by
  by_cases e : k = n
  · subst e; rw [ns_self, ns_self]; exact Nat.le_refl _
  · by_cases z : k = 0
    · subst z; rw [ns_lv, ns_lv]; exact lv_tidy h ho
    · rw [ns_mu (by omega) n _ e, ns_mu (by omega) n _ e]; exact mu_tidy n s lim h ho
/-- two stairs joined: at each level at most .. -/
theorem ns_join {op : Bool → Bool → Bool} {k : Nat} : ∀ (n : Nat) (a b : SD n), k < n → okW n a → okW n b → ns k n (joinS op n a b) ≤ ns k n a * ns (k + 1) n b + ns (k + 1) n a * ns k n b
  | 0, _, _, h, _, _ => absurd h (Nat.not_lt_zero _)
  | n + 1, (l1 : List (O × SD n)), (l2 : List (O × SD n)), h, h1, h2 => by
    by_cases e : k = n
    · subst e
      have e1 : ns k (k + 1) (joinS op (k + 1) l1 l2) = (bsOf l1 l2).length := by
        show ns k (k + 1) ((bsOf l1 l2).map fun o => (o, joinS op k (pickS l1 o) (pickS l2 o)) : List (O × SD k)) = _
        rw [ns_len, List.length_map]
      have f1 : ns (k + 1) (k + 1) (l1 : SD (k + 1)) = 1 := ns_self (k + 1) l1
      have f2 : ns (k + 1) (k + 1) (l2 : SD (k + 1)) = 1 := ns_self (k + 1) l2
      have f3 : ns k (k + 1) (l1 : SD (k + 1)) = l1.length := ns_len l1
      have f4 : ns k (k + 1) (l2 : SD (k + 1)) = l2.length := ns_len l2
      have := bs_len l1 l2
      rw [e1, f1, f2, f3, f4]
      omega
    · obtain ⟨r, ez⟩ := bs_z (l2 := l2) h1
      have ha : AscO (z :: r) := by rw [← ez]; exact fold_asc _
      have hm : ∀ c ∈ r, (∃ t ∈ l1, t.1 = c) ∨ ∃ t ∈ l2, t.1 = c := fun c hc => bs_mem.mp (by rw [ez]; exact List.mem_cons_of_mem _ hc)
      have k1 := pairs_sum (fun s : SD n => ns k n s) (fun s : SD n => ns (k + 1) n s) (fun a b => ns k n a * ns (k + 1) n b) (fun a b => Nat.le_refl _) (d1 := firstS l1) (d2 := firstS l2) h1.2.1 h2.2.1 ha hm
      have k2 := pairs_sum (fun s : SD n => ns (k + 1) n s) (fun s : SD n => ns k n s) (fun a b => ns (k + 1) n a * ns k n b) (fun a b => Nat.le_refl _) (d1 := firstS l1) (d2 := firstS l2) h1.2.1 h2.2.1 ha hm
      have u : ∀ (j : Nat) (l : List (O × SD n)), okW (n + 1) l → j ≠ n + 1 → ts_ (fun s : SD n => ns j n s) z (firstS l) l ≤ ns j (n + 1) l := fun j l hl hj => by
        obtain ⟨i, s, rfl⟩ := okW_head hl
        rw [ns_succ _ hj]
        exact ts_z _ _
      have m1 := Nat.mul_le_mul (u k l1 h1 (by omega)) (u (k + 1) l2 h2 (by omega))
      have m2 := Nat.mul_le_mul (u (k + 1) l1 h1 (by omega)) (u k l2 h2 (by omega))
      have e1 : ns k (n + 1) (joinS op (n + 1) l1 l2) = ((z :: r).map fun o => ns k n (joinS op n (pickS l1 o) (pickS l2 o))).sum := by
        show ns k (n + 1) ((bsOf l1 l2).map fun o => (o, joinS op n (pickS l1 o) (pickS l2 o)) : List (O × SD n)) = _
        rw [ns_succ _ (by omega), ez, List.map_map]; rfl
      rw [e1]
      have ih := sum_mono (l := z :: r) (f := fun o => ns k n (joinS op n (pickS l1 o) (pickS l2 o))) (g := fun o => ns k n (pickS l1 o) * ns (k + 1) n (pickS l2 o) + ns (k + 1) n (pickS l1 o) * ns k n (pickS l2 o)) fun o _ => ns_join n _ _ (by omega) (okW_pick h1 o) (okW_pick h2 o)
      have sp : ∀ l : List O, (l.map fun o => ns k n (pickS l1 o) * ns (k + 1) n (pickS l2 o) + ns (k + 1) n (pickS l1 o) * ns k n (pickS l2 o)).sum = (l.map fun o => ns k n (pickS l1 o) * ns (k + 1) n (pickS l2 o)).sum + (l.map fun o => ns (k + 1) n (pickS l1 o) * ns k n (pickS l2 o)).sum := by
        intro l
        induction l with
        | nil => rfl
        | cons x s ih => simp only [List.map_cons, List.sum_cons, ih]; omega
      rw [sp] at ih
      have k1 : ((z :: r).map fun o => ns k n (pickS l1 o) * ns (k + 1) n (pickS l2 o)).sum ≤ _ := k1
      have k2 : ((z :: r).map fun o => ns (k + 1) n (pickS l1 o) * ns k n (pickS l2 o)).sum ≤ _ := k2
      omega
theorem ns_opp (k : Nat) : ∀ (n : Nat) (s : SD n), ns k n (oppS n s) = ns k n s
  | 0, _ => rfl
  | n + 1, (l : List (O × SD n)) => by
    show (if k = n + 1 then 1 else ((l.map fun t => (t.1, oppS n t.2)).map fun t => ns k n t.2).sum) = (if k = n + 1 then 1 else (l.map fun t => ns k n t.2).sum)
    have key : ∀ l : List (O × SD n), ((l.map fun t => (t.1, oppS n t.2)).map fun t => ns k n t.2).sum = (l.map fun t => ns k n t.2).sum := by
      intro l
      induction l with
      | nil => rfl
      | cons t r ih =>
        simp only [List.map_cons, List.sum_cons, ih, ns_opp k n t.2]
    rw [key]
/-! ### the other rows -/
theorem okW_opp : ∀ (n : Nat) (s : SD n), okW n s → okW n (oppS n s)
  | 0, _, _ => trivial
  | n + 1, (l : List (O × SD n)), h => by
    obtain ⟨h1, h2, h3, h4⟩ := (h : l.head?.map (·.1) = some O.z ∧ Asc l ∧ (∀ t ∈ l, ok t.1 = true) ∧ ∀ t ∈ l, okW n t.2)
    show (l.map fun t => (t.1, oppS n t.2)).head?.map (·.1) = some O.z ∧ Asc (l.map fun t => (t.1, oppS n t.2)) ∧ (∀ t ∈ (l.map fun t => (t.1, oppS n t.2)), ok t.1 = true) ∧ ∀ t ∈ (l.map fun t => (t.1, oppS n t.2)), okW n t.2
    refine ⟨by rw [List.head?_map, Option.map_map]; exact h1, List.pairwise_map.mpr (h2.imp fun h => h), fun t ht => ?_, fun t ht => ?_⟩
    · obtain ⟨x, hx, rfl⟩ := List.mem_map.mp ht
      exact h3 x hx
    · obtain ⟨x, hx, rfl⟩ := List.mem_map.mp ht
      exact okW_opp n _ (h4 x hx)
theorem val_opp : ∀ (n : Nat) (s : SD n) (os : List O), okW n s → valS n (oppS n s) os = !valS n s os
  | 0, _, _, _ => rfl
  | n + 1, (l : List (O × SD n)), os, h => by
    have e : pickS (l.map fun t => (t.1, oppS n t.2)) (os.headD .z) = oppS n (pickS l (os.headD .z)) := by
      obtain ⟨i, r, rfl⟩ := okW_head h
      unfold pickS
      exact pickGo_map (oppS n)
    show valS n (pickS (l.map fun t => (t.1, oppS n t.2)) (os.headD .z)) os.tail = !valS n (pickS l (os.headD .z)) os.tail
    rw [e]
    exact val_opp n _ _ (okW_pick h _)
theorem bs_opp {D W L : Nat} : ∀ (n : Nat) (s : SD n), Bs D W L n s → Bs D W L n (oppS n s)
  | 0, _, _ => trivial
  | n + 1, (l : List (O × SD n)), h => by
    show (l.map fun t => (t.1, oppS n t.2)).length ≤ L ∧ ∀ t ∈ (l.map fun t => (t.1, oppS n t.2)), dp t.1 ≤ D ∧ wd t.1 ≤ W ∧ Bs D W L n t.2
    have h1 := h.1
    refine ⟨by rw [List.length_map]; exact h1, fun t ht => ?_⟩
    obtain ⟨x, hx, rfl⟩ := List.mem_map.mp ht
    exact ⟨(h.2 x hx).1, (h.2 x hx).2.1, bs_opp n _ (h.2 x hx).2.2⟩
/-- both -/
def metS (n : Nat) (a b : SD n) : SD n := oppS n (joinS (fun x y => x || y) n (oppS n a) (oppS n b))
theorem val_met {n : Nat} {a b : SD n} (h1 : okW n a) (h2 : okW n b) (r : List O) : valS n (metS n a b) r = (valS n a r && valS n b r) := by
  unfold metS
  rw [val_opp n _ r (okW_join n _ _ (okW_opp n a h1) (okW_opp n b h2)), val_join n _ _ r (okW_opp n a h1) (okW_opp n b h2), val_opp n a r h1, val_opp n b r h2]
  cases valS n a r <;> cases valS n b r <;> rfl
/-- the sizes of a stair of at most three levels -/
structure Fit3 (D W t0 t1 t2 : Nat) (n : Nat) (s : SD n) : Prop where
  ok : okW n s
  bs : Bs D W 1500000 n s
  n0 : ns 0 n s ≤ t0
  n1 : ns 1 n s ≤ t1
  n2 : ns 2 n s ≤ t2
theorem Fit3.mono {D W t0 t1 t2 D' W' t0' t1' t2' n : Nat} {s : SD n} (h : Fit3 D W t0 t1 t2 n s) (e : D ≤ D') (a : W ≤ W') (b : t0 ≤ t0') (c : t1 ≤ t1') (d : t2 ≤ t2') : Fit3 D' W' t0' t1' t2' n s :=
  ⟨h.ok, (h.bs.monoD e).mono a (Nat.le_refl _), Nat.le_trans h.n0 b, Nat.le_trans h.n1 c, Nat.le_trans h.n2 d⟩
theorem Fit3.lv {D W t0 t1 t2 n : Nat} {s : SD n} (h : Fit3 D W t0 t1 t2 n s) : lv n s ≤ t0 := by rw [← ns_lv]; exact h.n0
theorem gr_two : ∀ (n : Nat) (s : SD n), n ≤ 3 → gr n s ≤ ns 1 n s + ns 2 n s
  | 0, _, _ => Nat.zero_le _
  | 1, (l : List (O × SD 0)), _ => by
    have : gr 1 l = 0 * l.length + (l.map fun t => gr 0 t.2).sum := rfl
    rw [this, sum_zero (f := fun t : O × SD 0 => gr 0 t.2) fun t _ => rfl]; omega
  | 2, (l : List (O × SD 1)), _ => by
    have h1 : gr 2 l = 1 * l.length + (l.map fun t => gr 1 t.2).sum := rfl
    have h0 : ∀ s : SD 1, gr 1 s = 0 := fun (s : List (O × SD 0)) => by
      have : gr 1 s = 0 * s.length + (s.map fun t => gr 0 t.2).sum := rfl
      rw [this, sum_zero (f := fun t : O × SD 0 => gr 0 t.2) fun t _ => rfl]; omega
    have h2 : ns 1 2 l = l.length := ns_len (k := 1) l
    rw [h1, sum_zero (f := fun t : O × SD 1 => gr 1 t.2) fun t _ => h0 t.2]; omega
  | 3, (l : List (O × SD 2)), _ => by
    have h1 : gr 3 l = 1 * l.length + (l.map fun t => gr 2 t.2).sum := rfl
    have h2 : ns 2 3 l = l.length := ns_len (k := 2) l
    have h3 : ns 1 3 l = (l.map fun t => ns 1 2 t.2).sum := ns_succ (k := 1) l (by omega)
    have key : ∀ s : SD 2, gr 2 s ≤ ns 1 2 s := fun (s : List (O × SD 1)) => by
      have g1 : gr 2 s = 1 * s.length + (s.map fun t => gr 1 t.2).sum := rfl
      have h0 : ∀ s : SD 1, gr 1 s = 0 := fun (s : List (O × SD 0)) => by
        have : gr 1 s = 0 * s.length + (s.map fun t => gr 0 t.2).sum := rfl
        rw [this, sum_zero (f := fun t : O × SD 0 => gr 0 t.2) fun t _ => rfl]; omega
      have g2 : ns 1 2 s = s.length := ns_len (k := 1) s
      rw [g1, sum_zero (f := fun t : O × SD 1 => gr 1 t.2) fun t _ => h0 t.2]; omega
    have h4 := sum_mono (l := l) (f := fun t => gr 2 t.2) (g := fun t => ns 1 2 t.2) fun t _ => key t.2
    omega
theorem Fit3.tidy {D W t0 t1 t2 n : Nat} {s : SD n} (h : Fit3 D W t0 t1 t2 n s) (hn : n ≤ 3) (hD : 4 ≤ D) (hW : 1 ≤ W) (h0 : t0 ≤ 1500000) : Fit3 D (W + (t1 + t2)) t0 t1 t2 n (tidyB n s none) := by
  have lo : LimOk none := fun _ h => by cases h
  have g := gr_two n s hn
  have a1 := h.n1
  have a2 := h.n2
  have l := h.lv
  exact ⟨(tidy_val h.ok).1, (tidy_sz hD n s none W 1500000 hW h.ok lo h.bs (by omega)).mono (by omega) (Nat.le_refl _), Nat.le_trans (ns_tidy h.ok lo) h.n0, Nat.le_trans (ns_tidy h.ok lo) h.n1, Nat.le_trans (ns_tidy h.ok lo) h.n2⟩
theorem Fit3.opp {D W t0 t1 t2 n : Nat} {s : SD n} (h : Fit3 D W t0 t1 t2 n s) : Fit3 D W t0 t1 t2 n (oppS n s) :=
  ⟨okW_opp n s h.ok, bs_opp n s h.bs, by rw [ns_opp]; exact h.n0, by rw [ns_opp]; exact h.n1, by rw [ns_opp]; exact h.n2⟩
/-- how many stairs at each level of a join -/
theorem ns_joinB {op : Bool → Bool → Bool} {n : Nat} {a b : SD n} {k x y x' y' : Nat} (h1 : okW n a) (h2 : okW n b) (hx : 1 ≤ x) (hx' : 1 ≤ x') (hy : 1 ≤ y) (hy' : 1 ≤ y') (a0 : ns k n a ≤ x) (a1 : ns (k + 1) n a ≤ y) (b0 : ns k n b ≤ x') (b1 : ns (k + 1) n b ≤ y') :
    ns k n (joinS op n a b) ≤ x * y' + y * x' := by
  rcases Nat.lt_trichotomy k n with h | h | h
  · have := ns_join (op := op) n a b h h1 h2
    have m1 := Nat.mul_le_mul a0 b1
    have m2 := Nat.mul_le_mul a1 b0
    omega
  · subst h
    rw [ns_self]
    have := Nat.mul_le_mul hx hy'
    omega
  · rw [ns_above k n _ h]; exact Nat.zero_le _
theorem Fit3.join {op : Bool → Bool → Bool} {D W t0 t1 t2 D' W' t0' t1' t2' n : Nat} {a b : SD n} (h : Fit3 D W t0 t1 t2 n a) (h' : Fit3 D' W' t0' t1' t2' n b) (hn : n ≤ 3) (p0 : 1 ≤ t0) (p1 : 1 ≤ t1) (p2 : 1 ≤ t2) (p0' : 1 ≤ t0') (p1' : 1 ≤ t1') (p2' : 1 ≤ t2')
    (hl : t0 * t1' + t1 * t0' ≤ 1500000) : Fit3 (max D D') (max W W') (t0 * t1' + t1 * t0') (t1 * t2' + t2 * t1') (t2 + t2') n (joinS op n a b) := by
  have kj := okW_join (op := op) n a b h.ok h'.ok
  have q0 := ns_joinB (op := op) (k := 0) h.ok h'.ok p0 p0' p1 p1' h.n0 h.n1 h'.n0 h'.n1
  have q1 := ns_joinB (op := op) (k := 1) h.ok h'.ok p1 p1' p2 p2' h.n1 h.n2 h'.n1 h'.n2
  refine ⟨kj, Bs.len kj (bs_join n a b h.ok h'.ok ((h.bs.monoD (Nat.le_max_left _ _)).mono (Nat.le_max_left _ _) (Nat.le_refl _)) ((h'.bs.monoD (Nat.le_max_right _ _)).mono (Nat.le_max_right _ _) (Nat.le_refl _))) (by rw [← ns_lv]; exact Nat.le_trans q0 hl), q0, q1, ?_⟩
  -- the steps of the topmost list
  have hn3 : n = 0 ∨ n = 1 ∨ n = 2 ∨ n = 3 := by omega
  rcases hn3 with e | e | e | e <;> subst e
  · rw [ns_above 2 0 _ (by omega)]; exact Nat.zero_le _
  · rw [ns_above 2 1 _ (by omega)]; exact Nat.zero_le _
  · rw [ns_self]; omega
  · have := ns_join (op := op) (k := 2) 3 a b (by omega) h.ok h'.ok
    rw [ns_self, ns_self] at this
    have a2 := h.n2
    have b2 := h'.n2
    omega
theorem ns_drawn : ∀ (k n : Nat) (s : SD n), okS n s → k ≤ n → ns k n s ≤ 4 ^ (n - k)
  | k, 0, _, _, h => by
    obtain rfl : k = 0 := by omega
    exact Nat.le_refl 1
  | k, n + 1, (l : List (O × SD n)), h, hk => by
    by_cases e : k = n + 1
    · subst e
      have : ns (n + 1) (n + 1) l = 1 := ns_self _ _
      rw [this, Nat.sub_self]; exact Nat.le_refl 1
    · rw [ns_succ l e]
      have h1 := sum_le (fun t : O × SD n => ns k n t.2) (l := l) (B := 4 ^ (n - k)) fun t ht => ns_drawn k n t.2 (h.2.2.2.1 t ht) (by omega)
      have h2 := Nat.mul_le_mul_right (4 ^ (n - k)) h.2.2.2.2.1
      have e2 : n + 1 - k = (n - k) + 1 := by omega
      rw [e2, Nat.pow_succ, Nat.mul_comm]
      omega
theorem ns_drawnB {k n : Nat} {s : SD n} (h : okS n s) (hn : n ≤ 3) (hk : k ≤ 3) : ns k n s ≤ 4 ^ (3 - k) := by
  rcases Nat.lt_or_ge n k with q | q
  · rw [ns_above k n s q]; exact Nat.zero_le _
  · exact Nat.le_trans (ns_drawn k n s h q) (Nat.pow_le_pow_right (by decide) (by omega))
theorem Fit3.drawn {n : Nat} {s : SD n} (h : okS n s) (hn : n ≤ 3) : Fit3 8 3 64 16 4 n s :=
  ⟨okS_W _ _ h, (okS_bs _ _ h).mono (Nat.le_refl _) (by decide), ns_drawnB h hn (by decide), ns_drawnB h hn (by decide), ns_drawnB h hn (by decide)⟩
theorem ns_flat : ∀ (k n : Nat) (b : Bool), ns k n (flatS n b) ≤ 1
  | k, 0, _ => by show (if k = 0 then 1 else 0) ≤ 1; split <;> omega
  | k, n + 1, b => by
    have := ns_flat k n b
    show (if k = n + 1 then 1 else ns k n (flatS n b) + 0) ≤ 1
    split <;> omega
theorem Fit3.flat (n : Nat) (b : Bool) : Fit3 0 0 1 1 1 n (flatS n b) := ⟨okW_flat n b, bs_flat (by decide) n b, ns_flat 0 n b, ns_flat 1 n b, ns_flat 2 n b⟩
end Vw

set_option Elab.async false
set_option linter.all false
set_option maxRecDepth 100000
set_option maxHeartbeats 4000000
/-! meanings: instances that hold a number of levels and a tidy stair -/
namespace Vw
open PySem PySem.W PyProof.Rows L2
theorem MtC.meth {K : PySem.W.Frag} {C f : Addr} {m : Str} (M : MtC K C m f) : Meth K C m f := ⟨M.at_, M.fn, M.kp⟩
/-- tuples and instances stay -/
def Ip (H H' : Hp) : Prop := Tp H H' ∧ ∀ a C dx fs, H a = some (.ins C dx fs) → H' a = some (.ins C dx fs)
theorem Ip.refl (H : Hp) : Ip H H := ⟨Tp.refl H, fun _ _ _ _ h => h⟩
theorem Ip.trans {H H1 H2 : Hp} (x : Ip H H1) (y : Ip H1 H2) : Ip H H2 := ⟨x.1.trans y.1, fun a C d f h => y.2 a C d f (x.2 a C d f h)⟩
theorem same_ip {H H' : Hp} (x : Same H H') : Ip H H' := ⟨same_tp x, fun a _ _ _ h => x a _ h⟩
theorem Kp.ip {b : Addr} {H H' : Hp} {ys : List V} (x : Kp b H H') (hb : H b = some (.lst ys)) : Ip H H' := ⟨x.tp hb, fun a _ _ _ h => x a _ (ne_of h hb (fun z => by cases z)) h⟩
theorem Bag.ip {l : Addr} {H H' : Hp} {b : Addr} (h : Bag l H b) (x : Kp b H H') : Ip H H' := by
  obtain ⟨ns, i, g, s, k, h1, h2, h3, h4⟩ := h
  exact x.ip h2
theorem ip_lst {H : Hp} {p : Addr} {ys : List V} {o : HO} (h : H p = some (.lst ys)) : Ip H (upd H p o) := ⟨tp_lst h, fun a _ _ _ q => by rw [upd_ne (ne_of q h (fun z => by cases z))]; exact q⟩
theorem tp_ins {H : Hp} {p C dx : Addr} {fs : List (Str × V)} {o : HO} (h : H p = some (.ins C dx fs)) : Tp H (upd H p o) := fun a xs q => by rw [upd_ne (ne_of q h (fun z => by cases z))]; exact q
theorem upd_twice {H : Hp} {a : Addr} {x y : HO} : upd (upd H a x) a y = upd H a y := by
  funext b
  by_cases h : b = a
  · rw [h, upd_same, upd_same]
  · rw [upd_ne h, upd_ne h, upd_ne h]
/-- the fields of a meaning -/
def meF (n : Nat) (w : V) : List (Str × V) := [("_levels", .int (n : Nat)), ("_stair", w)]
theorem look_lev (n : Nat) (w : V) : (meF n w).lookup ("_levels" : Str) = some (.int (n : Nat)) := by
  show List.lookup _ (_ :: _) = _
  rw [L2.lookup_put, if_pos rfl]
theorem look_stair (n : Nat) (w : V) : (meF n w).lookup ("_stair" : Str) = some w := by
  show List.lookup _ (_ :: _ :: _) = _
  rw [L2.lookup_put, if_neg (by decide +kernel), L2.lookup_put, if_pos rfl]
theorem look_other {x : Str} (n : Nat) (w : V) (h1 : ¬ x = ("_levels" : Str)) (h2 : ¬ x = ("_stair" : Str)) : (meF n w).lookup x = none := by
  show List.lookup _ (_ :: _ :: _) = _
  rw [L2.lookup_put, if_neg h1, L2.lookup_put, if_neg h2]; rfl
/-- a meaning of n levels whose stair is s -/
def MeA (K : PySem.W.Frag) (C : Addr) (H : Hp) (v : V) (n : Nat) (s : SD n) : Prop := ∃ a dx w, v = .ref a ∧ H a = some (.ins C dx (meF n w)) ∧ SA K H n w s
section
variable {K : PySem.W.Frag} {C : Addr} {H H' : Hp} {v : V} {n : Nat} {s : SD n}
theorem MeA.ip (x : Ip H H') (h : MeA K C H v n s) : MeA K C H' v n s := by
  obtain ⟨a, dx, w, e, h1, h2⟩ := h
  exact ⟨a, dx, w, e, x.2 _ _ _ _ h1, h2.tp x.1⟩
theorem MeA.same (h : MeA K C H v n s) (x : Same H H') : MeA K C H' v n s := h.ip (same_ip x)
end
/-! ### sizes that can be computed with -/
/-- within what is computed -/
def Can (D W t0 t1 t2 : Nat) : Prop := 4 ≤ D ∧ D ≤ 20 ∧ 1 ≤ W ∧ 1 ≤ t0 ∧ 1 ≤ t1 ∧ 1 ≤ t2 ∧ t0 ≤ 1500000 ∧ W + (t1 + t2) ≤ 1000000
/-- what Meaning(levels, stair) sets -/
def spMeI (K : PySem.W.Frag) (C : Addr) : Sp := fun vs H Q _ => ∃ (a dx : Addr) (v : V) (n : Nat) (s : SD n) (D W t0 t1 t2 : Nat), vs = [.ref a, .int (n : Nat), v] ∧ H a = some (.ins C dx []) ∧ 1 ≤ n ∧ n ≤ 3 ∧ SA K H n v s ∧ Fit3 D W t0 t1 t2 n s ∧ Can D W t0 t1 t2 ∧
  ∀ (w : V) (H' : Hp), Same H H' → SA K H' n w (tidyB n s none) → Q .non (upd H' a (.ins C dx (meF n w)))
/-- a new meaning is made -/
theorem use_make {K : PySem.W.Frag} {C : Addr} {H : Hp} {Q : VK} {E : XK} {v : V} {n : Nat} {s : SD n} {D W t0 t1 t2 : Nat} (h1 : 1 ≤ n) (h3 : n ≤ 3) (hv : SA K H n v s) (hf : Fit3 D W t0 t1 t2 n s) (hc : Can D W t0 t1 t2) (q : ∀ (x : V) (H' : Hp), Same H H' → MeA K C H' x n (tidyB n s none) → Q x H') :
    ∀ x dx, H x = none → H dx = none → dx ≠ x → spMeI K C (.ref x :: ([.int (n : Nat), v] ++ [])) (upd (upd H dx (.own x)) x (.ins C dx [])) (fun v H2 => v = .non ∧ Q (.ref x) H2) E := fun x dx nx nd hd => by
  have s1 := same_new (o := .own x) nd
  have nx1 : (upd H dx (.own x)) x = none := by rw [upd_ne (fun z => hd z.symm)]; exact nx
  have s2 := s1.trans (same_new (o := .ins C dx []) nx1)
  refine ⟨x, dx, v, n, s, D, W, t0, t1, t2, rfl, upd_same, h1, h3, hv.same s2, hf, hc, fun w H' s' sw => ⟨rfl, ?_⟩⟩
  refine q (.ref x) _ (same_mut (s2.trans s') nx) ⟨x, dx, w, rfl, upd_same, sw.tp (tp_ins (s' _ _ upd_same))⟩
/-- .. where the new one is known by its address -/
theorem make_at {K : PySem.W.Frag} {C : Addr} {H : Hp} {R : Hp → Prop} {E : XK} {v : V} {n : Nat} {s : SD n} {D W t0 t1 t2 : Nat} {x dx : Addr} (nx : H x = none) (nd : H dx = none) (hd : dx ≠ x) (h1 : 1 ≤ n) (h3 : n ≤ 3) (hv : SA K H n v s) (hf : Fit3 D W t0 t1 t2 n s) (hc : Can D W t0 t1 t2)
    (q : ∀ H' : Hp, Same H H' → MeA K C H' (.ref x) n (tidyB n s none) → R H') : spMeI K C (.ref x :: ([.int (n : Nat), v] ++ [])) (upd (upd H dx (.own x)) x (.ins C dx [])) (fun v H2 => v = .non ∧ R H2) E := by
  have s1 := same_new (o := .own x) nd
  have nx1 : (upd H dx (.own x)) x = none := by rw [upd_ne (fun z => hd z.symm)]; exact nx
  have s2 := s1.trans (same_new (o := .ins C dx []) nx1)
  refine ⟨x, dx, v, n, s, D, W, t0, t1, t2, rfl, upd_same, h1, h3, hv.same s2, hf, hc, fun w H' s' sw => ⟨rfl, ?_⟩⟩
  refine q _ (same_mut (s2.trans s') nx) ⟨x, dx, w, rfl, upd_same, sw.tp (tp_ins (s' _ _ upd_same))⟩
def spChkLev : Sp := fun vs H Q _ => ∃ m : Nat, vs = [.int (m : Nat)] ∧ 1 ≤ m ∧ m ≤ 3 ∧ Q .non H
def spChkSt (K : PySem.W.Frag) : Sp := fun vs H Q _ => ∃ (v : V) (n : Nat) (s : SD n), vs = [.int (n : Nat), v] ∧ n ≤ 3 ∧ SA K H n v s ∧ okW n s ∧ BB n s ∧ ∀ H', Same H H' → Q .non H'
def spChkRow (K : PySem.W.Frag) : Sp := fun vs H Q _ => ∃ (v : V) (n : Nat) (os : List O), vs = [.int (n : Nat), v] ∧ n ≤ 3 ∧ RowA K H v os ∧ Row n os ∧ (∀ o ∈ os, O.dp o ≤ 40) ∧ ∀ H', Same H H' → Q .non H'
/-- a def of one meaning -/
def spMe1 (K : PySem.W.Frag) (C : Addr) (ans : Hp → VK → (n : Nat) → SD n → Prop) : Sp := fun vs H Q _ => ∃ (x : V) (n : Nat) (s : SD n) (D W t0 t1 t2 : Nat), vs = [x] ∧ 1 ≤ n ∧ n ≤ 3 ∧ MeA K C H x n s ∧ Fit3 D W t0 t1 t2 n s ∧ Can D W t0 t1 t2 ∧ ans H Q n s
/-- a def of two meanings of as many levels -/
def spMe2 (K : PySem.W.Frag) (C : Addr) (can : Nat → Nat → Nat → Nat → Nat → Nat → Nat → Nat → Nat → Nat → Prop) (ans : Hp → VK → (n : Nat) → SD n → SD n → Prop) : Sp := fun vs H Q _ => ∃ (x y : V) (n : Nat) (s t : SD n) (D W t0 t1 t2 D' W' u0 u1 u2 : Nat), vs = [x, y] ∧ 1 ≤ n ∧ n ≤ 3 ∧ MeA K C H x n s ∧ MeA K C H y n t ∧ Fit3 D W t0 t1 t2 n s ∧ Fit3 D' W' u0 u1 u2 n t ∧ Can D W t0 t1 t2 ∧ Can D' W' u0 u1 u2 ∧ can D W t0 t1 t2 D' W' u0 u1 u2 ∧ ans H Q n s t
/-- .. makes a meaning -/
def mkMe1 (K : PySem.W.Frag) (C : Addr) (g : (n : Nat) → SD n → SD n) : Hp → VK → (n : Nat) → SD n → Prop := fun H Q n s => ∀ (x : V) (H' : Hp), Same H H' → MeA K C H' x n (tidyB n (g n s) none) → Q x H'
def mkMe2 (K : PySem.W.Frag) (C : Addr) (g : (n : Nat) → SD n → SD n → SD n) : Hp → VK → (n : Nat) → SD n → SD n → Prop := fun H Q n s t => ∀ (x : V) (H' : Hp), Same H H' → MeA K C H' x n (tidyB n (g n s t) none) → Q x H'
def blMe1 (g : (n : Nat) → SD n → Bool) : Hp → VK → (n : Nat) → SD n → Prop := fun H Q n s => ∀ H' : Hp, Same H H' → Q (.bl (g n s)) H'
def blMe2 (g : (n : Nat) → SD n → SD n → Bool) : Hp → VK → (n : Nat) → SD n → SD n → Prop := fun H Q n s t => ∀ H' : Hp, Same H H' → Q (.bl (g n s t)) H'
/-- the join can be made a meaning -/
def CanJ : Nat → Nat → Nat → Nat → Nat → Nat → Nat → Nat → Nat → Nat → Prop := fun D W t0 t1 t2 D' W' u0 u1 u2 => Can (max D D') (max W W') (t0 * u1 + t1 * u0) (t1 * u2 + t2 * u1) (t2 + u2)
/-- the join can be looked through -/
def CanL : Nat → Nat → Nat → Nat → Nat → Nat → Nat → Nat → Nat → Nat → Prop := fun _ _ t0 _ _ _ _ u0 _ _ => t0 + u0 ≤ 1500000
def CanE : Nat → Nat → Nat → Nat → Nat → Nat → Nat → Nat → Nat → Nat → Prop := fun _ _ _ _ _ _ _ _ _ _ => True
theorem Can.tidyOk {D W t0 t1 t2 n : Nat} {s : SD n} (c : Can D W t0 t1 t2) (h : Fit3 D W t0 t1 t2 n s) (hn : n ≤ 3) : BB n s ∧ Bs 20 W 1500000 n s ∧ W + gr n s ≤ 1000000 ∧ lv n s ≤ 1500000 := by
  obtain ⟨d1, d2, c1, c2, c3, c4, c5, c6⟩ := c
  have g := gr_two n s hn
  have a1 := h.n1
  have a2 := h.n2
  have al := h.lv
  have b20 := h.bs.monoD d2
  exact ⟨b20.mono (by omega) (Nat.le_refl _), b20, by omega, by omega⟩
theorem Fit3.joinC {op : Bool → Bool → Bool} {D W t0 t1 t2 D' W' u0 u1 u2 n : Nat} {a b : SD n} (h : Fit3 D W t0 t1 t2 n a) (h' : Fit3 D' W' u0 u1 u2 n b) (hn : n ≤ 3) (c : Can D W t0 t1 t2) (c' : Can D' W' u0 u1 u2) (j : CanJ D W t0 t1 t2 D' W' u0 u1 u2) :
    Fit3 (max D D') (max W W') (t0 * u1 + t1 * u0) (t1 * u2 + t2 * u1) (t2 + u2) n (joinS op n a b) := h.join h' hn c.2.2.2.1 c.2.2.2.2.1 c.2.2.2.2.2.1 c'.2.2.2.1 c'.2.2.2.2.1 c'.2.2.2.2.2.1 j.2.2.2.2.2.2.1
/-- some of the program's defs about stairs -/
def spTurn (K : PySem.W.Frag) (j : Nat) : Sp := fun vs H Q _ => ∃ (v : V) (n : Nat) (s : SD n), vs = [v] ∧ SA K H n v s ∧ BB n s ∧ n < j ∧ ∀ (w : V) (H' : Hp), Same H H' → SA K H' n w (oppS n s) → Q w H'
def spJnd (K : PySem.W.Frag) (j : Nat) : Sp := fun vs H Q _ => ∃ (v1 v2 : V) (n : Nat) (a b : SD n), vs = [v1, v2] ∧ n < j ∧ SA K H n v1 a ∧ SA K H n v2 b ∧ okW n a ∧ okW n b ∧ BB n a ∧ BB n b ∧ ∀ (w : V) (H' : Hp), Same H H' → SA K H' n w (joinS (fun x y => x || y) n a b) → Q w H'
def spMet (K : PySem.W.Frag) (j : Nat) : Sp := fun vs H Q _ => ∃ (v1 v2 : V) (n : Nat) (a b : SD n), vs = [v1, v2] ∧ n < j ∧ SA K H n v1 a ∧ SA K H n v2 b ∧ okW n a ∧ okW n b ∧ BB n a ∧ BB n b ∧ BB n (joinS (fun x y => x || y) n (oppS n a) (oppS n b)) ∧ ∀ (w : V) (H' : Hp), Same H H' → SA K H' n w (metS n a b) → Q w H'
/-- where the last of the last stands -/
def endS : (n : Nat) → SD n → Bool
  | 0, (b : Bool) => b
  | n + 1, (l : List (O × SD n)) => match l.getLast? with
    | some t => endS n t.2
    | none => false
end Vw

set_option Elab.async false
set_option linter.all false
set_option maxRecDepth 100000
/-! max(list) of ordinals; the far end of stairs -/
namespace Vw
open PySem PySem.W PyProof.Rows L2
section
variable {prog : Program} {w : World} {A : Around} {E : Value → Shared → Prop} {s : Shared}
theorem max_list_at {l : Addr} {vs : Array Value} {x : PyData} {xs : List PyData} {as : List Addr} {Q : Value → Shared → Prop} (hh : A.handled = none) (hl : s.heap.IsList l vs) (hr : ReadsAll s.heap vs.toList (x :: xs) as) (ha : AlikeAll (x :: xs)) (hu : A.units + 1 + PyData.depthAll (x :: xs) < cLine)
    (h : ∀ (i : Nat) v h' tk, vs[i]? = some v → (x :: xs).getD i .none = maxD x xs → (∀ b o, s.heap.get? b = some o → h'.get? b = some o) → Q v { s with heap := h', toks := tk }) :
    wpAny (model prog w) A (call (.builtin "max") [.ref l]) Q E s := by
  have len : vs.size = xs.length + 1 := readsAll_len hr
  refine call_max_walkH (iter_listW (A := A.in1) hh hl fun s2 e W st hfp hw hk => ?_)
  refine ⟨_, _, _, _, _, _, _, s.heap, _, rfl, W, st, hfp, by omega, hw, hk, cmpIn_gt (A := A.in1) hr ha (by show A.units + 1 + _ < _; exact hu), fun v s' hP m => ?_⟩
  obtain ⟨h', tk, rfl, hk'⟩ := moved_old e rfl m
  have last : vs.size - 1 = xs.length := by omega
  have fold := (argBest_fold (fun d e => dataLt e d) PyData.none x xs xs.length (Nat.le_refl _)).2
  rw [List.take_length] at fold
  refine h _ v h' tk hP ?_ hk'
  rw [last]
  exact fold
end
def maxOL (x : O) (xs : List O) : O := xs.foldl (fun a y => if O.lt a y = true then y else a) x
theorem maxD_toD (x : O) : ∀ xs : List O, maxD (O.toD x) (xs.map O.toD) = O.toD (maxOL x xs) := fun xs => by
  unfold maxD maxOL
  induction xs generalizing x with
  | nil => rfl
  | cons y ys ih =>
    rw [List.map_cons, List.foldl_cons, List.foldl_cons, O.lt_toD, ← ih]
    congr 1
    split <;> rfl
theorem maxOL_ge : ∀ (xs : List O) (x : O), O.lt (maxOL x xs) x = false ∧ ∀ y ∈ xs, O.lt (maxOL x xs) y = false
  | [], x => ⟨O.lt_irrefl _, fun y h => by cases h⟩
  | y :: ys, x => by
    have ih := maxOL_ge ys (if O.lt x y = true then y else x)
    have e : maxOL x (y :: ys) = maxOL (if O.lt x y = true then y else x) ys := rfl
    rw [e]
    by_cases g : O.lt x y = true
    · rw [if_pos g] at ih ⊢
      refine ⟨O.ge_trans ih.1 (O.lt_asymm g), fun z hz => ?_⟩
      rcases List.mem_cons.mp hz with h | h
      · subst h; exact ih.1
      · exact ih.2 z h
    · rw [if_neg g] at ih ⊢
      refine ⟨ih.1, fun z hz => ?_⟩
      rcases List.mem_cons.mp hz with h | h
      · subst h; exact O.ge_trans ih.1 (Bool.eq_false_iff.mpr g)
      · exact ih.2 z h
@[irreducible] def rMaxL (K : PySem.W.Frag) : List V → Hp → VK → Prop := fun vs H Q => ∃ (l : Addr) (xs : List V) (os : List O), vs = [.ref l] ∧ SqL K H l xs ∧ Paired (OA K H) xs os ∧ os ≠ [] ∧ (∀ o ∈ os, O.dp o ≤ 60) ∧ ∀ (v : V) (m : O), m ∈ os → OA K H v m → (∀ o ∈ os, O.lt m o = false) → Q v H
theorem rd_maxL {K : PySem.W.Frag} {H : Hp} {Q : VK} {l : Addr} {xs : List V} {os : List O} (h1 : SqL K H l xs) (h2 : Paired (OA K H) xs os) (h3 : os ≠ []) (h4 : ∀ o ∈ os, O.dp o ≤ 60) (q : ∀ (v : V) (m : O), m ∈ os → OA K H v m → (∀ o ∈ os, O.lt m o = false) → Q v H) : rMaxL K [.ref l] H Q := by
  unfold rMaxL
  exact ⟨l, xs, os, rfl, h1, h2, h3, h4, q⟩
section
variable {X : Cx}
theorem cr_maxL (hc : X.calm = true) (hu : X.A.units + 64 < cLine) : CallR X (.builtin "max") (rMaxL X.K) := by
  intro pins s σ H vs us Q I r h
  unfold rMaxL at h
  obtain ⟨l, xs, os, rfl, hs, hp, hne, hd, q⟩ := h
  obtain rfl := Vals.ref1 r
  obtain ⟨its, rv, hl, hz⟩ := I.list hs
  obtain ⟨as, ra⟩ := Dp.readsAll I _ _ _ (dpAll_of hp) rv
  have hdd := O.depthAll hd
  cases os with
  | nil => exact absurd rfl hne
  | cons o os =>
    refine max_list_at (I.ok.hd hc) hl.isList ra (O.alikeAll (o :: os)) (by show X.A.units + 1 + PyData.depthAll ((o :: os).map O.toD) < cLine; omega) fun i v h' tk hv hm hk => ?_
    rw [maxD_toD] at hm
    have hv : its[i]? = some v := by simpa using hv
    obtain ⟨y, hy, ry⟩ := vals_at rv hv
    obtain ⟨m, hm2, om⟩ := paired_get hp hy
    have e : O.toD o :: os.map O.toD = (o :: os).map O.toD := rfl
    rw [e, List.getD_eq_getElem?_getD, List.getElem?_map, hm2] at hm
    have hm : m = maxOL o os := O.toD_inj hm
    have hge := maxOL_ge os o
    refine ⟨y, H, I.kept hk, ry, q y m (List.mem_of_getElem? hm2) om fun z hz => ?_⟩
    rw [hm]
    rcases List.mem_cons.mp hz with q | q
    · rw [q]; exact hge.1
    · exact hge.2 z q
end
/-! ### far away -/
/-- greater than all begins, level by level -/
def Far : (n : Nat) → SD n → List O → Prop
  | 0, _, _ => True
  | n + 1, (l : List (O × SD n)), os => (∀ t ∈ l, O.lt t.1 (os.headD .z) = true) ∧ ∀ t ∈ l, Far n t.2 os.tail
theorem pick_last {α : Type} {o : O} : ∀ {l : List (O × α)} {d : α}, (∀ t ∈ l, O.lt t.1 o = true) → pickGo o d l = (l.getLast?.map (·.2)).getD d
  | [], _, _ => rfl
  | t :: r, d, h => by
    have ht := O.lt_asymm (h t List.mem_cons_self)
    have ih := pick_last (l := r) (d := t.2) fun x hx => h x (List.mem_cons_of_mem _ hx)
    show pickGo o (if O.lt o t.1 = true then d else t.2) r = _
    rw [if_neg (by rw [ht]; decide), ih]
    cases r with
    | nil => rfl
    | cons x s => rw [List.getLast?_cons_cons]; cases e : (x :: s).getLast? with
      | none => simp at e
      | some y => rfl
theorem far_val : ∀ (n : Nat) (s : SD n) (os : List O), okW n s → Far n s os → valS n s os = endS n s
  | 0, _, _, _, _ => rfl
  | n + 1, (l : List (O × SD n)), os, h, hf => by
    obtain ⟨i, r, el⟩ := okW_head h
    obtain ⟨t, ht⟩ : ∃ t, l.getLast? = some t := by
      cases e : l.getLast? with
      | none => rw [List.getLast?_eq_none_iff] at e; rw [e] at el; cases el
      | some t => exact ⟨t, rfl⟩
    have hm := List.mem_of_getLast? ht
    have hp : pickS l (os.headD .z) = t.2 := by
      unfold pickS
      rw [pick_last hf.1, ht]; rfl
    have e : endS (n + 1) l = endS n t.2 := by
      show (match l.getLast? with
        | some t => endS n t.2
        | none => false) = _
      rw [ht]
    show valS n (pickS l (os.headD .z)) os.tail = _
    rw [hp, e]
    exact far_val n t.2 os.tail (h.2.2.2 t hm) (hf.2 t hm)
theorem end_opp : ∀ (n : Nat) (s : SD n), okW n s → endS n (oppS n s) = !endS n s
  | 0, _, _ => rfl
  | n + 1, (l : List (O × SD n)), h => by
    obtain ⟨i, r, el⟩ := okW_head h
    obtain ⟨t, ht⟩ : ∃ t, l.getLast? = some t := by
      cases e : l.getLast? with
      | none => rw [List.getLast?_eq_none_iff] at e; rw [e] at el; cases el
      | some t => exact ⟨t, rfl⟩
    have hm := List.mem_of_getLast? ht
    show (match (l.map fun t => (t.1, oppS n t.2)).getLast? with
      | some t => endS n t.2
      | none => false) = !(match l.getLast? with
      | some t => endS n t.2
      | none => false)
    rw [List.getLast?_map, ht]
    exact end_opp n t.2 (h.2.2.2 t hm)
theorem far_of : ∀ (n : Nat) (s : SD n) (os : List O), (∀ d, d < n → ∀ b ∈ begS n d s, O.lt b (os.getD d .z) = true) → Far n s os
  | 0, _, _, _ => trivial
  | n + 1, (l : List (O × SD n)), os, h => by
    refine ⟨fun t ht => ?_, fun t ht => ?_⟩
    · have := h 0 (Nat.succ_pos n) t.1 (List.mem_map.mpr ⟨t, ht, rfl⟩)
      cases os with
      | nil => exact this
      | cons x r => exact this
    · refine far_of n t.2 os.tail fun d hd b hb => ?_
      have := h (d + 1) (by omega) b (List.mem_flatten.mpr ⟨_, List.mem_map.mpr ⟨t, ht, rfl⟩, hb⟩)
      cases os with
      | nil => exact this
      | cons x r => exact this
/-! ### what is tidy stays so when it is turned -/
theorem ti_opp : ∀ (n : Nat) (s : SD n) (lim : Option O), okW n s → IsTi n s lim → IsTi n (oppS n s) lim
  | 0, _, _, _, _ => trivial
  | n + 1, (l : List (O × SD n)), lim, h, ti => by
    obtain ⟨t1, t2⟩ := (ti : TiCells (IsTi n) lim l ∧ ∀ t ∈ l, ltO t.1 lim = true)
    have hk : ∀ t ∈ l, okW n t.2 := h.2.2.2
    show TiCells (IsTi n) lim (l.map fun t => (t.1, oppS n t.2)) ∧ ∀ t ∈ (l.map fun t => (t.1, oppS n t.2)), ltO t.1 lim = true
    refine ⟨?_, fun t ht => ?_⟩
    · have nx : ∀ r : List (O × SD n), nextO (r.map fun t => (t.1, oppS n t.2)) lim = nextO r lim := fun r => by cases r <;> rfl
      have key : ∀ l : List (O × SD n), (∀ t ∈ l, okW n t.2) → TiCells (IsTi n) lim l → TiCells (IsTi n) lim (l.map fun t => (t.1, oppS n t.2)) := by
        intro l
        induction l with
        | nil => intro _ _; trivial
        | cons t r ih =>
          intro hk c
          refine ⟨?_, fun u hu => ?_, ih (fun x hx => hk x (List.mem_cons_of_mem _ hx)) c.2.2⟩
          · show IsTi n (oppS n t.2) (limO t.1 (nextO (r.map fun t => (t.1, oppS n t.2)) lim))
            rw [nx]
            exact ti_opp n t.2 _ (hk t List.mem_cons_self) c.1
          · cases r with
            | nil => cases hu
            | cons x s =>
              obtain rfl : (x.1, oppS n x.2) = u := Option.some.inj hu
              obtain ⟨q, q1, q2, q3⟩ := c.2.1 x rfl
              refine ⟨q, q1, ?_, q3⟩
              show valS n (oppS n t.2) q ≠ valS n (oppS n x.2) q
              rw [val_opp n t.2 q (hk t List.mem_cons_self), val_opp n x.2 q (hk x (List.mem_cons_of_mem _ List.mem_cons_self))]
              exact fun z => q2 (by cases e1 : valS n t.2 q <;> cases e2 : valS n x.2 q <;> rw [e1, e2] at z <;> first | rfl | cases z)
      exact key l hk t1
    · obtain ⟨x, hx, rfl⟩ := List.mem_map.mp ht
      exact t2 x hx
end Vw

set_option Elab.async false
set_option linter.all false
set_option maxRecDepth 100000
set_option maxHeartbeats 4000000
/-! x != y by an own __eq__ -/
namespace Vw
open PySem PySem.Spec PyProof.Rows L2
section
variable {prog : Program} {w : World} {A : Around} {E : Value → Shared → Prop} {s : Shared} {K : PySem.W.Frag} {x C f : Addr} {ox : Obj} {od : Option Obj} {b : Value}
/-- what the inherited != does: the own == and its opposite -/
theorem entry_neq {Q : Fin → Shared → Prop} (X : K.In s.heap) (I : PySem.W.InstAt s.heap x ox C od) (hs : PySem.W.findIn K (.ref C) "__eq__" = some (some (.ref f))) (hf : PySem.W.isFn K (.ref f) = true) (hu : A.units < cLine)
    (h : wpAny (model prog w) A (call (.ref f) [.ref x, b]) (fun v s' => ∃ c, v = Value.bool c ∧ Q (.done (.ret (.bool (!c)))) s') E s) : wpAny (model prog w) A (Builtin.«object.__ne__» ⟨[.ref x, b], []⟩) Q E s := by
  unfold Builtin.«object.__ne__»
  refine wpAny_bind (m := slotArgs "__ne__" 1 _) (wpAny_pure ?_)
  refine wpAny_bind (wpAny_cRoomFor hu ?_)
  refine wpAny_bind (m := callSpecialIfBound? (.ref x) (Str.ofString "__eq__") [b]) (PySem.W.ifBound_K X I hs hf (wpAny_mono h (fun v s' hv => ?_) fun _ _ e => e))
  obtain ⟨c, rfl, hq⟩ := hv
  exact wpAny_bind (wpAny_pure (wpAny_pure hq))
theorem call_neq {Q : Value → Shared → Prop} (X : K.In s.heap) (I : PySem.W.InstAt s.heap x ox C od) (hm : PySem.W.mroIn K C (.type "object") = some true) (hs : PySem.W.findIn K (.ref C) "__eq__" = some (some (.ref f))) (hf : PySem.W.isFn K (.ref f) = true) (hu : A.in1.units < cLine)
    (h : wpAny (model prog w) A.in1 (call (.ref f) [.ref x, b]) (fun v s' => ∃ c, v = Value.bool c ∧ Q (.bool (!c)) s') E s) : wpAny (model prog w) A (call (.builtin "object.__ne__") [.ref x, b]) Q E s :=
  wpAny_call (codeAny_call_builtin F.cmp_object.ne.plain F.cmpEntry_ne (PySem.W.check_slot F.cmpKind_ne F.cmpSplit_ne (I.type.andThen (PySem.W.looks_mroIn X hm)) (F.cmpArgs_ne _ _) (entry_neq (A := A.in1) X I hs hf hu h)))
theorem ifBound_neq {M : Model} {args : List Value} {Q : Option Value → Shared → Prop} (X : K.In s.heap) (I : PySem.W.InstAt s.heap x ox C od) (hs : PySem.W.findIn K (.ref C) "__ne__" = some (some (.builtin "object.__ne__")))
    (h : wpAny M A (call (.builtin "object.__ne__") (.ref x :: args)) (fun v => Q (some v)) E s) : wpAny M A (callSpecialIfBound? (.ref x) "__ne__" args) Q E s := by
  simp only [callSpecialIfBound?, bindSpecialIfBound?]
  have fin : wpAny M A (call (.builtin "object.__ne__") ([.ref x] ++ args) >>= fun v => pure (some v)) Q E s := wpAny_bind (wpAny_mono h (fun v s' z => wpAny_pure z) fun _ _ z => z)
  refine wpAny_holding (wpAny_bind (wpAny_bind (wpAny_bind (I.type.here ((PySem.W.looks_findIn X hs).here ?_)))))
  refine wpAny_bind (wpAny_askSetting (wpAny_ite ?_))
  split
  · exact wpAny_bind (wpAny_of_eq (F.cmp_object.ne.bind _) (wpAny_pure (by exact fin)))
  · exact wpAny_tryCatch (wpAny_bind (wpAny_of_eq (F.cmp_object.ne.bind _) (wpAny_pure (by exact fin))))
theorem rich_neq {y : Addr} {oy : Obj} {ody : Option Obj} {Q : Value → Shared → Prop} (X : K.In s.heap) (I : PySem.W.InstAt s.heap x ox C od) (J : PySem.W.InstAt s.heap y oy C ody) (hm : PySem.W.mroIn K C (.type "object") = some true) (hn : PySem.W.findIn K (.ref C) "__ne__" = some (some (.builtin "object.__ne__")))
    (hs : PySem.W.findIn K (.ref C) "__eq__" = some (some (.ref f))) (hf : PySem.W.isFn K (.ref f) = true) (hu : A.units < cLine) (hu1 : A.in1.units < cLine)
    (h : wpAny (model prog w) A.in1 (call (.ref f) [.ref x, .ref y]) (fun v s' => ∃ c, v = Value.bool c ∧ Q (.bool (!c)) s') E s) : wpAny (model prog w) A (richCompare .NotEq (.ref x) (.ref y)) Q E s := by
  have one : wpAny (model prog w) A (tryCompare (.ref x) "__ne__" (.ref y)) (fun r s' => ∃ c, r = some (Value.bool (!c)) ∧ Q (.bool (!c)) s') E s := by
    unfold tryCompare
    refine wpAny_bind (ifBound_neq X I hn (wpAny_mono (call_neq (Q := fun v s' => ∃ c, v = Value.bool (!c) ∧ Q v s') X I hm hs hf hu1 (wpAny_mono h (fun v s' hv => ?_) fun _ _ e => e)) (fun v s' hv => ?_) fun _ _ e => e))
    · obtain ⟨c, rfl, q⟩ := hv
      exact ⟨c, rfl, c, rfl, q⟩
    · obtain ⟨c, rfl, q⟩ := hv
      exact wpAny_pure ⟨c, rfl, q⟩
  unfold richCompare
  simp only [oneThing_ref]
  refine wpAny_holding (wpAny_bind (wpAny_cRoomFor hu ?_))
  refine wpAny_bind (I.type.here (wpAny_bind (J.type.here ?_)))
  rw [show (Value.ref C != Value.ref C) = false from by simp]
  simp only [Bool.false_eq_true, if_false]
  refine wpAny_bind (wpAny_pure ?_)
  simp only [Bool.false_eq_true, if_false]
  refine wpAny_bind (wpAny_mono one (fun r s' hr => ?_) fun _ _ e => e)
  obtain ⟨c, rfl, q⟩ := hr
  exact wpAny_pure q
end
section
variable {X : Cx} {CX : CXT} {n : Nat} {C f : Addr} {fd : FuncData} {ps : List Str} {sp : Sp} {E : XK}
/-- x != y, both instances of the class at C -/
def rTwoN (C : Addr) (sp : Sp) (E : XK) : R2 := fun x y H Q => ∃ a dx fs b dy gs, x = .ref a ∧ y = .ref b ∧ H a = some (.ins C dx fs) ∧ H b = some (.ins C dy gs) ∧ sp [x, y] H (fun z H' => ∃ c, z = .bl c ∧ Q (.bl (!c)) H') E
theorem op_neI (hs : PySem.W.findIn X.K (.ref C) "__eq__" = some (some (.ref f))) (hf : PySem.W.isFn X.K (.ref f) = true) (hn : PySem.W.findIn X.K (.ref C) "__ne__" = some (some (.builtin "object.__ne__"))) (hm : PySem.W.mroIn X.K C (.type "object") = some true)
    (F : FnOk X.prog X.w X.K X.mg X.base CX n f fd ps sp) (hb : Binds X.K fd ps []) (hr : Room (n + 1) X.A) (hx : Passes CX X E) : OpR X (compareOp .NotEq) (rTwoN C sp E) := by
  intro pins s σ H x y v u Q I rx ry h
  obtain ⟨a, dx, fs, b, dy, gs, rfl, rfl, ha, hb', q⟩ := h
  cases (show v = Value.ref a from rx)
  cases (show u = Value.ref b from ry)
  obtain ⟨m1, O1, _⟩ := ins_get I.hok ha
  obtain ⟨m2, O2, _⟩ := ins_get I.hok hb'
  obtain ⟨d1, J1, _⟩ := O1.look
  obtain ⟨d2, J2, _⟩ := O2.look
  have hr1 : Room n X.A.in1 := hr.in1
  show wpAny _ _ (richCompare .NotEq _ _) _ _ _
  refine rich_neq I.kIn J1 J2 hm hn hs hf hr.units0 hr1.units0 ?_
  have step : wpAny (model X.prog X.w) X.A.in1 (call (.ref f) [.ref a, .ref b]) (EP X pins σ fun z H' => ∃ c, z = .bl c ∧ Q (.bl (!c)) H') X.xe s := by
    refine wpAny_call (codeAny_mono (F.run X.A.in1 X.stack s H ⟨[.ref a, .ref b], []⟩ [.ref a, .ref b] [.ref a, .ref b] _ E hr1 I.env0.in1 (hb s [.ref a, .ref b] I.kIn (F.len _ _ _ _ q)) (.cons rfl (.cons rfl .nil)) q) fun r s' hq => ?_)
    cases r with
    | error e => exact hx pins σ H s e s' I hq
    | ok fl =>
      cases fl with
      | ret u => exact I.after hq
      | next => exact False.elim hq
      | brk => exact False.elim hq
      | cont => exact False.elim hq
  refine wpAny_mono step (fun w s' z => ?_) fun _ _ e => e
  obtain ⟨r, H', I', rr, c, ec, qr⟩ := z
  subst ec
  cases (show w = Value.bool c from rr)
  exact ⟨c, rfl, .bl (!c), H', I', rfl, qr⟩
end
end Vw

set_option Elab.async false
set_option linter.all false
set_option maxRecDepth 100000
/-! sets that are shown -/
namespace Vw
open PySem PySem.W PyProof.Rows L2
open O
/-- what shown_stair computes -/
def shownS : (n : Nat) → Nat → SD n → SD n
  | 0, _, s => s
  | n + 1, d + 1, (l : List (O × SD n)) => (l.map fun t => (t.1, shownS n d t.2) : List (O × SD n))
  | n + 1, 0, (l : List (O × SD n)) => match leastS false (n + 1) l with
    | none => flatS (n + 1) true
    | some r => ([(z, flatS n true), (sum (r.headD z) one, flatS n false)] : List (O × SD n))
/-- below at a place -/
def Bel : Nat → List O → List O → Prop
  | 0, r, os => lt (r.headD z) (os.headD z) = true
  | d + 1, r, os => r.headD z = os.headD z ∧ Bel d r.tail os.tail
theorem bel_trans : ∀ (d : Nat) {a b c : List O}, Bel d a b → Bel d b c → Bel d a c
  | 0, _, _, _, h, g => lt_trans _ _ _ h g
  | d + 1, _, _, _, h, g => ⟨h.1.trans g.1, bel_trans d h.2 g.2⟩
theorem bel_low : ∀ (d : Nat) {r x os : List O}, Bel (d + 1) r os → Bel d x os → Bel d x r
  | 0, _, _, _, h, g => by
    show lt _ _ = true
    rw [h.1]; exact g
  | d + 1, _, _, _, h, g => ⟨g.1.trans h.1.symm, bel_low d h.2 g.2⟩
theorem row_bel {n d : Nat} {o : O} {os r : List O} (h : Row (n + 1) (o :: os)) (hr : Row n r) (hd : d < n) (hb : Bel d r os) : Row (n + 1) (o :: r) := by
  obtain ⟨h1, h2, h3⟩ := row_cons.mp h
  refine row_cons.mpr ⟨h1, hr, fun q hq => ?_⟩
  obtain ⟨n, rfl⟩ : ∃ m, n = m + 1 := ⟨n - 1, by omega⟩
  obtain ⟨p, os', rfl⟩ := row_ex h2
  obtain ⟨q', r', rfl⟩ := row_ex hr
  obtain rfl : q' = q := Option.some.inj hq
  have h4 := h3 p rfl
  cases d with
  | zero =>
    have hb : lt q' p = true := hb
    cases e : lt (endO o) q' with
    | false => rfl
    | true =>
      have := lt_trans _ _ _ e hb
      rw [h4] at this; cases this
  | succ d =>
    obtain rfl : q' = p := hb.1
    exact h4
theorem pick_two {n : Nat} {a b : SD n} {c x : O} : pickS (n := n) ([(z, a), (c, b)] : List (O × SD n)) x = if lt x c = true then a else b := by
  show pickGo x a [(z, a), (c, b)] = _
  unfold pickGo
  unfold pickGo
  unfold pickGo
  simp only [ite_self]
theorem le_succ {x y : O} (hy : ok y = true) (h : lt y x = false) : lt x (sum y one) = true := by
  by_cases e : y = x
  · subst e; exact lt_succ hy
  · exact lt_trans _ _ _ (lt_of_ge h e) (lt_succ hy)
theorem shown_iff : ∀ (n d : Nat) (s : SD n) (os : List O), d < n → okW n s → Row n os → (valS n (shownS n d s) os = true ↔ ∀ r, Row n r → Bel d r os → valS n s r = true)
  | 0, _, _, _, h, _, _ => absurd h (Nat.not_lt_zero _)
  | n + 1, d + 1, (l : List (O × SD n)), os, h, ok, ho => by
    obtain ⟨o, os', rfl⟩ := row_ex ho
    have e : pickS (l.map fun t => (t.1, shownS n d t.2)) o = shownS n d (pickS l o) := by
      obtain ⟨i, r, rfl⟩ := okW_head ok
      unfold pickS
      exact pickGo_map (shownS n d)
    show valS n (pickS (l.map fun t => (t.1, shownS n d t.2)) o) os' = true ↔ _
    rw [e]
    have ih := shown_iff n d (pickS l o) os' (by omega) (okW_pick ok o) (row_cons.mp ho).2.1
    rw [ih]
    refine ⟨fun g r hr hb => ?_, fun g r hr hb => ?_⟩
    · obtain ⟨q, r', rfl⟩ := row_ex hr
      obtain ⟨e1, hb⟩ := hb
      obtain rfl : q = o := e1
      exact g r' (row_cons.mp hr).2.1 hb
    · exact g (o :: r) (row_bel ho hr (by omega) hb) ⟨rfl, hb⟩
  | n + 1, 0, (l : List (O × SD n)), os, h, ok, ho => by
    obtain ⟨x, os', rfl⟩ := row_ex ho
    have hx := (row_cons.mp ho).1
    cases e : leastS false (n + 1) l with
    | none =>
      have e2 : shownS (n + 1) 0 l = flatS (n + 1) true := by
        show (match leastS false (n + 1) l with
          | none => flatS (n + 1) true
          | some r => ([(z, flatS n true), (sum (r.headD z) one, flatS n false)] : List (O × SD n))) = _
        rw [e]
      rw [e2, val_flat]
      exact ⟨fun _ r hr _ => least_none ok e hr, fun _ => rfl⟩
    | some m =>
      have e2 : shownS (n + 1) 0 l = ([(z, flatS n true), (sum (m.headD z) one, flatS n false)] : List (O × SD n)) := by
        show (match leastS false (n + 1) l with
          | none => flatS (n + 1) true
          | some r => ([(z, flatS n true), (sum (r.headD z) one, flatS n false)] : List (O × SD n))) = _
        rw [e]
      obtain ⟨rm, vm, lm⟩ := least_some ok e
      obtain ⟨y, m', rfl⟩ := row_ex rm
      have hy := (row_cons.mp rm).1
      rw [e2, valS_cons, pick_two]
      have hh : ((y :: m').headD z) = y := rfl
      rw [hh]
      cases g : lt y x with
      | true =>
        have : lt x (sum y one) = false := succ_le hy hx g
        rw [if_neg (by rw [this]; decide), val_flat]
        refine ⟨fun k => Bool.noConfusion k, fun k => ?_⟩
        have := k (y :: m') rm g
        rw [vm] at this; exact this
      | false =>
        rw [if_pos (le_succ hy g), val_flat]
        refine ⟨fun _ r hr hb => ?_, fun _ => rfl⟩
        obtain ⟨q, r', rfl⟩ := row_ex hr
        have hb : lt q x = true := hb
        exact lm _ hr (lex_head (lt_ge hb g))
theorem bel_least : ∀ (n d : Nat) (s : SD n) (os r : List O), d < n → okW n s → Row n os → Row n r → Bel d r os → valS n s r = false → ∃ m, Row n m ∧ Bel d m os ∧ valS n s m = false ∧ ∀ r', Row n r' → Bel d r' m → valS n s r' = true
  | 0, _, _, _, _, h, _, _, _, _, _ => absurd h (Nat.not_lt_zero _)
  | n + 1, d + 1, (l : List (O × SD n)), os, r, h, ok, ho, hr, hb, hv => by
    obtain ⟨o, os', rfl⟩ := row_ex ho
    obtain ⟨q, r', rfl⟩ := row_ex hr
    obtain ⟨e1, hb⟩ := hb
    obtain rfl : q = o := e1
    obtain ⟨m, rm, bm, vm, lm⟩ := bel_least n d (pickS l q) os' r' (by omega) (okW_pick ok q) (row_cons.mp ho).2.1 (row_cons.mp hr).2.1 hb hv
    refine ⟨q :: m, row_bel ho rm (by omega) bm, ⟨rfl, bm⟩, vm, fun r2 h2 b2 => ?_⟩
    obtain ⟨q2, r3, rfl⟩ := row_ex h2
    obtain ⟨e1, b2⟩ := b2
    obtain rfl : q2 = q := e1
    exact lm r3 (row_cons.mp h2).2.1 b2
  | n + 1, 0, (l : List (O × SD n)), os, r, h, ok, ho, hr, hb, hv => by
    obtain ⟨x, os', rfl⟩ := row_ex ho
    obtain ⟨q, r', rfl⟩ := row_ex hr
    have hb : lt q x = true := hb
    cases e : leastS false (n + 1) l with
    | none =>
      have := least_none ok e hr
      rw [hv] at this; cases this
    | some m =>
      obtain ⟨rm, vm, lm⟩ := least_some ok e
      obtain ⟨y, m', rfl⟩ := row_ex rm
      refine ⟨y :: m', rm, ?_, vm, fun r2 h2 b2 => ?_⟩
      · show lt y x = true
        cases g : lt y x with
        | true => rfl
        | false =>
          have := lm _ hr (lex_head (lt_ge hb g))
          rw [hv] at this; cases this
      · obtain ⟨q2, r3, rfl⟩ := row_ex h2
        exact lm _ h2 (lex_head b2)
/-! ### sizes -/
theorem ok_succ {y : O} (hy : ok y = true) : ok (sum y one) = true := ok_sum _ _ hy ok_one
theorem okW_shown : ∀ (n d : Nat) (s : SD n), okW n s → okW n (shownS n d s)
  | 0, _, _, _ => trivial
  | n + 1, d + 1, (l : List (O × SD n)), h => by
    obtain ⟨h1, h2, h3, h4⟩ := (h : l.head?.map (·.1) = some O.z ∧ Asc l ∧ (∀ t ∈ l, ok t.1 = true) ∧ ∀ t ∈ l, okW n t.2)
    show (l.map fun t => (t.1, shownS n d t.2)).head?.map (·.1) = some O.z ∧ Asc (l.map fun t => (t.1, shownS n d t.2)) ∧ (∀ t ∈ (l.map fun t => (t.1, shownS n d t.2)), ok t.1 = true) ∧ ∀ t ∈ (l.map fun t => (t.1, shownS n d t.2)), okW n t.2
    refine ⟨by rw [List.head?_map, Option.map_map]; exact h1, List.pairwise_map.mpr (h2.imp fun h => h), fun t ht => ?_, fun t ht => ?_⟩
    · obtain ⟨x, hx, rfl⟩ := List.mem_map.mp ht
      exact h3 x hx
    · obtain ⟨x, hx, rfl⟩ := List.mem_map.mp ht
      exact okW_shown n d _ (h4 x hx)
  | n + 1, 0, (l : List (O × SD n)), h => by
    cases e : leastS false (n + 1) l with
    | none =>
      have e2 : shownS (n + 1) 0 l = flatS (n + 1) true := by
        show (match leastS false (n + 1) l with
          | none => flatS (n + 1) true
          | some r => ([(z, flatS n true), (sum (r.headD z) one, flatS n false)] : List (O × SD n))) = _
        rw [e]
      rw [e2]; exact okW_flat _ _
    | some m =>
      have e2 : shownS (n + 1) 0 l = ([(z, flatS n true), (sum (m.headD z) one, flatS n false)] : List (O × SD n)) := by
        show (match leastS false (n + 1) l with
          | none => flatS (n + 1) true
          | some r => ([(z, flatS n true), (sum (r.headD z) one, flatS n false)] : List (O × SD n))) = _
        rw [e]
      obtain ⟨rm, vm, lm⟩ := least_some h e
      obtain ⟨y, m', rfl⟩ := row_ex rm
      have hy := (row_cons.mp rm).1
      rw [e2]
      refine ⟨rfl, ?_, fun t ht => ?_, fun t ht => ?_⟩
      · refine List.pairwise_cons.mpr ⟨fun t ht => ?_, List.pairwise_singleton _ _⟩
        rw [List.mem_singleton.mp ht]
        show lt z (sum y one) = true
        cases g : lt z (sum y one) with
        | true => rfl
        | false =>
          have h1 := lt_succ hy
          have h2 := lt_ge h1 g
          rw [not_lt_nil] at h2; cases h2
      · simp only [List.mem_cons, List.not_mem_nil, or_false] at ht
        rcases ht with rfl | rfl
        · rfl
        · exact ok_succ hy
      · simp only [List.mem_cons, List.not_mem_nil, or_false] at ht
        rcases ht with rfl | rfl
        · exact okW_flat _ _
        · exact okW_flat _ _
theorem ns_pos : ∀ (k n : Nat) (s : SD n), okW n s → k ≤ n → 1 ≤ ns k n s
  | k, 0, _, _, h => by
    obtain rfl : k = 0 := by omega
    exact Nat.le_refl 1
  | k, n + 1, (l : List (O × SD n)), ok, h => by
    by_cases e : k = n + 1
    · subst e
      have : ns (n + 1) (n + 1) l = 1 := ns_self _ _
      omega
    · obtain ⟨i, r, rfl⟩ := okW_head ok
      have := ns_pos k n i (ok.2.2.2 (z, i) List.mem_cons_self) (by omega)
      rw [ns_succ _ e, List.map_cons, List.sum_cons]
      show 1 ≤ ns k n i + _
      omega
theorem sum_two {α : Type} {f g : α → Nat} : ∀ {l : List α}, (∀ t ∈ l, f t ≤ 2 * g t) → (l.map f).sum ≤ 2 * (l.map g).sum
  | [], _ => Nat.le_refl 0
  | t :: r, h => by
    have h1 := h t List.mem_cons_self
    have h2 := sum_two (l := r) fun x hx => h x (List.mem_cons_of_mem _ hx)
    simp only [List.map_cons, List.sum_cons]; omega
theorem ns_shown : ∀ (k n d : Nat) (s : SD n), okW n s → ns k n (shownS n d s) ≤ 2 * ns k n s
  | k, 0, _, s, _ => by show ns k 0 s ≤ 2 * ns k 0 s; omega
  | k, n + 1, d + 1, (l : List (O × SD n)), ok => by
    by_cases e : k = n + 1
    · subst e
      have h1 : ns (n + 1) (n + 1) l = 1 := ns_self _ _
      have h2 : ns (n + 1) (n + 1) (shownS (n + 1) (d + 1) l) = 1 := ns_self _ _
      omega
    · show ns k (n + 1) (l.map fun t => (t.1, shownS n d t.2) : List (O × SD n)) ≤ _
      rw [ns_succ _ e, ns_succ _ e, List.map_map]
      exact sum_two fun t ht => ns_shown k n d t.2 (ok.2.2.2 t ht)
  | k, n + 1, 0, (l : List (O × SD n)), ok => by
    rcases Nat.lt_or_ge (n + 1) k with q | q
    · rw [ns_above k _ _ q]; exact Nat.zero_le _
    have p := ns_pos k (n + 1) l ok q
    by_cases ek : k = n + 1
    · subst ek
      have h2 : ns (n + 1) (n + 1) (shownS (n + 1) 0 l) = 1 := ns_self _ _
      omega
    cases e : leastS false (n + 1) l with
    | none =>
      have e2 : shownS (n + 1) 0 l = flatS (n + 1) true := by
        show (match leastS false (n + 1) l with
          | none => flatS (n + 1) true
          | some r => ([(z, flatS n true), (sum (r.headD z) one, flatS n false)] : List (O × SD n))) = _
        rw [e]
      rw [e2]
      have := ns_flat k (n + 1) true
      omega
    | some m =>
      have e2 : shownS (n + 1) 0 l = ([(z, flatS n true), (sum (m.headD z) one, flatS n false)] : List (O × SD n)) := by
        show (match leastS false (n + 1) l with
          | none => flatS (n + 1) true
          | some r => ([(z, flatS n true), (sum (r.headD z) one, flatS n false)] : List (O × SD n))) = _
        rw [e]
      have f1 := ns_flat k n true
      have f2 := ns_flat k n false
      rw [e2, ns_succ _ ek]
      simp only [List.map_cons, List.sum_cons, List.map_nil, List.sum_nil]
      omega
theorem bs_shown {D W L : Nat} (hL : 2 ≤ L) : ∀ (n d : Nat) (s : SD n), okW n s → Bs D W L n s → Bs (D + 2 * n) (W + n + 1) L n (shownS n d s)
  | 0, _, _, _, _ => trivial
  | n + 1, d + 1, (l : List (O × SD n)), ok, h => by
    have h1 := h.1
    show (l.map fun t => (t.1, shownS n d t.2)).length ≤ L ∧ ∀ t ∈ (l.map fun t => (t.1, shownS n d t.2)), dp t.1 ≤ _ ∧ wd t.1 ≤ _ ∧ Bs _ _ L n t.2
    refine ⟨by rw [List.length_map]; exact h1, fun t ht => ?_⟩
    obtain ⟨x, hx, rfl⟩ := List.mem_map.mp ht
    obtain ⟨a1, a2, a3⟩ := h.2 x hx
    refine ⟨by show dp x.1 ≤ _; omega, by show wd x.1 ≤ _; omega, ?_⟩
    exact ((bs_shown hL n d x.2 (ok.2.2.2 x hx) a3).monoD (by omega)).mono (by omega) (Nat.le_refl _)
  | n + 1, 0, (l : List (O × SD n)), ok, h => by
    cases e : leastS false (n + 1) l with
    | none =>
      have e2 : shownS (n + 1) 0 l = flatS (n + 1) true := by
        show (match leastS false (n + 1) l with
          | none => flatS (n + 1) true
          | some r => ([(z, flatS n true), (sum (r.headD z) one, flatS n false)] : List (O × SD n))) = _
        rw [e]
      rw [e2]; exact bs_flat (by omega) _ _
    | some m =>
      have e2 : shownS (n + 1) 0 l = ([(z, flatS n true), (sum (m.headD z) one, flatS n false)] : List (O × SD n)) := by
        show (match leastS false (n + 1) l with
          | none => flatS (n + 1) true
          | some r => ([(z, flatS n true), (sum (r.headD z) one, flatS n false)] : List (O × SD n))) = _
        rw [e]
      obtain ⟨rm, vm, lm⟩ := least_some ok e
      obtain ⟨y, m', rfl⟩ := row_ex rm
      have pb := part_bd (D := D) (W := W) (L := L) ok (okW_flat (n + 1) (!false)) h (bs_flat (by omega) _ _) e y List.mem_cons_self
      have d1 := dp_sum1 z y
      have w1 := wd_sum1 z y
      rw [e2]
      have hz : dp z = 0 := rfl
      have wz : wd z = 0 := rfl
      refine ⟨hL, fun t ht => ?_⟩
      simp only [List.mem_cons, List.not_mem_nil, or_false] at ht
      rcases ht with rfl | rfl
      · exact ⟨Nat.zero_le _, Nat.zero_le _, bs_flat (by omega) _ _⟩
      · refine ⟨?_, ?_, bs_flat (by omega) _ _⟩
        · show dp (sum y (pw z)) ≤ _
          omega
        · show wd (sum y (pw z)) ≤ _
          omega
theorem Fit3.shown {D W t0 t1 t2 n d : Nat} {s : SD n} (h : Fit3 D W t0 t1 t2 n s) (hn : n ≤ 3) : Fit3 (D + 6) (W + 4) (2 * t0) (2 * t1) (2 * t2) n (shownS n d s) := by
  have a0 := ns_shown 0 n d s h.ok
  have a1 := ns_shown 1 n d s h.ok
  have a2 := ns_shown 2 n d s h.ok
  have b0 := h.n0
  have b1 := h.n1
  have b2 := h.n2
  exact ⟨okW_shown n d s h.ok, ((bs_shown (by decide) n d s h.ok h.bs).monoD (by omega)).mono (by omega) (Nat.le_refl _), by omega, by omega, by omega⟩
end Vw

set_option Elab.async false
set_option linter.all false
set_option maxRecDepth 100000
set_option maxHeartbeats 4000000
/-! meanings by the rows that lie in them; a class held by a local -/
namespace L2
open PySem PySem.Spec PyProof.Rows
section
variable {X : Cx} {CX : CXT} {k i : Nat} {f C : Addr} {fd : FuncData} {ps : List Str} {ds : List Value} {dvs : List V} {sp : Sp} {E : XK} {x : Str} {p pos : Pos} {e : Expr} {es : List Expr} {t : TA}
/-- cls(..), cls a local that holds the class at C -/
def tMakeL (C : Addr) (sp : Sp) (dvs : List V) (E : XK) (tv : TE) (t : TA) : TE := fun σ H Q => tv σ H fun v H0 => v = .ref C ∧ tMake C sp dvs E t σ H0 Q
theorem pe_makeL {tv : TE} (hv : PE X (.Name x p) tv) (M : Mk X.K C f) (F : FnOk X.prog X.w X.K X.mg X.base CX k f fd ps sp) (hr : Room (k + 1) X.A) (hb : Binds X.K fd ps ds) (hd : Vals dvs ds) (hx : Passes CX X E) (ha : PA X (e :: es) t)
    (he : starEach (e :: es) X.env = (false, eval e X.env) :: starEach es X.env := by rfl) (hpl : (backTo pos (starEach es X.env)).any (·.1) = false := by rfl) :
    PE X (.Call (.Name x p) (e :: es) [] pos) (tMakeL C sp dvs E tv t) := by
  refine ⟨fun pins s σ H Q I h => ?_⟩
  refine wpAny_Call_Name_kw (thn (hv.run pins s σ H _ I h) fun u s1 ⟨v, H1, I1, r1, ev, q⟩ => ?_)
  subst ev
  obtain rfl : u = Value.ref C := r1
  refine PySem.W.callWith_K (h₀ := X.base) I1.ok.mod.kin M.kp (thn (ha.run pos pins s1 σ H1 _ I1 q) fun us s2 ⟨vs, H2, I2, r, q⟩ => ⟨I2.kIn, ?_⟩) he hpl
  exact run_make M F hr hb hd hx I2 r q
end
end L2
namespace Vw
open PySem PySem.W PyProof.Rows L2
section
variable {K : PySem.W.Frag} {C : Addr} {H H' : Hp} {v x y : V} {n : Nat} {Q : VK} {E : XK} {P P' : List O → Prop} {D W t0 t1 t2 D' W' u0 u1 u2 : Nat}
/-- the meaning whose rows are P, and its sizes -/
def Mg (K : PySem.W.Frag) (C : Addr) (H : Hp) (v : V) (n : Nat) (P : List O → Prop) (D W t0 t1 t2 : Nat) : Prop :=
  ∃ s : SD n, MeA K C H v n s ∧ Fit3 D W t0 t1 t2 n s ∧ Can D W t0 t1 t2 ∧ IsTi n s none ∧ ∀ os, Row n os → (valS n s os = true ↔ P os)
theorem Mg.same (h : Mg K C H v n P D W t0 t1 t2) (z : Same H H') : Mg K C H' v n P D W t0 t1 t2 := by
  obtain ⟨s, m, r⟩ := h
  exact ⟨s, m.same z, r⟩
theorem Mg.mk {g : SD n} (hn : n ≤ 3) (m : MeA K C H y n (tidyB n g none)) (f : Fit3 D W t0 t1 t2 n g) (c : Can D W t0 t1 t2) (c' : Can D (W + (t1 + t2)) t0 t1 t2) (p : ∀ os, Row n os → (valS n g os = true ↔ P os)) : Mg K C H y n P D (W + (t1 + t2)) t0 t1 t2 := by
  have lo : LimOk none := fun _ h => by cases h
  refine ⟨_, m, f.tidy hn c.1 c.2.2.1 c.2.2.2.2.2.2.1, c', tidy_ti n g none f.ok lo, fun os r => ?_⟩
  rw [(tidy_val f.ok).2 os r]
  exact p os r
/-! ### what the methods promise -/
def spAlk (K : PySem.W.Frag) (C : Addr) : Sp := fun vs H Q _ => ∃ (x y : V) (n : Nat) (s t : SD n), vs = [x, y] ∧ MeA K C H x n s ∧ MeA K C H y n t ∧ Q .non H
def spPlc : Sp := fun vs H Q _ => ∃ n d : Nat, vs = [.int (n : Nat), .int (d : Nat)] ∧ d < n ∧ Q .non H
def spFlatP (K : PySem.W.Frag) : Sp := fun vs H Q _ => ∃ (m : Nat) (b : Bool), vs = [.int (m : Nat), .bl b] ∧ m ≤ 10 ∧ ∀ (w : V) (H' : Hp), Same H H' → SA K H' m w (flatS m b) → Q w H'
def spMiss (K : PySem.W.Frag) : Sp := fun vs H Q _ => ∃ (v : V) (n : Nat) (s : SD n), vs = [.int (n : Nat), v] ∧ n ≤ 3 ∧ SA K H n v s ∧ okW n s ∧ BB n s ∧ ∀ (w : V) (H' : Hp), Same H H' → PtA K H' w (leastS false n s) → Q w H'
def spShownS (K : PySem.W.Frag) (j : Nat) : Sp := fun vs H Q _ => ∃ (v : V) (n d : Nat) (s : SD n), vs = [.int (n : Nat), v, .int (d : Nat)] ∧ n < j ∧ j ≤ 4 ∧ d < n ∧ SA K H n v s ∧ okW n s ∧ BB n s ∧ ∀ (w : V) (H' : Hp), Same H H' → SA K H' n w (shownS n d s) → Q w H'
def spShow (K : PySem.W.Frag) (C : Addr) : Sp := fun vs H Q _ => ∃ (x : V) (n d : Nat) (s : SD n) (D W t0 t1 t2 : Nat), vs = [x, .int (d : Nat)] ∧ 1 ≤ n ∧ n ≤ 3 ∧ d < n ∧ MeA K C H x n s ∧ Fit3 D W t0 t1 t2 n s ∧ Can D W t0 t1 t2 ∧ Can (D + 6) (W + 4) (2 * t0) (2 * t1) (2 * t2) ∧
  ∀ (y : V) (H' : Hp), Same H H' → MeA K C H' y n (tidyB n (shownS n d s) none) → Q y H'
def spAlw (K : PySem.W.Frag) (C : Addr) (b : Bool) : Sp := fun vs H Q _ => ∃ n : Nat, vs = [.ref C, .int (n : Nat)] ∧ 1 ≤ n ∧ n ≤ 3 ∧ ∀ (y : V) (H' : Hp), Same H H' → MeA K C H' y n (tidyB n (flatS n b) none) → Q y H'
def spMeEq (K : PySem.W.Frag) (C : Addr) : Sp := fun vs H Q _ => ∃ (x y : V) (n : Nat) (s : SD n), vs = [x, y] ∧ n ≤ 3 ∧ MeA K C H x n s ∧ MeA K C H y n s ∧ BB n s ∧ Q (.bl true) H
theorem rd_eqSt {w1 w2 : V} {s : SD n} (h1 : SA K H n w1 s) (h2 : SA K H n w2 s) (hb : BB n s) (hn : n ≤ 3) (q : Q (.bl true) H) : rEqO K w1 w2 H Q := by
  unfold rEqO
  have hd := depth_W n s hb
  have sh : SeqAt.shaped (stD n s) = true := by
    unfold SeqAt.shaped
    rw [Bool.and_eq_true, decide_eq_true_eq]
    exact ⟨lay_stD n s, by omega⟩
  refine ⟨_, _, h1.dp, h2.dp, sh, sh, ?_⟩
  rw [SeqAt.eqv_refl _ (lay_stD n s)]
  exact q
/-! ### the methods on such meanings -/
theorem Mg.at_ (h : Mg K C H v n P D W t0 t1 t2) : ∃ a dx w, v = .ref a ∧ H a = some (.ins C dx (meF n w)) := by
  obtain ⟨s, ⟨a, dx, w, e, h1, _⟩, _⟩ := h
  exact ⟨a, dx, w, e, h1⟩
theorem Mg.ip (z : Ip H H') (h : Mg K C H v n P D W t0 t1 t2) : Mg K C H' v n P D W t0 t1 t2 := by
  obtain ⟨s, m, r⟩ := h
  exact ⟨s, m.ip z, r⟩
theorem meth_at (m : Mg K C H x n P D W t0 t1 t2) {k : Str} (h1 : ¬ k = ("_levels" : Str)) (h2 : ¬ k = ("_stair" : Str)) {R : Prop} (r : R) : ∃ a dx fs, x = .ref a ∧ H a = some (.ins C dx fs) ∧ fs.lookup k = none ∧ R := by
  obtain ⟨a, dx, w, e, ea⟩ := m.at_
  exact ⟨a, dx, _, e, ea, look_other n w h1 h2, r⟩
theorem use_neg (m : Mg K C H x n P D W t0 t1 t2) (h1 : 1 ≤ n) (h3 : n ≤ 3) {W4 : Nat} (e : W + (t1 + t2) = W4) (c' : Can D W4 t0 t1 t2) (q : ∀ (y : V) (H' : Hp), Same H H' → Mg K C H' y n (fun os => ¬ P os) D W4 t0 t1 t2 → Q y H') : rOneI C (spMe1 K C (mkMe1 K C oppS)) E x H Q := by
  obtain ⟨s, me, f, c, ti, p⟩ := m
  subst e
  obtain ⟨a, dx, w, rfl, ea, sw⟩ := id me
  refine ⟨a, dx, _, rfl, ea, _, n, s, D, W, t0, t1, t2, rfl, h1, h3, me, f, c, fun y H' z my => q y H' z (Mg.mk h3 my f.opp c c' fun os r => ?_)⟩
  rw [val_opp n s os f.ok, ← p os r]
  cases valS n s os <;> simp
theorem two_at (m : Mg K C H x n P D W t0 t1 t2) (m' : Mg K C H y n P' D' W' u0 u1 u2) {sp : Sp} (h : sp [x, y] H Q E) : rTwo C sp E x y H Q := by
  obtain ⟨a, dx, w, rfl, ea⟩ := m.at_
  obtain ⟨b, dy, w', rfl, eb⟩ := m'.at_
  exact ⟨a, dx, _, b, dy, _, rfl, rfl, ea, eb, h⟩
def orB : Bool → Bool → Bool := fun x y => x || y
theorem use_add (m : Mg K C H x n P D W t0 t1 t2) (m' : Mg K C H y n P' D' W' u0 u1 u2) (h1 : 1 ≤ n) (h3 : n ≤ 3) (j : CanJ D W t0 t1 t2 D' W' u0 u1 u2) {D3 W4 v0 v1 v2 : Nat} (e : max D D' = D3 ∧ t0 * u1 + t1 * u0 = v0 ∧ t1 * u2 + t2 * u1 = v1 ∧ t2 + u2 = v2 ∧ max W W' + (v1 + v2) = W4) (c' : Can D3 W4 v0 v1 v2)
    (q : ∀ (z : V) (H' : Hp), Same H H' → Mg K C H' z n (fun os => P os ∨ P' os) D3 W4 v0 v1 v2 → Q z H') : rTwo C (spMe2 K C CanJ (mkMe2 K C (joinS orB))) E x y H Q := by
  refine two_at m m' ?_
  obtain ⟨s, me, f, c, ti, p⟩ := m
  obtain ⟨t, me', f', cc, ti', p'⟩ := m'
  obtain ⟨rfl, rfl, rfl, rfl, rfl⟩ := e
  refine ⟨x, y, n, s, t, D, W, t0, t1, t2, D', W', u0, u1, u2, rfl, h1, h3, me, me', f, f', c, cc, j, fun z H' zz mz => q z H' zz (Mg.mk h3 mz (f.joinC f' h3 c cc j) j c' fun os r => ?_)⟩
  rw [val_join n s t os f.ok f'.ok, ← p os r, ← p' os r]
  show (valS n s os || valS n t os) = true ↔ _
  rw [Bool.or_eq_true]
theorem use_mul (m : Mg K C H x n P D W t0 t1 t2) (m' : Mg K C H y n P' D' W' u0 u1 u2) (h1 : 1 ≤ n) (h3 : n ≤ 3) (j : CanJ D W t0 t1 t2 D' W' u0 u1 u2) {D3 W4 v0 v1 v2 : Nat} (e : max D D' = D3 ∧ t0 * u1 + t1 * u0 = v0 ∧ t1 * u2 + t2 * u1 = v1 ∧ t2 + u2 = v2 ∧ max W W' + (v1 + v2) = W4) (c' : Can D3 W4 v0 v1 v2)
    (q : ∀ (z : V) (H' : Hp), Same H H' → Mg K C H' z n (fun os => P os ∧ P' os) D3 W4 v0 v1 v2 → Q z H') : rTwo C (spMe2 K C CanJ (mkMe2 K C metS)) E x y H Q := by
  refine two_at m m' ?_
  obtain ⟨s, me, f, c, ti, p⟩ := m
  obtain ⟨t, me', f', cc, ti', p'⟩ := m'
  obtain ⟨rfl, rfl, rfl, rfl, rfl⟩ := e
  refine ⟨x, y, n, s, t, D, W, t0, t1, t2, D', W', u0, u1, u2, rfl, h1, h3, me, me', f, f', c, cc, j, fun z H' zz mz => q z H' zz (Mg.mk h3 mz (f.opp.joinC f'.opp h3 c cc j).opp j c' fun os r => ?_)⟩
  show valS n (metS n s t) os = true ↔ _
  rw [val_met f.ok f'.ok, ← p os r, ← p' os r, Bool.and_eq_true]
theorem use_show {d : Nat} (m : Mg K C H x n P D W t0 t1 t2) (h1 : 1 ≤ n) (h3 : n ≤ 3) (hd : d < n) (c2 : Can (D + 6) (W + 4) (2 * t0) (2 * t1) (2 * t2)) {D3 W4 v0 v1 v2 : Nat} (e : D + 6 = D3 ∧ 2 * t0 = v0 ∧ 2 * t1 = v1 ∧ 2 * t2 = v2 ∧ W + 4 + (v1 + v2) = W4) (c' : Can D3 W4 v0 v1 v2)
    (q : ∀ (z : V) (H' : Hp), Same H H' → Mg K C H' z n (fun os => ∀ r, Row n r → Bel d r os → P r) D3 W4 v0 v1 v2 → Q z H') : spShow K C [x, .int (d : Nat)] H Q E := by
  obtain ⟨s, me, f, c, ti, p⟩ := m
  obtain ⟨rfl, rfl, rfl, rfl, rfl⟩ := e
  refine ⟨x, n, d, s, D, W, t0, t1, t2, rfl, h1, h3, hd, me, f, c, c2, fun z H' zz mz => q z H' zz (Mg.mk h3 mz (f.shown h3) c2 c' fun os r => ?_)⟩
  rw [shown_iff n d s os hd f.ok r]
  exact ⟨fun g r' hr hb => (p r' hr).mp (g r' hr hb), fun g r' hr hb => (p r' hr).mpr (g r' hr hb)⟩
/-- is the set empty of what is not in the other -/
def liesS (n : Nat) (s t : SD n) : Bool := (leastS false n (joinS orB n (oppS n s) t)).isNone
theorem use_lies (m : Mg K C H x n P D W t0 t1 t2) (m' : Mg K C H y n P' D' W' u0 u1 u2) (h1 : 1 ≤ n) (h3 : n ≤ 3) (j : CanL D W t0 t1 t2 D' W' u0 u1 u2) (i : ∀ os, Row n os → P os → P' os) (q : ∀ H' : Hp, Same H H' → Q (.bl true) H') : spMe2 K C CanL (blMe2 liesS) [x, y] H Q E := by
  obtain ⟨s, me, f, c, ti, p⟩ := m
  obtain ⟨t, me', f', cc, ti', p'⟩ := m'
  refine ⟨x, y, n, s, t, D, W, t0, t1, t2, D', W', u0, u1, u2, rfl, h1, h3, me, me', f, f', c, cc, j, fun H' z => ?_⟩
  have e : leastS false n (joinS orB n (oppS n s) t) = none := by
    rw [least_none_iff (okW_join n _ _ (okW_opp n s f.ok) f'.ok)]
    intro r hr
    rw [val_join n _ _ r (okW_opp n s f.ok) f'.ok, val_opp n s r f.ok]
    show (!valS n s r || valS n t r) = true
    cases g : valS n s r with
    | false => rfl
    | true =>
      rw [(p' r hr).mpr (i r hr ((p r hr).mp g))]; rfl
  show Q (.bl (liesS n s t)) H'
  unfold liesS
  rw [e]
  exact q H' z
def everyS (n : Nat) (s : SD n) : Bool := (leastS false n s).isNone
theorem use_every (m : Mg K C H x n P D W t0 t1 t2) (h1 : 1 ≤ n) (h3 : n ≤ 3) (i : ∀ os, Row n os → P os) (q : ∀ H' : Hp, Same H H' → Q (.bl true) H') : spMe1 K C (blMe1 everyS) [x] H Q E := by
  obtain ⟨s, me, f, c, ti, p⟩ := m
  refine ⟨x, n, s, D, W, t0, t1, t2, rfl, h1, h3, me, f, c, fun H' z => ?_⟩
  have e : leastS false n s = none := by
    rw [least_none_iff f.ok]
    intro r hr
    exact (p r hr).mpr (i r hr)
  show Q (.bl (everyS n s)) H'
  unfold everyS
  rw [e]
  exact q H' z
/-- Löb -/
theorem Mg.loeb {d : Nat} (m : Mg K C H x n P D W t0 t1 t2) (hd : d < n) {os : List O} (ro : Row n os) (h : ∀ r, Row n r → Bel d r os → (¬ ∀ r', Row n r' → Bel d r' r → P r') ∨ P r) : ∀ r, Row n r → Bel d r os → P r := by
  obtain ⟨s, me, f, c, ti, p⟩ := m
  intro r hr hb
  refine (p r hr).mp ?_
  cases g : valS n s r with
  | true => rfl
  | false =>
    obtain ⟨q, rq, bq, vq, lq⟩ := bel_least n d s os r hd f.ok ro hr hb g
    rcases h q rq bq with z | z
    · exact absurd (fun r' hr' hb' => (p r' hr').mp (lq r' hr' hb')) z
    · have := (p q rq).mpr z
      rw [vq] at this; cases this
theorem use_alw {b : Bool} (h1 : 1 ≤ n) (h3 : n ≤ 3) (q : ∀ (y : V) (H' : Hp), Same H H' → Mg K C H' y n (fun _ => b = true) 4 3 1 1 1 → Q y H') : spAlw K C b [.ref C, .int (n : Nat)] H Q E :=
  ⟨n, rfl, h1, h3, fun y H' z my => q y H' z (Mg.mk h3 my ((Fit3.flat n b).mono (Nat.zero_le _) (Nat.zero_le 1) (Nat.le_refl _) (Nat.le_refl _) (Nat.le_refl _)) (by unfold Can; decide) (by unfold Can; decide) fun os _ => by rw [val_flat])⟩
theorem use_ne (m : Mg K C H x n P D W t0 t1 t2) (m' : Mg K C H y n P' D' W' u0 u1 u2) (h3 : n ≤ 3) (i : ∀ os, Row n os → (P os ↔ P' os)) (q : Q (.bl false) H) : rTwoN C (spMeEq K C) E x y H Q := by
  obtain ⟨s, me, f, c, ti, p⟩ := m
  obtain ⟨t, me', f', cc, ti', p'⟩ := m'
  have lo : LimOk none := fun _ h => by cases h
  obtain rfl : s = t := tidy_uniq n s t none f.ok f'.ok lo ti ti' fun r hr _ => by
    have h1 := p r hr
    have h2 := p' r hr
    have h3 := i r hr
    cases g1 : valS n s r <;> cases g2 : valS n t r <;> simp_all
  obtain ⟨a, dx, w, rfl, ea, sa⟩ := id me
  obtain ⟨b, dy, w', rfl, eb, sb⟩ := id me'
  exact ⟨a, dx, _, b, dy, _, rfl, rfl, ea, eb, _, _, n, s, rfl, h3, me, me', (c.tidyOk f h3).1, true, rfl, q⟩
end
end Vw

set_option Elab.async false
set_option linter.all false
set_option maxRecDepth 100000
set_option maxHeartbeats 4000000
/-! defs with a star parameter and a keyword-only default; meanings that may differ -/
namespace StX
open PySem PySem.Spec PyProof.Rows L2
section
variable {CX : CXT} {P : Program} {w : World} {K : PySem.W.Frag} {mg : Str → Option Value} {base : Heap} {k : Nat} {f : Addr} {x qual : Str} {params : Arguments} {body : List Stmt} {scope : Scope} {fd : FuncData} {N : List Str} {sp : Sp} {kw pv : Str} {dv : V}
/-- def f(*v, kw=..), called without keywords -/
theorem fn_starK (F : FunD K x qual params body scope [] [(kw, dv)] f fd) (S : FnScope N [kw, pv] scope) (hCX : CXUp CX)
    (hb : ∀ (D : Addr) (doc pm : Value) (an : Option Addr) (cdv ct : Value) (us : List Value) (v : Value), ∃ (β γ : Type) (k1 : Option Value → Sem β) (k2 : β → Sem γ) (k3 : γ → Sem (List (Str × Value))) (a : β),
      bindArgs (PySem.W.fnOf x qual params body scope .none (.ref D) doc pm an cdv ct) ⟨us, []⟩ = ((nsGet D kw >>= k1) >>= k2) >>= k3 ∧ k1 (some v) = pure a ∧ (k2 a >>= k3) = (newTuple us >>= fun t => pure [(kw, v), (pv, t)]))
    (hbody : ∀ (cdv : Value) (A : Around) (outer : List Env) (s : Shared) (H : Hp) (vs : List V) (Q : VK) (E : XK), Room k (A.deeper (envOfC qual scope s.heap.objs.size f cdv)) → sp vs H Q E →
      ∃ t, PSs (cxOf CX P w K mg base N qual scope f cdv A outer s H E) body t ∧ t { nx := fun _ H' => Q .non H', rt := Q } (start N vs) H) :
    FnR P w K mg base CX (k + 1) f (fun vs H Q E => vs.length ≤ sizeLine ∧ ∀ p, H p = Option.none → sp [dv, V.ref p] (upd H p (.tup vs)) Q E) := by
  obtain ⟨oc, od, dV, kV, doc, pm, an, cdv, ct, osl, rfl, lk, hcd, hD, hK⟩ := F.ex
  obtain rfl : dV = .none := by
    rcases hD with ⟨_, e⟩ | ⟨e, _⟩
    · exact e
    · exact absurd rfl e
  obtain ⟨D, rfl, hq0⟩ : ∃ D : Addr, kV = .ref D ∧ ∀ q ∈ [(kw, dv)], ∃ u, PySem.W.nsIn K D q.1 = some (some u) ∧ RelV q.2 u := by
    rcases hK with e | e
    · cases e
    · exact e
  obtain ⟨v, e1, e2⟩ := hq0 (kw, dv) List.mem_cons_self
  intro A outer s H us vs Q E hr e0 r hsp
  obtain ⟨hz, hq⟩ := hsp
  have hn : H s.heap.objs.size = Option.none := e0.hok.fresh (Nat.le_refl _)
  have hl2 : us.length ≤ sizeLine := by rw [← r.length]; exact hz
  refine run_bnd lk hcd S hr e0 (G := fun xs H2 => ∃ p, H p = Option.none ∧ xs = [dv, V.ref p] ∧ H2 = upd H p (.tup vs)) (fun A' Ex Q' h => ?_) fun s2 H2 xs ⟨p, hp, ex, eH⟩ hr' => ?_
  · obtain ⟨β, γ, k1, k2, k3, a, b1, b2, b3⟩ := hb D doc pm an cdv ct us v
    have X : K.In s.heap := e0.mod.kin.keeps fun b o e => (e0.bs b o e).1
    have l1 : PySem.W.Looks (model P w) s.heap (nsGet D kw >>= k1) a := (PySem.W.looks_nsIn X e1).andThen (PySem.W.Looks.of_pure b2)
    rw [b1, bind_assoc]
    refine wpAny_bind (l1.here ?_)
    rw [b3]
    refine wpAny_bind (wpAny_newTuple (wpAny_pure ?_) hl2)
    have new : ObjOk P w (upd H s.heap.objs.size (.tup vs)) (s.heap.push ({ cls := .type "tuple", data := .seq us.toArray } : Obj)) s.heap.objs.size (.tup vs) := ⟨hz, us, r, ⟨_, Heap.get?_push_size _ rfl, rfl, _, rfl⟩⟩
    have un := un_laid (fs := frs outer) (s := s) (o := ({ cls := .type "tuple", data := .seq us.toArray } : Obj)) (u := .tup vs) hn
    exact h _ _ [dv, V.ref s.heap.objs.size] [v, Value.ref s.heap.objs.size] (env0_laid e0 new) un rfl (fun e s' => hCX outer s H _ _ E e s' un (fun b o q => Heap.get?_push_of_some _ q) rfl) (.cons e2 (.cons rfl .nil)) rfl ⟨_, hn, rfl, rfl⟩
  · subst ex eH
    exact hbody cdv A outer s2 _ _ Q E hr' (hq p hp)
/-- .. one that lets nothing out -/
theorem fn_starK0 (F : FunD K x qual params body scope [] [(kw, dv)] f fd) (S : FnScope N [kw, pv] scope)
    (hb : ∀ (D : Addr) (doc pm : Value) (an : Option Addr) (cdv ct : Value) (us : List Value) (v : Value), ∃ (β γ : Type) (k1 : Option Value → Sem β) (k2 : β → Sem γ) (k3 : γ → Sem (List (Str × Value))) (a : β),
      bindArgs (PySem.W.fnOf x qual params body scope .none (.ref D) doc pm an cdv ct) ⟨us, []⟩ = ((nsGet D kw >>= k1) >>= k2) >>= k3 ∧ k1 (some v) = pure a ∧ (k2 a >>= k3) = (newTuple us >>= fun t => pure [(kw, v), (pv, t)]))
    (hbody : ∀ (cdv : Value) (A : Around) (outer : List Env) (s : Shared) (H : Hp) (vs : List V) (Q : VK) (E : XK), Room k (A.deeper (envOfC qual scope s.heap.objs.size f cdv)) → sp vs H Q E →
      ∃ t, PSs (cxOf CX0 P w K mg base N qual scope f cdv A outer s H E).nox body t ∧ t { nx := fun _ H' => Q .non H', rt := Q } (start N vs) H) :
    FnR P w K mg base CX0 (k + 1) f (fun vs H Q E => vs.length ≤ sizeLine ∧ ∀ p, H p = Option.none → sp [dv, V.ref p] (upd H p (.tup vs)) Q E) :=
  fn_starK F S cxUp_none hb fun cdv A outer s H vs Q E hr h => by
    obtain ⟨t, z, q⟩ := hbody cdv A outer s H vs Q E hr h
    exact ⟨t, z.nox, q⟩
end
section
variable {X : Cx} {CX : CXT} {k : Nat} {f : Addr} {sp : Sp} {E : XK} {x : Str} {e : Expr} {es : List Expr} {t : TA} {p pos : Pos}
/-- x(e, ..), x a def of the module that has a positional promise -/
theorem pe_callR (F : FnR X.prog X.w X.K X.mg X.base CX k f sp) (hr : Room k X.A) (hk : PySem.W.keepIn X.K (.ref f) = true) (hg : Gl X x) (hm : X.mg x = some (.ref f)) (hx : Passes CX X E) (ha : PA X (e :: es) t) (hd : (x == ("__debug__" : Str)) = false := by decide)
    (he : starEach (e :: es) X.env = (false, eval e X.env) :: starEach es X.env := by rfl) (hpl : (backTo pos (starEach es X.env)).any (·.1) = false := by rfl) :
    PE X (.Call (.Name x p) (e :: es) [] pos) (fun σ H Q => t σ H fun vs H1 => sp vs H1 Q E) := by
  refine ⟨fun pins s σ H Q I h => ?_⟩
  refine wpAny_Call_Name_kw (ld_glob I hg hm ?_ hd)
  refine PySem.W.callWith_K (h₀ := X.base) I.ok.mod.kin hk (thn (ha.run pos pins s σ H _ I h) fun us s1 ⟨vs, H1, I1, r, q⟩ => ⟨I1.kIn, ?_⟩) he hpl
  exact wpAny_call (run_fnR F hr hx I1 r q)
end
end StX
namespace Vw
open PySem PySem.W PyProof.Rows L2
/-! ### two stairs as data -/
theorem eqv_stD : ∀ (n : Nat) (s t : SD n), PyData.eqv (stD n s) (stD n t) = true → s = t
  | 0, (a : Bool), (b : Bool), h => by
    have h : PyData.eqv (.bool a) (.bool b) = true := h
    have h2 : (a : Bool) = b := by simpa [PyData.eqv] using h
    exact h2
  | n + 1, (l1 : List (O × SD n)), (l2 : List (O × SD n)), h => by
    have h : PyData.eqvAll (l1.map fun t => .tuple [O.toD t.1, stD n t.2]) (l2.map fun t => .tuple [O.toD t.1, stD n t.2]) = true := by
      have : PyData.eqv (.tuple (l1.map fun t => .tuple [O.toD t.1, stD n t.2])) (.tuple (l2.map fun t => .tuple [O.toD t.1, stD n t.2])) = true := h
      simpa [PyData.eqv] using this
    have key : ∀ l1 l2 : List (O × SD n), PyData.eqvAll (l1.map fun t => .tuple [O.toD t.1, stD n t.2]) (l2.map fun t => .tuple [O.toD t.1, stD n t.2]) = true → l1 = l2 := by
      intro l1
      induction l1 with
      | nil => intro l2 h; cases l2 with
        | nil => rfl
        | cons t r => simp [PyData.eqvAll] at h
      | cons t r ih =>
        intro l2 h
        cases l2 with
        | nil => simp [PyData.eqvAll] at h
        | cons u r2 =>
          simp only [List.map_cons, PyData.eqvAll, PyData.eqv, Bool.and_eq_true, Bool.and_true] at h
          obtain ⟨⟨h1, h2⟩, h3⟩ := h
          have e1 : t.1 = u.1 := by
            rw [O.eqv_toD] at h1; exact of_decide_eq_true h1
          have e2 := eqv_stD n t.2 u.2 h2
          rw [ih r2 h3, Prod.ext e1 e2]
    exact key l1 l2 h
open Classical in
/-- == of two meanings -/
noncomputable def sameS (n : Nat) (s t : SD n) : Bool := decide (s = t)
open Classical in
theorem eqv_same (n : Nat) (s t : SD n) : PyData.eqv (stD n s) (stD n t) = sameS n s t := by
  unfold sameS
  cases h : PyData.eqv (stD n s) (stD n t) with
  | true => exact (decide_eq_true (eqv_stD n s t h)).symm
  | false =>
    refine (decide_eq_false fun e => ?_).symm
    subst e
    rw [SeqAt.eqv_refl _ (lay_stD n s)] at h; cases h
theorem stair_self (n : Nat) (s : SD n) : sameS n s s = true := by
  unfold sameS
  exact @decide_eq_true _ (Classical.propDecidable _) rfl
theorem dec_iff {p q : Prop} (h : p ↔ q) : @decide p (Classical.propDecidable p) = @decide q (Classical.propDecidable q) := by
  have e : p = q := propext h
  subst e; rfl
def spMeEq2 (K : PySem.W.Frag) (C : Addr) : Sp := fun vs H Q _ => ∃ (x y : V) (n : Nat) (s t : SD n), vs = [x, y] ∧ n ≤ 3 ∧ MeA K C H x n s ∧ MeA K C H y n t ∧ BB n s ∧ BB n t ∧ Q (.bl (sameS n s t)) H
section
variable {K : PySem.W.Frag} {C : Addr} {H H' : Hp} {v x y : V} {n : Nat} {Q : VK} {E : XK} {P P' : List O → Prop} {D W t0 t1 t2 D' W' u0 u1 u2 : Nat}
theorem rd_eqSt2 {w1 w2 : V} {s t : SD n} (h1 : SA K H n w1 s) (h2 : SA K H n w2 t) (hb : BB n s) (hb2 : BB n t) (hn : n ≤ 3) (q : Q (.bl (sameS n s t)) H) : rEqO K w1 w2 H Q := by
  unfold rEqO
  have hd := depth_W n s hb
  have hd2 := depth_W n t hb2
  have sh : SeqAt.shaped (stD n s) = true := by
    unfold SeqAt.shaped
    rw [Bool.and_eq_true, decide_eq_true_eq]
    exact ⟨lay_stD n s, by omega⟩
  have sh2 : SeqAt.shaped (stD n t) = true := by
    unfold SeqAt.shaped
    rw [Bool.and_eq_true, decide_eq_true_eq]
    exact ⟨lay_stD n t, by omega⟩
  refine ⟨_, _, h1.dp, h2.dp, sh, sh2, ?_⟩
  rw [eqv_same]
  exact q
/-- the same rows: the same stair -/
theorem Mg.one {s t : SD n} (f : Fit3 D W t0 t1 t2 n s) (ti : IsTi n s none) (p : ∀ os, Row n os → (valS n s os = true ↔ P os)) (f' : Fit3 D' W' u0 u1 u2 n t) (ti' : IsTi n t none) (p' : ∀ os, Row n os → (valS n t os = true ↔ P' os)) (i : ∀ os, Row n os → (P os ↔ P' os)) : s = t := by
  have lo : LimOk none := fun _ h => by cases h
  exact tidy_uniq n s t none f.ok f'.ok lo ti ti' fun r hr _ => by
    have h1 := p r hr
    have h2 := p' r hr
    have h3 := i r hr
    cases g1 : valS n s r <;> cases g2 : valS n t r <;> simp_all
open Classical in
/-- x == y asks whether the rows are the same -/
theorem use_eq2 (m : Mg K C H x n P D W t0 t1 t2) (m' : Mg K C H y n P' D' W' u0 u1 u2) (h3 : n ≤ 3) {E : XK} (q : Q (.bl (decide (∀ os, Row n os → (P os ↔ P' os)))) H) : spMeEq2 K C [x, y] H Q E := by
  obtain ⟨s, me, f, c, ti, p⟩ := m
  obtain ⟨t, me', f', cc, ti', p'⟩ := m'
  refine ⟨x, y, n, s, t, rfl, h3, me, me', (c.tidyOk f h3).1, (cc.tidyOk f' h3).1, ?_⟩
  have e : sameS n s t = decide (∀ os, Row n os → (P os ↔ P' os)) := by
    unfold sameS
    rw [Bool.eq_iff_iff, decide_eq_true_iff, decide_eq_true_iff]
    refine ⟨fun h os r => ?_, fun h => Mg.one f ti p f' ti' p' h⟩
    subst h
    exact (p os r).symm.trans (p' os r)
  rw [e]; exact q
open Classical in
theorem use_lies2 (m : Mg K C H x n P D W t0 t1 t2) (m' : Mg K C H y n P' D' W' u0 u1 u2) (h1 : 1 ≤ n) (h3 : n ≤ 3) (j : CanL D W t0 t1 t2 D' W' u0 u1 u2) (q : ∀ H' : Hp, Same H H' → Q (.bl (decide (∀ os, Row n os → P os → P' os))) H') : spMe2 K C CanL (blMe2 liesS) [x, y] H Q E := by
  obtain ⟨s, me, f, c, ti, p⟩ := m
  obtain ⟨t, me', f', cc, ti', p'⟩ := m'
  refine ⟨x, y, n, s, t, D, W, t0, t1, t2, D', W', u0, u1, u2, rfl, h1, h3, me, me', f, f', c, cc, j, fun H' z => ?_⟩
  have e : liesS n s t = decide (∀ os, Row n os → P os → P' os) := by
    have k := okW_join (op := orB) n _ _ (okW_opp n s f.ok) f'.ok
    have hv : ∀ r, valS n (joinS orB n (oppS n s) t) r = (!valS n s r || valS n t r) := fun r => by
      rw [val_join n _ _ r (okW_opp n s f.ok) f'.ok, val_opp n s r f.ok]; rfl
    rw [Bool.eq_iff_iff, decide_eq_true_iff]
    show (leastS false n (joinS orB n (oppS n s) t)).isNone = true ↔ _
    rw [Option.isNone_iff_eq_none, least_none_iff k]
    refine ⟨fun h os r hp => ?_, fun h r hr => ?_⟩
    · have := h os r
      rw [hv, (p os r).mpr hp] at this
      exact (p' os r).mp (by simpa using this)
    · rw [hv]
      cases g : valS n s r with
      | false => rfl
      | true => rw [(p' r hr).mpr (h r hr ((p r hr).mp g))]; rfl
  show Q (.bl (liesS n s t)) H'
  rw [e]
  exact q H' z
end
end Vw

set_option Elab.async false
set_option linter.all false
set_option maxRecDepth 100000
set_option maxHeartbeats 4000000
namespace Vw
open PySem PySem.W PyProof.Rows L2
def top (i : Nat) : Stmt := PySem.Challenge.pw_vowstair_k19_whole_rules_of_sets.main.body.getD i (.Pass ⟨0, 0, 0, 0⟩)
abbrev s_law_bag : Stmt := top 52
theorem sc_law_bag : FnScope ["_law_script", "_law_salt", "_law_cell"] ["_law_script"] (defScope s_law_bag) := ⟨rfl, rfl, rfl, by decide +kernel, rfl, by decide +kernel, by decide +kernel⟩
abbrev s_law_pull : Stmt := top 53
theorem sc_law_pull : FnScope ["_law_bag_here", "_law_sides", "_law_cell", "_law_got", "_law_seed"] ["_law_bag_here", "_law_sides"] (defScope s_law_pull) := ⟨rfl, rfl, rfl, by decide +kernel, rfl, by decide +kernel, by decide +kernel⟩
abbrev s_law_same : Stmt := top 54
theorem sc_law_same : FnScope ["_law_found", "_law_due", "_law_k"] ["_law_found", "_law_due"] (defScope s_law_same) := ⟨rfl, rfl, rfl, by decide +kernel, rfl, by decide +kernel, by decide +kernel⟩
abbrev s_law_num : Stmt := top 55
theorem sc_law_num : FnScope ["_law_many_z"] ["_law_many_z"] (defScope s_law_num) := ⟨rfl, rfl, rfl, by decide +kernel, rfl, by decide +kernel, by decide +kernel⟩
def KO (K : PySem.W.Frag) (a : Addr) (o : O) : Prop := OA K (fun _ => none) (.ref a) o
structure Txt (K : PySem.W.Frag) (mg : Str → Option Value) (aZERO : Addr) (aONE : Addr) (aVowError : Addr) (aInvalidLevels : Addr) (aInvalidStair : Addr) (aInvalidRow : Addr) (aLevelsDiffer : Addr) (aMeaning : Addr) (f_Meaning_init : Addr) (p_Meaning_always : Addr) (f_Meaning_always : Addr) (p_Meaning_never : Addr) (f_Meaning_never : Addr) (p_Meaning_levels : Addr) (f_Meaning_levels : Addr) (f_Meaning_stair : Addr) (f_Meaning_least : Addr) (f_Meaning_lies_in : Addr) (f_Meaning_add : Addr) (f_Meaning_mul : Addr) (f_Meaning_neg : Addr) (f_Meaning_contains : Addr) (f_Meaning_bool : Addr) (f_Meaning_eq : Addr) (f_Meaning_repr : Addr) : Prop where
  m_VowError : mg "VowError" = some (.ref aVowError)
  m_InvalidLevels : mg "InvalidLevels" = some (.ref aInvalidLevels)
  m_InvalidStair : mg "InvalidStair" = some (.ref aInvalidStair)
  m_InvalidRow : mg "InvalidRow" = some (.ref aInvalidRow)
  m_LevelsDiffer : mg "LevelsDiffer" = some (.ref aLevelsDiffer)
  m_Meaning : mg "Meaning" = some (.ref aMeaning)
  oc_Meaning : OwnC K aMeaning f_Meaning_init
  sf_Meaning : PySem.W.selfFirst K aMeaning = true
  nf_Meaning : PySem.W.notFirst K aMeaning (.ref aMeaning) = true
  ne_Meaning : PySem.W.findIn K (.ref aMeaning) "__ne__" = some (some (.builtin "object.__ne__"))
  na_Meaning__levels : NoAttr K aMeaning "_levels"
  na_Meaning__stair : NoAttr K aMeaning "_stair"
  kt_Meaning_Meaning : PySem.W.kitOne K (.ref aMeaning) (.ref aMeaning) = some true
  cm_Meaning_always : ClX.CMet K aMeaning (.type "type") "always" p_Meaning_always f_Meaning_always
  cm_Meaning_never : ClX.CMet K aMeaning (.type "type") "never" p_Meaning_never f_Meaning_never
  pr_Meaning_levels : PropOf K aMeaning "levels" p_Meaning_levels f_Meaning_levels
  mt_Meaning_stair : MtC K aMeaning "stair" f_Meaning_stair
  mt_Meaning_least : MtC K aMeaning "least" f_Meaning_least
  mt_Meaning_lies_in : MtC K aMeaning "lies_in" f_Meaning_lies_in
  mt_Meaning_add : MtC K aMeaning "__add__" f_Meaning_add
  mt_Meaning_mul : MtC K aMeaning "__mul__" f_Meaning_mul
  mt_Meaning_neg : MtC K aMeaning "__neg__" f_Meaning_neg
  mt_Meaning_contains : MtC K aMeaning "__contains__" f_Meaning_contains
  mt_Meaning_bool : MtC K aMeaning "__bool__" f_Meaning_bool
  mt_Meaning_eq : MtC K aMeaning "__eq__" f_Meaning_eq
  mt_Meaning_repr : MtC K aMeaning "__repr__" f_Meaning_repr
  rd_Meaning : ClX.CRead K aMeaning (.type "type")
  z_len : mg "len" = none
  z_range : mg "range" = none
  z_enumerate : mg "enumerate" = none
  z_isinstance : mg "isinstance" = none
  z_int : mg "int" = none
  z_list : mg "list" = none
  z_tuple : mg "tuple" = none
  z_str : mg "str" = none
  z_bool : mg "bool" = none
  z_all : mg "all" = none
  z_sum : mg "sum" = none
  z_sorted : mg "sorted" = none
  z_max : mg "max" = none
  z_ValueError : mg "ValueError" = none
  m_ZERO : mg "ZERO" = some (.ref aZERO)
  t_ZERO : KT K aZERO []
  m_ONE : mg "ONE" = some (.ref aONE)
  t_ONE : KO K aONE O.one
  m_MAX_LEVELS : ∃ t, mg "MAX_LEVELS" = some (.int 3 t)

section
variable {P : Program} {w : World} {K : PySem.W.Frag} {mg : Str → Option Value} {base : Heap}
theorem ok_bag  {aZERO : Addr} {aONE : Addr} {aVowError : Addr} {aInvalidLevels : Addr} {aInvalidStair : Addr} {aInvalidRow : Addr} {aLevelsDiffer : Addr} {aMeaning : Addr} {f_Meaning_init : Addr} {p_Meaning_always : Addr} {f_Meaning_always : Addr} {p_Meaning_never : Addr} {f_Meaning_never : Addr} {p_Meaning_levels : Addr} {f_Meaning_levels : Addr} {f_Meaning_stair : Addr} {f_Meaning_least : Addr} {f_Meaning_lies_in : Addr} {f_Meaning_add : Addr} {f_Meaning_mul : Addr} {f_Meaning_neg : Addr} {f_Meaning_contains : Addr} {f_Meaning_bool : Addr} {f_Meaning_eq : Addr} {f_Meaning_repr : Addr} (T : Txt K mg  aZERO aONE aVowError aInvalidLevels aInvalidStair aInvalidRow aLevelsDiffer aMeaning f_Meaning_init p_Meaning_always f_Meaning_always p_Meaning_never f_Meaning_never p_Meaning_levels f_Meaning_levels f_Meaning_stair f_Meaning_least f_Meaning_lies_in f_Meaning_add f_Meaning_mul f_Meaning_neg f_Meaning_contains f_Meaning_bool f_Meaning_eq f_Meaning_repr) {f : Addr} {fd : FuncData} {k : Nat} (F : Fun K "_law_bag" "_law_bag" s_law_bag f fd) : FnOk P w K mg base CX0 (k + 1) f fd ["_law_script"] (spBag K) := by
  refine F.ok sc_law_bag (fun vs H Q E h => ?_) (fun cdv A outer s H vs Q E hr h => ?_)
  · obtain ⟨a, ns, rfl, _⟩ := h; rfl
  obtain ⟨a, ns, rfl, hS, hl, q⟩ := h
  refine ⟨_, (pss_cons (ps_set (i := 1) sc_law_bag.nd rfl (Or.inl rfl) pe_int)
  (pss_cons (ps_for PassesOwn.never rfl (pi_list (pe_slice sl_list (pv 0) po_none (po_some pe_int))) (pg_name (i := 2) sc_law_bag.nd rfl (Or.inl rfl))
   (pss_one (ps_set (i := 1) sc_law_bag.nd rfl (Or.inl rfl) (pe_op op_mod (pe_op op_add (pe_op op_add (pe_op op_mul (pv 1) pe_int) (pe_op op_mod (pe_callTy call_int1 (by rfl) T.z_int (by decide +kernel) (pa_cons (pv 2) pa_nil)) pe_int)) pe_int) pe_int))))
  (pss_one (ps_ret (pe_lst (pa_cons (pe_callTy call_list_of (by rfl) T.z_list (by decide +kernel) (pa_cons (pe_slice sl_list (pv 0) po_none (po_some pe_int)) pa_nil)) (pa_cons pe_int (pa_cons pe_int (pa_cons (pv 1) (pa_cons pe_int pa_nil)))))))))), ?_⟩
  obtain ⟨ms, e1, e2⟩ := cut_map ns none (some 63)
  refine ⟨_, rfl, 63, rfl, a, _, rfl, hS, fun c nc => ⟨c, rfl, ⟨_, SqL.of upd_same⟩, ?_⟩⟩
  have s1 : Same H (upd H c (.lst (cutV (ns.map V.int) none (some 63)))) := same_new nc
  rw [e1] at s1 ⊢
  refine for_list (xs := ms.map V.int) (fun _ σ H' => H' = upd H c (.lst (ms.map V.int)) ∧ ∃ (z : Int) (u : Option V), σ = [some (.ref a), some (.int z), u] ∧ 0 ≤ z ∧ z < 2147483647) ⟨rfl, 3827, none, rfl, by decide, by decide⟩ (fun i σ H' _ h => ?_) (fun i x σ H' hx h => ?_) (fun σ H' h => ?_)
  · obtain ⟨rfl, _⟩ := h
    exact SqL.of upd_same
  · obtain ⟨rfl, z, u, rfl, z0, z1⟩ := h
    rw [List.getElem?_map] at hx
    cases hm : ms[i]? with
    | none => rw [hm] at hx; cases hx
    | some m =>
      rw [hm] at hx
      obtain rfl : V.int m = x := Option.some.inj hx
      refine ⟨_, rfl, _, _, rfl, rfl, .inl ⟨by omega, by omega⟩, _, rfl, .inl ⟨_, rfl, _, _, rfl, rfl, (by show (0 : Int) < 2147483587; decide), _, _, rfl, rfl, _, _, rfl, rfl, _, _, rfl, rfl, (by show (0 : Int) < 2147483647; decide), ?_⟩⟩
      exact ⟨rfl, _, _, rfl, Int.emod_nonneg _ (by decide), Int.emod_lt_of_pos _ (by decide)⟩
  · obtain ⟨rfl, z, u, rfl, z0, z1⟩ := h
    refine ⟨_, rfl, 63, rfl, a, _, rfl, s1.seq hS, fun d nd => ?_⟩
    rw [e1]
    have s2 := s1.trans (same_new (o := .lst (ms.map V.int)) nd)
    refine ⟨d, _, rfl, .inl (SqL.of upd_same), fun l nl => ?_⟩
    have s3 := s2.trans (same_new (o := .lst (ms.map V.int)) nl)
    refine ⟨_, rfl, (by show 5 ≤ sizeLine; decide), fun b nb => ?_⟩
    have s4 := s3.trans (same_new (o := .lst [.ref l, .int 0, .int 0, .int z, .int 0]) nb)
    have hlb : l ≠ b := fun e => by rw [e, upd_same] at nb; cases nb
    refine q l b _ (s3.free nb) s4 ⟨ms, 0, 0, z, 0, hlb, upd_same, ?_, by omega, by decide, z0, z1⟩
    rw [upd_ne hlb, upd_same]
theorem seed_bounds {s k : Int} : 0 ≤ (s + k * 7103) % 2147483647 ∧ (s + k * 7103) % 2147483647 < 2147483647 := ⟨Int.emod_nonneg _ (by decide), Int.emod_lt_of_pos _ (by decide)⟩
theorem ok_pull  {aZERO : Addr} {aONE : Addr} {aVowError : Addr} {aInvalidLevels : Addr} {aInvalidStair : Addr} {aInvalidRow : Addr} {aLevelsDiffer : Addr} {aMeaning : Addr} {f_Meaning_init : Addr} {p_Meaning_always : Addr} {f_Meaning_always : Addr} {p_Meaning_never : Addr} {f_Meaning_never : Addr} {p_Meaning_levels : Addr} {f_Meaning_levels : Addr} {f_Meaning_stair : Addr} {f_Meaning_least : Addr} {f_Meaning_lies_in : Addr} {f_Meaning_add : Addr} {f_Meaning_mul : Addr} {f_Meaning_neg : Addr} {f_Meaning_contains : Addr} {f_Meaning_bool : Addr} {f_Meaning_eq : Addr} {f_Meaning_repr : Addr} (T : Txt K mg  aZERO aONE aVowError aInvalidLevels aInvalidStair aInvalidRow aLevelsDiffer aMeaning f_Meaning_init p_Meaning_always f_Meaning_always p_Meaning_never f_Meaning_never p_Meaning_levels f_Meaning_levels f_Meaning_stair f_Meaning_least f_Meaning_lies_in f_Meaning_add f_Meaning_mul f_Meaning_neg f_Meaning_contains f_Meaning_bool f_Meaning_eq f_Meaning_repr) {f : Addr} {fd : FuncData} {k : Nat} (F : Fun K "_law_pull" "_law_pull" s_law_pull f fd) : FnOk P w K mg base CX0 (k + 1) f fd ["_law_bag_here", "_law_sides"] spPull := by
  refine F.ok sc_law_pull (fun vs H Q E h => ?_) (fun cdv A outer s H vs Q E hr h => ?_)
  · obtain ⟨_, b, n, rfl, _⟩ := h; rfl
  obtain ⟨l, b, n, rfl, n1, n2, ⟨ns, i, g, z, c, hlb, hb, hL, hl, i0, z0, z1⟩, q⟩ := h
  refine ⟨_, (C8.pss_cut (ps_if (PW.pt (pw_and (pt_cmpR op_eq (pe_ix ix_list (pv 0) pe_int (fun _ _ => rfl)) pe_int (nomark _)) (pw_and1 (pt_cmpR op_lt (pe_ix ix_list (pv 0) pe_int (fun _ _ => rfl)) (pe_callB call_len_seq (by rfl) T.z_len (by decide +kernel) (pa_cons (pe_ix ix_list (pv 0) pe_int (fun _ _ => rfl)) pa_nil)) (nomark _))))) (pss_cons (ps_set (i := 2) sc_law_pull.nd rfl (Or.inl rfl) (pe_ix ix_list (pe_ix ix_list (pv 0) pe_int (fun _ _ => rfl)) (pe_ix ix_list (pv 0) pe_int (fun _ _ => rfl)) (fun _ _ => rfl)))
  (pss_cons (ps_asg (pe_op op_add (pe_ix ix_list (pv 0) pe_int (fun _ _ => rfl)) pe_int) (pg_sub (pv 0) pe_int set_list))
  (pss_one (ps_if (pt_cmpR op_ge (pv 2) (pe_op op_pow pe_int pe_int) (nomark _)) (pss_one (ps_asg (pv 2) (pg_sub (pv 0) pe_int set_list))) (pss_one (ps_asg (pe_op op_mod (pe_op op_add (pe_op op_add (pe_op op_mul (pe_ix ix_list (pv 0) pe_int (fun _ _ => rfl)) pe_int) (pe_op op_mod (pe_callTy call_int1 (by rfl) T.z_int (by decide +kernel) (pa_cons (pv 2) pa_nil)) pe_int)) pe_int) pe_int) (pg_sub (pv 0) pe_int set_list))))))) pss_nil)
  (pss_cons (ps_if (pt_cmpR op_gt (pe_ix ix_list (pv 0) pe_int (fun _ _ => rfl)) pe_int (nomark _)) (pss_cons (ps_set (i := 3) sc_law_pull.nd rfl (Or.inl rfl) (pe_op op_mod (pe_callTy call_int1 (by rfl) T.z_int (by decide +kernel) (pa_cons (pe_ix ix_list (pv 0) pe_int (fun _ _ => rfl)) pa_nil)) (pv 1)))
  (pss_cons (ps_asg (pe_op op_fdivW (pe_ix ix_list (pv 0) pe_int (fun _ _ => rfl)) (pv 1)) (pg_sub (pv 0) pe_int set_list))
  (pss_one (ps_ret (pv 3))))) pss_nil)
  (pss_cons (ps_asg (pe_op op_add (pe_ix ix_list (pv 0) pe_int (fun _ _ => rfl)) pe_int) (pg_sub (pv 0) pe_int set_list))
  (pss_cons (ps_set (i := 4) sc_law_pull.nd rfl (Or.inl rfl) (pe_op op_mod (pe_op op_add (pe_ix ix_list (pv 0) pe_int (fun _ _ => rfl)) (pe_op op_mul (pe_ix ix_list (pv 0) pe_int (fun _ _ => rfl)) pe_int)) pe_int))
  (pss_cons (ps_asg (pe_op op_mod (pe_op op_add (pe_op op_add (pe_op op_pow (pv 4) pe_int) (pe_op op_mul pe_int (pv 4))) pe_int) pe_int) (pg_sub (pv 0) pe_int set_list))
  (pss_one (ps_ret (pe_op op_mod (pe_op op_add (pe_op op_fdiv (pe_ix ix_list (pv 0) pe_int (fun _ _ => rfl)) pe_int) (pe_op op_mul (pe_op op_mod (pe_callTy call_int1 (by rfl) T.z_int (by decide +kernel) (pa_cons (pe_ix ix_list (pv 0) pe_int (fun _ _ => rfl)) pa_nil)) pe_int) pe_int)) (pv 1))))))))), ?_⟩
  -- behind the draw of a cell
  let Mid : L2.St → Hp → Prop := fun σ' H' => ∃ (u2 u3 u4 : Option V) (i' g' z' : Int), σ' = [some (.ref b), some (.int n), u2, u3, u4] ∧ Kp b H H' ∧ H' b = some (.lst [.ref l, .int i', .int g', .int z', .int c]) ∧ 0 ≤ i' ∧ 0 ≤ z' ∧ z' < 2147483647
  have k0 : Kp b H H := Kp.refl H
  have hLs : ∀ H', Kp b H H' → SqL K H' l (ns.map V.int) := fun H' x => SqL.of (x _ _ hlb hL)
  refine ⟨Mid, ?_, ?_⟩
  · have m0 : Mid [some (V.ref b), some (V.int n), none, none, none] H := ⟨none, none, none, i, g, z, rfl, k0, hb, i0, z0, z1⟩
    refine ⟨_, rfl, b, _, 2, _, rfl, rfl, SqL.of hb, rfl, rfl, _, rfl, ?_⟩
    refine ite2 (fun e => ?_) (fun e => ?_)
    · refine ⟨_, rfl, b, _, 1, _, rfl, rfl, SqL.of hb, rfl, _, rfl, b, _, 0, _, rfl, rfl, SqL.of hb, rfl, l, _, rfl, .inl (SqL.of hL), _, _, rfl, rfl, _, rfl, ?_⟩
      refine ite2 (fun e2 => ?_) (fun e2 => ?_)
      · have hi : i < (ns.length : Int) := by
          have := of_decide_eq_true e2
          rw [List.length_map] at this
          exact this
        obtain ⟨v, hv, hat⟩ := atI_ex (xs := ns.map V.int) i0 (by rw [List.length_map]; exact hi)
        rw [List.getElem?_map] at hv
        obtain ⟨cell, _, rfl⟩ := Option.map_eq_some_iff.mp hv
        refine ⟨_, rfl, b, _, 0, _, rfl, rfl, SqL.of hb, rfl, _, rfl, b, _, 1, _, rfl, rfl, SqL.of hb, rfl, l, _, i, _, rfl, rfl, SqL.of hL, hat, ?_⟩
        refine ⟨_, rfl, b, _, 1, _, rfl, rfl, SqL.of hb, rfl, _, _, rfl, rfl, _, rfl, b, _, 1, 1, rfl, rfl, hb, rfl, ?_⟩
        refine ⟨_, rfl, _, _, rfl, rfl, ⟨by decide, by decide, by decide⟩, _, _, rfl, rfl, _, rfl, ?_⟩
        have hb1 : (upd H b (.lst (List.set [.ref l, .int i, .int g, .int z, .int c] 1 (.int (i + 1))))) b = some (.lst [.ref l, .int (i + 1), .int g, .int z, .int c]) := upd_same
        have k1 : Kp b H (upd H b (.lst (List.set [.ref l, .int i, .int g, .int z, .int c] 1 (.int (i + 1))))) := Kp.upd
        refine ite2 (fun e3 => ?_) (fun e3 => ?_)
        · refine ⟨_, rfl, _, rfl, b, _, 2, 2, rfl, rfl, hb1, rfl, ?_⟩
          exact ⟨_, _, _, i + 1, cell, z, rfl, k1.trans Kp.upd, upd_same, by omega, z0, z1⟩
        · refine ⟨_, rfl, b, _, 3, _, rfl, rfl, SqL.of hb1, rfl, _, _, rfl, rfl, .inl ⟨by omega, by omega⟩, _, rfl, .inl ⟨_, rfl, _, _, rfl, rfl, (by show (0 : Int) < 2147483579; decide), _, _, rfl, rfl, _, _, rfl, rfl, _, _, rfl, rfl, (by show (0 : Int) < 2147483647; decide), _, rfl, b, _, 3, 3, rfl, rfl, hb1, rfl, ?_⟩⟩
          exact ⟨_, _, _, i + 1, g, _, rfl, k1.trans Kp.upd, upd_same, by omega, Int.emod_nonneg _ (by decide), Int.emod_lt_of_pos _ (by decide)⟩
      · exact m0
    · exact m0
  · intro σ' H' hm
    obtain ⟨u2, u3, u4, i', g', z', rfl, k1, hb1, i1, z2, z3⟩ := hm
    have fin : ∀ (r : Int) (H2 : Hp) (g2 s2 c2 : Int), 0 ≤ r → r < n → Kp b H H2 → H2 b = some (.lst [.ref l, .int i', .int g2, .int s2, .int c2]) → 0 ≤ s2 → s2 < 2147483647 → Q (.int r) H2 := fun r H2 g2 s2 c2 r0 r1 kk hh s0 s1 =>
      q r H2 r0 r1 kk ⟨ns, i', g2, s2, c2, hlb, hh, kk _ _ hlb hL, hl, i1, s0, s1⟩
    refine ⟨_, rfl, b, _, 2, _, rfl, rfl, SqL.of hb1, rfl, _, _, rfl, rfl, _, rfl, ?_⟩
    refine ite2 (fun e => ?_) (fun e => ?_)
    · refine ⟨_, rfl, b, _, 2, _, rfl, rfl, SqL.of hb1, rfl, .inl ⟨_, rfl, _, rfl, _, _, rfl, rfl, (by omega), ?_⟩⟩
      refine ⟨_, rfl, b, _, 2, _, rfl, rfl, SqL.of hb1, rfl, _, rfl, _, _, rfl, rfl, wide_div (b := 100) (by omega) (by omega) (by decide) (by decide), _, rfl, b, _, 2, 2, rfl, rfl, hb1, rfl, ?_⟩
      refine ⟨_, rfl, ?_⟩
      exact fin _ _ _ z' c (Int.emod_nonneg _ (by omega)) (Int.emod_lt_of_pos _ (by omega)) (k1.trans Kp.upd) upd_same z2 z3
    · refine ⟨_, rfl, b, _, 4, _, rfl, rfl, SqL.of hb1, rfl, _, _, rfl, rfl, _, rfl, b, _, 4, 4, rfl, rfl, hb1, rfl, ?_⟩
      have hb2 : (upd H' b (.lst (List.set [.ref l, .int i', .int g', .int z', .int c] 4 (.int (c + 1))))) b = some (.lst [.ref l, .int i', .int g', .int z', .int (c + 1)]) := upd_same
      have k2 : Kp b H (upd H' b (.lst (List.set [.ref l, .int i', .int g', .int z', .int c] 4 (.int (c + 1))))) := k1.trans Kp.upd
      obtain ⟨sb0, sb1⟩ := seed_bounds (s := z') (k := c + 1)
      refine ⟨_, rfl, b, _, 3, _, rfl, rfl, SqL.of hb2, rfl, _, rfl, b, _, 4, _, rfl, rfl, SqL.of hb2, rfl, _, _, rfl, rfl, .inr ⟨by decide, by decide⟩, _, _, rfl, rfl, _, _, rfl, rfl, (by show (0 : Int) < 2147483647; decide), ?_⟩
      refine ⟨_, rfl, _, _, rfl, rfl, ⟨by decide, by decide, by omega⟩, _, rfl, _, _, rfl, rfl, .inl ⟨by decide, by decide⟩, _, _, rfl, rfl, _, _, rfl, rfl, _, _, rfl, rfl, (by show (0 : Int) < 2147483647; decide), _, rfl, b, _, 3, 3, rfl, rfl, hb2, rfl, ?_⟩
      refine ⟨_, rfl, b, _, 3, _, rfl, rfl, SqL.of upd_same, rfl, _, _, rfl, rfl, ⟨by decide, by decide⟩, _, rfl, b, _, 3, _, rfl, rfl, SqL.of upd_same, rfl, .inl ⟨_, rfl, _, _, rfl, rfl, (by show (0 : Int) < 7919; decide), _, _, rfl, rfl, .inr ⟨by decide, by decide⟩, _, _, rfl, rfl, _, rfl, _, _, rfl, rfl, (by omega), ?_⟩⟩
      exact fin _ _ _ _ (c + 1) (Int.emod_nonneg _ (by omega)) (Int.emod_lt_of_pos _ (by omega)) (k2.trans Kp.upd) upd_same (Int.emod_nonneg _ (by decide)) (Int.emod_lt_of_pos _ (by decide))
theorem ok_num  {aZERO : Addr} {aONE : Addr} {aVowError : Addr} {aInvalidLevels : Addr} {aInvalidStair : Addr} {aInvalidRow : Addr} {aLevelsDiffer : Addr} {aMeaning : Addr} {f_Meaning_init : Addr} {p_Meaning_always : Addr} {f_Meaning_always : Addr} {p_Meaning_never : Addr} {f_Meaning_never : Addr} {p_Meaning_levels : Addr} {f_Meaning_levels : Addr} {f_Meaning_stair : Addr} {f_Meaning_least : Addr} {f_Meaning_lies_in : Addr} {f_Meaning_add : Addr} {f_Meaning_mul : Addr} {f_Meaning_neg : Addr} {f_Meaning_contains : Addr} {f_Meaning_bool : Addr} {f_Meaning_eq : Addr} {f_Meaning_repr : Addr} (T : Txt K mg  aZERO aONE aVowError aInvalidLevels aInvalidStair aInvalidRow aLevelsDiffer aMeaning f_Meaning_init p_Meaning_always f_Meaning_always p_Meaning_never f_Meaning_never p_Meaning_levels f_Meaning_levels f_Meaning_stair f_Meaning_least f_Meaning_lies_in f_Meaning_add f_Meaning_mul f_Meaning_neg f_Meaning_contains f_Meaning_bool f_Meaning_eq f_Meaning_repr) {f : Addr} {fd : FuncData} {k : Nat} (F : Fun K "_law_num" "_law_num" s_law_num f fd) : FnOk P w K mg base CX0 (k + 1) f fd ["_law_many_z"] (spNum K) := by
  refine F.ok sc_law_num (fun vs H Q E h => ?_) (fun cdv A outer s H vs Q E hr h => ?_)
  · obtain ⟨_, rfl, _⟩ := h; rfl
  obtain ⟨n, rfl, q⟩ := h
  refine ⟨_, (pss_one (ps_ret (pe_ifExp (pt_cmpR op_gt (pv 0) pe_int (nomark _)) (pe_tup (pa_cons (pe_tup (pa_cons (pe_tup pa_nil) (pa_cons (pv 0) pa_nil))) pa_nil)) (pe_tup pa_nil)))), ?_⟩
  refine ⟨_, rfl, _, _, rfl, rfl, _, rfl, ?_⟩
  refine ite2 (fun e => ?_) (fun e => ?_)
  · have hn : 0 < n := of_decide_eq_true e
    refine ⟨(by show 0 ≤ sizeLine; decide), fun p0 n0 => ⟨_, rfl, (by show 2 ≤ sizeLine; decide), fun p1 n1 => ⟨(by show 1 ≤ sizeLine; decide), fun p2 n2 => ?_⟩⟩⟩
    refine q _ _ (((same_new n0).trans (same_new n1)).trans (same_new n2)) ?_
    have t1 := tp_new (o := .tup [.ref p0, .int n]) n1
    have t2 := tp_new (o := .tup [.ref p1]) n2
    have o0 := (OA.nil (K := K) (TT.of (H := upd H p0 (.tup [])) upd_same)).tp t1
    have hm : TmA K (upd (upd H p0 (.tup [])) p1 (.tup [.ref p0, .int n])) (.ref p1) (O.z, n) := ⟨p1, p0, rfl, .of upd_same, o0⟩
    have : O.num n = O.of [(O.z, n)] := by unfold O.num; rw [if_pos hn]; rfl
    rw [this]
    exact OA.of (.of upd_same) (.cons (hm.tp t2) .nil)
  · have hn : ¬ 0 < n := of_decide_eq_false (Bool.eq_false_iff.mpr e)
    refine ⟨(by show 0 ≤ sizeLine; decide), fun p0 n0 => ?_⟩
    refine q _ _ (same_new n0) ?_
    have : O.num n = O.z := by unfold O.num; rw [if_neg hn]
    rw [this]
    exact OA.nil (.of upd_same)
theorem ok_same  {aZERO : Addr} {aONE : Addr} {aVowError : Addr} {aInvalidLevels : Addr} {aInvalidStair : Addr} {aInvalidRow : Addr} {aLevelsDiffer : Addr} {aMeaning : Addr} {f_Meaning_init : Addr} {p_Meaning_always : Addr} {f_Meaning_always : Addr} {p_Meaning_never : Addr} {f_Meaning_never : Addr} {p_Meaning_levels : Addr} {f_Meaning_levels : Addr} {f_Meaning_stair : Addr} {f_Meaning_least : Addr} {f_Meaning_lies_in : Addr} {f_Meaning_add : Addr} {f_Meaning_mul : Addr} {f_Meaning_neg : Addr} {f_Meaning_contains : Addr} {f_Meaning_bool : Addr} {f_Meaning_eq : Addr} {f_Meaning_repr : Addr} (T : Txt K mg  aZERO aONE aVowError aInvalidLevels aInvalidStair aInvalidRow aLevelsDiffer aMeaning f_Meaning_init p_Meaning_always f_Meaning_always p_Meaning_never f_Meaning_never p_Meaning_levels f_Meaning_levels f_Meaning_stair f_Meaning_least f_Meaning_lies_in f_Meaning_add f_Meaning_mul f_Meaning_neg f_Meaning_contains f_Meaning_bool f_Meaning_eq f_Meaning_repr) {f : Addr} {fd : FuncData} {n : Nat} (F : Fun K "_law_same" "_law_same" s_law_same f fd) (C__law_same : Cal P w K mg base n "_law_same" ["_law_found", "_law_due"] (spSame K n) f fd) : FnOk P w K mg base CX0 (n + 1) f fd ["_law_found", "_law_due"] (spSame K (n + 1)) := by
  refine F.ok sc_law_same (fun vs H Q E h => ?_) (fun cdv A outer s H vs Q E hr h => ?_)
  · obtain ⟨_, _, _, rfl, _⟩ := h; rfl
  obtain ⟨x, y, d, rfl, hx, hy, hd, q⟩ := h
  refine ⟨_, (pss_cons (ps_if (pt_val (pe_callB call_isDT (by rfl) T.z_isinstance (by decide +kernel) (pa_cons (pv 1) (pa_cons (pe_tup (pa_cons (pe_bltn (v := .ty "list") (u := .type "list") (by rfl) T.z_list (by decide +kernel) rfl) (pa_cons (pe_bltn (v := .ty "tuple") (u := .type "tuple") (by rfl) T.z_tuple (by decide +kernel) rfl) pa_nil))) pa_nil)))) (pss_cons (ps_if (PW.pt (pw_or (pt_cmpR op_ne (pe_callB call_isD (by rfl) T.z_isinstance (by decide +kernel) (pa_cons (pv 0) (pa_cons (pe_bltn (v := .ty "list") (u := .type "list") (by rfl) T.z_list (by decide +kernel) rfl) pa_nil))) (pe_callB call_isD (by rfl) T.z_isinstance (by decide +kernel) (pa_cons (pv 1) (pa_cons (pe_bltn (v := .ty "list") (u := .type "list") (by rfl) T.z_list (by decide +kernel) rfl) pa_nil))) (nomark _)) (pw_or1 (pt_cmpR op_ne (pe_callB call_isD (by rfl) T.z_isinstance (by decide +kernel) (pa_cons (pv 0) (pa_cons (pe_bltn (v := .ty "tuple") (u := .type "tuple") (by rfl) T.z_tuple (by decide +kernel) rfl) pa_nil))) (pe_callB call_isD (by rfl) T.z_isinstance (by decide +kernel) (pa_cons (pv 1) (pa_cons (pe_bltn (v := .ty "tuple") (u := .type "tuple") (by rfl) T.z_tuple (by decide +kernel) rfl) pa_nil))) (nomark _))))) (pss_one (ps_ret pe_bl)) pss_nil)
  (pss_one (ps_ret (pe_and (pe_cmpR op_eq (pe_callB call_lenB (by rfl) T.z_len (by decide +kernel) (pa_cons (pv 0) pa_nil)) (pe_callB call_lenB (by rfl) T.z_len (by decide +kernel) (pa_cons (pv 1) pa_nil)) (nomark _)) (pe_one (pe_callB (cr_all rfl) (by rfl) T.z_all (by decide +kernel) (pa_cons (pe_lc (own := [("_law_k", 2)]) (g := gName 2) (tt := tYes) rfl sc_law_same.nd (pi_range1 (by rfl) T.z_range (pa_cons (pe_callB call_lenB (by rfl) T.z_len (by decide +kernel) (pa_cons (pv 1) pa_nil)) pa_nil)) (blkOk_by (own := [("_law_k", 2)]) (N := ["_law_found", "_law_due", "_law_k"]) (sc := defScope s_law_same) (by decide +kernel)) (fun _ _ _ _ _ => (pg_name (i := 2) sc_law_same.nd rfl (Or.inl rfl))) (fun _ _ _ _ _ => pts_nil) (fun _ _ _ _ _ => (pe_call C__law_same.G (hr.mono (by omega)) (by rfl) C__law_same.m C__law_same.kp C__law_same.b .nil pass0 (pa_cons (pe_ix (r := rIx K) ix_seq (pv 0) (pv 2) (fun _ _ => rfl)) (pa_cons (pe_ix (r := rIx K) ix_seq (pv 1) (pv 2) (fun _ _ => rfl)) pa_nil))))) pa_nil))))))) pss_nil)
  (pss_cons (ps_if (PW.pt (pw_or (pt_cmpR op_isN (pv 1) pe_non (nomark _)) (pw_or1 (pt_cmpR op_isN (pv 0) pe_non (nomark _))))) (pss_one (ps_ret (pe_and (pe_cmpR op_isN (pv 0) pe_non (nomark _)) (pe_one (pe_cmpR op_isN (pv 1) pe_non (nomark _)))))) pss_nil)
  (pss_cons (ps_if (PW.pt (pw_or (pt_cmpR op_ne (pe_callB call_isD (by rfl) T.z_isinstance (by decide +kernel) (pa_cons (pv 1) (pa_cons (pe_bltn (v := .ty "bool") (u := .type "bool") (by rfl) T.z_bool (by decide +kernel) rfl) pa_nil))) (pe_callB call_isD (by rfl) T.z_isinstance (by decide +kernel) (pa_cons (pv 0) (pa_cons (pe_bltn (v := .ty "bool") (u := .type "bool") (by rfl) T.z_bool (by decide +kernel) rfl) pa_nil))) (nomark _)) (pw_or1 (pt_cmpR op_ne (pe_callB call_isD (by rfl) T.z_isinstance (by decide +kernel) (pa_cons (pv 1) (pa_cons (pe_bltn (v := .ty "int") (u := .type "int") (by rfl) T.z_int (by decide +kernel) rfl) pa_nil))) (pe_callB call_isD (by rfl) T.z_isinstance (by decide +kernel) (pa_cons (pv 0) (pa_cons (pe_bltn (v := .ty "int") (u := .type "int") (by rfl) T.z_int (by decide +kernel) rfl) pa_nil))) (nomark _))))) (pss_one (ps_ret pe_bl)) pss_nil)
  (pss_one (ps_ret (pe_and (pe_cmpR op_eq (pe_callB call_isD (by rfl) T.z_isinstance (by decide +kernel) (pa_cons (pv 1) (pa_cons (pe_bltn (v := .ty "str") (u := .type "str") (by rfl) T.z_str (by decide +kernel) rfl) pa_nil))) (pe_callB call_isD (by rfl) T.z_isinstance (by decide +kernel) (pa_cons (pv 0) (pa_cons (pe_bltn (v := .ty "str") (u := .type "str") (by rfl) T.z_str (by decide +kernel) rfl) pa_nil))) (nomark _)) (pe_one (pe_cmpR op_eq (pv 0) (pv 1) (nomark _))))))))), ?_⟩
  refine ⟨_, rfl, (by show 2 ≤ sizeLine; decide), fun tp ntp => rd_lt2 (dp_same (same_new ntp) hy) upd_same ⟨_, rfl, ?_⟩⟩
  have s1 : Same H (upd H tp (.tup [.ty "list", .ty "tuple"])) := same_new ntp
  generalize upd H tp (.tup [.ty "list", .ty "tuple"]) = H1 at s1
  have hx1 := dp_same s1 hx
  have hy1 := dp_same s1 hy
  have fin : ∀ H', Same H1 H' → Q (.bl true) H' := fun H' z => q H' (s1.trans z)
  clear q
  refine ite2 (fun e => ?_) (fun e => ?_)
  · refine ⟨_, rfl, rd_list hx1 ⟨_, rfl, rd_list hy1 ⟨rfl, _, rfl, ?_⟩⟩⟩
    rw [decide_eq_true rfl]
    refine iteF ⟨_, rfl, rd_tuple hx1 ⟨_, rfl, rd_tuple hy1 ⟨rfl, _, rfl, ?_⟩⟩⟩
    rw [decide_eq_true rfl]
    refine iteF ?_
    obtain ⟨p1, p2, xs, ys, ds, rfl, rfl, h1, h2, a1, a2, hdep⟩ : ∃ p1 p2 xs ys ds, x = .ref p1 ∧ y = .ref p2 ∧ (SqL K H1 p1 xs ∨ SqT K H1 p1 xs) ∧ (SqL K H1 p2 ys ∨ SqT K H1 p2 ys) ∧ DpAll K H1 xs ds ∧ DpAll K H1 ys ds ∧ PyData.depthAll ds < n := by
      cases d with
      | list ds =>
        cases hx1 with
        | lst h1 a1 => cases hy1 with
          | lst h2 a2 => exact ⟨_, _, _, _, ds, rfl, rfl, .inl h1, .inl h2, a1, a2, by simp only [PyData.depth] at hd; omega⟩
      | tuple ds =>
        cases hx1 with
        | tup h1 a1 => cases hy1 with
          | tup h2 a2 => exact ⟨_, _, _, _, ds, rfl, rfl, .inr h1, .inr h2, a1, a2, by simp only [PyData.depth] at hd; omega⟩
      | _ => cases e
    have hl : xs.length = ys.length := (dpall_len a1).trans (dpall_len a2).symm
    refine ⟨_, rfl, rd_len h1 fun z1 => ⟨_, rfl, rd_len h2 fun z2 => ⟨rfl, _, rfl, ?_⟩⟩⟩
    rw [hl, decide_eq_true rfl]
    refine iteT ⟨_, rfl, rd_len h2 fun z2 => ⟨_, rfl, (line62 z2).1, (line62 z2).2, fun D nD => ?_⟩⟩
    refine lc_range (lo := 0) (n := (ys.length : Int).toNat) (fun i H' => Same H1 H' ∧ H' D = some (.lst (List.replicate i (.bl true)))) ⟨same_new nD, upd_same⟩ (fun i H' hi hp => ?_) (fun H' hp => ?_)
    · obtain ⟨sm, eD⟩ := hp
      refine ⟨rfl, ?_⟩
      have hi2 : i < ys.length := by omega
      have hi1 : i < xs.length := by omega
      have gx := List.getElem?_eq_getElem hi1
      have gy := List.getElem?_eq_getElem hi2
      obtain ⟨dx, e1, f1⟩ := dpall_get a1 gx
      obtain ⟨dy, e2, f2⟩ := dpall_get a2 gy
      have : dx = dy := Option.some.inj (e1.symm.trans e2)
      subst this
      have hk : (0 : Int) + (i : Nat) = ((i : Nat) : Int) := by omega
      have ix : ∀ (p : Addr) (zs : List V) (v : V), (SqL K H1 p zs ∨ SqT K H1 p zs) → zs[i]? = some v → ∀ (Q' : VK), Q' v H' → rIx K (.ref p) (.int (0 + (i : Nat))) H' Q' := fun p zs v hz hv Q' hq => by
        rw [hk]
        rcases hz with hz | hz
        · exact .inl ⟨p, zs, _, v, rfl, rfl, sm.seq hz, atI_nat hv, hq⟩
        · exact .inr (.inl ⟨p, zs, _, v, rfl, rfl, same_sqt sm hz, atI_nat hv, hq⟩)
      refine ⟨_, rfl, _, rfl, ix _ _ _ h1 gx _ ⟨_, rfl, _, rfl, ix _ _ _ h2 gy _ ?_⟩⟩
      refine ⟨_, _, dx, rfl, dp_same sm f1, dp_same sm f2, Nat.lt_of_le_of_lt (depth_get e1) hdep, fun H2 s2 => ?_⟩
      have eD2 := s2 _ _ eD
      refine ⟨_, eD2, by rw [List.length_replicate]; omega, same_mut (sm.trans s2) nD, ?_⟩
      rw [upd_same, ← List.replicate_succ']
    · obtain ⟨sm, eD⟩ := hp
      refine ⟨D, List.replicate ((ys.length : Int).toNat) true, rfl, SqL.of (by rw [List.map_replicate]; exact eD), ?_⟩
      have : (List.replicate ((ys.length : Int).toNat) true).all id = true := by rw [List.all_eq_true]; intro b hb; exact (List.mem_replicate.mp hb).2
      rw [this]
      exact fin H' sm
  · have sc : (∃ i, x = .int i ∧ y = .int i) ∨ (∃ i, x = .bl i ∧ y = .bl i) ∨ (∃ i, x = .str i ∧ y = .str i) ∨ (x = .non ∧ y = .non) := by
      cases d with
      | none => cases hx1; cases hy1; exact .inr (.inr (.inr ⟨rfl, rfl⟩))
      | bool b => cases hx1; cases hy1; exact .inr (.inl ⟨_, rfl, rfl⟩)
      | int b => cases hx1; cases hy1; exact .inl ⟨_, rfl, rfl⟩
      | str b => cases hx1; cases hy1; exact .inr (.inr (.inl ⟨_, rfl, rfl⟩))
      | list _ => exact absurd rfl e
      | tuple _ => exact absurd rfl e
      | dict kv => exact absurd rfl (dp_nodict hx1 kv)
    have hxy : x = y := by rcases sc with ⟨i, rfl, rfl⟩ | ⟨i, rfl, rfl⟩ | ⟨i, rfl, rfl⟩ | ⟨rfl, rfl⟩ <;> rfl
    have hscal : scal x y = true := by rcases sc with ⟨i, rfl, rfl⟩ | ⟨i, rfl, rfl⟩ | ⟨i, rfl, rfl⟩ | ⟨rfl, rfl⟩ <;> rfl
    clear sc
    subst hxy
    refine ⟨_, rfl, rfl, _, rfl, ?_⟩
    refine ite2 (fun e2 => ?_) (fun e2 => ?_)
    · obtain rfl : x = V.non := of_decide_eq_true e2
      exact iteT ⟨_, rfl, rfl, _, rfl, iteT ⟨_, rfl, rfl, fin H1 (Same.refl H1)⟩⟩
    · refine ⟨_, rfl, rfl, _, rfl, ?_⟩
      rw [Bool.eq_false_iff.mpr e2]
      refine iteF ⟨_, rfl, rd_bool hy1 ⟨_, rfl, rd_bool hx1 ⟨rfl, _, rfl, ?_⟩⟩⟩
      rw [decide_eq_true rfl]
      refine iteF ⟨_, rfl, rd_int hy1 ⟨_, rfl, rd_int hx1 ⟨rfl, _, rfl, ?_⟩⟩⟩
      rw [decide_eq_true rfl]
      refine iteF ⟨_, rfl, rd_str hy1 ⟨_, rfl, rd_str hx1 ⟨rfl, _, rfl, ?_⟩⟩⟩
      rw [decide_eq_true rfl]
      refine iteT ⟨_, rfl, _, rfl, hscal, ?_⟩
      rw [decide_eq_true rfl]
      exact fin H1 (Same.refl H1)
end
end Vw

set_option Elab.async false
set_option linter.all false
set_option maxRecDepth 100000
set_option maxHeartbeats 4000000
namespace Vw
open PySem PySem.W PyProof.Rows L2
abbrev s_law_ordinal : Stmt := top 56
theorem sc_law_ordinal : FnScope ["_law_bag_here", "_law_deep", "_law_some", "_law_found", "_law_power", "_law_k"] ["_law_bag_here", "_law_deep"] (defScope s_law_ordinal) := ⟨rfl, rfl, rfl, by decide +kernel, rfl, by decide +kernel, by decide +kernel⟩
section
variable {P : Program} {w : World} {K : PySem.W.Frag} {mg : Str → Option Value} {base : Heap}
theorem ok_ordinal  {aZERO : Addr} {aONE : Addr} {aVowError : Addr} {aInvalidLevels : Addr} {aInvalidStair : Addr} {aInvalidRow : Addr} {aLevelsDiffer : Addr} {aMeaning : Addr} {f_Meaning_init : Addr} {p_Meaning_always : Addr} {f_Meaning_always : Addr} {p_Meaning_never : Addr} {f_Meaning_never : Addr} {p_Meaning_levels : Addr} {f_Meaning_levels : Addr} {f_Meaning_stair : Addr} {f_Meaning_least : Addr} {f_Meaning_lies_in : Addr} {f_Meaning_add : Addr} {f_Meaning_mul : Addr} {f_Meaning_neg : Addr} {f_Meaning_contains : Addr} {f_Meaning_bool : Addr} {f_Meaning_eq : Addr} {f_Meaning_repr : Addr} (T : Txt K mg  aZERO aONE aVowError aInvalidLevels aInvalidStair aInvalidRow aLevelsDiffer aMeaning f_Meaning_init p_Meaning_always f_Meaning_always p_Meaning_never f_Meaning_never p_Meaning_levels f_Meaning_levels f_Meaning_stair f_Meaning_least f_Meaning_lies_in f_Meaning_add f_Meaning_mul f_Meaning_neg f_Meaning_contains f_Meaning_bool f_Meaning_eq f_Meaning_repr) {f f1 f2 : Addr} {fd fd1 fd2 : FuncData} {d : Nat} (hd : d ≤ 10) (F : Fun K "_law_ordinal" "_law_ordinal" s_law_ordinal f fd)
    (C__law_ordinal : 0 < d → Cal P w K mg base (d + 1) "_law_ordinal" ["_law_bag_here", "_law_deep"] (spOrd K (d - 1)) f fd)
    (bF : Binds K fd ["_law_bag_here", "_law_deep"] []) (mF : mg "_law_ordinal" = some (.ref f))
    (C__law_pull : Cal P w K mg base 1 "_law_pull" ["_law_bag_here", "_law_sides"] spPull f1 fd1)
    (C__law_num : Cal P w K mg base 1 "_law_num" ["_law_many_z"] (spNum K) f2 fd2) : FnOk P w K mg base CX0 (d + 2) f fd ["_law_bag_here", "_law_deep"] (spOrd K d) := by
  have C__law_ordinal : Cal P w K mg base (d + 1) "_law_ordinal" ["_law_bag_here", "_law_deep"] (fun vs H Q E => 0 < d ∧ spOrd K (d - 1) vs H Q E) f fd := by
    refine ⟨?_, mF, F.kp, bF⟩
    by_cases h0 : 0 < d
    · have G := (C__law_ordinal h0).G
      exact ⟨fun vs H Q E h => G.len vs H Q E h.2, fun A outer s H args us vs Q E a b c e h => G.run A outer s H args us vs Q E a b c e h.2⟩
    · exact ⟨fun vs H Q E h => absurd h.1 h0, fun A outer s H args us vs Q E _ _ _ _ h => absurd h.1 h0⟩
  refine F.ok sc_law_ordinal (fun vs H Q E h => ?_) (fun cdv A outer s H vs Q E hr h => ?_)
  · obtain ⟨_, _, rfl, _⟩ := h; rfl
  obtain ⟨l, b, rfl, hB, q⟩ := h
  refine ⟨_, (pss_cons (ps_if (pt_cmpR op_eq (pv 1) pe_int (nomark _)) (pss_one (ps_ret (pe_call C__law_num.G (hr.mono (by omega)) (by rfl) C__law_num.m C__law_num.kp C__law_num.b .nil pass0 (pa_cons (pe_ix ix_list (pe_lst (pa_cons pe_int (pa_cons pe_int (pa_cons pe_int (pa_cons pe_int (pa_cons (pe_op op_add pe_int (pe_call C__law_pull.G (hr.mono (by omega)) (by rfl) C__law_pull.m C__law_pull.kp C__law_pull.b .nil pass0 (pa_cons (pv 0) (pa_cons (pe_op op_pow pe_int pe_int) pa_nil)))) pa_nil)))))) (pe_call C__law_pull.G (hr.mono (by omega)) (by rfl) C__law_pull.m C__law_pull.kp C__law_pull.b .nil pass0 (pa_cons (pv 0) (pa_cons pe_int pa_nil))) (fun _ _ => rfl)) pa_nil)))) pss_nil)
  (pss_cons (ps_setLc (i := 2) (own := [("_law_k", 5)]) (g := gName 5) (tt := tYes) rfl sc_law_ordinal.nd rfl rfl (sw_true rfl rfl rfl (by decide +kernel)) (pi_range1 (by rfl) T.z_range (pa_cons (pe_call C__law_pull.G (hr.mono (by omega)) (by rfl) C__law_pull.m C__law_pull.kp C__law_pull.b .nil pass0 (pa_cons (pv 0) (pa_cons pe_int pa_nil))) pa_nil)) (blkOk_by (own := [("_law_k", 5)]) (N := ["_law_bag_here", "_law_deep", "_law_some", "_law_found", "_law_power", "_law_k"]) (sc := defScope s_law_ordinal) (by decide +kernel)) (fun _ _ _ _ _ => (pg_name (i := 5) sc_law_ordinal.nd rfl (Or.inl rfl))) (fun _ _ _ _ _ => pts_nil) (fun _ _ _ _ _ => (pe_call C__law_ordinal.G (hr.mono (by omega)) (by rfl) C__law_ordinal.m C__law_ordinal.kp C__law_ordinal.b .nil pass0 (pa_cons (pv 0) (pa_cons (pe_op op_sub (pv 1) pe_int) pa_nil)))))
  (pss_cons (ps_set (i := 3) sc_law_ordinal.nd rfl (Or.inl rfl) (pe_lst pa_nil))
  (pss_cons (ps_for PassesOwn.never rfl (pi_list (pe_callBK (cr_sortedO hr.units) (by rfl) T.z_sorted (by decide +kernel) (pa_cons (pv 2) pa_nil) (pk_cons pe_bl pk_nil))) (pg_name (i := 4) sc_law_ordinal.nd rfl (Or.inl rfl))
   (pss_one (ps_ifBy (PW.pt (pw_or (pt_cmpR (op_eqO hr.units) (pv 3) (pe_lst pa_nil) (nomark _)) (pw_or1 (pt_cmpR (op_ltD hr.units) (pv 4) (pe_ix ix_tup (pe_ix ix_list (pv 3) (pe_un un_neg pe_int) (fun _ _ => rfl)) pe_int (fun _ _ => rfl)) (nomark _))))) (pss_one (ps_expr (pe_bm PySem.F.plainAttrs_list PySem.F.slot_list_append PySem.F.type_list_append mt_append (pv 3) (pa_cons (pe_tup (pa_cons (pv 4) (pa_cons (pe_op op_add pe_int (pe_call C__law_pull.G (hr.mono (by omega)) (by rfl) C__law_pull.m C__law_pull.kp C__law_pull.b .nil pass0 (pa_cons (pv 0) (pa_cons (pe_ix ix_list (pe_lst (pa_cons pe_int (pa_cons pe_int (pa_cons pe_int (pa_cons pe_int (pa_cons (pe_op op_pow pe_int pe_int) pa_nil)))))) (pe_call C__law_pull.G (hr.mono (by omega)) (by rfl) C__law_pull.m C__law_pull.kp C__law_pull.b .nil pass0 (pa_cons (pv 0) (pa_cons pe_int pa_nil))) (fun _ _ => rfl)) pa_nil)))) pa_nil))) pa_nil)))) pss_nil)))
  (pss_one (ps_ret (pe_callTy call_tuple_of (by rfl) T.z_tuple (by decide +kernel) (pa_cons (pv 3) pa_nil)))))))), ?_⟩
  refine ⟨_, rfl, rfl, _, rfl, ?_⟩
  refine ite2 (fun e => ?_) (fun e => ?_)
  · -- a number
    refine ⟨_, rfl, _, _, rfl, rfl, ⟨by decide, by decide, by decide⟩, l, b, _, rfl, (by decide), (by decide), hB, fun r H1 r0 r1 k1 B1 => ?_⟩
    refine ⟨_, _, rfl, rfl, (by show 5 ≤ sizeLine; decide), fun p np => ?_⟩
    have hpb := B1.ne np
    have B2 := B1.same (same_new (o := .lst [.int 0, .int 1, .int 2, .int 3, .int (1 + r)]) np)
    refine ⟨_, rfl, l, b, _, rfl, (by decide), (by decide), B2, fun r2 H2 r20 r21 k2 B3 => ?_⟩
    obtain ⟨v, hv, hat⟩ := atI_ex (xs := [V.int 0, V.int 1, V.int 2, V.int 3, V.int (1 + r)]) r20 r21
    obtain ⟨m, rfl⟩ : ∃ m, v = .int m := by
      have := List.mem_of_getElem? hv
      simp only [List.mem_cons, List.not_mem_nil, or_false] at this
      rcases this with h | h | h | h | h <;> exact ⟨_, h⟩
    refine ⟨p, _, r2, _, rfl, rfl, SqL.of (k2 _ _ hpb upd_same), hat, m, rfl, fun v H3 s3 o3 => ?_⟩
    exact q _ v H3 (O.ok_num m) (Nat.le_trans (O.dp_num m) (by omega)) (Nat.le_trans (O.wd_num m) (by decide)) o3 (((k1.trans (same_kp (same_new np))).trans k2).trans (same_kp s3)) (B3.same s3)
  · have d0 : 0 < d := by
      have : ¬ V.int (d : Int) = V.int 0 := of_decide_eq_false (Bool.eq_false_iff.mpr e)
      rcases Nat.eq_zero_or_pos d with z | z
      · subst z; exact absurd rfl this
      · exact z
    refine ⟨_, rfl, l, b, _, rfl, (by decide), (by decide), hB, fun r H1 r0 r1 k1 B1 => ⟨_, rfl, by omega, by omega, fun D nD => ?_⟩⟩
    have nD0 : H D = none := by
      cases z : H D with
      | none => rfl
      | some o =>
        have := k1 _ _ (B1.ne nD) z
        rw [nD] at this; cases this
    have hDb := B1.ne nD
    have hDl := B1.nl nD
    refine lc_range (lo := 0) (n := r.toNat) (fun i H' => Kp b H H' ∧ Bag l H' b ∧ ∃ xs os, H' D = some (.lst xs) ∧ Paired (OA K H') xs os ∧ xs.length = i ∧ ∀ o ∈ os, O.ok o = true ∧ O.dp o ≤ 2 * d ∧ O.wd o ≤ 3) ⟨kp_mut k1 nD0, B1.mut hDb hDl, [], [], upd_same, .nil, rfl, fun o ho => by cases ho⟩ (fun i H' hi hp => ?_) (fun H' hp => ?_)
    · obtain ⟨k2, B2, xs, os, eD, po, hl, hos⟩ := hp
      refine ⟨rfl, _, rfl, _, rfl, _, _, rfl, rfl, d0, l, b, ?_, B2, fun o v H2 o1 o2 o3 o4 k3 B3 => ?_⟩
      · have : ((d : Int) - 1) = ((d - 1 : Nat) : Int) := by omega
        show [V.ref b, V.int ((d : Int) - 1)] = _
        rw [this]
      · have t3 := B2.tp k3
        have eD3 := k3 _ _ hDb eD
        refine ⟨xs, eD3, Nat.lt_of_lt_of_le (show xs.length < 4 by omega) (by decide), kp_mut (k2.trans k3) nD0, B3.mut hDb hDl, xs ++ [v], os ++ [o], upd_same, ?_, by rw [List.length_append, hl]; rfl, fun o' ho' => ?_⟩
        · exact paired_tp (tp_lst eD3) (paired_app (paired_tp t3 po) (.cons o4 .nil))
        · rcases List.mem_append.mp ho' with h | h
          · exact hos o' h
          · rw [List.mem_singleton.mp h]; exact ⟨o1, by omega, o3⟩
    · obtain ⟨k2, B2, xs, os, eD, po, hl, hos⟩ := hp
      -- found = []
      refine ⟨(by show 0 ≤ sizeLine; decide), fun G nG => ?_⟩
      have hGb := B2.ne nG
      have hGl := B2.nl nG
      have nG0 : H G = none := by
        cases z : H G with
        | none => rfl
        | some o =>
          have := k2 _ _ hGb z
          rw [nG] at this; cases this
      have hGD : D ≠ G := ne_of_none eD nG
      have eD2 : (upd H' G (.lst [])) D = some (.lst xs) := by rw [upd_ne hGD]; exact eD
      -- sorted
      refine ⟨_, rfl, D, xs, os, rfl, rfl, SqL.of eD2, paired_tp (tp_new nG) po, (fun o ho => by have := (hos o ho).2.1; omega), fun ys os' S ps hperm _ nS => ?_⟩
      have hS0 : S ≠ G := fun z => by rw [z, upd_same] at nS; cases nS
      have B3 : Bag l (upd (upd H' G (.lst [])) S (.lst ys)) b := (B2.mut hGb hGl).same (same_new nS)
      have hSb : S ≠ b := (B2.mut (o := .lst []) hGb hGl).ne nS
      refine ⟨S, rfl, ⟨_, SqL.of upd_same⟩, ?_⟩
      have hos' : ∀ o ∈ os', O.ok o = true ∧ O.dp o ≤ 2 * d ∧ O.wd o ≤ 3 := fun o ho => hos o (hperm.mem_iff.mp ho)
      have hyl : ys.length ≤ 3 := by rw [paired_len ps, hperm.length_eq, ← paired_len po, hl]; omega
      refine for_list (xs := ys) (fun i σ H3 => ∃ u, σ = [some (.ref b), some (.int (d : Int)), some (.ref D), some (.ref G), u, none] ∧ Kp b H H3 ∧ Bag l H3 b ∧ H3 S = some (.lst ys) ∧ Paired (OA K H3) ys os' ∧
        ∃ fs ts, H3 G = some (.lst fs) ∧ Paired (TmA K H3) fs ts ∧ fs.length ≤ i ∧ O.ok (O.of ts) = true ∧ ∀ t ∈ ts, O.dp t.1 ≤ 2 * d ∧ O.wd t.1 ≤ 3)
        ⟨none, rfl, kp_mut (kp_mut k2 nG0) (by
          cases z : H S with
          | none => rfl
          | some o =>
            have := kp_mut (o := .lst []) k2 nG0 _ _ hSb z
            rw [nS] at this; cases this), B3, upd_same, paired_tp (tp_new nS) ps, [], [], by rw [upd_ne hS0.symm, upd_same], .nil, Nat.zero_le _, rfl, fun t ht => by cases ht⟩
        (fun i σ H3 _ h => ?_) (fun i x σ H3 hx h => ?_) (fun σ H3 h => ?_)
      · obtain ⟨u, rfl, k3, B4, eS, _⟩ := h
        exact SqL.of eS
      · obtain ⟨u, rfl, k3, B4, eS, py, fs, ts, eG, pt, hfl, hok, hdt⟩ := h
        obtain ⟨o, ho, oa⟩ := paired_get py hx
        have hom := List.mem_of_getElem? ho
        have hi3 : i < 3 := by have := (List.getElem?_eq_some_iff.mp hx).1; omega
        -- the append
        have app : (∀ t, ts.getLast? = some t → O.lt o t.1 = true) → ∀ (H4 : Hp) (r4 : Int) (c : Addr), 0 ≤ r4 → Kp b H3 H4 → Bag l H4 b → H4 c = none → ∃ u', [some (V.ref b), some (V.int (d : Int)), some (V.ref D), some (V.ref G), some x, none] = [some (V.ref b), some (V.int (d : Int)), some (V.ref D), some (V.ref G), u', none] ∧ Kp b H (upd (upd H4 c (.tup [x, .int (1 + r4)])) G (.lst (fs ++ [.ref c]))) ∧ Bag l (upd (upd H4 c (.tup [x, .int (1 + r4)])) G (.lst (fs ++ [.ref c]))) b ∧ (upd (upd H4 c (.tup [x, .int (1 + r4)])) G (.lst (fs ++ [.ref c]))) S = some (.lst ys) ∧ Paired (OA K (upd (upd H4 c (.tup [x, .int (1 + r4)])) G (.lst (fs ++ [.ref c])))) ys os' ∧
            ∃ fs' ts', (upd (upd H4 c (.tup [x, .int (1 + r4)])) G (.lst (fs ++ [.ref c]))) G = some (.lst fs') ∧ Paired (TmA K (upd (upd H4 c (.tup [x, .int (1 + r4)])) G (.lst (fs ++ [.ref c])))) fs' ts' ∧ fs'.length ≤ i + 1 ∧ O.ok (O.of ts') = true ∧ ∀ t ∈ ts', O.dp t.1 ≤ 2 * d ∧ O.wd t.1 ≤ 3 := by
          intro hlast H4 r4 c hr4 k4 B5 nc
          have hcb := B5.ne nc
          have eG4 := k4 _ _ hGb eG
          have eS4 := k4 _ _ hSb eS
          have hGc : G ≠ c := ne_of_none eG4 nc
          have hSc : S ≠ c := ne_of_none eS4 nc
          have tA : Tp H3 H4 := B4.tp k4
          have tB := tp_new (o := .tup [x, .int (1 + r4)]) nc
          have eG5 : (upd H4 c (.tup [x, .int (1 + r4)])) G = some (.lst fs) := by rw [upd_ne hGc]; exact eG4
          have tC := tp_lst (o := .lst (fs ++ [.ref c])) eG5
          have oa4 := (oa.tp tA).tp tB
          obtain ⟨xa, rfl⟩ := oa.ref
          refine ⟨_, rfl, kp_mut (k3.trans (k4.trans (same_kp (same_new nc)))) nG0, (B5.same (same_new nc)).mut hGb hGl, by rw [upd_ne hS0, upd_ne hSc]; exact eS4, paired_tp tC (paired_tp tB (paired_tp tA py)), fs ++ [.ref c], ts ++ [(o, 1 + r4)], upd_same, ?_, by rw [List.length_append]; show fs.length + 1 ≤ i + 1; omega, O.ok_snoc ts o _ hok (hos' o hom).1 (by omega) hlast, fun t ht => ?_⟩
          · exact terms_tp tC (paired_app (terms_tp tB (terms_tp tA pt)) (.cons (TmA.new oa4 upd_same) .nil))
          · rcases List.mem_append.mp ht with h | h
            · exact hdt t h
            · rw [List.mem_singleton.mp h]; exact (hos' o hom).2
        have stay : ∀ {H4 : Hp}, Same H3 H4 → ∃ u', [some (V.ref b), some (V.int (d : Int)), some (V.ref D), some (V.ref G), some x, none] = [some (V.ref b), some (V.int (d : Int)), some (V.ref D), some (V.ref G), u', none] ∧ Kp b H H4 ∧ Bag l H4 b ∧ H4 S = some (.lst ys) ∧ Paired (OA K H4) ys os' ∧ ∃ fs' ts', H4 G = some (.lst fs') ∧ Paired (TmA K H4) fs' ts' ∧ fs'.length ≤ i + 1 ∧ O.ok (O.of ts') = true ∧ ∀ t ∈ ts', O.dp t.1 ≤ 2 * d ∧ O.wd t.1 ≤ 3 := fun s4 =>
          ⟨_, rfl, k3.trans (same_kp s4), B4.same s4, s4 _ _ eS, paired_tp (same_tp s4) py, fs, ts, s4 _ _ eG, terms_tp (same_tp s4) pt, by omega, hok, hdt⟩
        refine ⟨fun H4 => Same H3 H4 ∧ ∀ t, ts.getLast? = some t → O.lt o t.1 = true, fun H4 => Same H3 H4, ?_, fun H4 hA => ?_, fun H4 hB4 => ?_⟩
        · -- the test
          refine ⟨_, rfl, (by show 0 ≤ sizeLine; decide), fun E0 nE => rd_eqNil (x := .non) (y := .non) (SqL.of (same_new nE _ _ eG)) (terms_tp (tp_new nE) pt) (SqL.of upd_same) (fun t ht => by have := (hdt t ht).1; omega) ⟨_, rfl, ?_⟩⟩
          have s0 := same_new (o := .lst []) nE
          refine ite2 (fun e1 => ?_) (fun e1 => ?_)
          · refine iteT ⟨s0, fun t ht => ?_⟩
            have : ts = [] := List.isEmpty_iff.mp e1
            rw [this] at ht; cases ht
          · obtain ⟨t, ht⟩ : ∃ t, ts.getLast? = some t := by
              cases z : ts.getLast? with
              | some t => exact ⟨t, rfl⟩
              | none => exact absurd (List.isEmpty_iff.mpr (List.getLast?_eq_none_iff.mp z)) e1
            have htm := List.mem_of_getLast? ht
            obtain ⟨v, hv, vt⟩ : ∃ v, fs.getLast? = some v ∧ TmA K H3 v t := by
              rw [List.getLast?_eq_getElem?] at ht
              obtain ⟨v, h1, h2⟩ := paired_get' pt ht
              rw [← paired_len pt] at h1
              exact ⟨v, by rw [List.getLast?_eq_getElem?]; exact h1, h2⟩
            obtain ⟨pv1, qv1, rfl, g1, g2⟩ := vt
            have hat : atI fs (-1) = some (.ref pv1) := by
              have hn : fs ≠ [] := fun z => by rw [z] at hv; cases hv
              have : fs = fs.dropLast ++ [.ref pv1] := by
                rw [List.getLast?_eq_some_getLast hn] at hv
                have := Option.some.inj hv
                rw [← this, List.dropLast_concat_getLast]
              rw [this]; exact atI_last _ _
            refine ⟨_, rfl, _, rfl, _, rfl, G, fs, -1, _, rfl, rfl, SqL.of (s0 _ _ eG), hat, pv1, _, 0, _, rfl, rfl, (g1.tp (same_tp s0)).sq, rfl, rd_lt (oa.tp (same_tp s0)) (g2.tp (same_tp s0)) (by have := (hos' o hom).2.1; omega) ⟨_, rfl, ?_⟩⟩
            refine ite2 (fun e2 => ⟨s0, fun t' ht' => ?_⟩) (fun e2 => s0)
            rw [ht] at ht'
            cases ht'
            exact e2
        · obtain ⟨s4, hlast⟩ := hA
          have eG4 := s4 _ _ eG
          refine ⟨_, rfl, .inl ⟨rfl, _, SqL.of eG4⟩, _, rfl, _, rfl, _, _, rfl, rfl, ⟨by decide, by decide, by decide⟩, (by show 5 ≤ sizeLine; decide), fun p np => ?_⟩
          have B5 := B4.same s4
          have hpb := B5.ne np
          have s5 := s4.trans (same_new (o := .lst [.int 1, .int 2, .int 2, .int 9, .int (10 ^ Int.toNat 12)]) np)
          refine ⟨_, rfl, l, b, _, rfl, (by decide), (by decide), B4.same s5, fun r2 H6 r20 r21 k6 B6 => ?_⟩
          obtain ⟨v, hv, hat⟩ := atI_ex (xs := [V.int 1, V.int 2, V.int 2, V.int 9, V.int (10 ^ Int.toNat 12)]) r20 r21
          obtain ⟨m, rfl, m1, m2⟩ : ∃ m : Int, v = .int m ∧ 1 ≤ m ∧ m < 2 ^ 100 := by
            have := List.mem_of_getElem? hv
            simp only [List.mem_cons, List.not_mem_nil, or_false] at this
            rcases this with h | h | h | h | h <;> exact ⟨_, h, by decide, by decide⟩
          refine ⟨p, _, r2, _, rfl, rfl, SqL.of (k6 _ _ hpb upd_same), hat, l, b, m, rfl, m1, m2, B6, fun r4 H7 r40 _ k7 B7 => ?_⟩
          refine ⟨_, _, rfl, rfl, (by show 2 ≤ sizeLine; decide), fun c nc => ?_⟩
          have kk : Kp b H3 H7 := ((same_kp s5).trans k6).trans k7
          refine ⟨G, fs, _, rfl, rfl, ?_, Nat.lt_of_lt_of_le (show fs.length < 4 by omega) (by decide), app hlast H7 r4 c r40 kk B7 nc⟩
          rw [upd_ne (ne_of_none (kk _ _ hGb eG) nc)]
          exact kk _ _ hGb eG
        · exact stay hB4
      · obtain ⟨u, rfl, k3, B4, eS, py, fs, ts, eG, pt, hfl, hok, hdt⟩ := h
        refine ⟨_, rfl, G, fs, rfl, .inl ⟨SqL.of eG, fun v nv => ?_⟩⟩
        have tv := tp_new (o := .tup fs) nv
        refine q (O.of ts) _ _ hok (O.dp_of ts _ fun t ht => by have := (hdt t ht).1; omega) ?_ (OA.of (.of upd_same) (terms_tp tv pt)) (k3.trans (same_kp (same_new nv))) (B4.same (same_new nv))
        exact O.wd_of ts 3 (by rw [← paired_len pt]; omega) fun t ht => (hdt t ht).2
end
end Vw

set_option Elab.async false
set_option linter.all false
set_option maxRecDepth 100000
set_option maxHeartbeats 4000000
namespace Vw
open PySem PySem.W PyProof.Rows L2
abbrev splus : Stmt := top 14
theorem scplus : FnScope ["one", "other", "exponent", "count", "greater", "equal", "term"] ["one", "other"] (defScope splus) := ⟨rfl, rfl, rfl, by decide +kernel, rfl, by decide +kernel, by decide +kernel⟩
section
variable {P : Program} {w : World} {K : PySem.W.Frag} {mg : Str → Option Value} {base : Heap}
theorem ok_plus  {aZERO : Addr} {aONE : Addr} {aVowError : Addr} {aInvalidLevels : Addr} {aInvalidStair : Addr} {aInvalidRow : Addr} {aLevelsDiffer : Addr} {aMeaning : Addr} {f_Meaning_init : Addr} {p_Meaning_always : Addr} {f_Meaning_always : Addr} {p_Meaning_never : Addr} {f_Meaning_never : Addr} {p_Meaning_levels : Addr} {f_Meaning_levels : Addr} {f_Meaning_stair : Addr} {f_Meaning_least : Addr} {f_Meaning_lies_in : Addr} {f_Meaning_add : Addr} {f_Meaning_mul : Addr} {f_Meaning_neg : Addr} {f_Meaning_contains : Addr} {f_Meaning_bool : Addr} {f_Meaning_eq : Addr} {f_Meaning_repr : Addr} (T : Txt K mg  aZERO aONE aVowError aInvalidLevels aInvalidStair aInvalidRow aLevelsDiffer aMeaning f_Meaning_init p_Meaning_always f_Meaning_always p_Meaning_never f_Meaning_never p_Meaning_levels f_Meaning_levels f_Meaning_stair f_Meaning_least f_Meaning_lies_in f_Meaning_add f_Meaning_mul f_Meaning_neg f_Meaning_contains f_Meaning_bool f_Meaning_eq f_Meaning_repr) {f : Addr} {fd : FuncData} {k : Nat} (F : Fun K "plus" "plus" splus f fd) : FnOk P w K mg base CX0 (k + 1) f fd ["one", "other"] (spPlus K) := by
  refine F.ok scplus (fun vs H Q E h => ?_) (fun cdv A outer s H vs Q E hr h => ?_)
  · obtain ⟨_, _, _, _, rfl, _⟩ := h; rfl
  obtain ⟨x, y, a, b, rfl, hx, hy, hok, da, db, la, lb, q⟩ := h
  refine ⟨_, (pss_cons (ps_if (pt_cmpR (op_eqO hr.units) (pv 1) (pe_glob (v := .ref aZERO) (by rfl) T.m_ZERO rfl) (nomark _)) (pss_one (ps_ret (pv 0))) pss_nil)
  (pss_cons (ps_asg (pe_ix ix_tup (pv 1) pe_int (fun _ _ => rfl)) (pg_tup (by rfl) (pgs_cons (pg_name (i := 2) scplus.nd rfl (Or.inr rfl)) (pgs_cons (pg_name (i := 3) scplus.nd rfl (Or.inl rfl)) pgs_nil))))
  (pss_cons (ps_set (i := 4) scplus.nd rfl (Or.inl rfl) (pe_callTy call_tuple_of (by rfl) T.z_tuple (by decide +kernel) (pa_cons (pe_lc (own := [("term", 6)]) (g := gName 6) rfl scplus.nd (pi_tup (pv 0)) (blkOk_by (own := [("term", 6)]) (N := ["one", "other", "exponent", "count", "greater", "equal", "term"]) (sc := defScope splus) (by decide +kernel)) (fun _ _ _ _ _ => (pg_name (i := 6) scplus.nd rfl (Or.inl rfl))) (fun _ _ _ _ _ => (pts_one (pt_cmpR (r := rCmp (fun d e => dataLt e d) K) (op_gtD hr.units) (pe_ix (r := rIxT K) ix_tup (pv 6) pe_int (fun _ _ => rfl)) (pv 2) (nomark _)))) (fun _ _ _ _ _ => (pv 6))) pa_nil)))
  (pss_cons (ps_setLc (i := 5) (own := [("term", 6)]) (g := gName 6) rfl scplus.nd rfl rfl (sw_true rfl rfl rfl (by decide +kernel)) (pi_tup (pv 0)) (blkOk_by (own := [("term", 6)]) (N := ["one", "other", "exponent", "count", "greater", "equal", "term"]) (sc := defScope splus) (by decide +kernel)) (fun _ _ _ _ _ => (pg_name (i := 6) scplus.nd rfl (Or.inl rfl))) (fun _ _ _ _ _ => (pts_one (pt_cmpR (r := rEqO K) (op_eqO hr.units) (pe_ix (r := rIxT K) ix_tup (pv 6) pe_int (fun _ _ => rfl)) (pv 2) (nomark _)))) (fun _ _ _ _ _ => (pe_ix (r := rIxT K) ix_tup (pv 6) pe_int (fun _ _ => rfl))))
  (pss_one (ps_ret (pe_op op_catO (pe_op op_catO (pv 4) (pe_tup (pa_cons (pe_tup (pa_cons (pv 2) (pa_cons (pe_op op_add (pe_callB (cr_sum rfl) (by rfl) T.z_sum (by decide +kernel) (pa_cons (pv 5) pa_nil)) (pv 3)) pa_nil))) pa_nil))) (pe_slice sl_tupO (pv 1) (po_some pe_int) po_none)))))))), ?_⟩
  have hZ : OA K H (.ref aZERO) .z := OA.nil (.inr T.t_ZERO)
  refine ⟨_, rfl, rd_eq hy hZ (by omega) (by decide) ⟨_, rfl, ?_⟩⟩
  refine ite2 (fun e => ?_) (fun e => ?_)
  · have hb : b = .z := of_decide_eq_true e
    exact ⟨_, rfl, q x H (Same.refl H) (by rw [hb, O.sum_z]; exact hx)⟩
  have hb : b ≠ .z := of_decide_eq_false (Bool.eq_false_iff.mpr e)
  rw [← O.plusP_sum a b hok] at q
  cases b with
  | z => exact absurd rfl hb
  | add e1 c r =>
  clear e hb
  obtain ⟨ay, ys, rfl, ty, hys⟩ := hy
  obtain ⟨p, pe, ws, vr, rfl, tp1, tw, hws, hvr⟩ := hys
  have hE : OA K H (.ref pe) e1 := ⟨pe, ws, rfl, tw, hws⟩
  have de : O.dp e1 ≤ 50 := by have : O.dp e1 + 2 ≤ max (O.dp e1 + 2) (O.dp r) := Nat.le_max_left _ _; have h2 : max (O.dp e1 + 2) (O.dp r) ≤ 50 := db; omega
  obtain ⟨ax, rfl⟩ := hx.ref
  obtain ⟨xs, tx, px⟩ := hx.tt
  have lx : xs.length ≤ 4000000 := by rw [paired_len px]; exact la
  refine ⟨_, rfl, ay, _, 0, _, rfl, rfl, ty.sq, atI_nat (j := 0) rfl, p, _, rfl, tp1.sq, rfl, _, _, rfl, _, _, rfl, rfl, ?_⟩
  -- greater
  refine ⟨_, rfl, ax, rfl, ⟨_, tx.sq⟩, fun D nD => ?_⟩
  refine lc_tup (K := K) (a := ax) (xs := xs) (fun i H' => Same H H' ∧ ∃ acc, H' D = some (.lst acc) ∧ acc.length ≤ i ∧ Paired (TmA K H) acc (((O.ts a).take i).filter fun t => O.lt e1 t.1)) ⟨same_new nD, [], upd_same, Nat.le_refl _, .nil⟩ (fun i H' _ h => (tx.same h.1).sq) (fun i v H' hv h => ?_) (fun H' h => ?_)
  · obtain ⟨sm, acc, eD, hl, pa⟩ := h
    obtain ⟨t, ht, p1, q1, rfl, t1, o1⟩ := paired_get px hv
    have hi : i < 4000000 := by have := (List.getElem?_eq_some_iff.mp hv).1; omega
    have dt := O.dp_mem (List.mem_of_getElem? ht)
    refine ⟨rfl, _, rfl, p1, _, 0, _, rfl, rfl, (t1.same sm).sq, rfl, _, rfl, rd_gt (o1.same sm) (hE.same sm) (by omega) ⟨_, rfl, ?_⟩⟩
    refine ite2 (fun e => ?_) (fun e => ?_)
    · refine ⟨_, rfl, acc, eD, small40k (by omega), same_mut sm nD, _, upd_same, by rw [List.length_append]; show acc.length + 1 ≤ i + 1; omega, ?_⟩
      rw [take_filter _ _ _ _ ht, if_pos e]
      exact paired_app pa (.cons ⟨p1, q1, rfl, t1, o1⟩ .nil)
    · refine ⟨sm, acc, eD, by omega, ?_⟩
      rw [take_filter _ _ _ _ ht, if_neg e, List.append_nil]
      exact pa
  obtain ⟨s1, gs, eD, gl, pg⟩ := h
  rw [paired_len px, List.take_length] at pg
  refine ⟨D, gs, rfl, .inl ⟨SqL.of eD, fun g ng => ?_⟩⟩
  have s2 := s1.trans (same_new (o := .tup gs) ng)
  -- equal
  refine ⟨_, rfl, ax, rfl, ⟨_, (tx.same s2).sq⟩, fun D2 nD2 => ?_⟩
  have tg : TT K (upd H' g (.tup gs)) g gs := .of upd_same
  generalize hH2 : upd H' g (.tup gs) = H2 at s2 nD2 tg
  refine lc_tup (K := K) (a := ax) (xs := xs) (fun i H' => Same H2 H' ∧ H' D2 = some (.lst ((((O.ts a).take i).filter fun t => decide (t.1 = e1)).map fun t => V.int t.2))) ⟨same_new nD2, upd_same⟩ (fun i H' _ h => (tx.same (s2.trans h.1)).sq) (fun i v H' hv h => ?_) (fun H3 h => ?_)
  · obtain ⟨sm, eD2⟩ := h
    obtain ⟨t, ht, p1, q1, rfl, t1, o1⟩ := paired_get px hv
    have hi : i < 4000000 := by have := (List.getElem?_eq_some_iff.mp hv).1; omega
    have dt := O.dp_mem (List.mem_of_getElem? ht)
    have sm2 := s2.trans sm
    refine ⟨rfl, _, rfl, p1, _, 0, _, rfl, rfl, (t1.same sm2).sq, rfl, _, rfl, rd_eq (o1.same sm2) (hE.same sm2) (by omega) (by omega) ⟨_, rfl, ?_⟩⟩
    have hlen : ((((O.ts a).take i).filter fun t => decide (t.1 = e1)).map fun t => V.int t.2).length ≤ i := by
      rw [List.length_map]
      refine Nat.le_trans (List.length_filter_le _ _) ?_
      rw [List.length_take]; omega
    refine ite2 (fun e => ?_) (fun e => ?_)
    · refine ⟨_, rfl, p1, _, 1, _, rfl, rfl, (t1.same sm2).sq, rfl, _, eD2, small40k (by omega), same_mut sm nD2, ?_⟩
      rw [take_filter _ _ _ _ ht, if_pos e, List.map_append, upd_same]
      rfl
    · refine ⟨sm, ?_⟩
      rw [take_filter _ _ _ _ ht, if_neg e, List.append_nil]
      exact eD2
  obtain ⟨s3, eD2⟩ := h
  rw [paired_len px, List.take_length] at eD2
  -- the end
  have hmap : ((O.ts a).filter fun t => decide (t.1 = e1)).map (fun t => V.int t.2) = (((O.ts a).filter fun t => decide (t.1 = e1)).map fun t => t.2).map V.int := by rw [List.map_map]; rfl
  rw [hmap] at eD2
  refine ⟨_, rfl, _, rfl, _, rfl, D2, _, rfl, SqL.of eD2, _, rfl, _, _, rfl, rfl, (by show 2 ≤ sizeLine; decide), fun p1 n1 => ⟨(by show 1 ≤ sizeLine; decide), fun p2 n2 => ?_⟩⟩
  have s4 := same_new (o := .tup [.ref pe, .int ((((O.ts a).filter fun t => decide (t.1 = e1)).map fun t => t.2).sum + c)]) n1
  have s5 := s4.trans (same_new (o := .tup [.ref p1]) n2)
  have sH : Same H _ := (s2.trans s3).trans s5
  have tg5 := tg.same (s3.trans s5)
  have gl2 : gs.length ≤ 4000000 := by omega
  have tm : TmA K (upd H3 p1 (.tup [.ref pe, .int ((((O.ts a).filter fun t => decide (t.1 = e1)).map fun t => t.2).sum + c)])) (.ref p1) (e1, ((((O.ts a).filter fun t => decide (t.1 = e1)).map fun t => t.2).sum + c)) := TmA.new ((hE.same (s2.trans s3)).same s4) upd_same
  refine rd_cat tg5 (.of upd_same) (by show gs.length + 1 ≤ 10000000; omega) fun p3 H5 s6 t3 => ?_
  have ty6 := (ty.same sH).same s6
  refine ⟨_, rfl, 1, rfl, rd_from 1 ty6 fun p4 H6 s7 t4 => ?_⟩
  have hvl : vr.length ≤ 4000000 := by
    have := paired_len (TsA.pair hvr)
    have : (O.ts (.add e1 c r)).length = (O.ts r).length + 1 := rfl
    omega
  refine rd_cat (t3.same s7) t4 (by rw [List.length_append]; show gs.length + 1 + vr.length ≤ 10000000; omega) fun p5 H7 s8 t5 => ?_
  refine q _ H7 (((sH.trans s6).trans s7).trans s8) ?_
  have sAll := (s6.trans s7).trans s8
  show OA K H7 (.ref p5) (O.of ((O.ts a).filter (fun t => O.lt e1 t.1) ++ (e1, _) :: O.ts r))
  refine OA.of t5 ?_
  rw [List.append_assoc]
  refine paired_app (terms_same pg (sH.trans sAll)) ?_
  exact .cons ((tm.same (same_new n2)).same sAll) (terms_same (TsA.pair hvr) (sH.trans sAll))
end
end Vw

set_option Elab.async false
set_option linter.all false
set_option maxRecDepth 100000
set_option maxHeartbeats 4000000
namespace Vw
open PySem PySem.W PyProof.Rows L2
section
variable {P : Program} {w : World} {K : PySem.W.Frag} {mg : Str → Option Value} {base : Heap}
abbrev somega_power : Stmt := top 13
theorem scomega_power : FnScope ["exponent", "times"] ["exponent", "times"] (defScope somega_power) := ⟨rfl, rfl, rfl, by decide +kernel, rfl, by decide +kernel, by decide +kernel⟩
theorem ok_power  {aZERO : Addr} {aONE : Addr} {aVowError : Addr} {aInvalidLevels : Addr} {aInvalidStair : Addr} {aInvalidRow : Addr} {aLevelsDiffer : Addr} {aMeaning : Addr} {f_Meaning_init : Addr} {p_Meaning_always : Addr} {f_Meaning_always : Addr} {p_Meaning_never : Addr} {f_Meaning_never : Addr} {p_Meaning_levels : Addr} {f_Meaning_levels : Addr} {f_Meaning_stair : Addr} {f_Meaning_least : Addr} {f_Meaning_lies_in : Addr} {f_Meaning_add : Addr} {f_Meaning_mul : Addr} {f_Meaning_neg : Addr} {f_Meaning_contains : Addr} {f_Meaning_bool : Addr} {f_Meaning_eq : Addr} {f_Meaning_repr : Addr} (T : Txt K mg  aZERO aONE aVowError aInvalidLevels aInvalidStair aInvalidRow aLevelsDiffer aMeaning f_Meaning_init p_Meaning_always f_Meaning_always p_Meaning_never f_Meaning_never p_Meaning_levels f_Meaning_levels f_Meaning_stair f_Meaning_least f_Meaning_lies_in f_Meaning_add f_Meaning_mul f_Meaning_neg f_Meaning_contains f_Meaning_bool f_Meaning_eq f_Meaning_repr) {f : Addr} {fd : FuncData} {k : Nat} (F : FunD K "omega_power" "omega_power" (defArgs somega_power) (defBody somega_power) (defScope somega_power) [] [("times", .int 1)] f fd) : FnOk P w K mg base CX0 (k + 1) f fd ["exponent", "times"] (spPow K) := by
  refine F.ok scomega_power (fun vs H Q E h => ?_) (fun cdv A outer s H vs Q E hr h => ?_)
  · obtain ⟨_, _, _, rfl, _⟩ := h; rfl
  obtain ⟨x, e, n, rfl, hx, q⟩ := h
  refine ⟨_, (pss_cons (ps_if (pt_cmpR op_eq (pv 1) pe_int (nomark _)) (pss_one (ps_ret (pe_glob (v := .ref aZERO) (by rfl) T.m_ZERO rfl))) pss_nil)
  (pss_one (ps_ret (pe_tup (pa_cons (pe_tup (pa_cons (pv 0) (pa_cons (pv 1) pa_nil))) pa_nil))))), ?_⟩
  refine ⟨_, rfl, rfl, _, rfl, ?_⟩
  refine ite2 (fun e1 => ?_) (fun e1 => ?_)
  · have hn : n = 0 := V.int.inj (of_decide_eq_true e1)
    subst hn
    exact q _ H (Same.refl H) (OA.nil (.inr T.t_ZERO))
  · have hn : n ≠ 0 := fun z => by subst z; exact e1 (decide_eq_true rfl)
    obtain ⟨xa, rfl⟩ := hx.ref
    refine ⟨_, rfl, _, rfl, (by show 2 ≤ sizeLine; decide), fun p1 n1 => ⟨(by show 1 ≤ sizeLine; decide), fun p2 n2 => ?_⟩⟩
    have s1 := same_new (o := .tup [.ref xa, .int n]) n1
    have s2 := same_new (o := .tup [.ref p1]) n2
    refine q _ _ (s1.trans s2) ?_
    unfold O.pwN
    rw [if_neg hn]
    exact OA.of (l := [(e, n)]) (.of upd_same) (.cons ((TmA.new (hx.same s1) upd_same).same s2) .nil)
theorem power_binds {f : Addr} {fd : FuncData} (F : FunD K "omega_power" "omega_power" (defArgs somega_power) (defBody somega_power) (defScope somega_power) [] [("times", .int 1)] f fd) : ∃ ds, Vals [.int 1] ds ∧ Binds K fd ["exponent", "times"] ds :=
  F.binds0 1 (by simp) rfl fun D doc pm an cdv ct us ks h1 h2 => by
    match us, ks, h1, h2 with
    | [u], [t], _, _ => exact ⟨_, _, _, _, _, _, rfl, rfl, rfl⟩
abbrev sraised : Stmt := top 17
theorem scraised : FnScope ["ordinal", "end"] ["ordinal", "end"] (defScope sraised) := ⟨rfl, rfl, rfl, by decide +kernel, rfl, by decide +kernel, by decide +kernel⟩
theorem ok_raised  {aZERO : Addr} {aONE : Addr} {aVowError : Addr} {aInvalidLevels : Addr} {aInvalidStair : Addr} {aInvalidRow : Addr} {aLevelsDiffer : Addr} {aMeaning : Addr} {f_Meaning_init : Addr} {p_Meaning_always : Addr} {f_Meaning_always : Addr} {p_Meaning_never : Addr} {f_Meaning_never : Addr} {p_Meaning_levels : Addr} {f_Meaning_levels : Addr} {f_Meaning_stair : Addr} {f_Meaning_least : Addr} {f_Meaning_lies_in : Addr} {f_Meaning_add : Addr} {f_Meaning_mul : Addr} {f_Meaning_neg : Addr} {f_Meaning_contains : Addr} {f_Meaning_bool : Addr} {f_Meaning_eq : Addr} {f_Meaning_repr : Addr} (T : Txt K mg  aZERO aONE aVowError aInvalidLevels aInvalidStair aInvalidRow aLevelsDiffer aMeaning f_Meaning_init p_Meaning_always f_Meaning_always p_Meaning_never f_Meaning_never p_Meaning_levels f_Meaning_levels f_Meaning_stair f_Meaning_least f_Meaning_lies_in f_Meaning_add f_Meaning_mul f_Meaning_neg f_Meaning_contains f_Meaning_bool f_Meaning_eq f_Meaning_repr) {f f1 f2 f3 : Addr} {fd fd1 fd2 fd3 : FuncData} {ds : List Value} (F : Fun K "raised" "raised" sraised f fd) (C_plus : Cal P w K mg base 1 "plus" ["one", "other"] (spPlus K) f1 fd1)
    (C_end_of : Cal P w K mg base 1 "end_of" ["ordinal"] (spO1 K endO) f2 fd2) (G3 : FnOk P w K mg base CX0 1 f3 fd3 ["exponent", "times"] (spPow K)) (m3 : mg "omega_power" = some (.ref f3)) (k3 : PySem.W.keepIn K (.ref f3) = true) (hD_omega_power : Vals [.int 1] ds) (bD_omega_power : Binds K fd3 ["exponent", "times"] ds) :
    FnOk P w K mg base CX0 2 f fd ["ordinal", "end"] (spO2 K O.raisedO) := by
  have C_omega_power : (FnOk P w K mg base CX0 1 f3 fd3 ["exponent", "times"] (spPow K)) ∧ True := ⟨G3, trivial⟩
  refine F.ok scraised (fun vs H Q E h => ?_) (fun cdv A outer s H vs Q E hr h => ?_)
  · obtain ⟨_, _, _, _, rfl, _⟩ := h; rfl
  obtain ⟨x, y, a, b, rfl, hx, hy, ha, hb, da, db, la, lb, q⟩ := h
  refine ⟨_, (pss_cons (ps_if (pt_cmpR (op_geD hr.units) (pe_call C_end_of.G (hr.mono (by omega)) (by rfl) C_end_of.m C_end_of.kp C_end_of.b .nil pass0 (pa_cons (pv 0) pa_nil)) (pv 1) (nomark _)) (pss_one (ps_ret (pv 0))) pss_nil)
  (pss_one (ps_ret (pe_call C_plus.G (hr.mono (by omega)) (by rfl) C_plus.m C_plus.kp C_plus.b .nil pass0 (pa_cons (pv 0) (pa_cons (pe_call G3 (hr.mono (by omega)) (by rfl) m3 k3 bD_omega_power hD_omega_power pass0 (pa_cons (pv 1) pa_nil)) pa_nil)))))), ?_⟩
  have de := O.dp_end a
  refine ⟨_, rfl, _, a, rfl, hx, ha, by omega, by omega, fun v H1 s1 o1 => ⟨_, rfl, rd_ge o1 (hy.same s1) (by omega) ⟨_, rfl, ?_⟩⟩⟩
  have q : ∀ (v : V) (H' : Hp), Same H H' → OA K H' v (if O.lt (endO a) b = true then O.sum a (O.pw b) else a) → Q v H' := q
  cases h : O.lt (endO a) b with
  | false =>
    rw [h, if_neg Bool.false_ne_true] at q
    exact iteT ⟨_, rfl, q _ H1 s1 (hx.same s1)⟩
  | true =>
    rw [h, if_pos rfl] at q
    refine iteF ⟨_, rfl, _, rfl, _, b, 1, rfl, hy.same s1, fun v2 H2 s2 o2 => ?_⟩
    exact ⟨_, _, a, O.pw b, rfl, hx.same (s1.trans s2), o2, ha, by omega, by show max (O.dp b + 2) 0 ≤ 50; omega, by omega, by show 1 ≤ 4000000; decide, fun v3 H3 s3 o3 => q v3 H3 ((s1.trans s2).trans s3) o3⟩
end
end Vw

set_option Elab.async false
set_option linter.all false
set_option maxRecDepth 100000
set_option maxHeartbeats 4000000
namespace Vw
open PySem PySem.W PyProof.Rows L2
section
variable {P : Program} {w : World} {K : PySem.W.Frag} {mg : Str → Option Value} {base : Heap}
abbrev ssuccessor : Stmt := top 15
theorem scsuccessor : FnScope ["ordinal"] ["ordinal"] (defScope ssuccessor) := ⟨rfl, rfl, rfl, by decide +kernel, rfl, by decide +kernel, by decide +kernel⟩
theorem ok_successor  {aZERO : Addr} {aONE : Addr} {aVowError : Addr} {aInvalidLevels : Addr} {aInvalidStair : Addr} {aInvalidRow : Addr} {aLevelsDiffer : Addr} {aMeaning : Addr} {f_Meaning_init : Addr} {p_Meaning_always : Addr} {f_Meaning_always : Addr} {p_Meaning_never : Addr} {f_Meaning_never : Addr} {p_Meaning_levels : Addr} {f_Meaning_levels : Addr} {f_Meaning_stair : Addr} {f_Meaning_least : Addr} {f_Meaning_lies_in : Addr} {f_Meaning_add : Addr} {f_Meaning_mul : Addr} {f_Meaning_neg : Addr} {f_Meaning_contains : Addr} {f_Meaning_bool : Addr} {f_Meaning_eq : Addr} {f_Meaning_repr : Addr} (T : Txt K mg  aZERO aONE aVowError aInvalidLevels aInvalidStair aInvalidRow aLevelsDiffer aMeaning f_Meaning_init p_Meaning_always f_Meaning_always p_Meaning_never f_Meaning_never p_Meaning_levels f_Meaning_levels f_Meaning_stair f_Meaning_least f_Meaning_lies_in f_Meaning_add f_Meaning_mul f_Meaning_neg f_Meaning_contains f_Meaning_bool f_Meaning_eq f_Meaning_repr) {f f1 : Addr} {fd fd1 : FuncData} (F : Fun K "successor" "successor" ssuccessor f fd) (C_plus : Cal P w K mg base 1 "plus" ["one", "other"] (spPlus K) f1 fd1) : FnOk P w K mg base CX0 2 f fd ["ordinal"] (spO1 K fun a => O.sum a O.one) := by
  refine F.ok scsuccessor (fun vs H Q E h => ?_) (fun cdv A outer s H vs Q E hr h => ?_)
  · obtain ⟨_, _, rfl, _⟩ := h; rfl
  obtain ⟨x, a, rfl, hx, hok, da, la, q⟩ := h
  refine ⟨_, (pss_one (ps_ret (pe_call C_plus.G (hr.mono (by omega)) (by rfl) C_plus.m C_plus.kp C_plus.b .nil pass0 (pa_cons (pv 0) (pa_cons (pe_glob (v := .ref aONE) (by rfl) T.m_ONE rfl) pa_nil))))), ?_⟩
  refine ⟨_, rfl, x, .ref aONE, a, O.one, rfl, hx, T.t_ONE.tp (fun a xs h => by cases h), hok, da, by decide, la, by decide, q⟩
abbrev send_of : Stmt := top 16
theorem scend_of : FnScope ["ordinal"] ["ordinal"] (defScope send_of) := ⟨rfl, rfl, rfl, by decide +kernel, rfl, by decide +kernel, by decide +kernel⟩
theorem ok_end_of  {aZERO : Addr} {aONE : Addr} {aVowError : Addr} {aInvalidLevels : Addr} {aInvalidStair : Addr} {aInvalidRow : Addr} {aLevelsDiffer : Addr} {aMeaning : Addr} {f_Meaning_init : Addr} {p_Meaning_always : Addr} {f_Meaning_always : Addr} {p_Meaning_never : Addr} {f_Meaning_never : Addr} {p_Meaning_levels : Addr} {f_Meaning_levels : Addr} {f_Meaning_stair : Addr} {f_Meaning_least : Addr} {f_Meaning_lies_in : Addr} {f_Meaning_add : Addr} {f_Meaning_mul : Addr} {f_Meaning_neg : Addr} {f_Meaning_contains : Addr} {f_Meaning_bool : Addr} {f_Meaning_eq : Addr} {f_Meaning_repr : Addr} (T : Txt K mg  aZERO aONE aVowError aInvalidLevels aInvalidStair aInvalidRow aLevelsDiffer aMeaning f_Meaning_init p_Meaning_always f_Meaning_always p_Meaning_never f_Meaning_never p_Meaning_levels f_Meaning_levels f_Meaning_stair f_Meaning_least f_Meaning_lies_in f_Meaning_add f_Meaning_mul f_Meaning_neg f_Meaning_contains f_Meaning_bool f_Meaning_eq f_Meaning_repr) {f : Addr} {fd : FuncData} {k : Nat} (F : Fun K "end_of" "end_of" send_of f fd) : FnOk P w K mg base CX0 (k + 1) f fd ["ordinal"] (spO1 K endO) := by
  refine F.ok scend_of (fun vs H Q E h => ?_) (fun cdv A outer s H vs Q E hr h => ?_)
  · obtain ⟨_, _, rfl, _⟩ := h; rfl
  obtain ⟨x, a, rfl, hx, hok, da, la, q⟩ := h
  refine ⟨_, (pss_cons (ps_if (pt_cmpR (op_eqO hr.units) (pv 0) (pe_glob (v := .ref aZERO) (by rfl) T.m_ZERO rfl) (nomark _)) (pss_one (ps_ret (pe_glob (v := .ref aZERO) (by rfl) T.m_ZERO rfl))) pss_nil)
  (pss_one (ps_ret (pe_ix ix_tup (pe_ix ix_tup (pv 0) (pe_un un_neg pe_int) (fun _ _ => rfl)) pe_int (fun _ _ => rfl))))), ?_⟩
  have hZ : OA K H (.ref aZERO) .z := OA.nil (.inr T.t_ZERO)
  refine ⟨_, rfl, rd_eq hx hZ (by omega) (by decide) ⟨_, rfl, ?_⟩⟩
  refine ite2 (fun e => ?_) (fun e => ?_)
  · have ha : a = .z := of_decide_eq_true e
    subst ha
    exact q _ H (Same.refl H) hZ
  · have ha : a ≠ .z := of_decide_eq_false (Bool.eq_false_iff.mpr e)
    obtain ⟨t, ht⟩ := last_ex ha
    obtain ⟨ax, rfl⟩ := hx.ref
    obtain ⟨xs, tx, px⟩ := hx.tt
    obtain ⟨p, q1, h1, h2, h3, _⟩ := last_term px ht
    refine ⟨_, rfl, _, rfl, ax, xs, -1, _, rfl, rfl, tx.sq, h1, p, _, 0, _, rfl, rfl, h2.sq, rfl, ?_⟩
    exact q _ H (Same.refl H) (by rw [endO_last ht]; exact h3)
end
end Vw

set_option Elab.async false
set_option linter.all false
set_option maxRecDepth 100000
set_option maxHeartbeats 4000000
namespace Vw
open PySem PySem.W PyProof.Rows L2
section
variable {P : Program} {w : World} {K : PySem.W.Frag} {mg : Str → Option Value} {base : Heap}
abbrev s_is_count : Stmt := top 12
theorem sc_is_count : FnScope ["value"] ["value"] (defScope s_is_count) := ⟨rfl, rfl, rfl, by decide +kernel, rfl, by decide +kernel, by decide +kernel⟩
abbrev s_is_term : Stmt := top 11
theorem sc_is_term : FnScope ["value", "exponent", "count"] ["value"] (defScope s_is_term) := ⟨rfl, rfl, rfl, by decide +kernel, rfl, by decide +kernel, by decide +kernel⟩
abbrev sis_ordinal : Stmt := top 10
theorem scis_ordinal : FnScope ["value", "at", "term"] ["value"] (defScope sis_ordinal) := ⟨rfl, rfl, rfl, by decide +kernel, rfl, by decide +kernel, by decide +kernel⟩
theorem ok_cnt  {aZERO : Addr} {aONE : Addr} {aVowError : Addr} {aInvalidLevels : Addr} {aInvalidStair : Addr} {aInvalidRow : Addr} {aLevelsDiffer : Addr} {aMeaning : Addr} {f_Meaning_init : Addr} {p_Meaning_always : Addr} {f_Meaning_always : Addr} {p_Meaning_never : Addr} {f_Meaning_never : Addr} {p_Meaning_levels : Addr} {f_Meaning_levels : Addr} {f_Meaning_stair : Addr} {f_Meaning_least : Addr} {f_Meaning_lies_in : Addr} {f_Meaning_add : Addr} {f_Meaning_mul : Addr} {f_Meaning_neg : Addr} {f_Meaning_contains : Addr} {f_Meaning_bool : Addr} {f_Meaning_eq : Addr} {f_Meaning_repr : Addr} (T : Txt K mg  aZERO aONE aVowError aInvalidLevels aInvalidStair aInvalidRow aLevelsDiffer aMeaning f_Meaning_init p_Meaning_always f_Meaning_always p_Meaning_never f_Meaning_never p_Meaning_levels f_Meaning_levels f_Meaning_stair f_Meaning_least f_Meaning_lies_in f_Meaning_add f_Meaning_mul f_Meaning_neg f_Meaning_contains f_Meaning_bool f_Meaning_eq f_Meaning_repr) {f : Addr} {fd : FuncData} {k : Nat} (F : Fun K "_is_count" "_is_count" s_is_count f fd) : FnOk P w K mg base CX0 (k + 1) f fd ["value"] (spCnt K) := by
  refine F.ok sc_is_count (fun vs H Q E h => ?_) (fun cdv A outer s H vs Q E hr h => ?_)
  · obtain ⟨_, _, rfl, _⟩ := h; rfl
  obtain ⟨x, d, rfl, hx, q⟩ := h
  refine ⟨_, (pss_one (ps_ret (pe_and (pe_callB call_isD (by rfl) T.z_isinstance (by decide +kernel) (pa_cons (pv 0) (pa_cons (pe_bltn (v := .ty "int") (u := .type "int") (by rfl) T.z_int (by decide +kernel) rfl) pa_nil))) (pe_and (pe_not (pe_callB call_isD (by rfl) T.z_isinstance (by decide +kernel) (pa_cons (pv 0) (pa_cons (pe_bltn (v := .ty "bool") (u := .type "bool") (by rfl) T.z_bool (by decide +kernel) rfl) pa_nil)))) (pe_one (pe_cmpR op_ge (pv 0) pe_int (nomark _))))))), ?_⟩
  have q := q H (Same.refl H)
  refine ⟨_, rfl, rd_int hx ⟨_, rfl, ?_⟩⟩
  cases d with
  | int n =>
    cases hx
    exact iteT ⟨_, rfl, rd_bool (.int n) ⟨_, rfl, _, rfl, iteT ⟨_, rfl, _, _, rfl, rfl, q⟩⟩⟩
  | bool b =>
    cases hx
    exact iteT ⟨_, rfl, rd_bool (.bl b) ⟨_, rfl, _, rfl, iteF q⟩⟩
  | none => exact iteF q
  | str s => exact iteF q
  | list l => exact iteF q
  | tuple l => exact iteF q
  | dict kv => exact absurd rfl (dp_nodict hx kv)
theorem ok_term  {aZERO : Addr} {aONE : Addr} {aVowError : Addr} {aInvalidLevels : Addr} {aInvalidStair : Addr} {aInvalidRow : Addr} {aLevelsDiffer : Addr} {aMeaning : Addr} {f_Meaning_init : Addr} {p_Meaning_always : Addr} {f_Meaning_always : Addr} {p_Meaning_never : Addr} {f_Meaning_never : Addr} {p_Meaning_levels : Addr} {f_Meaning_levels : Addr} {f_Meaning_stair : Addr} {f_Meaning_least : Addr} {f_Meaning_lies_in : Addr} {f_Meaning_add : Addr} {f_Meaning_mul : Addr} {f_Meaning_neg : Addr} {f_Meaning_contains : Addr} {f_Meaning_bool : Addr} {f_Meaning_eq : Addr} {f_Meaning_repr : Addr} (T : Txt K mg  aZERO aONE aVowError aInvalidLevels aInvalidStair aInvalidRow aLevelsDiffer aMeaning f_Meaning_init p_Meaning_always f_Meaning_always p_Meaning_never f_Meaning_never p_Meaning_levels f_Meaning_levels f_Meaning_stair f_Meaning_least f_Meaning_lies_in f_Meaning_add f_Meaning_mul f_Meaning_neg f_Meaning_contains f_Meaning_bool f_Meaning_eq f_Meaning_repr) {f f1 f2 : Addr} {fd fd1 fd2 : FuncData} {n : Nat} (F : Fun K "_is_term" "_is_term" s_is_term f fd) (C__is_count : Cal P w K mg base 1 "_is_count" ["value"] (spCnt K) f1 fd1)
    (C_is_ordinal : Cal P w K mg base (2 * n + 1) "is_ordinal" ["value"] (spIsOrd K n) f2 fd2) : FnOk P w K mg base CX0 (2 * n + 2) f fd ["value"] (spIsTerm K (n + 1)) := by
  refine F.ok sc_is_term (fun vs H Q E h => ?_) (fun cdv A outer s H vs Q E hr h => ?_)
  · obtain ⟨_, _, rfl, _⟩ := h; rfl
  obtain ⟨x, d, rfl, hx, hd, q⟩ := h
  refine ⟨_, (pss_cons (ps_if (PW.pt (pw_or (pt_not (pt_val (pe_callB call_isD (by rfl) T.z_isinstance (by decide +kernel) (pa_cons (pv 0) (pa_cons (pe_bltn (v := .ty "tuple") (u := .type "tuple") (by rfl) T.z_tuple (by decide +kernel) rfl) pa_nil))))) (pw_or1 (pt_cmpR op_ne (pe_callB call_lenB (by rfl) T.z_len (by decide +kernel) (pa_cons (pv 0) pa_nil)) pe_int (nomark _))))) (pss_one (ps_ret pe_bl)) pss_nil)
  (pss_cons (ps_asg (pv 0) (pg_tup (by rfl) (pgs_cons (pg_name (i := 1) sc_is_term.nd rfl (Or.inl rfl)) (pgs_cons (pg_name (i := 2) sc_is_term.nd rfl (Or.inl rfl)) pgs_nil))))
  (pss_one (ps_ret (pe_and (pe_call C__is_count.G (hr.mono (by omega)) (by rfl) C__is_count.m C__is_count.kp C__is_count.b .nil pass0 (pa_cons (pv 2) pa_nil)) (pe_one (pe_call C_is_ordinal.G (hr.mono (by omega)) (by rfl) C_is_ordinal.m C_is_ordinal.kp C_is_ordinal.b .nil pass0 (pa_cons (pv 1) pa_nil)))))))), ?_⟩
  refine ⟨_, rfl, rd_tuple hx ⟨_, rfl, ?_⟩⟩
  have no : (∀ a b, d ≠ .tuple [a, b]) → Q (.bl false) H := fun h => by rw [← isTerm_other h]; exact q H (Same.refl H)
  cases d with
  | tuple ds =>
    obtain ⟨p, xs, rfl, h1, h2⟩ := dp_tup hx
    have hl := dpall_len h2
    refine iteF ⟨_, rfl, rd_len (.inr h1) fun _ => ⟨rfl, _, rfl, ?_⟩⟩
    refine ite2 (fun e => ?_) (fun e => ?_)
    · refine no fun a b z => ?_
      have z' := PyData.tuple.inj z
      subst z'
      rw [show xs.length = 2 from hl] at e
      exact absurd e (by decide)
    · have e' : (xs.length : Int) = 2 := by
        have : (!decide (V.int (xs.length : Nat) = V.int 2)) = false := Bool.eq_false_iff.mpr e
        have : V.int (xs.length : Nat) = V.int 2 := by simpa using this
        exact V.int.inj this
      match ds, xs, hl, h1, h2, e' with
      | [a, b], [u, v], _, h1, .cons g1 (.cons g2 .nil), _ =>
        refine ⟨_, rfl, p, _, rfl, h1, rfl, u, _, rfl, v, _, rfl, rfl, ?_⟩
        refine ⟨_, rfl, v, b, rfl, g2, fun H1 s1 => ⟨_, rfl, ?_⟩⟩
        rw [isTerm_two] at q
        have hda : a.depth < n := by simp only [PyData.depth, PyData.depthAll] at hd; omega
        cases hb : isCntB b with
        | false =>
          rw [hb] at q
          exact iteF (q H1 s1)
        | true =>
          rw [hb] at q
          exact iteT ⟨_, rfl, u, a, rfl, dp_same s1 g1, hda, fun H2 s2 => q H2 (s1.trans s2)⟩
      | [], [], _, _, _, h => exact absurd h (by decide)
      | [_], [_], _, _, _, h => exact absurd h (by show ¬ ((1 : Nat) : Int) = 2; decide)
      | _ :: _ :: _ :: r, _ :: _ :: _ :: r', _, _, _, h => exact absurd h (by simp only [List.length_cons]; omega)
  | none => exact iteT (no fun a b z => by cases z)
  | bool _ => exact iteT (no fun a b z => by cases z)
  | int _ => exact iteT (no fun a b z => by cases z)
  | str _ => exact iteT (no fun a b z => by cases z)
  | list _ => exact iteT (no fun a b z => by cases z)
  | dict kv => exact absurd rfl (dp_nodict hx kv)
theorem ok_isord  {aZERO : Addr} {aONE : Addr} {aVowError : Addr} {aInvalidLevels : Addr} {aInvalidStair : Addr} {aInvalidRow : Addr} {aLevelsDiffer : Addr} {aMeaning : Addr} {f_Meaning_init : Addr} {p_Meaning_always : Addr} {f_Meaning_always : Addr} {p_Meaning_never : Addr} {f_Meaning_never : Addr} {p_Meaning_levels : Addr} {f_Meaning_levels : Addr} {f_Meaning_stair : Addr} {f_Meaning_least : Addr} {f_Meaning_lies_in : Addr} {f_Meaning_add : Addr} {f_Meaning_mul : Addr} {f_Meaning_neg : Addr} {f_Meaning_contains : Addr} {f_Meaning_bool : Addr} {f_Meaning_eq : Addr} {f_Meaning_repr : Addr} (T : Txt K mg  aZERO aONE aVowError aInvalidLevels aInvalidStair aInvalidRow aLevelsDiffer aMeaning f_Meaning_init p_Meaning_always f_Meaning_always p_Meaning_never f_Meaning_never p_Meaning_levels f_Meaning_levels f_Meaning_stair f_Meaning_least f_Meaning_lies_in f_Meaning_add f_Meaning_mul f_Meaning_neg f_Meaning_contains f_Meaning_bool f_Meaning_eq f_Meaning_repr) {f f1 : Addr} {fd fd1 : FuncData} {n : Nat} (hn : n ≤ 60) (F : Fun K "is_ordinal" "is_ordinal" sis_ordinal f fd) (C__is_term : Cal P w K mg base (2 * n + 2) "_is_term" ["value"] (spIsTerm K (n + 1)) f1 fd1) :
    FnOk P w K mg base CX0 (2 * n + 3) f fd ["value"] (spIsOrd K (n + 1)) := by
  refine F.ok scis_ordinal (fun vs H Q E h => ?_) (fun cdv A outer s H vs Q E hr h => ?_)
  · obtain ⟨_, _, rfl, _⟩ := h; rfl
  obtain ⟨x, d, rfl, hx, hd, q⟩ := h
  refine ⟨_, (pss_cons (ps_if (pt_not (pt_val (pe_callB call_isD (by rfl) T.z_isinstance (by decide +kernel) (pa_cons (pv 0) (pa_cons (pe_bltn (v := .ty "tuple") (u := .type "tuple") (by rfl) T.z_tuple (by decide +kernel) rfl) pa_nil))))) (pss_one (ps_ret pe_bl)) pss_nil)
  (pss_cons (ps_for PassesOwn.never rfl (pi_enumT (by rfl) T.z_enumerate (pa_cons (pv 0) pa_nil)) (pg_tup (by rfl) (pgs_cons (pg_name (i := 1) scis_ordinal.nd rfl (Or.inl rfl)) (pgs_cons (pg_name (i := 2) scis_ordinal.nd rfl (Or.inl rfl)) pgs_nil)))
   (pss_cons (ps_if (pt_not (pt_val (pe_call C__is_term.G (hr.mono (by omega)) (by rfl) C__is_term.m C__is_term.kp C__is_term.b .nil pass0 (pa_cons (pv 2) pa_nil)))) (pss_one (ps_ret pe_bl)) pss_nil)
  (pss_one (ps_if (PW.pt (pw_and (pt_cmpR op_gt (pv 1) pe_int (nomark _)) (pw_and1 (pt_cmpR (op_geD hr.units) (pe_ix ix_tup (pv 2) pe_int (fun _ _ => rfl)) (pe_ix ix_tup (pe_ix ix_tup (pv 0) (pe_op op_sub (pv 1) pe_int) (fun _ _ => rfl)) pe_int (fun _ _ => rfl)) (nomark _))))) (pss_one (ps_ret pe_bl)) pss_nil))))
  (pss_one (ps_ret pe_bl)))), ?_⟩
  refine ⟨_, rfl, rd_tuple hx ⟨_, rfl, ?_⟩⟩
  have no : (∀ ds, d ≠ .tuple ds) → Q (.bl false) H := fun h => by rw [← isOrd_other h]; exact q H (Same.refl H)
  cases d with
  | none => exact iteT (no fun a z => by cases z)
  | bool _ => exact iteT (no fun a z => by cases z)
  | int _ => exact iteT (no fun a z => by cases z)
  | str _ => exact iteT (no fun a z => by cases z)
  | list _ => exact iteT (no fun a z => by cases z)
  | dict kv => exact absurd rfl (dp_nodict hx kv)
  | tuple ds =>
    obtain ⟨p, xs, rfl, h1, h2⟩ := dp_tup hx
    have hl := dpall_len h2
    have hds : PyData.depthAll ds < n := by simp only [PyData.depth] at hd; omega
    refine iteF ⟨_, rfl, p, xs, rfl, h1, ?_⟩
    refine for_enumT (xs := xs) (fun i σ H' => ∃ u v, σ = [some (.ref p), u, v] ∧ Same H H' ∧ ∃ l, Pref ds l i) ⟨_, _, rfl, Same.refl H, [], pref_nil ds⟩ (fun i σ H' _ h => ?_) (fun i x2 C σ H' hx2 h nC => ?_) (fun σ H' h => ?_)
    · obtain ⟨_, _, _, s1, _⟩ := h
      exact same_sqt s1 h1
    · obtain ⟨u, v, rfl, s1, l, hp⟩ := h
      obtain ⟨dt, hdt, gx⟩ := dpall_get h2 hx2
      have hdd := depth_get hdt
      have s2 := s1.trans (same_new (o := .tup [.int (i : Nat), x2]) nC)
      refine ⟨C, _, rfl, SqT.of upd_same, rfl, _, _, rfl, _, _, rfl, rfl, ?_⟩
      refine ⟨_, rfl, x2, dt, rfl, dp_same s2 gx, by omega, fun H3 s3 => ⟨_, rfl, ?_⟩⟩
      have s4 := s2.trans s3
      cases ht : isTermB dt with
      | false =>
        refine iteT ?_
        have := q H3 s4
        rw [bad_term hdt (isTerm_no ht)] at this
        exact this
      | true =>
        refine iteF ⟨_, rfl, _, _, rfl, rfl, _, rfl, ?_⟩
        obtain ⟨e, c, rfl, he, hc⟩ := isTerm_of ht
        refine ite2 (fun e1 => ?_) (fun e1 => ?_)
        · have hi : 0 < i := by have := of_decide_eq_true e1; omega
          obtain ⟨j, rfl⟩ : ∃ j, i = j + 1 := ⟨i - 1, by omega⟩
          obtain ⟨t, tl, td⟩ := pref_last hp
          obtain ⟨x3, hx3⟩ : ∃ x3, xs[j]? = some x3 := by
            have : j + 1 < xs.length := (List.getElem?_eq_some_iff.mp hx2).1
            exact ⟨_, List.getElem?_eq_getElem (show j < xs.length by omega)⟩
          obtain ⟨dt3, hdt3, gx3⟩ := dpall_get h2 hx3
          rw [td] at hdt3
          obtain rfl := Option.some.inj hdt3
          obtain ⟨p2, u2, v2, rfl, a1, a2, a3⟩ := dp_two (dp_same s4 gx)
          obtain ⟨p3, u3, v3, rfl, b1, b2, b3⟩ := dp_two (dp_same s4 gx3)
          have hj : ((j + 1 : Nat) : Int) - 1 = ((j : Nat) : Int) := by omega
          refine ⟨_, rfl, p2, _, 0, _, rfl, rfl, a1, rfl, _, rfl, _, rfl, _, _, rfl, rfl, p, xs, _, _, rfl, rfl, same_sqt s4 h1, (by rw [hj]; exact atI_nat hx3), p3, _, 0, _, rfl, rfl, b1, rfl, ?_⟩
          refine rd_geD a2 b2 (by rw [depth_tD] at hdd; omega) ⟨_, rfl, ?_⟩
          refine ite2 (fun e2 => ?_) (fun e2 => ?_)
          · have := q H3 s4
            have e3 : O.lt e t.1 = false := by simpa using e2
            rw [bad_order td hdt e3] at this
            exact this
          · have e3 : O.lt e t.1 = true := by simpa using e2
            exact ⟨_, _, rfl, s4, _, pref_step hp hdt he hc fun t' h' => by rw [tl] at h'; cases h'; exact e3⟩
        · have hi : i = 0 := by
            have : ¬ (0 : Int) < (i : Nat) := of_decide_eq_false (Bool.eq_false_iff.mpr e1)
            omega
          subst hi
          have : l = [] := List.length_eq_zero_iff.mp hp.2.2
          subst this
          exact ⟨_, _, rfl, s4, _, pref_step hp hdt he hc fun t' h' => by cases h'⟩
    · obtain ⟨u, v, rfl, s1, l, hp⟩ := h
      have := q H' s1
      rw [hl] at hp
      rw [pref_end hp] at this
      exact this
theorem isord_all  {aZERO : Addr} {aONE : Addr} {aVowError : Addr} {aInvalidLevels : Addr} {aInvalidStair : Addr} {aInvalidRow : Addr} {aLevelsDiffer : Addr} {aMeaning : Addr} {f_Meaning_init : Addr} {p_Meaning_always : Addr} {f_Meaning_always : Addr} {p_Meaning_never : Addr} {f_Meaning_never : Addr} {p_Meaning_levels : Addr} {f_Meaning_levels : Addr} {f_Meaning_stair : Addr} {f_Meaning_least : Addr} {f_Meaning_lies_in : Addr} {f_Meaning_add : Addr} {f_Meaning_mul : Addr} {f_Meaning_neg : Addr} {f_Meaning_contains : Addr} {f_Meaning_bool : Addr} {f_Meaning_eq : Addr} {f_Meaning_repr : Addr} (T : Txt K mg  aZERO aONE aVowError aInvalidLevels aInvalidStair aInvalidRow aLevelsDiffer aMeaning f_Meaning_init p_Meaning_always f_Meaning_always p_Meaning_never f_Meaning_never p_Meaning_levels f_Meaning_levels f_Meaning_stair f_Meaning_least f_Meaning_lies_in f_Meaning_add f_Meaning_mul f_Meaning_neg f_Meaning_contains f_Meaning_bool f_Meaning_eq f_Meaning_repr) {f f1 f2 : Addr} {fd fd1 fd2 : FuncData} (F : Fun K "is_ordinal" "is_ordinal" sis_ordinal f fd) (b : Binds K fd ["value"] []) (m : mg "is_ordinal" = some (.ref f))
    (F1 : Fun K "_is_term" "_is_term" s_is_term f1 fd1) (b1 : Binds K fd1 ["value"] []) (m1 : mg "_is_term" = some (.ref f1)) (C2 : Cal P w K mg base 1 "_is_count" ["value"] (spCnt K) f2 fd2) :
    ∀ n, n ≤ 60 → FnOk P w K mg base CX0 (2 * n + 1) f fd ["value"] (spIsOrd K n)
  | 0, _ => fn_mono (none_left fun vs H Q E h => by
      obtain ⟨_, _, _, _, h, _⟩ := h
      exact absurd h (Nat.not_lt_zero _)) (Nat.zero_le _)
  | n + 1, h => ok_isord T (by omega) F ⟨ok_term T F1 C2 ⟨isord_all T F b m F1 b1 m1 C2 n (by omega), m, F.kp, b⟩, m1, F1.kp, b1⟩
end
end Vw

set_option Elab.async false
set_option linter.all false
set_option maxRecDepth 100000
set_option maxHeartbeats 4000000
namespace Vw
open PySem PySem.W PyProof.Rows L2
section
variable {P : Program} {w : World} {K : PySem.W.Frag} {mg : Str → Option Value} {base : Heap}
end
end Vw

set_option Elab.async false
set_option linter.all false
set_option maxRecDepth 100000
set_option maxHeartbeats 4000000
namespace Vw
open PySem PySem.W PyProof.Rows L2
def spLaw (K : PySem.W.Frag) : Sp := fun vs H Q _ => ∃ (a : Addr) (ns : List Int), vs = [.ref a] ∧ SqL K H a (ns.map V.int) ∧ ns.length ≤ 63 ∧ ∀ H', Q (.bl true) H'
theorem KO.at {K : PySem.W.Frag} {a : Addr} {o : O} (h : KO K a o) (H : Hp) : OA K H (.ref a) o := h.tp (fun a xs h => by cases h)
section
variable {K : PySem.W.Frag}
theorem lst2 {H : Hp} {D : Addr} {x y : V} {a b : O} (h : H D = some (.lst [x, y])) (hx : OA K H x a) (hy : OA K H y b) : Dp K H (.ref D) (.list [O.toD a, O.toD b]) := .lst (SqL.of h) (.cons hx.dp (.cons hy.dp .nil))
theorem depth2 {a b : O} (h1 : O.dp a ≤ 40) (h2 : O.dp b ≤ 40) : (PyData.list [O.toD a, O.toD b]).depth < 60 := by
  simp only [PyData.depth, PyData.depthAll, O.depth_toD]; omega
/-- a drawn ordinal -/
theorem use_ordW {l b : Addr} {r : Int} {H3 : Hp} {Q' : VK} (r0 : 0 ≤ r) (r1 : r < 4) (B : Bag l H3 b) (h : ∀ (o : O) (v : V) (H' : Hp), O.ok o = true → O.dp o ≤ 8 → O.wd o ≤ 3 → OA K H' v o → Kp b H3 H' → Bag l H' b → Q' v H') : spOrdTo K 10 [.ref b, .int r] H3 Q' E0 :=
  ⟨r.toNat, by omega, l, b, by rw [Int.toNat_of_nonneg r0], B, fun o v H' h1 h2 h3 h4 h5 h6 => h o v H' h1 (by omega) h3 h4 h5 h6⟩
theorem use_ord {l b : Addr} {r : Int} {H3 : Hp} {Q' : VK} (r0 : 0 ≤ r) (r1 : r < 4) (B : Bag l H3 b) (h : ∀ (o : O) (v : V) (H' : Hp), O.ok o = true → O.dp o ≤ 8 → (O.ts o).length ≤ 3 → OA K H' v o → Kp b H3 H' → Bag l H' b → Q' v H') : spOrdTo K 10 [.ref b, .int r] H3 Q' E0 :=
  ⟨r.toNat, by omega, l, b, by rw [Int.toNat_of_nonneg r0], B, fun o v H' h1 h2 h3 h4 h5 h6 => h o v H' h1 (by omega) (Nat.le_trans (O.len_wd o) h3) h4 h5 h6⟩
theorem use_plus {x y : O} {H : Hp} {Q' : VK} {u v : V} (h1 : OA K H u x) (h2 : OA K H v y) (h3 : O.ok x = true) (h4 : O.dp x ≤ 40) (h5 : O.dp y ≤ 40) (h6 : (O.ts x).length ≤ 100) (h7 : (O.ts y).length ≤ 100) (h8 : ∀ (v : V) (H' : Hp), Same H H' → OA K H' v (O.sum x y) → Q' v H') : spPlus K [u, v] H Q' E0 :=
  ⟨u, v, x, y, rfl, h1, h2, h3, by omega, by omega, by omega, by omega, h8⟩
end
section
variable {P : Program} {w : World} {K : PySem.W.Frag} {mg : Str → Option Value} {base : Heap}
theorem ord_all  {aZERO : Addr} {aONE : Addr} {aVowError : Addr} {aInvalidLevels : Addr} {aInvalidStair : Addr} {aInvalidRow : Addr} {aLevelsDiffer : Addr} {aMeaning : Addr} {f_Meaning_init : Addr} {p_Meaning_always : Addr} {f_Meaning_always : Addr} {p_Meaning_never : Addr} {f_Meaning_never : Addr} {p_Meaning_levels : Addr} {f_Meaning_levels : Addr} {f_Meaning_stair : Addr} {f_Meaning_least : Addr} {f_Meaning_lies_in : Addr} {f_Meaning_add : Addr} {f_Meaning_mul : Addr} {f_Meaning_neg : Addr} {f_Meaning_contains : Addr} {f_Meaning_bool : Addr} {f_Meaning_eq : Addr} {f_Meaning_repr : Addr} (T : Txt K mg  aZERO aONE aVowError aInvalidLevels aInvalidStair aInvalidRow aLevelsDiffer aMeaning f_Meaning_init p_Meaning_always f_Meaning_always p_Meaning_never f_Meaning_never p_Meaning_levels f_Meaning_levels f_Meaning_stair f_Meaning_least f_Meaning_lies_in f_Meaning_add f_Meaning_mul f_Meaning_neg f_Meaning_contains f_Meaning_bool f_Meaning_eq f_Meaning_repr) {f f1 f2 : Addr} {fd fd1 fd2 : FuncData} (F : Fun K "_law_ordinal" "_law_ordinal" s_law_ordinal f fd)
    (bF : Binds K fd ["_law_bag_here", "_law_deep"] []) (mF : mg "_law_ordinal" = some (.ref f)) (C1 : Cal P w K mg base 1 "_law_pull" ["_law_bag_here", "_law_sides"] spPull f1 fd1)
    (C2 : Cal P w K mg base 1 "_law_num" ["_law_many_z"] (spNum K) f2 fd2) : ∀ d : Nat, d ≤ 10 → FnOk P w K mg base CX0 (d + 2) f fd ["_law_bag_here", "_law_deep"] (spOrd K d)
  | 0, h => ok_ordinal T h F (fun z => absurd z (by decide)) bF mF C1 C2
  | d + 1, h => ok_ordinal T h F (fun _ => ⟨ord_all T F bF mF C1 C2 d (by omega), mF, F.kp, bF⟩) bF mF C1 C2
theorem same_all  {aZERO : Addr} {aONE : Addr} {aVowError : Addr} {aInvalidLevels : Addr} {aInvalidStair : Addr} {aInvalidRow : Addr} {aLevelsDiffer : Addr} {aMeaning : Addr} {f_Meaning_init : Addr} {p_Meaning_always : Addr} {f_Meaning_always : Addr} {p_Meaning_never : Addr} {f_Meaning_never : Addr} {p_Meaning_levels : Addr} {f_Meaning_levels : Addr} {f_Meaning_stair : Addr} {f_Meaning_least : Addr} {f_Meaning_lies_in : Addr} {f_Meaning_add : Addr} {f_Meaning_mul : Addr} {f_Meaning_neg : Addr} {f_Meaning_contains : Addr} {f_Meaning_bool : Addr} {f_Meaning_eq : Addr} {f_Meaning_repr : Addr} (T : Txt K mg  aZERO aONE aVowError aInvalidLevels aInvalidStair aInvalidRow aLevelsDiffer aMeaning f_Meaning_init p_Meaning_always f_Meaning_always p_Meaning_never f_Meaning_never p_Meaning_levels f_Meaning_levels f_Meaning_stair f_Meaning_least f_Meaning_lies_in f_Meaning_add f_Meaning_mul f_Meaning_neg f_Meaning_contains f_Meaning_bool f_Meaning_eq f_Meaning_repr) {f : Addr} {fd : FuncData} (F : Fun K "_law_same" "_law_same" s_law_same f fd) (bF : Binds K fd ["_law_found", "_law_due"] []) (mF : mg "_law_same" = some (.ref f)) :
    ∀ n : Nat, FnOk P w K mg base CX0 n f fd ["_law_found", "_law_due"] (spSame K n)
  | 0 => none_left fun vs H Q E h => by
    obtain ⟨_, _, _, _, _, _, h, _⟩ := h
    exact absurd h (Nat.not_lt_zero _)
  | n + 1 => ok_same T F ⟨same_all T F bF mF n, mF, F.kp, bF⟩
theorem one_mk {K : PySem.W.Frag} {aONE p1 q1 : Addr} {tk1 : Tok} {o1 o2 o3 : Option Addr} {n1 n2 n3 : Nat} {sl1 sl2 sl3 : Array (Option Value)} (lo1 : K.lookup aONE = some ⟨.type "tuple", o1, .seq #[.ref p1] n1, sl1⟩) (lo2 : K.lookup p1 = some ⟨.type "tuple", o2, .seq #[.ref q1, .int 1 tk1] n2, sl2⟩) (lo3 : K.lookup q1 = some ⟨.type "tuple", o3, .seq #[] n3, sl3⟩) : KO K aONE O.one :=
  ⟨aONE, [.ref p1], rfl, .inr ⟨_, _, _, lo1, rfl, rfl, by show 1 ≤ sizeLine; decide, .cons rfl .nil⟩, p1, q1, [], [], rfl, .inr ⟨_, _, _, lo2, rfl, rfl, by show 2 ≤ sizeLine; decide, .cons rfl (.cons ⟨_, rfl⟩ .nil)⟩, .inr ⟨_, _, _, lo3, rfl, rfl, by show 0 ≤ sizeLine; decide, .nil⟩, rfl, rfl⟩
end
end Vw

set_option Elab.async false
set_option linter.all false
set_option maxRecDepth 100000
set_option maxHeartbeats 4000000
namespace Vw
open PySem PySem.W PyProof.Rows L2
section
variable {P : Program} {w : World} {K : PySem.W.Frag} {mg : Str → Option Value} {base : Heap}
theorem drop_get {α : Type} {l : List α} {i : Nat} {t : α} (h : l[i]? = some t) : l.drop i = t :: l.drop (i + 1) := by
  obtain ⟨hi, e⟩ := List.getElem?_eq_some_iff.mp h
  rw [List.drop_eq_getElem_cons hi, e]
theorem take_get {α : Type} {xs : List α} {i : Nat} {c : α} (h : xs[i]? = some c) : xs.take (i + 1) = xs.take i ++ [c] := by
  rw [List.take_succ, h]; rfl
abbrev sinner_at : Stmt := top 30
theorem scinner_at : FnScope ["stair", "ordinal", "found", "begin", "inner"] ["stair", "ordinal"] (defScope sinner_at) := ⟨rfl, rfl, rfl, by decide +kernel, rfl, by decide +kernel, by decide +kernel⟩
theorem ok_inner_atW  {aZERO : Addr} {aONE : Addr} {aVowError : Addr} {aInvalidLevels : Addr} {aInvalidStair : Addr} {aInvalidRow : Addr} {aLevelsDiffer : Addr} {aMeaning : Addr} {f_Meaning_init : Addr} {p_Meaning_always : Addr} {f_Meaning_always : Addr} {p_Meaning_never : Addr} {f_Meaning_never : Addr} {p_Meaning_levels : Addr} {f_Meaning_levels : Addr} {f_Meaning_stair : Addr} {f_Meaning_least : Addr} {f_Meaning_lies_in : Addr} {f_Meaning_add : Addr} {f_Meaning_mul : Addr} {f_Meaning_neg : Addr} {f_Meaning_contains : Addr} {f_Meaning_bool : Addr} {f_Meaning_eq : Addr} {f_Meaning_repr : Addr} (T : Txt K mg  aZERO aONE aVowError aInvalidLevels aInvalidStair aInvalidRow aLevelsDiffer aMeaning f_Meaning_init p_Meaning_always f_Meaning_always p_Meaning_never f_Meaning_never p_Meaning_levels f_Meaning_levels f_Meaning_stair f_Meaning_least f_Meaning_lies_in f_Meaning_add f_Meaning_mul f_Meaning_neg f_Meaning_contains f_Meaning_bool f_Meaning_eq f_Meaning_repr) {f : Addr} {fd : FuncData} {k : Nat} (F : Fun K "inner_at" "inner_at" sinner_at f fd) : FnOk P w K mg base CX0 (k + 1) f fd ["stair", "ordinal"] (spPickW K) := by
  refine F.ok scinner_at (fun vs H Q E h => ?_) (fun cdv A outer s H vs Q E hr h => ?_)
  · obtain ⟨_, _, _, _, _, rfl, _⟩ := h; rfl
  obtain ⟨v, x, n, l, o, rfl, hv, ok, okb, hx, hd, q⟩ := h
  obtain ⟨a, xs, rfl, tt, pp⟩ := hv.un
  refine ⟨_, (pss_cons (ps_set (i := 2) scinner_at.nd rfl (Or.inl rfl) (pe_ix ix_tup (pe_ix ix_tup (pv 0) pe_int (fun _ _ => rfl)) pe_int (fun _ _ => rfl)))
  (pss_cons (ps_for PassesOwn.never rfl (pi_tup (pv 0)) (pg_tup (by rfl) (pgs_cons (pg_name (i := 3) scinner_at.nd rfl (Or.inl rfl)) (pgs_cons (pg_name (i := 4) scinner_at.nd rfl (Or.inl rfl)) pgs_nil)))
   (pss_cons (ps_if (pt_cmpR (op_gtD hr.units) (pv 3) (pv 1) (nomark _)) (pss_one ps_break) pss_nil)
  (pss_one (ps_set (i := 2) scinner_at.nd rfl (Or.inl rfl) (pv 4)))))
  (pss_one (ps_ret (pv 2))))), ?_⟩
  obtain ⟨t0, r0, rfl⟩ : ∃ t r, l = t :: r := by
    obtain ⟨i, r, rfl⟩ := okW_head ok
    exact ⟨_, r, rfl⟩
  obtain ⟨x0, hx0, p0, u0, w0, rfl, tp0, ou0, sw0⟩ := paired_get' (i := 0) pp rfl
  have asc : Asc (t0 :: r0) := ok.2.1
  refine ⟨_, rfl, a, xs, _, _, rfl, rfl, tt.sq, atI_nat (j := 0) hx0, p0, _, 1, _, rfl, rfl, tp0.sq, rfl, _, rfl, a, rfl, ⟨_, tt.sq⟩, ?_⟩
  refine for_tup (xs := xs) (fun i σ H' => ∃ u3 u4 wv d, σ = [some (.ref a), some x, some wv, u3, u4] ∧ H' = H ∧ SA K H n wv d ∧ pickBr o d ((t0 :: r0).drop i) = pickS (t0 :: r0) o) ⟨_, _, w0, t0.2, rfl, rfl, sw0, pick_eq asc⟩ (fun i σ H' _ h => ?_) (fun i y σ H' hy h => ?_) (fun σ H' h => ?_)
  · obtain ⟨_, _, _, _, _, rfl, _⟩ := h
    exact tt.sq
  · obtain ⟨u3, u4, wv, d, rfl, rfl, sd, hp⟩ := h
    obtain ⟨t, ht, p, u, w2, rfl, tp, ou, sw⟩ := paired_get pp hy
    have htm := List.mem_of_getElem? ht
    rw [drop_get ht] at hp
    have hp : (if O.lt o t.1 = true then d else pickBr o t.2 ((t0 :: r0).drop (i + 1))) = pickS (t0 :: r0) o := hp
    refine ⟨p, _, rfl, tp.sq, rfl, _, _, rfl, _, _, rfl, rfl, _, rfl, _, rfl, rd_gt ou hx (by have := okb t htm; omega) ⟨_, rfl, ?_⟩⟩
    refine ite2 (fun e => ?_) (fun e => ?_)
    · rw [if_pos e] at hp
      subst hp
      exact ⟨_, rfl, q wv _ (Same.refl _) sd⟩
    · rw [if_neg e] at hp
      exact ⟨_, rfl, _, _, w2, t.2, rfl, rfl, sw, hp⟩
  · obtain ⟨u3, u4, wv, d, rfl, rfl, sd, hp⟩ := h
    rw [List.drop_of_length_le (by rw [paired_len pp]; exact Nat.le_refl _)] at hp
    have hp : d = pickS (t0 :: r0) o := hp
    subst hp
    exact ⟨_, rfl, q wv _ (Same.refl _) sd⟩
theorem val_step {m : Nat} {l : List (O × SD m)} {os : List O} {i : Nat} {o : O} (h : os[i]? = some o) : valS (m + 1) l (os.drop i) = valS m (pickS l o) (os.drop (i + 1)) := by
  rw [drop_get h]; rfl
abbrev svalue_at : Stmt := top 29
theorem scvalue_at : FnScope ["stair", "row", "ordinal"] ["stair", "row"] (defScope svalue_at) := ⟨rfl, rfl, rfl, by decide +kernel, rfl, by decide +kernel, by decide +kernel⟩
theorem ok_value_atW  {aZERO : Addr} {aONE : Addr} {aVowError : Addr} {aInvalidLevels : Addr} {aInvalidStair : Addr} {aInvalidRow : Addr} {aLevelsDiffer : Addr} {aMeaning : Addr} {f_Meaning_init : Addr} {p_Meaning_always : Addr} {f_Meaning_always : Addr} {p_Meaning_never : Addr} {f_Meaning_never : Addr} {p_Meaning_levels : Addr} {f_Meaning_levels : Addr} {f_Meaning_stair : Addr} {f_Meaning_least : Addr} {f_Meaning_lies_in : Addr} {f_Meaning_add : Addr} {f_Meaning_mul : Addr} {f_Meaning_neg : Addr} {f_Meaning_contains : Addr} {f_Meaning_bool : Addr} {f_Meaning_eq : Addr} {f_Meaning_repr : Addr} (T : Txt K mg  aZERO aONE aVowError aInvalidLevels aInvalidStair aInvalidRow aLevelsDiffer aMeaning f_Meaning_init p_Meaning_always f_Meaning_always p_Meaning_never f_Meaning_never p_Meaning_levels f_Meaning_levels f_Meaning_stair f_Meaning_least f_Meaning_lies_in f_Meaning_add f_Meaning_mul f_Meaning_neg f_Meaning_contains f_Meaning_bool f_Meaning_eq f_Meaning_repr) {f f1 : Addr} {fd fd1 : FuncData} {k : Nat} (F : Fun K "value_at" "value_at" svalue_at f fd) (C_inner_at : Cal P w K mg base 1 "inner_at" ["stair", "ordinal"] (spPickW K) f1 fd1) : FnOk P w K mg base CX0 2 f fd ["stair", "row"] (spValW K) := by
  refine F.ok scvalue_at (fun vs H Q E h => ?_) (fun cdv A outer s H vs Q E hr h => ?_)
  · obtain ⟨_, _, _, _, _, rfl, _⟩ := h; rfl
  obtain ⟨v, x, n, st, os, rfl, hv, ok, okb, hrow, hl, hd, q⟩ := h
  obtain ⟨a, xs, rfl, tt, pp⟩ := hrow
  refine ⟨_, (pss_cons (ps_for PassesOwn.never rfl (pi_tup (pv 1)) (pg_name (i := 2) scvalue_at.nd rfl (Or.inl rfl))
   (pss_one (ps_set (i := 0) scvalue_at.nd rfl (Or.inl rfl) (pe_call C_inner_at.G (hr.mono (by omega)) (by rfl) C_inner_at.m C_inner_at.kp C_inner_at.b .nil pass0 (pa_cons (pv 0) (pa_cons (pv 2) pa_nil))))))
  (pss_one (ps_ret (pv 0)))), ?_⟩
  refine ⟨_, rfl, a, rfl, ⟨_, tt.sq⟩, ?_⟩
  refine for_tup (xs := xs) (fun i σ H' => ∃ u2 wv m, ∃ st' : SD m, σ = [some wv, some (.ref a), u2] ∧ Same H H' ∧ m + i = n ∧ SA K H' m wv st' ∧ okW m st' ∧ BB m st' ∧ valS m st' (os.drop i) = valS n st os) ⟨_, v, n, st, rfl, Same.refl H, rfl, hv, ok, okb, rfl⟩ (fun i σ H' _ h => ?_) (fun i y σ H' hy h => ?_) (fun σ H' h => ?_)
  · obtain ⟨_, _, _, _, _, sm, _⟩ := h
    exact (tt.same sm).sq
  · obtain ⟨u2, wv, m, st', rfl, sm, hm, hs, ok', okb', hval⟩ := h
    obtain ⟨o, ho, oa⟩ := paired_get pp hy
    have hi : i < os.length := (List.getElem?_eq_some_iff.mp ho).1
    obtain ⟨m', rfl⟩ : ∃ m', m = m' + 1 := ⟨m - 1, by omega⟩
    refine ⟨_, rfl, _, rfl, wv, y, m', st', o, rfl, hs, ok', (fun t ht => by have := (okb'.2 t ht).1; omega), oa.same sm, hd o (List.mem_of_getElem? ho), fun w2 H2 s2 sw => ?_⟩
    exact ⟨_, w2, m', pickS st' o, rfl, sm.trans s2, by omega, sw, okW_pick ok' o, okb'.pick ok' o, (val_step ho).symm.trans hval⟩
  · obtain ⟨u2, wv, m, st', rfl, sm, hm, hs, ok', okb', hval⟩ := h
    have hx : xs.length = n := by rw [paired_len pp]; exact hl
    obtain rfl : m = 0 := by omega
    obtain rfl : wv = V.bl st' := hs
    have hval : st' = valS n st os := hval
    refine ⟨_, rfl, ?_⟩
    rw [hval]
    exact q H' sm
end
end Vw

set_option Elab.async false
set_option linter.all false
set_option maxRecDepth 100000
set_option maxHeartbeats 4000000
namespace Vw
open PySem PySem.W PyProof.Rows L2
section
variable {P : Program} {w : World} {K : PySem.W.Frag} {mg : Str → Option Value} {base : Heap}
abbrev s_gap : Stmt := top 19
theorem sc_gap : FnScope ["low", "behind", "at", "exponent", "count"] ["low", "behind"] (defScope s_gap) := ⟨rfl, rfl, rfl, by decide +kernel, rfl, by decide +kernel, by decide +kernel⟩
theorem ok_gap  {aZERO : Addr} {aONE : Addr} {aVowError : Addr} {aInvalidLevels : Addr} {aInvalidStair : Addr} {aInvalidRow : Addr} {aLevelsDiffer : Addr} {aMeaning : Addr} {f_Meaning_init : Addr} {p_Meaning_always : Addr} {f_Meaning_always : Addr} {p_Meaning_never : Addr} {f_Meaning_never : Addr} {p_Meaning_levels : Addr} {f_Meaning_levels : Addr} {f_Meaning_stair : Addr} {f_Meaning_least : Addr} {f_Meaning_lies_in : Addr} {f_Meaning_add : Addr} {f_Meaning_mul : Addr} {f_Meaning_neg : Addr} {f_Meaning_contains : Addr} {f_Meaning_bool : Addr} {f_Meaning_eq : Addr} {f_Meaning_repr : Addr} (T : Txt K mg  aZERO aONE aVowError aInvalidLevels aInvalidStair aInvalidRow aLevelsDiffer aMeaning f_Meaning_init p_Meaning_always f_Meaning_always p_Meaning_never f_Meaning_never p_Meaning_levels f_Meaning_levels f_Meaning_stair f_Meaning_least f_Meaning_lies_in f_Meaning_add f_Meaning_mul f_Meaning_neg f_Meaning_contains f_Meaning_bool f_Meaning_eq f_Meaning_repr) {f : Addr} {fd : FuncData} {k : Nat} (F : Fun K "_gap" "_gap" s_gap f fd) : FnOk P w K mg base CX0 (k + 1) f fd ["low", "behind"] (spLim K O.gap) := by
  refine F.ok sc_gap (fun vs H Q E h => ?_) (fun cdv A outer s H vs Q E hr h => ?_)
  · obtain ⟨_, _, _, _, rfl, _⟩ := h; rfl
  obtain ⟨x, y, a, b, rfl, hx, hy, ha, hb, hlt, da, db, wa, wb, q⟩ := h
  refine ⟨_, (pss_cons (ps_set (i := 2) sc_gap.nd rfl (Or.inl rfl) pe_int)
  (C8.pss_cut (ps_while PassesOwn.never (PW.pt (pw_and (pt_cmpR op_lt (pv 2) (pe_callB call_lenB (by rfl) T.z_len (by decide +kernel) (pa_cons (pv 0) pa_nil)) (nomark _)) (pw_and1 (pt_cmpR (op_eqO hr.units) (pe_ix ix_tup (pv 0) (pv 2) (fun _ _ => rfl)) (pe_ix ix_tup (pv 1) (pv 2) (fun _ _ => rfl)) (nomark _))))) (pss_one (ps_aug (i := 2) sc_gap.nd rfl (Or.inl rfl) pe_int ip_add)))
  (pss_cons (ps_if (PW.pt (pw_and (pt_cmpR op_lt (pv 2) (pe_callB call_lenB (by rfl) T.z_len (by decide +kernel) (pa_cons (pv 0) pa_nil)) (nomark _)) (pw_and1 (pt_cmpR (op_eqO hr.units) (pe_ix ix_tup (pe_ix ix_tup (pv 0) (pv 2) (fun _ _ => rfl)) pe_int (fun _ _ => rfl)) (pe_ix ix_tup (pe_ix ix_tup (pv 1) (pv 2) (fun _ _ => rfl)) pe_int (fun _ _ => rfl)) (nomark _))))) (pss_cons (ps_asg (pe_ix ix_tup (pv 1) (pv 2) (fun _ _ => rfl)) (pg_tup (by rfl) (pgs_cons (pg_name (i := 3) sc_gap.nd rfl (Or.inl rfl)) (pgs_cons (pg_name (i := 4) sc_gap.nd rfl (Or.inl rfl)) pgs_nil))))
  (pss_one (ps_ret (pe_op op_catO (pe_tup (pa_cons (pe_tup (pa_cons (pv 3) (pa_cons (pe_op op_sub (pv 4) (pe_ix ix_tup (pe_ix ix_tup (pv 0) (pv 2) (fun _ _ => rfl)) pe_int (fun _ _ => rfl))) pa_nil))) pa_nil)) (pe_slice sl_tupO (pv 1) (po_some (pe_op op_add (pv 2) pe_int)) po_none))))) pss_nil)
  (pss_one (ps_ret (pe_slice sl_tupO (pv 1) (po_some (pv 2)) po_none)))))), ?_⟩
  obtain ⟨ax, rfl⟩ := hx.ref
  obtain ⟨xs, tx, px⟩ := hx.tt
  obtain ⟨ay, rfl⟩ := hy.ref
  obtain ⟨ys, ty, py⟩ := hy.tt
  have la := O.len_wd a
  have lb := O.len_wd b
  have lx : xs.length = (O.ts a).length := paired_len px
  have ly : ys.length = (O.ts b).length := paired_len py
  refine ⟨fun σ H' => H' = H ∧ ∃ i : Nat, σ = [some (.ref ax), some (.ref ay), some (.int (i : Nat)), none, none] ∧ O.GapAt a b i ∧ ((O.ts a)[i]? = none ∨ ∃ t t', (O.ts a)[i]? = some t ∧ (O.ts b)[i]? = some t' ∧ t ≠ t'), ?_, fun σ H' h => ?_⟩
  · refine ⟨fun m σ H' => H' = H ∧ ∃ i : Nat, m = (O.ts a).length - i ∧ i ≤ (O.ts a).length ∧ σ = [some (.ref ax), some (.ref ay), some (.int (i : Nat)), none, none] ∧ O.GapAt a b i, ⟨_, rfl, 0, rfl, Nat.zero_le _, rfl, O.GapAt.zero hlt⟩, fun m σ H' h => ?_⟩
    obtain ⟨rfl, i, rfl, hi, rfl, g⟩ := h
    refine ⟨_, rfl, _, rfl, rd_len (.inr tx.sq) fun _ => ⟨_, _, rfl, rfl, _, rfl, ?_⟩⟩
    refine ite2 (fun e => ?_) (fun e => ?_)
    · have hi : i < (O.ts a).length := by have := of_decide_eq_true e; omega
      obtain ⟨t, ht⟩ : ∃ t, (O.ts a)[i]? = some t := ⟨_, List.getElem?_eq_getElem hi⟩
      obtain ⟨t', ht'⟩ := g.other ht
      obtain ⟨v, hv, tv⟩ := paired_get' px ht
      obtain ⟨v', hv', tv'⟩ := paired_get' py ht'
      have d1 := O.dp_mem (List.mem_of_getElem? ht)
      have d2 := O.dp_mem (List.mem_of_getElem? ht')
      refine ⟨_, rfl, _, rfl, ax, _, _, _, rfl, rfl, tx.sq, atI_nat hv, _, rfl, _, rfl, ay, _, _, _, rfl, rfl, ty.sq, atI_nat hv', rd_eqT tv tv' (by omega) (by omega) ⟨_, rfl, ?_⟩⟩
      refine ite2 (fun e2 => ?_) (fun e2 => ?_)
      · have e2 : t = t' := of_decide_eq_true e2
        subst e2
        exact ⟨_, fun _ _ h => h, _, rfl, _, _, rfl, rfl, _, (by show (O.ts a).length - (i + 1) < (O.ts a).length - i; omega), rfl, i + 1, rfl, hi, rfl, g.next ht ht'⟩
      · exact ⟨rfl, i, rfl, g, .inr ⟨t, t', ht, ht', fun z => e2 (decide_eq_true z)⟩⟩
    · have : ¬ i < xs.length := fun z => e (decide_eq_true (by omega))
      exact ⟨rfl, i, rfl, g, .inl (List.getElem?_eq_none_iff.mpr (by omega))⟩
  · obtain ⟨rfl, i, rfl, g, st⟩ := h
    refine ⟨_, rfl, _, rfl, rd_len (.inr tx.sq) fun _ => ⟨_, _, rfl, rfl, _, rfl, ?_⟩⟩
    rcases st with st | ⟨t, t', ht, ht', hne⟩
    · have hd : decide ((i : Int) < (xs.length : Nat)) = false := decide_eq_false (by have := List.getElem?_eq_none_iff.mp st; omega)
      rw [hd]
      refine iteF ⟨_, rfl, _, rfl, _, rfl, rd_from i ty fun p4 H6 s7 t4 => q _ _ s7 ?_⟩
      rw [g.short st]
      exact OA.of t4 (terms_same (paired_drop i py) s7)
    · have hi := (List.getElem?_eq_some_iff.mp ht).1
      have hd : decide ((i : Int) < (xs.length : Nat)) = true := decide_eq_true (by omega)
      rw [hd]
      obtain ⟨v, hv, p1, q1, rfl, tv, ov⟩ := paired_get' px ht
      obtain ⟨v', hv', p2, q2, rfl, tv', ov'⟩ := paired_get' py ht'
      have d1 := O.dp_mem (List.mem_of_getElem? ht)
      have d2 := O.dp_mem (List.mem_of_getElem? ht')
      refine iteT ⟨_, rfl, _, rfl, ax, _, _, _, rfl, rfl, tx.sq, atI_nat hv, p1, _, 0, _, rfl, rfl, tv.sq, rfl, _, rfl, _, rfl, ay, _, _, _, rfl, rfl, ty.sq, atI_nat hv', p2, _, 0, _, rfl, rfl, tv'.sq, rfl, rd_eq ov ov' (by omega) (by omega) ⟨_, rfl, ?_⟩⟩
      refine ite2 (fun e2 => ?_) (fun e2 => ?_)
      · have e2 : t.1 = t'.1 := of_decide_eq_true e2
        refine ⟨_, rfl, _, rfl, ay, _, _, _, rfl, rfl, ty.sq, atI_nat hv', p2, _, rfl, tv'.sq, rfl, _, _, rfl, _, _, rfl, rfl, ?_⟩
        refine ⟨_, rfl, _, rfl, _, rfl, _, rfl, ax, _, _, _, rfl, rfl, tx.sq, atI_nat hv, p1, _, 1, _, rfl, rfl, tv.sq, rfl, _, _, rfl, rfl, (by show 2 ≤ sizeLine; decide), fun p3 n3 => ⟨(by show 1 ≤ sizeLine; decide), fun p4 n4 => ?_⟩⟩
        have s3 := same_new (o := .tup [.ref q2, .int (t'.2 - t.2)]) n3
        have s4 := same_new (o := .tup [.ref p3]) n4
        have t4 : TT K (upd (upd H' p3 (.tup [.ref q2, .int (t'.2 - t.2)])) p4 (.tup [.ref p3])) p4 [.ref p3] := .of upd_same
        have tm := (TmA.new (c := t'.2 - t.2) (ov'.same s3) upd_same).same s4
        refine ⟨_, rfl, _, rfl, _, _, rfl, rfl, _, rfl, rd_from (i + 1) ((ty.same s3).same s4) fun p5 H5 s5 t5 => rd_cat (t4.same s5) t5 (by show 1 + _ ≤ 10000000; rw [List.length_drop]; omega) fun p6 H6 s6 t6 => ?_⟩
        have sA := ((s3.trans s4).trans s5).trans s6
        refine q _ _ sA ?_
        rw [g.count ht ht' hne e2]
        exact OA.of t6 (.cons ((tm.same s5).same s6) (terms_same (paired_drop (i + 1) py) sA))
      · refine ⟨_, rfl, _, rfl, _, rfl, rd_from i ty fun p4 H6 s7 t4 => q _ _ s7 ?_⟩
        rw [g.exp ht ht' fun z => e2 (decide_eq_true z)]
        exact OA.of t4 (terms_same (paired_drop i py) s7)
abbrev send_limit : Stmt := top 18
theorem scend_limit : FnScope ["low", "behind", "first", "gap", "exponent"] ["low", "behind"] (defScope send_limit) := ⟨rfl, rfl, rfl, by decide +kernel, rfl, by decide +kernel, by decide +kernel⟩
theorem ok_limit  {aZERO : Addr} {aONE : Addr} {aVowError : Addr} {aInvalidLevels : Addr} {aInvalidStair : Addr} {aInvalidRow : Addr} {aLevelsDiffer : Addr} {aMeaning : Addr} {f_Meaning_init : Addr} {p_Meaning_always : Addr} {f_Meaning_always : Addr} {p_Meaning_never : Addr} {f_Meaning_never : Addr} {p_Meaning_levels : Addr} {f_Meaning_levels : Addr} {f_Meaning_stair : Addr} {f_Meaning_least : Addr} {f_Meaning_lies_in : Addr} {f_Meaning_add : Addr} {f_Meaning_mul : Addr} {f_Meaning_neg : Addr} {f_Meaning_contains : Addr} {f_Meaning_bool : Addr} {f_Meaning_eq : Addr} {f_Meaning_repr : Addr} (T : Txt K mg  aZERO aONE aVowError aInvalidLevels aInvalidStair aInvalidRow aLevelsDiffer aMeaning f_Meaning_init p_Meaning_always f_Meaning_always p_Meaning_never f_Meaning_never p_Meaning_levels f_Meaning_levels f_Meaning_stair f_Meaning_least f_Meaning_lies_in f_Meaning_add f_Meaning_mul f_Meaning_neg f_Meaning_contains f_Meaning_bool f_Meaning_eq f_Meaning_repr) {f f1 f2 f3 f4 : Addr} {fd fd1 fd2 fd3 fd4 : FuncData} {ds : List Value} (F : Fun K "end_limit" "end_limit" send_limit f fd) (C_successor : Cal P w K mg base 2 "successor" ["ordinal"] (spO1 K fun a => O.sum a O.one) f1 fd1)
    (C_end_of : Cal P w K mg base 1 "end_of" ["ordinal"] (spO1 K endO) f2 fd2) (C__gap : Cal P w K mg base 1 "_gap" ["low", "behind"] (spLim K O.gap) f4 fd4) (G3 : FnOk P w K mg base CX0 1 f3 fd3 ["exponent", "times"] (spPow K)) (m3 : mg "omega_power" = some (.ref f3)) (k3 : PySem.W.keepIn K (.ref f3) = true) (hD_omega_power : Vals [.int 1] ds) (bD_omega_power : Binds K fd3 ["exponent", "times"] ds) :
    FnOk P w K mg base CX0 3 f fd ["low", "behind"] (spLim K O.endLim) := by
  refine F.ok scend_limit (fun vs H Q E h => ?_) (fun cdv A outer s H vs Q E hr h => ?_)
  · obtain ⟨_, _, _, _, rfl, _⟩ := h; rfl
  obtain ⟨x, y, a, b, rfl, hx, hy, ha, hb, hlt, da, db, wa, wb, q⟩ := h
  refine ⟨_, (pss_cons (ps_set (i := 2) scend_limit.nd rfl (Or.inl rfl) (pe_call C_successor.G (hr.mono (by omega)) (by rfl) C_successor.m C_successor.kp C_successor.b .nil pass0 (pa_cons (pe_call C_end_of.G (hr.mono (by omega)) (by rfl) C_end_of.m C_end_of.kp C_end_of.b .nil pass0 (pa_cons (pv 0) pa_nil)) pa_nil)))
  (pss_cons (ps_set (i := 3) scend_limit.nd rfl (Or.inl rfl) (pe_call C__gap.G (hr.mono (by omega)) (by rfl) C__gap.m C__gap.kp C__gap.b .nil pass0 (pa_cons (pv 0) (pa_cons (pv 1) pa_nil))))
  (pss_cons (ps_set (i := 4) scend_limit.nd rfl (Or.inl rfl) (pe_ix ix_tup (pe_ix ix_tup (pv 3) pe_int (fun _ _ => rfl)) pe_int (fun _ _ => rfl)))
  (pss_cons (ps_if (pt_cmpR (op_eqO hr.units) (pv 3) (pe_call G3 (hr.mono (by omega)) (by rfl) m3 k3 bD_omega_power hD_omega_power pass0 (pa_cons (pv 4) pa_nil)) (nomark _)) (pss_one (ps_ret (pe_callB (cr_maxO rfl hr.units) (by rfl) T.z_max (by decide +kernel) (pa_cons (pv 2) (pa_cons (pv 4) pa_nil))))) pss_nil)
  (pss_one (ps_ret (pe_callB (cr_maxO rfl hr.units) (by rfl) T.z_max (by decide +kernel) (pa_cons (pv 2) (pa_cons (pe_call C_successor.G (hr.mono (by omega)) (by rfl) C_successor.m C_successor.kp C_successor.b .nil pass0 (pa_cons (pv 4) pa_nil)) pa_nil))))))))), ?_⟩
  have de := O.dp_end a
  have we := O.wd_end a
  have le := O.len_wd (endO a)
  have la := O.len_wd a
  have hg := O.ok_gap ha hb hlt
  have dg := O.dp_gap a b
  have wg := O.wd_gap a b
  have dh := O.dp_headE (O.gap a b)
  have wh := O.wd_headE (O.gap a b)
  have lh := O.len_wd (O.headE (O.gap a b))
  have okh := O.ok_headE hg
  have one2 : O.dp O.one = 2 := by decide
  have ds1 := O.dp_sum (endO a) O.one
  have ds2 := O.dp_sum (O.headE (O.gap a b)) O.one
  have q : ∀ (v : V) (H' : Hp), Same H H' → OA K H' v (O.maxO (O.sum (endO a) O.one) (if O.gap a b = O.pw (O.headE (O.gap a b)) then O.headE (O.gap a b) else O.sum (O.headE (O.gap a b)) O.one)) → Q v H' := q
  refine ⟨_, rfl, _, a, rfl, hx, ha, by omega, by omega, fun v1 H1 s1 o1 => ?_⟩
  refine ⟨_, endO a, rfl, o1, O.ok_end ha, by omega, by omega, fun v2 H2 s2 o2 => ?_⟩
  have sA := s1.trans s2
  refine ⟨_, rfl, _, rfl, _, _, a, b, rfl, hx.same sA, hy.same sA, ha, hb, hlt, da, db, wa, wb, fun v3 H3 s3 o3 => ?_⟩
  have sB := sA.trans s3
  have o2 := o2.same s3
  have hne := O.gap_ne hlt
  generalize O.gap a b = g at *
  cases g with
  | z => exact absurd rfl hne
  | add e c r =>
  obtain ⟨ag, gs, rfl, tg, hgs⟩ := id o3
  obtain ⟨p, pe, ws, vr, rfl, tp1, tw, hws, hvr⟩ := hgs
  have hE : OA K H3 (.ref pe) e := ⟨pe, ws, rfl, tw, hws⟩
  have he : O.headE (O.add e c r) = e := rfl
  simp only [he] at dh wh lh okh ds2 q
  refine ⟨_, rfl, ag, _, 0, _, rfl, rfl, tg.sq, atI_nat (j := 0) rfl, p, _, 0, _, rfl, rfl, tp1.sq, rfl, ?_⟩
  refine ⟨_, rfl, _, rfl, _, e, 1, rfl, hE, fun v4 H4 s4 o4 => rd_eq (o3.same s4) o4 (by omega) (by show max (O.dp e + 2) 0 ≤ 60; omega) ⟨_, rfl, ?_⟩⟩
  have sC := sB.trans s4
  have hp : O.pwN e 1 = O.pw e := rfl
  rw [hp]
  refine ite2 (fun e1 => ?_) (fun e1 => ?_)
  · rw [if_pos (of_decide_eq_true e1)] at q
    exact ⟨_, rfl, _, rfl, rd_max (o2.same s4) (hE.same s4) (by show O.dp (O.sum (endO a) O.one) ≤ 60; omega) (by omega) fun v o => q v H4 sC o⟩
  · rw [if_neg fun z => e1 (decide_eq_true z)] at q
    refine ⟨_, rfl, _, rfl, _, e, rfl, hE.same s4, okh, by omega, by omega, fun v5 H5 s5 o5 => rd_max ((o2.same s4).same s5) o5 (by show O.dp (O.sum (endO a) O.one) ≤ 60; omega) (by show O.dp (O.sum e O.one) ≤ 60; omega) fun v o => q v H5 (sC.trans s5) o⟩
end
end Vw

set_option Elab.async false
set_option linter.all false
set_option maxRecDepth 100000
set_option maxHeartbeats 4000000
namespace Vw
open PySem PySem.W PyProof.Rows L2
abbrev sreached : Stmt := top 36
theorem screached : FnScope ["begin", "rest"] ["begin", "rest"] (defScope sreached) := ⟨rfl, rfl, rfl, by decide +kernel, rfl, by decide +kernel, by decide +kernel⟩
abbrev s_behind : Stmt := top 42
theorem sc_behind : FnScope ["steps", "at", "limit"] ["steps", "at", "limit"] (defScope s_behind) := ⟨rfl, rfl, rfl, by decide +kernel, rfl, by decide +kernel, by decide +kernel⟩
section
variable {P : Program} {w : World} {K : PySem.W.Frag} {mg : Str → Option Value} {base : Heap}
theorem ok_reached  {aZERO : Addr} {aONE : Addr} {aVowError : Addr} {aInvalidLevels : Addr} {aInvalidStair : Addr} {aInvalidRow : Addr} {aLevelsDiffer : Addr} {aMeaning : Addr} {f_Meaning_init : Addr} {p_Meaning_always : Addr} {f_Meaning_always : Addr} {p_Meaning_never : Addr} {f_Meaning_never : Addr} {p_Meaning_levels : Addr} {f_Meaning_levels : Addr} {f_Meaning_stair : Addr} {f_Meaning_least : Addr} {f_Meaning_lies_in : Addr} {f_Meaning_add : Addr} {f_Meaning_mul : Addr} {f_Meaning_neg : Addr} {f_Meaning_contains : Addr} {f_Meaning_bool : Addr} {f_Meaning_eq : Addr} {f_Meaning_repr : Addr} (T : Txt K mg  aZERO aONE aVowError aInvalidLevels aInvalidStair aInvalidRow aLevelsDiffer aMeaning f_Meaning_init p_Meaning_always f_Meaning_always p_Meaning_never f_Meaning_never p_Meaning_levels f_Meaning_levels f_Meaning_stair f_Meaning_least f_Meaning_lies_in f_Meaning_add f_Meaning_mul f_Meaning_neg f_Meaning_contains f_Meaning_bool f_Meaning_eq f_Meaning_repr) {f f1 : Addr} {fd fd1 : FuncData} (F : Fun K "reached" "reached" sreached f fd) (C_raised : Cal P w K mg base 2 "raised" ["ordinal", "end"] (spO2 K O.raisedO) f1 fd1) : FnOk P w K mg base CX0 3 f fd ["begin", "rest"] (spReach K) := by
  refine F.ok screached (fun vs H Q E h => ?_) (fun cdv A outer s H vs Q E hr h => ?_)
  · obtain ⟨_, _, _, _, rfl, _⟩ := h; rfl
  obtain ⟨x, y, b, os, rfl, hx, hy, fb, fo, q⟩ := h
  refine ⟨_, (pss_cons (ps_if (pt_cmpR (op_eqO hr.units) (pv 1) (pe_tup pa_nil) (nomark _)) (pss_one (ps_ret (pv 0))) pss_nil)
  (pss_one (ps_ret (pe_call C_raised.G (hr.mono (by omega)) (by rfl) C_raised.m C_raised.kp C_raised.b .nil pass0 (pa_cons (pv 0) (pa_cons (pe_ix ix_tup (pv 1) pe_int (fun _ _ => rfl)) pa_nil)))))), ?_⟩
  refine ⟨_, rfl, (by show 0 ≤ sizeLine; decide), fun p np => rd_eqRowD (hy.same (same_new np)) (nil_row (.of upd_same)) (fun o ho => by have := (fo o ho).2.1; omega) (fun o ho => by cases ho) ⟨_, rfl, ?_⟩⟩
  have s1 := same_new (o := .tup []) np
  refine ite2 (fun e => ?_) (fun e => ?_)
  · have e : os = [] := of_decide_eq_true e
    subst e
    exact ⟨_, rfl, q x _ s1 (hx.same s1)⟩
  · have e : ¬ os = [] := fun z => e (decide_eq_true z)
    cases os with
    | nil => exact absurd rfl e
    | cons h r =>
      obtain ⟨a, xs, rfl, tt, pp⟩ := hy
      obtain ⟨v0, hv0, o0⟩ := paired_get' (i := 0) pp rfl
      have fh := fo h List.mem_cons_self
      have l1 := O.len_wd b
      have l2 := O.len_wd h
      obtain ⟨b1, b2, b3⟩ := fb
      obtain ⟨h1, h2, h3⟩ := fh
      refine ⟨_, rfl, _, rfl, a, _, _, _, rfl, rfl, (tt.same s1).sq, atI_nat (j := 0) hv0, x, v0, b, h, rfl, hx.same s1, o0.same s1, b1, h1, by omega, by omega, by omega, by omega, fun v H' s' o' => q v H' (s1.trans s') o'⟩
theorem ok_behind  {aZERO : Addr} {aONE : Addr} {aVowError : Addr} {aInvalidLevels : Addr} {aInvalidStair : Addr} {aInvalidRow : Addr} {aLevelsDiffer : Addr} {aMeaning : Addr} {f_Meaning_init : Addr} {p_Meaning_always : Addr} {f_Meaning_always : Addr} {p_Meaning_never : Addr} {f_Meaning_never : Addr} {p_Meaning_levels : Addr} {f_Meaning_levels : Addr} {f_Meaning_stair : Addr} {f_Meaning_least : Addr} {f_Meaning_lies_in : Addr} {f_Meaning_add : Addr} {f_Meaning_mul : Addr} {f_Meaning_neg : Addr} {f_Meaning_contains : Addr} {f_Meaning_bool : Addr} {f_Meaning_eq : Addr} {f_Meaning_repr : Addr} (T : Txt K mg  aZERO aONE aVowError aInvalidLevels aInvalidStair aInvalidRow aLevelsDiffer aMeaning f_Meaning_init p_Meaning_always f_Meaning_always p_Meaning_never f_Meaning_never p_Meaning_levels f_Meaning_levels f_Meaning_stair f_Meaning_least f_Meaning_lies_in f_Meaning_add f_Meaning_mul f_Meaning_neg f_Meaning_contains f_Meaning_bool f_Meaning_eq f_Meaning_repr) {f : Addr} {fd : FuncData} {k : Nat} (F : Fun K "_behind" "_behind" s_behind f fd) : FnOk P w K mg base CX0 (k + 1) f fd ["steps", "at", "limit"] (spBeh K) := by
  refine F.ok sc_behind (fun vs H Q E h => ?_) (fun cdv A outer s H vs Q E hr h => ?_)
  · obtain ⟨_, _, _, _, _, _, _, rfl, _⟩ := h; rfl
  obtain ⟨D, w, n, i, xs, l, lim, rfl, eD, pp, hi, hw, q⟩ := h
  refine ⟨_, (pss_cons (ps_if (pt_cmpR op_lt (pe_op op_add (pv 1) pe_int) (pe_callB call_lenB (by rfl) T.z_len (by decide +kernel) (pa_cons (pv 0) pa_nil)) (nomark _)) (pss_one (ps_ret (pe_ix ix_tup (pe_ix ix_list (pv 0) (pe_op op_add (pv 1) pe_int) (fun _ _ => rfl)) pe_int (fun _ _ => rfl)))) pss_nil)
  (pss_one (ps_ret (pv 2)))), ?_⟩
  have hl := paired_len pp
  refine ⟨_, rfl, _, _, rfl, rfl, _, rfl, rd_len (.inl (SqL.of eD)) fun _ => ⟨_, _, rfl, rfl, _, rfl, ?_⟩⟩
  refine ite2 (fun e => ?_) (fun e => ?_)
  · have e : ((i : Nat) : Int) + 1 < (xs.length : Nat) := of_decide_eq_true e
    obtain ⟨y, hy⟩ : ∃ y, xs[i + 1]? = some y := ⟨_, List.getElem?_eq_getElem (show i + 1 < xs.length by omega)⟩
    obtain ⟨t, ht, p, u, w2, rfl, tp, ou, _⟩ := paired_get pp hy
    refine ⟨_, rfl, _, rfl, _, _, rfl, rfl, D, _, _, _, rfl, rfl, SqL.of eD, atI_nat (j := i + 1) hy, p, _, 0, _, rfl, rfl, tp.sq, rfl, q u ?_⟩
    have : nextO (l.drop (i + 1)) lim = some t.1 := by
      rw [drop_at ht]; rfl
    rw [this]; exact ou
  · have e : ¬ ((i : Nat) : Int) + 1 < (xs.length : Nat) := fun z => e (decide_eq_true z)
    refine ⟨_, rfl, q w ?_⟩
    rw [List.drop_of_length_le (by omega)]
    exact hw
end
end Vw

set_option Elab.async false
set_option linter.all false
set_option maxRecDepth 100000
set_option maxHeartbeats 4000000
namespace Vw
open PySem PySem.W PyProof.Rows L2
abbrev s_paired : Stmt := top 35
theorem sc_paired : FnScope ["one", "other", "found", "at", "beside", "begin", "step"] ["one", "other"] (defScope s_paired) := ⟨rfl, rfl, rfl, by decide +kernel, rfl, by decide +kernel, by decide +kernel⟩
section
variable {P : Program} {w : World} {K : PySem.W.Frag} {mg : Str → Option Value} {base : Heap}
theorem paired_last {α β : Type} {F : α → β → Prop} {xs : List α} {ys : List β} (h : Paired F xs ys) (hne : xs ≠ []) : ∃ xs' x ys' y, xs = xs' ++ [x] ∧ ys = ys' ++ [y] ∧ Paired F xs' ys' ∧ F x y := by
  induction h with
  | nil => exact absurd rfl hne
  | @cons x y xs ys a t ih =>
    by_cases e : xs = []
    · subst e
      cases t
      exact ⟨[], x, [], y, rfl, rfl, .nil, a⟩
    · obtain ⟨xs', x', ys', y', rfl, rfl, p, f⟩ := ih e
      exact ⟨x :: xs', x', y :: ys', y', rfl, rfl, .cons a p, f⟩
/-- how far one of the two is walked -/
def AtO {n : Nat} (l : List (O × SD n)) (o : O) (a : Nat) : Prop := ∃ t, l[a]? = some t ∧ O.lt o t.1 = false
theorem AtO.pick {n : Nat} {l : List (O × SD n)} {o : O} {a : Nat} (ok : okW (n + 1) l) (h : AtO l o a) (h2 : ∀ u, l[a + 1]? = some u → O.lt o u.1 = true) : ∃ t, l[a]? = some t ∧ pickS l o = t.2 := by
  obtain ⟨t, ht, hl⟩ := h
  exact ⟨t, ht, by rw [pickS_d ok o (SD.dflt n)]; exact pick_at ok.2.1 ht hl h2 _⟩
theorem ok_paired  {aZERO : Addr} {aONE : Addr} {aVowError : Addr} {aInvalidLevels : Addr} {aInvalidStair : Addr} {aInvalidRow : Addr} {aLevelsDiffer : Addr} {aMeaning : Addr} {f_Meaning_init : Addr} {p_Meaning_always : Addr} {f_Meaning_always : Addr} {p_Meaning_never : Addr} {f_Meaning_never : Addr} {p_Meaning_levels : Addr} {f_Meaning_levels : Addr} {f_Meaning_stair : Addr} {f_Meaning_least : Addr} {f_Meaning_lies_in : Addr} {f_Meaning_add : Addr} {f_Meaning_mul : Addr} {f_Meaning_neg : Addr} {f_Meaning_contains : Addr} {f_Meaning_bool : Addr} {f_Meaning_eq : Addr} {f_Meaning_repr : Addr} (T : Txt K mg  aZERO aONE aVowError aInvalidLevels aInvalidStair aInvalidRow aLevelsDiffer aMeaning f_Meaning_init p_Meaning_always f_Meaning_always p_Meaning_never f_Meaning_never p_Meaning_levels f_Meaning_levels f_Meaning_stair f_Meaning_least f_Meaning_lies_in f_Meaning_add f_Meaning_mul f_Meaning_neg f_Meaning_contains f_Meaning_bool f_Meaning_eq f_Meaning_repr) {f : Addr} {fd : FuncData} {k : Nat} (F : Fun K "_paired" "_paired" s_paired f fd) : FnOk P w K mg base CX0 (k + 1) f fd ["one", "other"] (spPair K) := by
  refine F.ok sc_paired (fun vs H Q E h => ?_) (fun cdv A outer s H vs Q E hr h => ?_)
  · obtain ⟨_, _, _, _, _, rfl, _⟩ := h; rfl
  obtain ⟨v1, v2, n, l1, l2, rfl, h1, h2, k1, k2, d1, d2, b1, b2, q⟩ := h
  obtain ⟨a1, xs1, rfl, t1, p1⟩ := h1.un
  obtain ⟨a2, xs2, rfl, t2, p2⟩ := h2.un
  have x1 := paired_len p1
  have x2 := paired_len p2
  refine ⟨_, (pss_cons (ps_set (i := 2) sc_paired.nd rfl (Or.inl rfl) (pe_lst pa_nil))
  (pss_cons (ps_set (i := 3) sc_paired.nd rfl (Or.inl rfl) pe_int)
  (pss_cons (ps_set (i := 4) sc_paired.nd rfl (Or.inl rfl) pe_int)
  (pss_cons (ps_for PassesOwn.never rfl (pi_list (pe_callB (cr_sortedA hr.units) (by rfl) T.z_sorted (by decide +kernel) (pa_cons (pe_lc (own := [("step", 6)]) (g := gName 6) (tt := tYes) rfl sc_paired.nd (pi_tup (pe_op op_catO (pv 0) (pv 1))) (blkOk_by (own := [("step", 6)]) (N := ["one", "other", "found", "at", "beside", "begin", "step"]) (sc := defScope s_paired) (by decide +kernel)) (fun _ _ _ _ _ => (pg_name (i := 6) sc_paired.nd rfl (Or.inl rfl))) (fun _ _ _ _ _ => pts_nil) (fun _ _ _ _ _ => (pe_ix (r := rIxT K) ix_tup (pv 6) pe_int (fun _ _ => rfl)))) pa_nil))) (pg_name (i := 5) sc_paired.nd rfl (Or.inl rfl))
   (C8.pss_cut (ps_while PassesOwn.never (PW.pt (pw_and (pt_cmpR op_lt (pe_op op_add (pv 3) pe_int) (pe_callB call_lenB (by rfl) T.z_len (by decide +kernel) (pa_cons (pv 0) pa_nil)) (nomark _)) (pw_and1 (pt_cmpR (op_leD hr.units) (pe_ix ix_tup (pe_ix ix_tup (pv 0) (pe_op op_add (pv 3) pe_int) (fun _ _ => rfl)) pe_int (fun _ _ => rfl)) (pv 5) (nomark _))))) (pss_one (ps_aug (i := 3) sc_paired.nd rfl (Or.inl rfl) pe_int ip_add)))
  (C8.pss_cut (ps_while PassesOwn.never (PW.pt (pw_and (pt_cmpR op_lt (pe_op op_add (pv 4) pe_int) (pe_callB call_lenB (by rfl) T.z_len (by decide +kernel) (pa_cons (pv 1) pa_nil)) (nomark _)) (pw_and1 (pt_cmpR (op_leD hr.units) (pe_ix ix_tup (pe_ix ix_tup (pv 1) (pe_op op_add (pv 4) pe_int) (fun _ _ => rfl)) pe_int (fun _ _ => rfl)) (pv 5) (nomark _))))) (pss_one (ps_aug (i := 4) sc_paired.nd rfl (Or.inl rfl) pe_int ip_add)))
  (pss_one (ps_if (PW.pt (pw_or (pt_not (pt_truth (pv 2) (by intro _; rfl))) (pw_or1 (pt_cmpR (op_neO hr.units) (pe_ix ix_tup (pe_ix ix_list (pv 2) (pe_un un_neg pe_int) (fun _ _ => rfl)) pe_int (fun _ _ => rfl)) (pv 5) (nomark _))))) (pss_one (ps_expr (pe_bm PySem.F.plainAttrs_list PySem.F.slot_list_append PySem.F.type_list_append mt_append (pv 2) (pa_cons (pe_tup (pa_cons (pv 5) (pa_cons (pe_ix ix_tup (pe_ix ix_tup (pv 0) (pv 3) (fun _ _ => rfl)) pe_int (fun _ _ => rfl)) (pa_cons (pe_ix ix_tup (pe_ix ix_tup (pv 1) (pv 4) (fun _ _ => rfl)) pe_int (fun _ _ => rfl)) pa_nil)))) pa_nil)))) pss_nil)))))
  (pss_one (ps_ret (pv 2))))))), ?_⟩
  refine ⟨(by show 0 ≤ sizeLine; decide), fun D nD => ?_⟩
  have sD := same_new (o := .lst []) nD
  refine ⟨_, rfl, _, rfl, rd_cat (t1.same sD) (t2.same sD) (by omega) fun p3 H3 s3 t3 => ?_⟩
  have p12 : Paired (StA K H3 n) (xs1 ++ xs2) (l1 ++ l2) := paired_app (steps_tp (same_tp (sD.trans s3)) p1) (steps_tp (same_tp (sD.trans s3)) p2)
  refine ⟨p3, rfl, ⟨_, t3.sq⟩, fun D2 nD2 => ?_⟩
  refine lc_tup (K := K) (a := p3) (xs := xs1 ++ xs2) (fun i H' => Same H3 H' ∧ ∃ us, H' D2 = some (.lst us) ∧ us.length = i ∧ Paired (OA K H') us (((l1 ++ l2).take i).map (·.1))) ⟨same_new nD2, [], upd_same, rfl, .nil⟩ (fun i H' _ h => (t3.same h.1).sq) (fun i y H' hy h => ?_) (fun H4 h => ?_)
  · obtain ⟨sm, us, eD2, lu, pu⟩ := h
    obtain ⟨t, ht, p, u, w2, rfl, tp, ou, _⟩ := paired_get p12 hy
    have hi : i < 4000000 := by have := (List.getElem?_eq_some_iff.mp hy).1; rw [List.length_append] at this; omega
    refine ⟨rfl, _, rfl, p, _, 0, _, rfl, rfl, (tp.same sm).sq, rfl, us, eD2, small40k (by omega), same_mut sm nD2, _, upd_same, by rw [List.length_append, lu]; rfl, ?_⟩
    rw [List.take_add_one, ht, List.map_append]
    have tD := tp_lst (o := .lst (us ++ [u])) eD2
    exact paired_tp tD (paired_app pu (.cons (ou.same sm) .nil))
  obtain ⟨s4, us, eD2, lu, pu⟩ := h
  rw [show (xs1 ++ xs2).length = (l1 ++ l2).length from paired_len p12, List.take_length, List.map_append] at pu
  refine ⟨D2, us, _, rfl, SqL.of eD2, pu, fun o ho => ?_, fun ys ss S pys perm srt nS => ?_⟩
  · rcases List.mem_append.mp ho with q | q
    · obtain ⟨t, ht, rfl⟩ := List.mem_map.mp q
      have := d1 t ht; omega
    · obtain ⟨t, ht, rfl⟩ := List.mem_map.mp q
      have := d2 t ht; omega
  have sS := same_new (o := .lst ys) nS
  have eS : (upd H4 S (.lst ys)) S = some (.lst ys) := upd_same
  have nD4 : H D = none := nD
  have eD5 : (upd H4 S (.lst ys)) D = some (.lst []) := sS _ _ (s4 _ _ (s3 _ _ upd_same))
  have hSD : S ≠ D := fun z => by
    subst z
    have : H4 S = some (.lst []) := s4 _ _ (s3 _ _ upd_same)
    rw [this] at nS; cases nS
  have nS0 : H S = none := by
    cases z : H S with
    | none => rfl
    | some o =>
      have := s4 _ _ (s3 _ _ (sD _ _ z))
      rw [this] at nS; cases nS
  have s5 : Same H (upd H4 S (.lst ys)) := (((sD.trans s3).trans s4).trans sS)
  have pys := paired_tp (same_tp sS) pys
  generalize upd H4 S (.lst ys) = H5 at *
  have ly := paired_len pys
  have okA : ∀ {l : List (O × SD n)}, okW (n + 1) l → ∀ o, AtO l o 0 := fun h o => by
    obtain ⟨i, r, rfl⟩ := okW_head h
    exact ⟨_, rfl, O.not_lt_nil o⟩
  have atm : ∀ {l : List (O × SD n)} {y o : O} {a : Nat}, AtO l y a → O.lt o y = false → AtO l o a := fun ⟨t, ht, h⟩ g => ⟨t, ht, O.ge_trans g h⟩
  refine ⟨S, rfl, ⟨_, SqL.of eS⟩, ?_⟩
  refine for_list (xs := ys) (fun j σ H' => ∃ (u5 u6 : Option V) (a b : Nat) (fb : List O) (xs : List V), σ = [some (.ref a1), some (.ref a2), some (.ref D), some (.int (a : Nat)), some (.int (b : Nat)), u5, u6] ∧ Same H H' ∧ Tp H5 H' ∧ H' S = some (.lst ys) ∧ H' D = some (.lst xs) ∧ Paired (TrA K H' n) xs (fb.map (tri l1 l2)) ∧ Once ss j fb ∧ fb.length ≤ j ∧ (∀ o, (∀ y, fb.getLast? = some y → O.lt o y = false) → AtO l1 o a ∧ AtO l2 o b))
    ⟨_, _, 0, 0, [], [], rfl, s5, same_tp (Same.refl H5), eS, eD5, .nil, once_nil ss, Nat.le_refl 0, fun o _ => ⟨okA k1 o, okA k2 o⟩⟩ (fun j σ H' _ h => by obtain ⟨_, _, _, _, _, _, _, _, _, h, _⟩ := h; exact SqL.of h) (fun j v σ H6 hv h => ?_) (fun σ H6 h => ?_)
  · obtain ⟨u5, u6, a, b, fb, xs, rfl, s6, t6, eS6, eD6, px, on, lf, hat⟩ := h
    obtain ⟨o, ho, ov⟩ := paired_get (paired_tp t6 pys) hv
    have lo : ∀ y, fb.getLast? = some y → O.lt o y = false := fun y hy => by
      have hm : y ∈ ss.take j := (on.mem y).mp (List.mem_of_getLast? hy)
      obtain ⟨i, hi⟩ := List.mem_iff_getElem?.mp hm
      have hij : i < j := by have := (List.getElem?_eq_some_iff.mp hi).1; rw [List.length_take] at this; omega
      rw [List.getElem?_take_of_lt hij] at hi
      have i1 := List.getElem?_eq_some_iff.mp hi
      have i2 := List.getElem?_eq_some_iff.mp ho
      have := List.pairwise_iff_getElem.mp srt i j i1.1 i2.1 hij
      rw [i1.2, i2.2] at this
      exact this
    obtain ⟨at1, at2⟩ := hat o lo
    have p1 := steps_tp (same_tp s6) p1
    have p2 := steps_tp (same_tp s6) p2
    have t1 := t1.same s6
    have t2 := t2.same s6
    refine ⟨fun σ H' => ∃ a' : Nat, σ = [some (.ref a1), some (.ref a2), some (.ref D), some (.int (a' : Nat)), some (.int (b : Nat)), some v, u6] ∧ H' = H6 ∧ AtO l1 o a' ∧ (∀ u, l1[a' + 1]? = some u → O.lt o u.1 = true), ⟨fun m σ H' => ∃ a' : Nat, σ = [some (.ref a1), some (.ref a2), some (.ref D), some (.int (a' : Nat)), some (.int (b : Nat)), some v, u6] ∧ H' = H6 ∧ AtO l1 o a' ∧ m = l1.length - a', ⟨_, a, rfl, rfl, at1, rfl⟩, fun m σ H7 h => ?_⟩, fun σ H7 h => ?_⟩
    · obtain ⟨a', rfl, rfl, hA, hm⟩ := h
      refine ⟨_, rfl, _, _, rfl, rfl, _, rfl, rd_len (.inr t1.sq) fun _ => ⟨_, _, rfl, rfl, _, rfl, ?_⟩⟩
      refine ite2 (fun e => ?_) (fun e => ?_)
      · have e : ((a' : Nat) : Int) + 1 < (xs1.length : Nat) := of_decide_eq_true e
        obtain ⟨y, hy⟩ : ∃ y, xs1[a' + 1]? = some y := ⟨_, List.getElem?_eq_getElem (show a' + 1 < xs1.length by omega)⟩
        obtain ⟨t, ht, pp, u, w2, rfl, tp, ou, _⟩ := paired_get p1 hy
        have dt := d1 t (List.mem_of_getElem? ht)
        refine ⟨_, rfl, _, rfl, _, _, rfl, rfl, a1, _, _, _, rfl, rfl, t1.sq, atI_nat (j := a' + 1) hy, pp, _, 0, _, rfl, rfl, tp.sq, rfl, _, rfl, rd_le ou ov (by omega) ⟨_, rfl, ?_⟩⟩
        refine ite2 (fun e2 => ?_) (fun e2 => ?_)
        · have e2 : O.lt o t.1 = false := by simpa using e2
          refine ⟨fun σ' H' => ∃ m', m' < m ∧ ∃ a' : Nat, σ' = [some (.ref a1), some (.ref a2), some (.ref D), some (.int (a' : Nat)), some (.int (b : Nat)), some v, u6] ∧ H' = H7 ∧ AtO l1 o a' ∧ m' = l1.length - a', fun σ' H' h => h, ?_⟩
          have hl := (List.getElem?_eq_some_iff.mp ht).1
          exact ⟨_, rfl, _, _, rfl, rfl, l1.length - (a' + 1), by omega, a' + 1, rfl, rfl, ⟨t, ht, e2⟩, rfl⟩
        · refine ⟨a', rfl, rfl, hA, fun w hw => ?_⟩
          rw [ht] at hw
          obtain rfl := Option.some.inj hw
          simpa using e2
      · have e : ¬ ((a' : Nat) : Int) + 1 < (xs1.length : Nat) := fun z => e (decide_eq_true z)
        refine ⟨a', rfl, rfl, hA, fun w hw => ?_⟩
        have := (List.getElem?_eq_some_iff.mp hw).1
        omega
    obtain ⟨aa, rfl, rfl, hA1, hA2⟩ := h
    refine ⟨fun σ H' => ∃ a' : Nat, σ = [some (.ref a1), some (.ref a2), some (.ref D), some (.int (aa : Nat)), some (.int (a' : Nat)), some v, u6] ∧ H' = H7 ∧ AtO l2 o a' ∧ (∀ u, l2[a' + 1]? = some u → O.lt o u.1 = true), ⟨fun m σ H' => ∃ a' : Nat, σ = [some (.ref a1), some (.ref a2), some (.ref D), some (.int (aa : Nat)), some (.int (a' : Nat)), some v, u6] ∧ H' = H7 ∧ AtO l2 o a' ∧ m = l2.length - a', ⟨_, b, rfl, rfl, at2, rfl⟩, fun m σ H8 h => ?_⟩, fun σ H8 h => ?_⟩
    · obtain ⟨a', rfl, rfl, hA, hm⟩ := h
      refine ⟨_, rfl, _, _, rfl, rfl, _, rfl, rd_len (.inr t2.sq) fun _ => ⟨_, _, rfl, rfl, _, rfl, ?_⟩⟩
      refine ite2 (fun e => ?_) (fun e => ?_)
      · have e : ((a' : Nat) : Int) + 1 < (xs2.length : Nat) := of_decide_eq_true e
        obtain ⟨y, hy⟩ : ∃ y, xs2[a' + 1]? = some y := ⟨_, List.getElem?_eq_getElem (show a' + 1 < xs2.length by omega)⟩
        obtain ⟨t, ht, pp, u, w2, rfl, tp, ou, _⟩ := paired_get p2 hy
        have dt := d2 t (List.mem_of_getElem? ht)
        refine ⟨_, rfl, _, rfl, _, _, rfl, rfl, a2, _, _, _, rfl, rfl, t2.sq, atI_nat (j := a' + 1) hy, pp, _, 0, _, rfl, rfl, tp.sq, rfl, _, rfl, rd_le ou ov (by omega) ⟨_, rfl, ?_⟩⟩
        refine ite2 (fun e2 => ?_) (fun e2 => ?_)
        · have e2 : O.lt o t.1 = false := by simpa using e2
          refine ⟨fun σ' H' => ∃ m', m' < m ∧ ∃ a' : Nat, σ' = [some (.ref a1), some (.ref a2), some (.ref D), some (.int (aa : Nat)), some (.int (a' : Nat)), some v, u6] ∧ H' = H8 ∧ AtO l2 o a' ∧ m' = l2.length - a', fun σ' H' h => h, ?_⟩
          have hl := (List.getElem?_eq_some_iff.mp ht).1
          exact ⟨_, rfl, _, _, rfl, rfl, l2.length - (a' + 1), by omega, a' + 1, rfl, rfl, ⟨t, ht, e2⟩, rfl⟩
        · refine ⟨a', rfl, rfl, hA, fun w hw => ?_⟩
          rw [ht] at hw
          obtain rfl := Option.some.inj hw
          simpa using e2
      · have e : ¬ ((a' : Nat) : Int) + 1 < (xs2.length : Nat) := fun z => e (decide_eq_true z)
        refine ⟨a', rfl, rfl, hA, fun w hw => ?_⟩
        have := (List.getElem?_eq_some_iff.mp hw).1
        omega
    obtain ⟨bb, rfl, rfl, hB1, hB2⟩ := h
    obtain ⟨tA, htA, eA⟩ := hA1.pick k1 hA2
    obtain ⟨tB, htB, eB⟩ := hB1.pick k2 hB2
    have hat' : ∀ fb' : List O, fb'.getLast? = some o → ∀ o', (∀ y, fb'.getLast? = some y → O.lt o' y = false) → AtO l1 o' aa ∧ AtO l2 o' bb := fun fb' hl o' h => ⟨atm hA1 (h o hl), atm hB1 (h o hl)⟩
    refine ⟨_, rfl, !xs.isEmpty, .inl ⟨xs, SqL.of eD6, rfl⟩, ?_⟩
    obtain ⟨yA, hyA, pA, uA, wA, rfl, tpA, _, swA⟩ := paired_get' p1 htA
    obtain ⟨yB, hyB, pB, uB, wB, rfl, tpB, _, swB⟩ := paired_get' p2 htB
    have hj : j < 4000000 := by
      have h1 := (List.getElem?_eq_some_iff.mp hv).1
      have h2 := perm.length_eq
      rw [List.length_append, List.length_map, List.length_map] at h2
      omega
    have hxl : xs.length < sizeLine := by
      rw [paired_len px, List.length_map]; exact small40k (by omega)
    by_cases hx : xs = []
    · have hfb : fb = [] := by
        have := paired_len px
        rw [hx, List.length_map] at this
        exact List.length_eq_zero_iff.mp this.symm
      have on2 := once_new srt on ho fun y hy => by rw [hfb] at hy; cases hy
      have ex : (!xs.isEmpty) = false := by rw [hx]; rfl
      rw [ex]
      refine iteT ?_
      refine ⟨_, rfl, .inl ⟨rfl, _, SqL.of eD6⟩, _, rfl, _, rfl, _, rfl, a1, _, _, _, rfl, rfl, t1.sq, atI_nat hyA, pA, _, 1, _, rfl, rfl, tpA.sq, rfl, _, rfl, _, rfl, a2, _, _, _, rfl, rfl, t2.sq, atI_nat hyB, pB, _, 1, _, rfl, rfl, tpB.sq, rfl, (by show 3 ≤ sizeLine; decide), fun p np => ⟨D, _, _, rfl, rfl, same_new np _ _ eD6, hxl, ?_⟩⟩
      have z1 := same_new (o := .tup [v, wA, wB]) np
      have eDp := z1 _ _ eD6
      have tD := tp_lst (o := .lst (xs ++ [.ref p])) eDp
      refine ⟨_, _, aa, bb, fb ++ [o], xs ++ [.ref p], rfl, same_mut (s6.trans z1) nD4, (t6.trans (same_tp z1)).trans tD, by rw [upd_ne hSD]; exact z1 _ _ eS6, upd_same, ?_, on2, by rw [List.length_append]; show fb.length + 1 ≤ j + 1; omega, hat' _ (by simp)⟩
      rw [List.map_append]
      refine paired_app (tri_tp tD (tri_tp (same_tp z1) px)) (.cons ⟨p, v, wA, wB, rfl, (TT.of upd_same).tp tD, (ov.same z1).tp tD, ?_, ?_⟩ .nil)
      · show SA K _ n wA (pickS l1 o)
        rw [eA]; exact (swA.same z1).tp tD
      · show SA K _ n wB (pickS l2 o)
        rw [eB]; exact (swB.same z1).tp tD
    · have ex : (!xs.isEmpty) = true := by cases xs with | nil => exact absurd rfl hx | cons _ _ => rfl
      rw [ex]
      refine iteF ?_
      obtain ⟨xs', xl, ts', tl, rfl, hts, px', pxl⟩ := paired_last px hx
      obtain ⟨y, hy, rfl⟩ : ∃ y, fb.getLast? = some y ∧ tl = tri l1 l2 y := by
        have hm := congrArg List.getLast? hts
        rw [List.getLast?_map] at hm
        simp only [List.getLast?_append, List.getLast?_singleton, Option.some_or] at hm
        obtain ⟨y, h1, h2⟩ := Option.map_eq_some_iff.mp hm
        exact ⟨y, h1, h2.symm⟩
      obtain ⟨pl, ul, wl1, wl2, rfl, tpl, oul, _, _⟩ := pxl
      have yb : O.dp y ≤ 30 := by
        have hm : y ∈ ss := List.mem_of_mem_take ((on.mem y).mp (List.mem_of_getLast? hy))
        rcases List.mem_append.mp (perm.mem_iff.mp hm) with q | q
        · obtain ⟨t, ht, rfl⟩ := List.mem_map.mp q
          exact d1 t ht
        · obtain ⟨t, ht, rfl⟩ := List.mem_map.mp q
          exact d2 t ht
      have ob : O.dp o ≤ 30 := by
        rcases List.mem_append.mp (perm.mem_iff.mp (List.mem_of_getElem? ho)) with q | q
        · obtain ⟨t, ht, rfl⟩ := List.mem_map.mp q
          exact d1 t ht
        · obtain ⟨t, ht, rfl⟩ := List.mem_map.mp q
          exact d2 t ht
      refine ⟨_, rfl, _, rfl, D, _, -1, _, rfl, rfl, SqL.of eD6, atI_last _ _, pl, _, 0, _, rfl, rfl, tpl.sq, rfl, _, rfl, rd_ne oul ov (by show O.dp y ≤ 60; omega) (by omega) ⟨_, rfl, ?_⟩⟩
      refine ite2 (fun e => ?_) (fun e => ?_)
      · have e : ¬ y = o := by
          have e : (!decide (y = o)) = true := e
          simpa using e
        have on2 := once_new srt on ho fun y2 hy2 => by
          rw [hy] at hy2
          obtain rfl := Option.some.inj hy2
          exact e
        generalize hxs : xs' ++ [V.ref pl] = xs at *
        refine ⟨_, rfl, .inl ⟨rfl, _, SqL.of eD6⟩, _, rfl, _, rfl, _, rfl, a1, _, _, _, rfl, rfl, t1.sq, atI_nat hyA, pA, _, 1, _, rfl, rfl, tpA.sq, rfl, _, rfl, _, rfl, a2, _, _, _, rfl, rfl, t2.sq, atI_nat hyB, pB, _, 1, _, rfl, rfl, tpB.sq, rfl, (by show 3 ≤ sizeLine; decide), fun p np => ⟨D, _, _, rfl, rfl, same_new np _ _ eD6, hxl, ?_⟩⟩
        have z1 := same_new (o := .tup [v, wA, wB]) np
        have eDp := z1 _ _ eD6
        have tD := tp_lst (o := .lst (xs ++ [.ref p])) eDp
        refine ⟨_, _, aa, bb, fb ++ [o], xs ++ [.ref p], rfl, same_mut (s6.trans z1) nD4, (t6.trans (same_tp z1)).trans tD, by rw [upd_ne hSD]; exact z1 _ _ eS6, upd_same, ?_, on2, by rw [List.length_append]; show fb.length + 1 ≤ j + 1; omega, hat' _ (by simp)⟩
        rw [List.map_append]
        refine paired_app (tri_tp tD (tri_tp (same_tp z1) px)) (.cons ⟨p, v, wA, wB, rfl, (TT.of upd_same).tp tD, (ov.same z1).tp tD, ?_, ?_⟩ .nil)
        · show SA K _ n wA (pickS l1 o)
          rw [eA]; exact (swA.same z1).tp tD
        · show SA K _ n wB (pickS l2 o)
          rw [eB]; exact (swB.same z1).tp tD
      · have e : y = o := by
          have e : ¬ (!decide (y = o)) = true := e
          simpa using e
        rw [e] at hy
        exact ⟨_, _, aa, bb, fb, _, rfl, s6, t6, eS6, eD6, px, once_old on ho hy, by omega, hat' fb hy⟩
  · obtain ⟨u5, u6, a, b, fb, xs, rfl, s6, t6, eS6, eD6, px, on, _, _⟩ := h
    rw [once_bs perm on (by omega)] at px
    exact ⟨_, rfl, q D xs H6 s6 eD6 px⟩
end
end Vw

set_option Elab.async false
set_option linter.all false
set_option maxRecDepth 100000
set_option maxHeartbeats 4000000
namespace Vw
open PySem PySem.W PyProof.Rows L2
abbrev sparting : Stmt := top 37
theorem scparting : FnScope ["one", "other", "steps", "at", "begin", "inner", "beside", "rest", "first"] ["one", "other"] (defScope sparting) := ⟨rfl, rfl, rfl, by decide +kernel, rfl, by decide +kernel, by decide +kernel⟩
section
variable {P : Program} {w : World} {K : PySem.W.Frag} {mg : Str → Option Value} {base : Heap}
theorem part_zero {a b : Bool} : (a = b → partS 0 a b = none) ∧ (¬ a = b → partS 0 a b = some []) := by
  have e : partS 0 a b = if a = b then none else some [] := rfl
  rw [e]
  exact ⟨fun h => if_pos h, fun h => if_neg h⟩
def spPart (K : PySem.W.Frag) (j : Nat) : Sp := fun vs H Q _ => ∃ (v1 v2 : V) (n : Nat) (a b : SD n), vs = [v1, v2] ∧ n < j ∧ j ≤ 5 ∧ SA K H n v1 a ∧ SA K H n v2 b ∧ okW n a ∧ okW n b ∧ Bs 20 1000000 1500000 n a ∧ Bs 20 1000000 1500000 n b ∧ ∀ (v : V) (H' : Hp), Same H H' → PtA K H' v (partS n a b) → Q v H'
theorem ok_parting  {aZERO : Addr} {aONE : Addr} {aVowError : Addr} {aInvalidLevels : Addr} {aInvalidStair : Addr} {aInvalidRow : Addr} {aLevelsDiffer : Addr} {aMeaning : Addr} {f_Meaning_init : Addr} {p_Meaning_always : Addr} {f_Meaning_always : Addr} {p_Meaning_never : Addr} {f_Meaning_never : Addr} {p_Meaning_levels : Addr} {f_Meaning_levels : Addr} {f_Meaning_stair : Addr} {f_Meaning_least : Addr} {f_Meaning_lies_in : Addr} {f_Meaning_add : Addr} {f_Meaning_mul : Addr} {f_Meaning_neg : Addr} {f_Meaning_contains : Addr} {f_Meaning_bool : Addr} {f_Meaning_eq : Addr} {f_Meaning_repr : Addr} (T : Txt K mg  aZERO aONE aVowError aInvalidLevels aInvalidStair aInvalidRow aLevelsDiffer aMeaning f_Meaning_init p_Meaning_always f_Meaning_always p_Meaning_never f_Meaning_never p_Meaning_levels f_Meaning_levels f_Meaning_stair f_Meaning_least f_Meaning_lies_in f_Meaning_add f_Meaning_mul f_Meaning_neg f_Meaning_contains f_Meaning_bool f_Meaning_eq f_Meaning_repr) {f f1 f2 : Addr} {fd fd1 fd2 : FuncData} {j : Nat} (F : Fun K "parting" "parting" sparting f fd) (C__paired : Cal P w K mg base 1 "_paired" ["one", "other"] (spPair K) f1 fd1) (C_reached : Cal P w K mg base 3 "reached" ["begin", "rest"] (spReach K) f2 fd2)
    (C_parting : Cal P w K mg base (j + 3) "parting" ["one", "other"] (spPart K j) f fd) : FnOk P w K mg base CX0 (j + 4) f fd ["one", "other"] (spPart K (j + 1)) := by
  refine F.ok scparting (fun vs H Q E h => ?_) (fun cdv A outer s H vs Q E hr h => ?_)
  · obtain ⟨_, _, _, _, _, rfl, _⟩ := h; rfl
  obtain ⟨v1, v2, n, a, b, rfl, hn, hj, h1, h2, k1, k2, b1, b2, q⟩ := h
  refine ⟨_, (pss_cons (ps_if (pt_val (pe_callB call_isD (by rfl) T.z_isinstance (by decide +kernel) (pa_cons (pv 0) (pa_cons (pe_bltn (v := .ty "bool") (u := .type "bool") (by rfl) T.z_bool (by decide +kernel) rfl) pa_nil)))) (pss_one (ps_ret (pe_ifExp (pt_cmpR op_eq (pv 0) (pv 1) (nomark _)) pe_non (pe_tup pa_nil)))) pss_nil)
  (pss_cons (ps_set (i := 2) scparting.nd rfl (Or.inl rfl) (pe_call C__paired.G (hr.mono (by omega)) (by rfl) C__paired.m C__paired.kp C__paired.b .nil pass0 (pa_cons (pv 0) (pa_cons (pv 1) pa_nil))))
  (pss_cons (ps_for PassesOwn.never rfl (pi_enum (by rfl) T.z_enumerate (pa_cons (pv 2) pa_nil)) (pg_tup (by rfl) (pgs_cons (pg_name (i := 3) scparting.nd rfl (Or.inl rfl)) (pgs_cons (pg_tup (by rfl) (pgs_cons (pg_name (i := 4) scparting.nd rfl (Or.inl rfl)) (pgs_cons (pg_name (i := 5) scparting.nd rfl (Or.inl rfl)) (pgs_cons (pg_name (i := 6) scparting.nd rfl (Or.inl rfl)) pgs_nil)))) pgs_nil)))
   (pss_cons (ps_set (i := 7) scparting.nd rfl (Or.inl rfl) (pe_call C_parting.G (hr.mono (by omega)) (by rfl) C_parting.m C_parting.kp C_parting.b .nil pass0 (pa_cons (pv 5) (pa_cons (pv 6) pa_nil))))
  (pss_cons (ps_if (pt_cmpR op_isN (pv 7) pe_non (nomark _)) (pss_one ps_continue) pss_nil)
  (pss_cons (ps_set (i := 8) scparting.nd rfl (Or.inl rfl) (pe_call C_reached.G (hr.mono (by omega)) (by rfl) C_reached.m C_reached.kp C_reached.b .nil pass0 (pa_cons (pv 4) (pa_cons (pv 7) pa_nil))))
  (pss_one (ps_if (PW.pt (pw_or (pt_cmpR op_eq (pe_op op_add (pv 3) pe_int) (pe_callB call_lenB (by rfl) T.z_len (by decide +kernel) (pa_cons (pv 2) pa_nil)) (nomark _)) (pw_or1 (pt_cmpR (op_ltD hr.units) (pv 8) (pe_ix ix_tup (pe_ix ix_list (pv 2) (pe_op op_add (pv 3) pe_int) (fun _ _ => rfl)) pe_int (fun _ _ => rfl)) (nomark _))))) (pss_one (ps_ret (pe_op op_catO (pe_tup (pa_cons (pv 8) pa_nil)) (pv 7)))) pss_nil))))))
  (pss_one (ps_ret pe_non))))), ?_⟩
  cases n with
  | zero =>
    obtain rfl : v1 = .bl a := h1
    obtain rfl : v2 = .bl b := h2
    refine ⟨_, rfl, rd_bool (.bl a) ⟨_, rfl, iteT ?_⟩⟩
    refine ⟨_, rfl, _, rfl, rfl, _, rfl, ite2 (fun e => ?_) (fun e => ?_)⟩
    · have e : (a : Bool) = b := V.bl.inj (of_decide_eq_true e)
      refine q _ H (Same.refl H) ?_
      rw [part_zero.1 e]; rfl
    · have e : ¬ (a : Bool) = b := fun z => e (decide_eq_true (by rw [z]))
      refine ⟨(by show 0 ≤ sizeLine; decide), fun p np => q _ _ (same_new np) ?_⟩
      rw [part_zero.2 e]
      exact nil_row (.of upd_same)
  | succ n =>
    obtain ⟨pa, xa, rfl, ta, _⟩ := h1.un
    refine ⟨_, rfl, rd_bool h1.dp ⟨_, rfl, iteF ?_⟩⟩
    have pz := partS_ok (n + 1) a b k1 k2
    refine ⟨_, rfl, _, rfl, _, _, n, a, b, rfl, h1, h2, k1, k2, fun t ht => by have := (b1.2 t ht).1; omega, fun t ht => by have := (b2.2 t ht).1; omega, b1.1, b2.1, fun D xs H1 s1 eD px => ?_⟩
    have hbs : ∀ o ∈ bsOf a b, Fit o := fun o ho => by
      rcases bs_mem.mp ho with ⟨t, ht, e⟩ | ⟨t, ht, e⟩
      · have := b1.2 t ht
        rw [← e]; exact ⟨k1.2.2.1 t ht, by omega, by omega⟩
      · have := b2.2 t ht
        rw [← e]; exact ⟨k2.2.2.1 t ht, by omega, by omega⟩
    refine ⟨_, rfl, D, xs, rfl, SqL.of eD, ?_⟩
    refine for_enumL (xs := xs) (fun i σ H' => ∃ u3 u4 u5 u6 u7 u8, σ = [some (.ref pa), some v2, some (.ref D), u3, u4, u5, u6, u7, u8] ∧ Same H1 H' ∧ partGo (partS n) a b ((bsOf a b).drop i) = partS (n + 1) a b) ⟨_, _, _, _, _, _, rfl, Same.refl H1, rfl⟩ (fun i σ H' _ h => ?_) (fun i x2 C σ H' hx2 h nC => ?_) (fun σ H' h => ?_)
    · obtain ⟨_, _, _, _, _, _, _, s, _⟩ := h
      exact SqL.of (s _ _ eD)
    · obtain ⟨u3, u4, u5, u6, u7, u8, rfl, s2, hp⟩ := h
      obtain ⟨tt, ht, p, u, w1, w2, rfl, tp, ou, sw1, sw2⟩ := paired_get px hx2
      rw [List.getElem?_map] at ht
      obtain ⟨o, ho, rfl⟩ := Option.map_eq_some_iff.mp ht
      have s3 := s2.trans (same_new (o := .tup [.int (i : Nat), .ref p]) nC)
      have fo := hbs o (List.mem_of_getElem? ho)
      rw [drop_at ho] at hp
      have pn := partS_ok n (pickS a o) (pickS b o) (okW_pick k1 o) (okW_pick k2 o)
      have bo1 := b1.pick k1 o
      have bo2 := b2.pick k2 o
      refine ⟨C, _, rfl, SqT.of upd_same, rfl, _, _, rfl, _, _, rfl, p, _, rfl, (tp.same s3).sq, rfl, _, _, rfl, _, _, rfl, _, _, rfl, rfl, rfl, ?_⟩
      refine ⟨_, rfl, _, rfl, w1, w2, n, pickS a o, pickS b o, rfl, by omega, by omega, sw1.same s3, sw2.same s3, okW_pick k1 o, okW_pick k2 o, bo1, bo2, fun vr H3 s4 pr => ?_⟩
      have s34 := s3.trans s4
      have unf : partGo (partS n) a b (o :: (bsOf a b).drop (i + 1)) = (match partS n (pickS a o) (pickS b o) with
        | none => partGo (partS n) a b ((bsOf a b).drop (i + 1))
        | some r => if (match (generalizing := false) (bsOf a b).drop (i + 1) with
          | [] => true
          | c :: _ => O.lt (reachO o r) c) = true then some (reachO o r :: r) else partGo (partS n) a b ((bsOf a b).drop (i + 1))) := rfl
      rw [unf] at hp
      refine ⟨_, rfl, rfl, _, rfl, ?_⟩
      cases e : partS n (pickS a o) (pickS b o) with
      | none =>
        rw [e] at pr hp
        obtain rfl : vr = .non := pr
        refine ite2 (fun _ => ?_) (fun z => absurd (decide_eq_true rfl) z)
        exact ⟨_, _, _, _, _, _, rfl, s34, hp⟩
      | some r =>
        have pb := part_bd (okW_pick k1 o) (okW_pick k2 o) bo1 bo2 e
        rw [e] at pr hp pn
        obtain ⟨ar, xr, rfl, tr, qr⟩ := id pr
        have rowr : RowA K H3 (.ref ar) r := pr
        have fr : ∀ g ∈ r, Fit g := fun g hg => by
          have := pb g hg
          exact ⟨pn.1.2.1 g hg, by omega, by omega⟩
        refine ite2 (fun z => absurd z (by simp)) (fun _ => ?_)
        refine ⟨_, rfl, _, rfl, u, .ref ar, o, r, rfl, ou.same s34, rowr, fo, fr, fun vf H4 s5 of => ?_⟩
        have s35 := s34.trans s5
        have eD4 := (s35 _ _ eD)
        have hlx := paired_len px
        rw [List.length_map] at hlx
        have hxl := (List.getElem?_eq_some_iff.mp hx2).1
        have rl : xr.length = n := by rw [paired_len qr]; exact pn.1.1
        have fin : ∀ (p6 : Addr) (H6 : Hp), Same H4 H6 → TT K H6 p6 ([vf] ++ xr) → partS (n + 1) a b = some (reachO o r :: r) → Q (.ref p6) H6 := fun p6 H6 s6 t6 hpt => by
          refine q _ H6 ((s1.trans s35).trans s6) ?_
          rw [hpt]
          exact RowA.of t6 (.cons (of.same s6) (paired_tp (same_tp (s5.trans s6)) qr))
        refine ⟨_, rfl, _, _, rfl, rfl, _, rfl, rd_len (.inl (SqL.of eD4)) fun _ => ⟨rfl, _, rfl, ?_⟩⟩
        refine ite2 (fun z => ?_) (fun z => ?_)
        · have z : V.int ((i : Nat) + 1) = V.int (xs.length : Nat) := of_decide_eq_true z
          have z := V.int.inj z
          have hd : (bsOf a b).drop (i + 1) = [] := List.drop_of_length_le (by omega)
          rw [hd] at hp
          have hp : some (reachO o r :: r) = partS (n + 1) a b := hp
          exact ⟨_, rfl, (by show 1 ≤ sizeLine; decide), fun p5 n5 => ⟨_, rfl, rd_cat (.of upd_same) ((tr.same s5).same (same_new n5)) (by show 1 + xr.length ≤ 10000000; omega) fun p6 H6 s6 t6 => fin p6 H6 ((same_new n5).trans s6) t6 hp.symm⟩⟩
        · have z : ¬ V.int ((i : Nat) + 1) = V.int (xs.length : Nat) := fun y => z (decide_eq_true y)
          have hi1 : i + 1 < xs.length := by
            rcases Nat.lt_or_ge (i + 1) xs.length with y | y
            · exact y
            · exact absurd (congrArg V.int (show ((i : Nat) : Int) + 1 = (xs.length : Nat) by omega)) z
          obtain ⟨y3, hy3⟩ : ∃ y, xs[i + 1]? = some y := ⟨_, List.getElem?_eq_getElem hi1⟩
          obtain ⟨t3, ht3, p3, u3', w3, w4, rfl, tp3, ou3, _, _⟩ := paired_get px hy3
          rw [List.getElem?_map] at ht3
          obtain ⟨c, hc, rfl⟩ := Option.map_eq_some_iff.mp ht3
          rw [drop_at hc] at hp
          have hp : (if O.lt (reachO o r) c = true then some (reachO o r :: r) else partGo (partS n) a b (c :: (bsOf a b).drop (i + 1 + 1))) = partS (n + 1) a b := hp
          have fd1 : O.dp (reachO o r) ≤ 60 := by
            have := (reach_bd (b := o) (r := r) (D := 50) (W := 2000000) (by have := fo.2.1; omega) (by have := fo.2.2; omega) fun g hg => by
              have := fr g (List.mem_of_mem_head? hg)
              have h1 := this.2.1
              have h2 := this.2.2
              omega).1
            omega
          refine ⟨_, rfl, _, rfl, _, rfl, _, _, rfl, rfl, D, _, _, _, rfl, rfl, SqL.of eD4, atI_nat (j := i + 1) hy3, p3, _, 0, _, rfl, rfl, (tp3.same s35).sq, rfl, rd_lt of (ou3.same s35) fd1 ⟨_, rfl, ?_⟩⟩
          refine ite2 (fun y => ?_) (fun y => ?_)
          · have y : O.lt (reachO o r) c = true := y
            rw [if_pos y] at hp
            exact ⟨_, rfl, (by show 1 ≤ sizeLine; decide), fun p5 n5 => ⟨_, rfl, rd_cat (.of upd_same) ((tr.same s5).same (same_new n5)) (by show 1 + xr.length ≤ 10000000; omega) fun p6 H6 s6 t6 => fin p6 H6 ((same_new n5).trans s6) t6 hp.symm⟩⟩
          · have y : ¬ O.lt (reachO o r) c = true := y
            rw [if_neg y, ← drop_at hc] at hp
            exact ⟨_, _, _, _, _, _, rfl, s35, hp⟩
    · obtain ⟨u3, u4, u5, u6, u7, u8, rfl, s2, hp⟩ := h
      have hl := paired_len px
      rw [List.length_map] at hl
      rw [hl, List.drop_length] at hp
      refine q _ H' (s1.trans s2) ?_
      rw [← hp]; rfl
end
end Vw

set_option Elab.async false
set_option linter.all false
set_option maxRecDepth 100000
set_option maxHeartbeats 4000000
namespace Vw
open PySem PySem.W PyProof.Rows L2
abbrev s_conflict : Stmt := top 44
theorem sc_conflict : FnScope ["before", "inner", "bound", "begin", "rest"] ["before", "inner", "bound", "begin"] (defScope s_conflict) := ⟨rfl, rfl, rfl, by decide +kernel, rfl, by decide +kernel, by decide +kernel⟩
section
variable {P : Program} {w : World} {K : PySem.W.Frag} {mg : Str → Option Value} {base : Heap}
def spConf (K : PySem.W.Frag) (j : Nat) : Sp := fun vs H Q _ => ∃ (v1 v2 vd vb : V) (n : Nat) (a b : SD n) (bd o : O), vs = [v1, v2, vd, vb] ∧ n < j ∧ j ≤ 5 ∧ SA K H n v1 a ∧ SA K H n v2 b ∧ okW n a ∧ okW n b ∧ Bs 20 1000000 1500000 n a ∧ Bs 20 1000000 1500000 n b ∧ OA K H vd bd ∧ OA K H vb o ∧ Fit o ∧
  ∀ (v : V) (H' : Hp), Same H H' → LimA K H' v (conf a b bd o) → Q v H'
theorem ok_conflict  {aZERO : Addr} {aONE : Addr} {aVowError : Addr} {aInvalidLevels : Addr} {aInvalidStair : Addr} {aInvalidRow : Addr} {aLevelsDiffer : Addr} {aMeaning : Addr} {f_Meaning_init : Addr} {p_Meaning_always : Addr} {f_Meaning_always : Addr} {p_Meaning_never : Addr} {f_Meaning_never : Addr} {p_Meaning_levels : Addr} {f_Meaning_levels : Addr} {f_Meaning_stair : Addr} {f_Meaning_least : Addr} {f_Meaning_lies_in : Addr} {f_Meaning_add : Addr} {f_Meaning_mul : Addr} {f_Meaning_neg : Addr} {f_Meaning_contains : Addr} {f_Meaning_bool : Addr} {f_Meaning_eq : Addr} {f_Meaning_repr : Addr} (T : Txt K mg  aZERO aONE aVowError aInvalidLevels aInvalidStair aInvalidRow aLevelsDiffer aMeaning f_Meaning_init p_Meaning_always f_Meaning_always p_Meaning_never f_Meaning_never p_Meaning_levels f_Meaning_levels f_Meaning_stair f_Meaning_least f_Meaning_lies_in f_Meaning_add f_Meaning_mul f_Meaning_neg f_Meaning_contains f_Meaning_bool f_Meaning_eq f_Meaning_repr) {f f1 f2 : Addr} {fd fd1 fd2 : FuncData} {j k : Nat} (F : Fun K "_conflict" "_conflict" s_conflict f fd) (C_parting : Cal P w K mg base (k + 3) "parting" ["one", "other"] (spPart K j) f1 fd1) (C_reached : Cal P w K mg base 3 "reached" ["begin", "rest"] (spReach K) f2 fd2) :
    FnOk P w K mg base CX0 (k + 4) f fd ["before", "inner", "bound", "begin"] (spConf K j) := by
  refine F.ok sc_conflict (fun vs H Q E h => ?_) (fun cdv A outer s H vs Q E hr h => ?_)
  · obtain ⟨_, _, _, _, _, _, _, _, _, rfl, _⟩ := h; rfl
  obtain ⟨v1, v2, vd, vb, n, a, b, bd, o, rfl, hn, hj, h1, h2, k1, k2, b1, b2, hd, hb, fo, q⟩ := h
  refine ⟨_, (pss_cons (ps_set (i := 4) sc_conflict.nd rfl (Or.inl rfl) (pe_call C_parting.G (hr.mono (by omega)) (by rfl) C_parting.m C_parting.kp C_parting.b .nil pass0 (pa_cons (pv 0) (pa_cons (pv 1) pa_nil))))
  (pss_cons (ps_if (PW.pt (pw_or (pt_cmpR op_isN (pv 4) pe_non (nomark _)) (pw_or1 (PW.pt (pw_and (pt_cmpR (op_neO hr.units) (pv 4) (pe_tup pa_nil) (nomark _)) (pw_and1 (pt_cmpR (op_geD hr.units) (pe_ix ix_tup (pv 4) pe_int (fun _ _ => rfl)) (pv 2) (nomark _)))))))) (pss_one (ps_ret pe_non)) pss_nil)
  (pss_one (ps_ret (pe_call C_reached.G (hr.mono (by omega)) (by rfl) C_reached.m C_reached.kp C_reached.b .nil pass0 (pa_cons (pv 3) (pa_cons (pv 4) pa_nil))))))), ?_⟩
  have pn := partS_ok n a b k1 k2
  refine ⟨_, rfl, _, rfl, v1, v2, n, a, b, rfl, hn, hj, h1, h2, k1, k2, b1, b2, fun vr H1 s1 pr => ?_⟩
  refine ⟨_, rfl, rfl, _, rfl, ?_⟩
  cases e : partS n a b with
  | none =>
    rw [e] at pr
    obtain rfl : vr = .non := pr
    refine ite2 (fun _ => ?_) (fun z => absurd (decide_eq_true rfl) z)
    refine q .non H1 s1 ?_
    unfold conf; rw [e]; rfl
  | some r =>
    have pb := part_bd k1 k2 b1 b2 e
    rw [e] at pr pn
    obtain ⟨ar, xr, rfl, tr, qr⟩ := id pr
    have rowr : RowA K H1 (.ref ar) r := pr
    have fr : ∀ g ∈ r, Fit g := fun g hg => by
      have := pb g hg
      exact ⟨pn.1.2.1 g hg, by omega, by omega⟩
    refine ite2 (fun z => absurd z (by simp)) (fun _ => ?_)
    refine ⟨_, rfl, (by show 0 ≤ sizeLine; decide), fun p np => rd_neRowD (rowr.same (same_new np)) (nil_row (.of upd_same)) (fun g hg => by have := (fr g hg).2.1; omega) (fun g hg => by cases hg) ⟨_, rfl, ?_⟩⟩
    have s2 := s1.trans (same_new (o := .tup []) np)
    have go : conf a b bd o = some (reachO o r) → ∀ H2, Same H1 H2 → spReach K [vb, .ref ar] H2 (fun v H' => Q v H') E0 := fun hc H2 s => ⟨vb, .ref ar, o, r, rfl, hb.same (s1.trans s), rowr.same s, fo, fr, fun v H' s' ov => q v H' ((s1.trans s).trans s') (by rw [hc]; exact ov)⟩
    refine ite2 (fun z => ?_) (fun z => ?_)
    · have z : ¬ r = [] := by
        have z : (!decide (r = [])) = true := z
        simpa using z
      cases r with
      | nil => exact absurd rfl z
      | cons g r =>
        obtain ⟨v0, hv0, o0⟩ := paired_get' (i := 0) qr rfl
        refine ⟨_, rfl, ar, _, _, _, rfl, rfl, (tr.same (same_new np)).sq, atI_nat (j := 0) hv0, _, rfl, rd_ge (o0.same (same_new np)) (hd.same s2) (by have := (fr g List.mem_cons_self).2.1; omega) ⟨_, rfl, ?_⟩⟩
        refine ite2 (fun y => ?_) (fun y => ?_)
        · have y : O.lt g bd = false := by
            have y : (!O.lt g bd) = true := y
            simpa using y
          refine q .non _ s2 ?_
          unfold conf; rw [e]
          show LimA K _ .non (if O.lt g bd = true then some (reachO o (g :: r)) else none)
          rw [y]; rfl
        · have y : O.lt g bd = true := by
            have y : ¬ (!O.lt g bd) = true := y
            simpa using y
          have hc : conf a b bd o = some (reachO o (g :: r)) := by
            unfold conf; rw [e]
            show (if O.lt g bd = true then some (reachO o (g :: r)) else none) = _
            rw [y]; rfl
          exact ⟨_, rfl, _, rfl, go hc _ (same_new np)⟩
    · have z : r = [] := by
        have z : ¬ (!decide (r = [])) = true := z
        simpa using z
      subst z
      have hc : conf a b bd o = some (reachO o []) := by unfold conf; rw [e]; rfl
      exact ⟨_, rfl, _, rfl, go hc _ (same_new np)⟩
end
end Vw

set_option Elab.async false
set_option linter.all false
set_option maxRecDepth 100000
set_option maxHeartbeats 4000000
namespace Vw
open PySem PySem.W PyProof.Rows L2
abbrev s_spliced : Stmt := top 45
theorem sc_spliced : FnScope ["before", "inner", "bound", "low", "high", "step"] ["before", "inner", "bound"] (defScope s_spliced) := ⟨rfl, rfl, rfl, by decide +kernel, rfl, by decide +kernel, by decide +kernel⟩
section
variable {P : Program} {w : World} {K : PySem.W.Frag} {mg : Str → Option Value} {base : Heap}
def spSpl (K : PySem.W.Frag) : Sp := fun vs H Q _ => ∃ (v1 v2 x : V) (n : Nat) (a b : SD n) (bd : O), vs = [v1, v2, x] ∧ SA K H n v1 a ∧ SA K H n v2 b ∧ okW n b ∧ Bs 20 1000000 1500000 n a ∧ Bs 20 1000000 1500000 n b ∧ OA K H x bd ∧ O.dp bd ≤ 30 ∧ ∀ (w : V) (H' : Hp), Same H H' → SA K H' n w (splice n a b bd) → Q w H'
theorem ok_spliced  {aZERO : Addr} {aONE : Addr} {aVowError : Addr} {aInvalidLevels : Addr} {aInvalidStair : Addr} {aInvalidRow : Addr} {aLevelsDiffer : Addr} {aMeaning : Addr} {f_Meaning_init : Addr} {p_Meaning_always : Addr} {f_Meaning_always : Addr} {p_Meaning_never : Addr} {f_Meaning_never : Addr} {p_Meaning_levels : Addr} {f_Meaning_levels : Addr} {f_Meaning_stair : Addr} {f_Meaning_least : Addr} {f_Meaning_lies_in : Addr} {f_Meaning_add : Addr} {f_Meaning_mul : Addr} {f_Meaning_neg : Addr} {f_Meaning_contains : Addr} {f_Meaning_bool : Addr} {f_Meaning_eq : Addr} {f_Meaning_repr : Addr} (T : Txt K mg  aZERO aONE aVowError aInvalidLevels aInvalidStair aInvalidRow aLevelsDiffer aMeaning f_Meaning_init p_Meaning_always f_Meaning_always p_Meaning_never f_Meaning_never p_Meaning_levels f_Meaning_levels f_Meaning_stair f_Meaning_least f_Meaning_lies_in f_Meaning_add f_Meaning_mul f_Meaning_neg f_Meaning_contains f_Meaning_bool f_Meaning_eq f_Meaning_repr) {f f1 : Addr} {fd fd1 : FuncData} (F : Fun K "_spliced" "_spliced" s_spliced f fd) (C_inner_at : Cal P w K mg base 1 "inner_at" ["stair", "ordinal"] (spPickW K) f1 fd1) : FnOk P w K mg base CX0 2 f fd ["before", "inner", "bound"] (spSpl K) := by
  refine F.ok sc_spliced (fun vs H Q E h => ?_) (fun cdv A outer s H vs Q E hr h => ?_)
  · obtain ⟨_, _, _, _, _, _, _, rfl, _⟩ := h; rfl
  obtain ⟨v1, v2, x, n, a, b, bd, rfl, h1, h2, k2, b1, b2, hx, hd, q⟩ := h
  refine ⟨_, (pss_cons (ps_if (pt_val (pe_callB call_isD (by rfl) T.z_isinstance (by decide +kernel) (pa_cons (pv 0) (pa_cons (pe_bltn (v := .ty "bool") (u := .type "bool") (by rfl) T.z_bool (by decide +kernel) rfl) pa_nil)))) (pss_one (ps_ret (pv 0))) pss_nil)
  (pss_cons (ps_set (i := 3) sc_spliced.nd rfl (Or.inl rfl) (pe_callTy call_tuple_of (by rfl) T.z_tuple (by decide +kernel) (pa_cons (pe_lc (own := [("step", 5)]) (g := gName 5) rfl sc_spliced.nd (pi_tup (pv 0)) (blkOk_by (own := [("step", 5)]) (N := ["before", "inner", "bound", "low", "high", "step"]) (sc := defScope s_spliced) (by decide +kernel)) (fun _ _ _ _ _ => (pg_name (i := 5) sc_spliced.nd rfl (Or.inl rfl))) (fun _ _ _ _ _ => (pts_one (pt_cmpR (r := rCmp (fun d e => dataLt d e) K) (op_ltD hr.units) (pe_ix (r := rIxT K) ix_tup (pv 5) pe_int (fun _ _ => rfl)) (pv 2) (nomark _)))) (fun _ _ _ _ _ => (pv 5))) pa_nil)))
  (pss_cons (ps_set (i := 4) sc_spliced.nd rfl (Or.inl rfl) (pe_callTy call_tuple_of (by rfl) T.z_tuple (by decide +kernel) (pa_cons (pe_lc (own := [("step", 5)]) (g := gName 5) rfl sc_spliced.nd (pi_tup (pv 1)) (blkOk_by (own := [("step", 5)]) (N := ["before", "inner", "bound", "low", "high", "step"]) (sc := defScope s_spliced) (by decide +kernel)) (fun _ _ _ _ _ => (pg_name (i := 5) sc_spliced.nd rfl (Or.inl rfl))) (fun _ _ _ _ _ => (pts_one (pt_cmpR (r := rCmp (fun d e => dataLt e d) K) (op_gtD hr.units) (pe_ix (r := rIxT K) ix_tup (pv 5) pe_int (fun _ _ => rfl)) (pv 2) (nomark _)))) (fun _ _ _ _ _ => (pv 5))) pa_nil)))
  (pss_one (ps_ret (pe_op op_catO (pe_op op_catO (pv 3) (pe_tup (pa_cons (pe_tup (pa_cons (pv 2) (pa_cons (pe_call C_inner_at.G (hr.mono (by omega)) (by rfl) C_inner_at.m C_inner_at.kp C_inner_at.b .nil pass0 (pa_cons (pv 1) (pa_cons (pv 2) pa_nil))) pa_nil))) pa_nil))) (pv 4))))))), ?_⟩
  cases n with
  | zero =>
    obtain rfl : v1 = .bl a := h1
    exact ⟨_, rfl, rd_bool (.bl a) ⟨_, rfl, iteT ⟨_, rfl, q _ H (Same.refl H) rfl⟩⟩⟩
  | succ n =>
    obtain ⟨a, rfl⟩ : ∃ l : List (O × SD n), l = a := ⟨a, rfl⟩
    obtain ⟨b, rfl⟩ : ∃ l : List (O × SD n), l = b := ⟨b, rfl⟩
    obtain ⟨pa, xa, rfl, ta, qa⟩ := h1.un
    obtain ⟨pb, xb, rfl, tb, qb⟩ := h2.un
    refine ⟨_, rfl, rd_bool h1.dp ⟨_, rfl, iteF ?_⟩⟩
    have la := paired_len qa
    have lb := paired_len qb
    have la2 := b1.1
    have lb2 := b2.1
    refine ⟨_, rfl, pa, rfl, ⟨_, ta.sq⟩, fun D nD => ?_⟩
    refine lc_tup (K := K) (a := pa) (xs := xa) (fun i H' => Same H H' ∧ ∃ acc, H' D = some (.lst acc) ∧ acc.length ≤ i ∧ Paired (StA K H' n) acc ((a.take i).filter fun t => O.lt t.1 bd)) ⟨same_new nD, [], upd_same, Nat.le_refl _, .nil⟩ (fun i H' _ h => (ta.same h.1).sq) (fun i y H' hy h => ?_) (fun H1 h => ?_)
    · obtain ⟨sm, acc, eD, hl, pc⟩ := h
      obtain ⟨t, ht, p, u, w2, rfl, tp, ou, sw⟩ := paired_get qa hy
      have hi : i < 4000000 := by have := (List.getElem?_eq_some_iff.mp hy).1; omega
      have dt := (b1.2 t (List.mem_of_getElem? ht)).1
      refine ⟨rfl, _, rfl, p, _, 0, _, rfl, rfl, (tp.same sm).sq, rfl, _, rfl, rd_lt (ou.same sm) (hx.same sm) (by omega) ⟨_, rfl, ?_⟩⟩
      have tk : a.take (i + 1) = a.take i ++ [t] := by rw [List.take_add_one, ht]; rfl
      refine ite2 (fun e => ?_) (fun e => ?_)
      · have e : O.lt t.1 bd = true := e
        have ft : ([t].filter fun t => O.lt t.1 bd) = [t] := by simp [e]
        refine ⟨_, rfl, acc, eD, small40k (by omega), same_mut sm nD, _, upd_same, by rw [List.length_append, List.length_singleton]; omega, ?_⟩
        have tD := tp_lst (o := .lst (acc ++ [.ref p])) eD
        rw [tk, List.filter_append, ft]
        exact steps_tp tD (paired_app pc (.cons ⟨p, u, w2, rfl, tp.same sm, ou.same sm, sw.same sm⟩ .nil))
      · have e : O.lt t.1 bd = false := Bool.eq_false_iff.mpr e
        have ft : ([t].filter fun t => O.lt t.1 bd) = [] := by simp [e]
        refine ⟨sm, acc, eD, by omega, ?_⟩
        rw [tk, List.filter_append, ft, List.append_nil]
        exact pc
    obtain ⟨s1, acc, eD, hl, pc⟩ := h
    rw [show xa.length = a.length from la, List.take_length] at pc
    refine ⟨D, acc, rfl, .inl ⟨SqL.of eD, fun g ng => ?_⟩⟩
    have s2 := s1.trans (same_new (o := .tup acc) ng)
    have tg : TT K (upd H1 g (.tup acc)) g acc := .of upd_same
    have pc := steps_tp (same_tp (same_new (o := .tup acc) ng)) pc
    generalize upd H1 g (.tup acc) = H2 at *
    have qb2 := steps_tp (same_tp s2) qb
    have tb2 := tb.same s2
    have hx2 := hx.same s2
    refine ⟨_, rfl, pb, rfl, ⟨_, tb2.sq⟩, fun D2 nD2 => ?_⟩
    refine lc_tup (K := K) (a := pb) (xs := xb) (fun i H' => Same H2 H' ∧ ∃ acc, H' D2 = some (.lst acc) ∧ acc.length ≤ i ∧ Paired (StA K H' n) acc ((b.take i).filter fun t => O.lt bd t.1)) ⟨same_new nD2, [], upd_same, Nat.le_refl _, .nil⟩ (fun i H' _ h => (tb2.same h.1).sq) (fun i y H' hy h => ?_) (fun H3 h => ?_)
    · obtain ⟨sm, acc2, eD2, hl2, pc⟩ := h
      obtain ⟨t, ht, p, u, w2, rfl, tp, ou, sw⟩ := paired_get qb2 hy
      have hi : i < 4000000 := by have := (List.getElem?_eq_some_iff.mp hy).1; omega
      have dt := (b2.2 t (List.mem_of_getElem? ht)).1
      refine ⟨rfl, _, rfl, p, _, 0, _, rfl, rfl, (tp.same sm).sq, rfl, _, rfl, rd_gt (ou.same sm) (hx2.same sm) (by omega) ⟨_, rfl, ?_⟩⟩
      have tk : b.take (i + 1) = b.take i ++ [t] := by rw [List.take_add_one, ht]; rfl
      refine ite2 (fun e => ?_) (fun e => ?_)
      · have e : O.lt bd t.1 = true := e
        have ft : ([t].filter fun t => O.lt bd t.1) = [t] := by simp [e]
        refine ⟨_, rfl, acc2, eD2, small40k (by omega), same_mut sm nD2, _, upd_same, by rw [List.length_append, List.length_singleton]; omega, ?_⟩
        have tD := tp_lst (o := .lst (acc2 ++ [.ref p])) eD2
        rw [tk, List.filter_append, ft]
        exact steps_tp tD (paired_app pc (.cons ⟨p, u, w2, rfl, tp.same sm, ou.same sm, sw.same sm⟩ .nil))
      · have e : O.lt bd t.1 = false := Bool.eq_false_iff.mpr e
        have ft : ([t].filter fun t => O.lt bd t.1) = [] := by simp [e]
        refine ⟨sm, acc2, eD2, by omega, ?_⟩
        rw [tk, List.filter_append, ft, List.append_nil]
        exact pc
    obtain ⟨s3, acc2, eD2, hl2, pc2⟩ := h
    rw [show xb.length = b.length from lb, List.take_length] at pc2
    refine ⟨D2, acc2, rfl, .inl ⟨SqL.of eD2, fun g2 ng2 => ?_⟩⟩
    have s4 := s3.trans (same_new (o := .tup acc2) ng2)
    have tg2 : TT K (upd H3 g2 (.tup acc2)) g2 acc2 := .of upd_same
    have pc2 := steps_tp (same_tp (same_new (o := .tup acc2) ng2)) pc2
    have pc := steps_tp (same_tp s4) pc
    have tg := tg.same s4
    generalize upd H3 g2 (.tup acc2) = H4 at *
    have s24 := s2.trans s4
    obtain ⟨xd, rfl⟩ := hx.ref
    refine ⟨_, rfl, _, rfl, _, rfl, _, rfl, .ref pb, .ref xd, n, b, bd, rfl, h2.same s24, k2, fun t ht => by have := (b2.2 t ht).1; omega, hx.same s24, by omega, fun w H5 s5 sw => ⟨(by show 2 ≤ sizeLine; decide), fun p6 n6 => ⟨(by show 1 ≤ sizeLine; decide), fun p7 n7 => ?_⟩⟩⟩
    have z6 := same_new (o := .tup [.ref xd, w]) n6
    have z7 := same_new (o := .tup [.ref p6]) n7
    have t6 : TT K (upd (upd H5 p6 (.tup [.ref xd, w])) p7 (.tup [.ref p6])) p6 [.ref xd, w] := (TT.of (H := upd H5 p6 (.tup [.ref xd, w])) upd_same).same z7
    refine rd_cat (((tg.same s5).same z6).same z7) (.of upd_same) (by show acc.length + 1 ≤ 10000000; omega) fun p8 H8 s8 t8 => ⟨_, rfl, rd_cat t8 ((((tg2.same s5).same z6).same z7).same s8) (by rw [List.length_append]; show acc.length + 1 + acc2.length ≤ 10000000; omega) fun p9 H9 s9 t9 => ?_⟩
    have sB := ((((s5.trans z6).trans z7).trans s8).trans s9)
    have sC := ((z6.trans z7).trans s8).trans s9
    refine q (.ref p9) H9 (s24.trans sB) ?_
    show SA K H9 (n + 1) (.ref p9) ((a.filter fun t => O.lt t.1 bd) ++ (bd, pickS b bd) :: (b.filter fun t => O.lt bd t.1))
    refine SA.mk t9 ?_
    rw [List.append_assoc]
    exact paired_app (steps_tp (same_tp sB) pc) (.cons ⟨p6, .ref xd, w, rfl, t6.same (s8.trans s9), hx.same (s24.trans sB), sw.same sC⟩ (steps_tp (same_tp sB) pc2))
end
end Vw

set_option Elab.async false
set_option linter.all false
set_option maxRecDepth 100000
set_option maxHeartbeats 4000000
namespace Vw
open PySem PySem.W PyProof.Rows L2
abbrev s_longest : Stmt := top 43
theorem sc_longest : FnScope ["stair", "limit", "steps", "found", "at", "begin", "inner", "low", "before", "bound", "first", "behind", "step"] ["stair", "limit"] (defScope s_longest) := ⟨rfl, rfl, rfl, by decide +kernel, rfl, by decide +kernel, by decide +kernel⟩
section
variable {P : Program} {w : World} {K : PySem.W.Frag} {mg : Str → Option Value} {base : Heap}
theorem ok_longest  {aZERO : Addr} {aONE : Addr} {aVowError : Addr} {aInvalidLevels : Addr} {aInvalidStair : Addr} {aInvalidRow : Addr} {aLevelsDiffer : Addr} {aMeaning : Addr} {f_Meaning_init : Addr} {p_Meaning_always : Addr} {f_Meaning_always : Addr} {p_Meaning_never : Addr} {f_Meaning_never : Addr} {p_Meaning_levels : Addr} {f_Meaning_levels : Addr} {f_Meaning_stair : Addr} {f_Meaning_least : Addr} {f_Meaning_lies_in : Addr} {f_Meaning_add : Addr} {f_Meaning_mul : Addr} {f_Meaning_neg : Addr} {f_Meaning_contains : Addr} {f_Meaning_bool : Addr} {f_Meaning_eq : Addr} {f_Meaning_repr : Addr} (T : Txt K mg  aZERO aONE aVowError aInvalidLevels aInvalidStair aInvalidRow aLevelsDiffer aMeaning f_Meaning_init p_Meaning_always f_Meaning_always p_Meaning_never f_Meaning_never p_Meaning_levels f_Meaning_levels f_Meaning_stair f_Meaning_least f_Meaning_lies_in f_Meaning_add f_Meaning_mul f_Meaning_neg f_Meaning_contains f_Meaning_bool f_Meaning_eq f_Meaning_repr) {f f1 f2 f3 f4 : Addr} {fd fd1 fd2 fd3 fd4 : FuncData} {j k : Nat} (F : Fun K "_longest" "_longest" s_longest f fd) (C_end_limit : Cal P w K mg base 3 "end_limit" ["low", "behind"] (spLim K O.endLim) f1 fd1)
    (C__conflict : Cal P w K mg base (k + 4) "_conflict" ["before", "inner", "bound", "begin"] (spConf K j) f2 fd2) (C__behind : Cal P w K mg base 1 "_behind" ["steps", "at", "limit"] (spBeh K) f3 fd3) (C__spliced : Cal P w K mg base 2 "_spliced" ["before", "inner", "bound"] (spSpl K) f4 fd4) :
    FnOk P w K mg base CX0 (k + 5) f fd ["stair", "limit"] (spLong K j) := by
  refine F.ok sc_longest (fun vs H Q E h => ?_) (fun cdv A outer s H vs Q E hr h => ?_)
  · obtain ⟨_, _, _, _, _, _, rfl, _⟩ := h; rfl
  obtain ⟨v, u, n, l, lim, W, rfl, hn, hj, hv, ok, hu, ho, hlb, hW, hb, hg, hl, q⟩ := h
  refine ⟨_, (pss_cons (ps_setLc (i := 2) (own := [("step", 12)]) (g := gName 12) rfl sc_longest.nd rfl rfl (sw_true rfl rfl rfl (by decide +kernel)) (pi_tup (pv 0)) (blkOk_by (own := [("step", 12)]) (N := ["stair", "limit", "steps", "found", "at", "begin", "inner", "low", "before", "bound", "first", "behind", "step"]) (sc := defScope s_longest) (by decide +kernel)) (fun _ _ _ _ _ => (pg_name (i := 12) sc_longest.nd rfl (Or.inl rfl))) (fun _ _ _ _ _ => (pts_one (PW.pt (pw_or (pt_cmpR op_isN (pv 1) pe_non (nomark _)) (pw_or1 (pt_cmpR (r := rCmp (fun d e => dataLt d e) K) (op_ltD hr.units) (pe_ix (r := rIxT K) ix_tup (pv 12) pe_int (fun _ _ => rfl)) (pv 1) (nomark _))))))) (fun _ _ _ _ _ => (pv 12)))
  (pss_cons (ps_set (i := 3) sc_longest.nd rfl (Or.inl rfl) (pe_lst (pa_cons (pe_ix ix_list (pv 2) pe_int (fun _ _ => rfl)) pa_nil)))
  (pss_cons (ps_for PassesOwn.never rfl (pi_range2 (by rfl) T.z_range (pa_cons pe_int (pa_cons (pe_callB call_lenB (by rfl) T.z_len (by decide +kernel) (pa_cons (pv 2) pa_nil)) pa_nil))) (pg_name (i := 4) sc_longest.nd rfl (Or.inl rfl))
   (pss_cons (ps_asg (pe_ix ix_list (pv 2) (pv 4) (fun _ _ => rfl)) (pg_tup (by rfl) (pgs_cons (pg_name (i := 5) sc_longest.nd rfl (Or.inl rfl)) (pgs_cons (pg_name (i := 6) sc_longest.nd rfl (Or.inl rfl)) pgs_nil))))
  (pss_cons (ps_asg (pe_ix ix_list (pv 3) (pe_un un_neg pe_int) (fun _ _ => rfl)) (pg_tup (by rfl) (pgs_cons (pg_name (i := 7) sc_longest.nd rfl (Or.inl rfl)) (pgs_cons (pg_name (i := 8) sc_longest.nd rfl (Or.inl rfl)) pgs_nil))))
  (pss_cons (ps_set (i := 9) sc_longest.nd rfl (Or.inl rfl) (pe_call C_end_limit.G (hr.mono (by omega)) (by rfl) C_end_limit.m C_end_limit.kp C_end_limit.b .nil pass0 (pa_cons (pv 7) (pa_cons (pv 5) pa_nil))))
  (pss_cons (ps_set (i := 10) sc_longest.nd rfl (Or.inl rfl) (pe_call C__conflict.G (hr.mono (by omega)) (by rfl) C__conflict.m C__conflict.kp C__conflict.b .nil pass0 (pa_cons (pv 8) (pa_cons (pv 6) (pa_cons (pv 9) (pa_cons (pv 5) pa_nil))))))
  (pss_cons (ps_set (i := 11) sc_longest.nd rfl (Or.inl rfl) (pe_call C__behind.G (hr.mono (by omega)) (by rfl) C__behind.m C__behind.kp C__behind.b .nil pass0 (pa_cons (pv 2) (pa_cons (pv 4) (pa_cons (pv 1) pa_nil)))))
  (pss_one (ps_if (PW.pt (pw_and (pt_cmpR op_notN (pv 10) pe_non (nomark _)) (pw_and1 (PW.pt (pw_or (pt_cmpR op_isN (pv 11) pe_non (nomark _)) (pw_or1 (pt_cmpR (op_ltD hr.units) (pv 10) (pv 11) (nomark _)))))))) (pss_one (ps_expr (pe_bm PySem.F.plainAttrs_list PySem.F.slot_list_append PySem.F.type_list_append mt_append (pv 3) (pa_cons (pe_tup (pa_cons (pv 10) (pa_cons (pv 6) pa_nil))) pa_nil)))) (pss_one (ps_asg (pe_tup (pa_cons (pv 7) (pa_cons (pe_call C__spliced.G (hr.mono (by omega)) (by rfl) C__spliced.m C__spliced.kp C__spliced.b .nil pass0 (pa_cons (pv 8) (pa_cons (pv 6) (pa_cons (pv 9) pa_nil)))) pa_nil))) (pg_sub (pv 3) (pe_un un_neg pe_int) set_list)))))))))))
  (pss_one (ps_ret (pv 3)))))), ?_⟩
  obtain ⟨a, xs, rfl, tt, pp⟩ := hv.un
  have la := paired_len pp
  have la2 := hb.1
  refine ⟨_, rfl, a, rfl, ⟨_, tt.sq⟩, fun D nD => ?_⟩
  refine lc_tup (K := K) (a := a) (xs := xs) (fun i H' => Same H H' ∧ ∃ acc, H' D = some (.lst acc) ∧ acc.length ≤ i ∧ Paired (StA K H' n) acc ((l.take i).filter fun t => ltO t.1 lim)) ⟨same_new nD, [], upd_same, Nat.le_refl _, .nil⟩ (fun i H' _ h => (tt.same h.1).sq) (fun i y H' hy h => ?_) (fun H1 h => ?_)
  · obtain ⟨sm, acc, eD, hl, pc⟩ := h
    obtain ⟨t, ht, p, u', w2, rfl, tp, ou, sw⟩ := paired_get pp hy
    have hi : i < 4000000 := by have := (List.getElem?_eq_some_iff.mp hy).1; omega
    have dt := (hb.2 t (List.mem_of_getElem? ht)).1
    have tk : l.take (i + 1) = l.take i ++ [t] := by rw [List.take_add_one, ht]; rfl
    have keep : ltO t.1 lim = true → ∃ acc_1, (upd H' D (.lst (acc ++ [.ref p]))) D = some (.lst acc_1) ∧ acc_1.length ≤ i + 1 ∧ Paired (StA K (upd H' D (.lst (acc ++ [.ref p]))) n) acc_1 ((l.take (i + 1)).filter fun t => ltO t.1 lim) := fun e => by
      have ft : ([t].filter fun t => ltO t.1 lim) = [t] := by simp [e]
      refine ⟨_, upd_same, by rw [List.length_append, List.length_singleton]; omega, ?_⟩
      have tD := tp_lst (o := .lst (acc ++ [.ref p])) eD
      rw [tk, List.filter_append, ft]
      exact steps_tp tD (paired_app pc (.cons ⟨p, u', w2, rfl, tp.same sm, ou.same sm, sw.same sm⟩ .nil))
    refine ⟨rfl, _, rfl, rfl, _, rfl, ?_⟩
    cases lim with
    | none =>
      obtain rfl : u = .non := hu
      refine ite2 (fun _ => ?_) (fun z => absurd (decide_eq_true rfl) z)
      exact iteT ⟨_, rfl, acc, eD, small40k (by omega), same_mut sm nD, keep rfl⟩
    | some h =>
      obtain ⟨ph, rfl⟩ := OA.ref hu
      have hh := hlb h rfl
      refine ite2 (fun z => absurd z (by simp)) (fun _ => ?_)
      refine ⟨_, rfl, p, _, 0, _, rfl, rfl, (tp.same sm).sq, rfl, _, rfl, rd_lt (ou.same sm) (OA.same hu sm) (by omega) ⟨_, rfl, ?_⟩⟩
      refine ite2 (fun e => ?_) (fun e => ?_)
      · exact ⟨_, rfl, acc, eD, small40k (by omega), same_mut sm nD, keep e⟩
      · have e : O.lt t.1 h = false := Bool.eq_false_iff.mpr e
        have ft : ([t].filter fun t => ltO t.1 (some h)) = [] := by
          rw [List.filter_cons, if_neg (by show ¬ O.lt t.1 h = true; rw [e]; decide)]; rfl
        refine ⟨sm, acc, eD, by omega, ?_⟩
        rw [tk, List.filter_append, ft, List.append_nil]
        exact pc
  obtain ⟨s1, acc, eD, hal, pc⟩ := h
  rw [show xs.length = l.length from la, List.take_length] at pc
  obtain ⟨i0, rs, ef, C, el, hz, hrl, hm⟩ := okW_filter ok ho
  rw [ef] at pc
  have mf := mu_filter (w := fun _ => 0) (c := 1) l (fun t => ltO t.1 lim)
  rw [ef] at mf
  have hL : mu (fun _ => 0) 1 (n + 1) ((O.z, i0) :: rs : List (O × SD n)) ≤ 1500000 := Nat.le_trans mf hl
  have gf := mu_filter (w := fun n => if n = 0 then 0 else 1) (c := 0) l (fun t => ltO t.1 lim)
  rw [ef] at gf
  have hG : wk n * (rs.length + 1) ≤ gr (n + 1) l := by
    refine Nat.le_trans ?_ gf
    show wk n * (rs.length + 1) ≤ gr (n + 1) ((O.z, i0) :: rs : List (O × SD n))
    rw [gr_succ, List.length_cons]; omega
  have lac := paired_len pc
  rw [List.length_cons] at lac
  have hu1 : LimA K H1 u lim := hu.tp (same_tp s1)
  obtain ⟨y0, hy0, p0, u0, w0, rfl, tp0, ou0, sw0⟩ := paired_get' (i := 0) pc rfl
  refine ⟨_, rfl, D, acc, 0, _, rfl, rfl, SqL.of eD, atI_nat (j := 0) hy0, (by show 1 ≤ sizeLine; decide), fun G nG => ?_⟩
  have sG := same_new (o := .lst [.ref p0]) nG
  have eD2 : (upd H1 G (.lst [.ref p0])) D = some (.lst acc) := sG _ _ eD
  have eG2 : (upd H1 G (.lst [.ref p0])) G = some (.lst [.ref p0]) := upd_same
  have s2 := s1.trans sG
  have pc2 := steps_tp (same_tp sG) pc
  have x2 : StA K (upd H1 G (.lst [.ref p0])) n (.ref p0) (O.z, i0) := StA.tp (same_tp sG) ⟨p0, u0, w0, rfl, tp0, ou0, sw0⟩
  have hDG : D ≠ G := fun z => by rw [← z, eD] at nG; cases nG
  have nG0 : H G = none := by
    cases z : H G with
    | none => rfl
    | some o => have := s1 _ _ z; rw [nG] at this; cases this
  have hu2 : LimA K (upd H1 G (.lst [.ref p0])) u lim := hu1.tp (same_tp sG)
  generalize upd H1 G (.lst [.ref p0]) = H2 at *
  refine ⟨_, rfl, rd_len (.inl (SqL.of eD2)) fun hz2 => ⟨1, _, rfl, ⟨by decide, by decide, (line62 hz2).1, (line62 hz2).2⟩, ?_⟩⟩
  have hn1 : ((acc.length : Int) - 1).toNat = rs.length := by omega
  refine for_range (lo := 1) (n := ((acc.length : Int) - 1).toNat) (fun i σ H' => ∃ u4 u5 u6 u7 u8 u9 u10 u11 u12 fs x low, ∃ (bef : SD n) (Fl : List (O × SD n)), σ = [some (.ref a), some u, some (.ref D), some (.ref G), u4, u5, u6, u7, u8, u9, u10, u11, u12] ∧ Same H1 H' ∧ H' D = some (.lst acc) ∧ H' G = some (.lst (fs ++ [x])) ∧ Paired (StA K H' n) fs Fl ∧ StA K H' n x (low, bef) ∧ Fl ++ longGo lim low bef (rs.drop i) = longest lim l ∧ Cells lim low bef (rs.drop i) ∧ O.dp low ≤ 20 ∧ O.wd low ≤ W + i * wk n ∧ Bs 20 (W + i * wk n) 1500000 n bef ∧ mu (fun _ => 0) 1 (n + 1) ((low, bef) :: rs.drop i : List (O × SD n)) ≤ 1500000 ∧ fs.length ≤ i)
    ⟨_, _, _, _, _, _, _, _, _, [], .ref p0, O.z, i0, [], rfl, sG, eD2, eG2, .nil, x2, el.symm, C, Nat.zero_le _, Nat.zero_le _, (hb.2 _ (hm _ List.mem_cons_self)).2.2.mono (by omega) (Nat.le_refl _), hL, Nat.le_refl _⟩
    (fun i σ H3 hi h => ?_) (fun σ H3 h => ?_)
  · obtain ⟨u4, u5, u6, u7, u8, u9, u10, u11, u12, fs, x, low, bef, Fl, rfl, s3, eD3, eG3, pF, ⟨px, uu, wx, rfl, tx, oux, swx⟩, hgo, Ci, dlow, wlow, bbef, hmu, hfl⟩ := h
    rw [hn1] at hi
    rw [show (1 : Int) + (i : Nat) = ((i + 1 : Nat) : Int) by omega]
    obtain ⟨c, hc⟩ : ∃ c, rs[i]? = some c := ⟨_, List.getElem?_eq_getElem hi⟩
    obtain ⟨b, inner⟩ := c
    obtain ⟨y, hy, p, ub, wi, rfl, tp, oub, swi⟩ := paired_get' (i := i + 1) (y := (b, inner)) pc (by show rs[i]? = _; exact hc)
    have tp := tp.same s3
    have oub := oub.same s3
    have swi := swi.same s3
    rw [drop_at hc] at hgo Ci hmu
    have cm := List.mem_of_getElem? hc
    have bc := hb.2 (b, inner) (hm _ (List.mem_cons_of_mem _ cm))
    have hlb2 : O.lt low b = true := (List.pairwise_cons.mp Ci.asc).1 (b, inner) List.mem_cons_self
    have okb : O.ok b = true := Ci.ok (b, inner) List.mem_cons_self
    have oki : okW n inner := Ci.inn (b, inner) List.mem_cons_self
    have iw : i * wk n + wk n ≤ gr (n + 1) l := by
      refine Nat.le_trans ?_ hG
      rw [← Nat.succ_mul, Nat.mul_comm]
      exact Nat.mul_le_mul_left _ (by omega)
    have wk1 : wk n ≤ 1 := by unfold wk; split <;> omega
    have wbw : O.wd b ≤ W := bc.2.1
    have dbb : O.dp b ≤ 20 := bc.1
    have bbi : Bs 20 (W + i * wk n) 1500000 n inner := bc.2.2.mono (by omega) (Nat.le_refl _)
    have bef6 : Bs 20 1000000 1500000 n bef := bbef.mono (by omega) (Nat.le_refl _)
    have inn6 : Bs 20 1000000 1500000 n inner := bc.2.2.mono (by omega) (Nat.le_refl _)
    refine ⟨_, rfl, _, rfl, D, _, _, _, rfl, rfl, SqL.of eD3, atI_nat (j := i + 1) hy, p, _, rfl, tp.sq, rfl, _, _, rfl, _, _, rfl, rfl, ?_⟩
    refine ⟨_, rfl, _, rfl, G, _, -1, _, rfl, rfl, SqL.of eG3, atI_last _ _, px, _, rfl, tx.sq, rfl, _, _, rfl, _, _, rfl, rfl, ?_⟩
    refine ⟨_, rfl, _, rfl, _, _, low, b, rfl, oux, oub, Ci.okl, okb, hlb2, by omega, by omega, by omega, by omega, fun vb H4 s4 ovb => ?_⟩
    have oklim : O.ok (O.endLim low b) = true := ok_lim Ci.okl okb hlb2
    have dlim := O.dp_lim2 Ci.okl okb hlb2
    refine ⟨_, rfl, _, rfl, _, rfl, _, rfl, wx, wi, vb, ub, n, bef, inner, O.endLim low b, b, rfl, hn, hj, swx.same s4, swi.same s4, Ci.bef, oki, bef6, inn6, ovb, oub.same s4, ⟨okb, by omega, by omega⟩, fun vf H5 s5 lf => ?_⟩
    have s45 := s4.trans s5
    refine ⟨_, rfl, _, rfl, _, rfl, D, u, n, i + 1, acc, ((O.z, i0) :: rs), lim, rfl, s45 _ _ eD3, steps_tp (same_tp (s3.trans s45)) pc, by rw [List.length_cons]; omega, (hu1.tp (same_tp (s3.trans s45))), fun vh lh => ?_⟩
    have lh : LimA K H5 vh (nextO (rs.drop (i + 1)) lim) := lh
    have unf : longGo lim low bef ((b, inner) :: rs.drop (i + 1)) = (match conf bef inner (O.endLim low b) b with
      | none => longGo lim low (splice n bef inner (O.endLim low b)) (rs.drop (i + 1))
      | some f => if ltO f (nextO (rs.drop (i + 1)) lim) = true then (low, bef) :: longGo lim f inner (rs.drop (i + 1)) else longGo lim low (splice n bef inner (O.endLim low b)) (rs.drop (i + 1))) := rfl
    have eG5 := s45 _ _ eG3
    have eD5 := s45 _ _ eD3
    have oklz : O.endLim low b ≠ O.z := O.lim_ne Ci.okl okb hlb2
    have wlim := O.wd_lim1 low b
    have asc' := List.pairwise_cons.mp Ci.asc
    have asc2 := List.pairwise_cons.mp asc'.2
    have hspl := splice_ok Ci.bef oki oklim oklz
    have hfs : fs.length < sizeLine := small40k (by omega)
    have hmu' : 0 * (rs.drop (i + 1)).length.succ.succ + (lv n bef + (lv n inner + ((rs.drop (i + 1)).map fun t => lv n t.2).sum)) ≤ 1500000 := hmu
    have bbs : Bs 20 (W + (i + 1) * wk n) 1500000 n (splice n bef inner (O.endLim low b)) := by
      have e1 : (i + 1) * wk n = i * wk n + wk n := Nat.succ_mul _ _
      have ms : lv n (splice n bef inner (O.endLim low b)) ≤ lv n bef + lv n inner := mu_splice oki
      have h0 : Bs 20 (W + i * wk n + wk n) (1500000 + 1500000 + 1) n (splice n bef inner (O.endLim low b)) := splice_sz oki bbef bbi (by omega) (by omega)
      have := Bs.len (N := 1500000) hspl h0 (by omega)
      rw [e1, ← Nat.add_assoc]; exact this
    have e1 : (i + 1) * wk n = i * wk n + wk n := Nat.succ_mul _ _
    have nD5 : D ≠ G := hDG
    have spl : longGo lim low bef ((b, inner) :: rs.drop (i + 1)) = longGo lim low (splice n bef inner (O.endLim low b)) (rs.drop (i + 1)) → ∀ (w' : V) (H6 : Hp) (p6 : Addr), Same H5 H6 → SA K H6 n w' (splice n bef inner (O.endLim low b)) → H6 p6 = none →
        ∃ H7, H7 = upd (upd H6 p6 (.tup [uu, w'])) G (.lst ((fs ++ [V.ref px]).set fs.length (V.ref p6))) ∧ Same H1 H7 ∧ H7 D = some (.lst acc) ∧ H7 G = some (.lst (fs ++ [V.ref p6])) ∧ Paired (StA K H7 n) fs Fl ∧ StA K H7 n (.ref p6) (low, splice n bef inner (O.endLim low b)) ∧ Fl ++ longGo lim low (splice n bef inner (O.endLim low b)) (rs.drop (i + 1)) = longest lim l ∧ Cells lim low (splice n bef inner (O.endLim low b)) (rs.drop (i + 1)) ∧ O.dp low ≤ 20 ∧ O.wd low ≤ W + (i + 1) * wk n ∧ Bs 20 (W + (i + 1) * wk n) 1500000 n (splice n bef inner (O.endLim low b)) ∧ mu (fun _ => 0) 1 (n + 1) ((low, splice n bef inner (O.endLim low b)) :: rs.drop (i + 1) : List (O × SD n)) ≤ 1500000 ∧ fs.length ≤ i + 1 := fun hu w' H6 p6 s6 sw n6 => by
      have z6 := same_new (o := .tup [uu, w']) n6
      have sA := (s45.trans s6).trans z6
      have eGA := sA _ _ eG3
      have eDA := sA _ _ eD3
      have hset : (fs ++ [V.ref px]).set fs.length (V.ref p6) = fs ++ [V.ref p6] := by
        rw [List.set_append_right _ _ (Nat.le_refl _), Nat.sub_self]; rfl
      refine ⟨_, rfl, ?_⟩
      rw [hset]
      have tG := tp_lst (o := .lst (fs ++ [V.ref p6])) eGA
      refine ⟨same_mut (s3.trans sA) nG, by rw [upd_ne hDG]; exact eDA, upd_same, steps_tp tG (steps_tp (same_tp sA) pF), StA.tp tG ⟨p6, uu, w', rfl, .of upd_same, oux.same sA, sw.same z6⟩, by rw [← hu]; exact hgo, ?_, dlow, by omega, bbs, ?_, by omega⟩
      · exact ⟨Ci.okl, hspl, List.pairwise_cons.mpr ⟨fun t ht => asc'.1 t (List.mem_cons_of_mem _ ht), asc2.2⟩, fun t ht => Ci.ok t (List.mem_cons_of_mem _ ht), fun t ht => Ci.inn t (List.mem_cons_of_mem _ ht), fun t ht => Ci.blw t (List.mem_cons_of_mem _ ht)⟩
      · have ms : lv n (splice n bef inner (O.endLim low b)) ≤ lv n bef + lv n inner := mu_splice oki
        show 0 * _ + (lv n (splice n bef inner (O.endLim low b)) + ((rs.drop (i + 1)).map fun t => lv n t.2).sum) ≤ 1500000
        omega
    have ixl : ixN (fs ++ [V.ref px]).length (-1) = some fs.length := by
      unfold ixN
      rw [if_neg (by decide), List.length_append, List.length_singleton, if_pos (by omega)]
      congr 1; omega
    refine ⟨_, rfl, rfl, _, rfl, ?_⟩
    cases hcf : conf bef inner (O.endLim low b) b with
    | none =>
      have hun : longGo lim low bef ((b, inner) :: rs.drop (i + 1)) = longGo lim low (splice n bef inner (O.endLim low b)) (rs.drop (i + 1)) := by rw [unf, hcf]
      rw [hcf] at lf
      obtain rfl : vf = .non := lf
      refine ite2 (fun z => by simp at z) (fun _ => ?_)
      refine iteF ⟨_, rfl, _, rfl, _, rfl, _, rfl, wx, wi, vb, n, bef, inner, O.endLim low b, rfl, swx.same s45, swi.same s45, oki, bef6, inn6, ovb.same s5, by omega, fun w' H6 s6 sw => ⟨(by show 2 ≤ sizeLine; decide), fun p6 n6 => ⟨_, rfl, _, rfl, G, _, -1, fs.length, rfl, rfl, (same_new n6) _ _ (s6 _ _ eG5), ixl, ?_⟩⟩⟩
      obtain ⟨H7, e7, r7⟩ := spl hun w' H6 p6 s6 sw n6
      rw [← e7]
      exact ⟨_, _, _, _, _, _, _, _, _, fs, .ref p6, low, _, Fl, rfl, r7⟩
    | some fo =>
      rw [hcf] at lf
      have lf : OA K H5 vf fo := lf
      obtain ⟨pf, rfl⟩ := lf.ref
      obtain ⟨f1, f2, hf, hfb⟩ := conf_sz (D := 20) (W := W + i * wk n) (L := 1500000) (by decide) (by omega) Ci.bef oki Ci.okl okb hlb2 bbef bbi dlow ⟨dbb, by omega⟩ hcf
      refine ite2 (fun _ => ?_) (fun z => by simp at z)
      refine ⟨_, rfl, rfl, _, rfl, ?_⟩
      -- it is pushed
      have push : ltO fo (nextO (rs.drop (i + 1)) lim) = true → ∀ (p : Addr), H5 p = none → ∃ H7, H7 = upd (upd H5 p (.tup [.ref pf, wi])) G (.lst (fs ++ [V.ref px] ++ [V.ref p])) ∧ Same H1 H7 ∧ H7 D = some (.lst acc) ∧ H7 G = some (.lst (fs ++ [V.ref px] ++ [V.ref p])) ∧ Paired (StA K H7 n) (fs ++ [V.ref px]) (Fl ++ [(low, bef)]) ∧ StA K H7 n (.ref p) (fo, inner) ∧ (Fl ++ [(low, bef)]) ++ longGo lim fo inner (rs.drop (i + 1)) = longest lim l ∧ Cells lim fo inner (rs.drop (i + 1)) ∧ O.dp fo ≤ 20 ∧ O.wd fo ≤ W + (i + 1) * wk n ∧ Bs 20 (W + (i + 1) * wk n) 1500000 n inner ∧ mu (fun _ => 0) 1 (n + 1) ((fo, inner) :: rs.drop (i + 1) : List (O × SD n)) ≤ 1500000 ∧ (fs ++ [V.ref px]).length ≤ i + 1 := fun g p np => by
        have hun : longGo lim low bef ((b, inner) :: rs.drop (i + 1)) = (low, bef) :: longGo lim fo inner (rs.drop (i + 1)) := by rw [unf, hcf]; exact if_pos g
        have z6 := same_new (o := .tup [.ref pf, wi]) np
        have sA := s45.trans z6
        have eGA := sA _ _ eG3
        have eDA := sA _ _ eD3
        have tG := tp_lst (o := .lst (fs ++ [V.ref px] ++ [V.ref p])) eGA
        have hfr : ∀ u ∈ rs.drop (i + 1), O.lt fo u.1 = true := fun u hu => by
          cases hrd : rs.drop (i + 1) with
          | nil => rw [hrd] at hu; cases hu
          | cons w rest =>
            rw [hrd] at hu g asc2
            rcases List.mem_cons.mp hu with q | q
            · rw [q]; exact g
            · exact O.lt_trans _ _ _ (show O.lt fo w.1 = true from g) ((List.pairwise_cons.mp asc2.2).1 u q)
        refine ⟨_, rfl, same_mut (s3.trans sA) nG, by rw [upd_ne hDG]; exact eDA, upd_same, steps_tp tG (paired_app (steps_tp (same_tp sA) pF) (.cons ⟨px, uu, wx, rfl, tx.same sA, oux.same sA, swx.same sA⟩ .nil)), StA.tp tG ⟨p, .ref pf, wi, rfl, .of upd_same, lf.same z6, swi.same sA⟩, by rw [List.append_assoc]; rw [hun] at hgo; exact hgo, ?_, f1, by omega, bbi.mono (by omega) (Nat.le_refl _), ?_, by rw [List.length_append, List.length_singleton]; omega⟩
        · exact ⟨hf, oki, List.pairwise_cons.mpr ⟨hfr, asc2.2⟩, fun t ht => Ci.ok t (List.mem_cons_of_mem _ ht), fun t ht => Ci.inn t (List.mem_cons_of_mem _ ht), fun t ht => Ci.blw t (List.mem_cons_of_mem _ ht)⟩
        · show 0 * _ + (lv n inner + ((rs.drop (i + 1)).map fun t => lv n t.2).sum) ≤ 1500000
          omega
      cases hnx : nextO (rs.drop (i + 1)) lim with
      | none =>
        rw [hnx] at lh
        obtain rfl : vh = .non := lh
        refine ite2 (fun _ => iteT ?_) (fun z => absurd (decide_eq_true rfl) z)
        refine ⟨_, rfl, .inl ⟨rfl, _, SqL.of eG5⟩, _, rfl, _, rfl, (by show 2 ≤ sizeLine; decide), fun p np => ⟨G, _, _, rfl, rfl, same_new np _ _ eG5, small40k (by rw [List.length_append, List.length_singleton]; omega), ?_⟩⟩
        obtain ⟨H7, e7, r7⟩ := push (by rw [hnx]; rfl) p np
        rw [← e7]
        exact ⟨_, _, _, _, _, _, _, _, _, _, .ref p, fo, inner, _, rfl, r7⟩
      | some cn =>
        rw [hnx] at lh
        have lh : OA K H5 vh cn := lh
        obtain ⟨ph, rfl⟩ := lh.ref
        refine ite2 (fun z => by simp at z) (fun _ => ?_)
        refine ⟨_, rfl, _, rfl, rd_lt lf lh (by omega) ⟨_, rfl, ?_⟩⟩
        refine ite2 (fun g => ?_) (fun g => ?_)
        · refine ⟨_, rfl, .inl ⟨rfl, _, SqL.of eG5⟩, _, rfl, _, rfl, (by show 2 ≤ sizeLine; decide), fun p np => ⟨G, _, _, rfl, rfl, same_new np _ _ eG5, small40k (by rw [List.length_append, List.length_singleton]; omega), ?_⟩⟩
          obtain ⟨H7, e7, r7⟩ := push (by rw [hnx]; exact g) p np
          rw [← e7]
          exact ⟨_, _, _, _, _, _, _, _, _, _, .ref p, fo, inner, _, rfl, r7⟩
        · have hun : longGo lim low bef ((b, inner) :: rs.drop (i + 1)) = longGo lim low (splice n bef inner (O.endLim low b)) (rs.drop (i + 1)) := by
            rw [unf, hcf]; exact if_neg (by rw [hnx]; exact g)
          refine ⟨_, rfl, _, rfl, _, rfl, _, rfl, wx, wi, vb, n, bef, inner, O.endLim low b, rfl, swx.same s45, swi.same s45, oki, bef6, inn6, ovb.same s5, by omega, fun w' H6 s6 sw => ⟨(by show 2 ≤ sizeLine; decide), fun p6 n6 => ⟨_, rfl, _, rfl, G, _, -1, fs.length, rfl, rfl, (same_new n6) _ _ (s6 _ _ eG5), ixl, ?_⟩⟩⟩
          obtain ⟨H7, e7, r7⟩ := spl hun w' H6 p6 s6 sw n6
          rw [← e7]
          exact ⟨_, _, _, _, _, _, _, _, _, fs, .ref p6, low, _, Fl, rfl, r7⟩
  · obtain ⟨u4, u5, u6, u7, u8, u9, u10, u11, u12, fs, x, low, bef, Fl, rfl, s3, eD3, eG3, pF, px, hgo, Ci, _⟩ := h
    rw [hn1, List.drop_length] at hgo
    refine ⟨_, rfl, q G _ H3 (s1.trans s3) eG3 ?_⟩
    rw [← hgo]
    exact paired_app pF (.cons px .nil)
end
end Vw

set_option Elab.async false
set_option linter.all false
set_option maxRecDepth 100000
set_option maxHeartbeats 4000000
namespace Vw
open PySem PySem.W PyProof.Rows L2
abbrev s_tidy_step : Stmt := top 41
theorem sc_tidy_step : FnScope ["steps", "at", "limit", "begin", "inner", "behind"] ["steps", "at", "limit"] (defScope s_tidy_step) := ⟨rfl, rfl, rfl, by decide +kernel, rfl, by decide +kernel, by decide +kernel⟩
abbrev s_tidy_before : Stmt := top 40
theorem sc_tidy_before : FnScope ["stair", "limit", "steps", "at"] ["stair", "limit"] (defScope s_tidy_before) := ⟨rfl, rfl, rfl, by decide +kernel, rfl, by decide +kernel, by decide +kernel⟩
abbrev stidy : Stmt := top 39
theorem sctidy : FnScope ["stair"] ["stair"] (defScope stidy) := ⟨rfl, rfl, rfl, by decide +kernel, rfl, by decide +kernel, by decide +kernel⟩
section
variable {P : Program} {w : World} {K : PySem.W.Frag} {mg : Str → Option Value} {base : Heap}
theorem ok_tidy_step  {aZERO : Addr} {aONE : Addr} {aVowError : Addr} {aInvalidLevels : Addr} {aInvalidStair : Addr} {aInvalidRow : Addr} {aLevelsDiffer : Addr} {aMeaning : Addr} {f_Meaning_init : Addr} {p_Meaning_always : Addr} {f_Meaning_always : Addr} {p_Meaning_never : Addr} {f_Meaning_never : Addr} {p_Meaning_levels : Addr} {f_Meaning_levels : Addr} {f_Meaning_stair : Addr} {f_Meaning_least : Addr} {f_Meaning_lies_in : Addr} {f_Meaning_add : Addr} {f_Meaning_mul : Addr} {f_Meaning_neg : Addr} {f_Meaning_contains : Addr} {f_Meaning_bool : Addr} {f_Meaning_eq : Addr} {f_Meaning_repr : Addr} (T : Txt K mg  aZERO aONE aVowError aInvalidLevels aInvalidStair aInvalidRow aLevelsDiffer aMeaning f_Meaning_init p_Meaning_always f_Meaning_always p_Meaning_never f_Meaning_never p_Meaning_levels f_Meaning_levels f_Meaning_stair f_Meaning_least f_Meaning_lies_in f_Meaning_add f_Meaning_mul f_Meaning_neg f_Meaning_contains f_Meaning_bool f_Meaning_eq f_Meaning_repr) {f f1 f2 f3 : Addr} {fd fd1 fd2 fd3 : FuncData} {j k : Nat} (F : Fun K "_tidy_step" "_tidy_step" s_tidy_step f fd) (C_end_limit : Cal P w K mg base 3 "end_limit" ["low", "behind"] (spLim K O.endLim) f1 fd1)
    (C__behind : Cal P w K mg base 1 "_behind" ["steps", "at", "limit"] (spBeh K) f2 fd2) (C__tidy_before : Cal P w K mg base (k + 3) "_tidy_before" ["stair", "limit"] (spTidyB K j) f3 fd3) :
    FnOk P w K mg base CX0 (k + 4) f fd ["steps", "at", "limit"] (spTidySt K j) := by
  refine F.ok sc_tidy_step (fun vs H Q E h => ?_) (fun cdv A outer s H vs Q E hr h => ?_)
  · obtain ⟨_, _, _, _, _, _, _, _, _, rfl, _⟩ := h; rfl
  obtain ⟨D, u, n, i, xs, l, t, lim, W, rfl, hn, hj, eD, pp, ht, hu, hlim, hc, okt, oki, dt, wt, hW, hb, hg, hl, q⟩ := h
  refine ⟨_, (pss_cons (ps_asg (pe_ix ix_list (pv 0) (pv 1) (fun _ _ => rfl)) (pg_tup (by rfl) (pgs_cons (pg_name (i := 3) sc_tidy_step.nd rfl (Or.inl rfl)) (pgs_cons (pg_name (i := 4) sc_tidy_step.nd rfl (Or.inl rfl)) pgs_nil))))
  (pss_cons (ps_set (i := 5) sc_tidy_step.nd rfl (Or.inl rfl) (pe_call C__behind.G (hr.mono (by omega)) (by rfl) C__behind.m C__behind.kp C__behind.b .nil pass0 (pa_cons (pv 0) (pa_cons (pv 1) (pa_cons (pv 2) pa_nil)))))
  (pss_cons (ps_if (pt_cmpR op_isN (pv 5) pe_non (nomark _)) (pss_one (ps_ret (pe_tup (pa_cons (pv 3) (pa_cons (pe_call C__tidy_before.G (hr.mono (by omega)) (by rfl) C__tidy_before.m C__tidy_before.kp C__tidy_before.b .nil pass0 (pa_cons (pv 4) (pa_cons pe_non pa_nil))) pa_nil))))) pss_nil)
  (pss_one (ps_ret (pe_tup (pa_cons (pv 3) (pa_cons (pe_call C__tidy_before.G (hr.mono (by omega)) (by rfl) C__tidy_before.m C__tidy_before.kp C__tidy_before.b .nil pass0 (pa_cons (pv 4) (pa_cons (pe_call C_end_limit.G (hr.mono (by omega)) (by rfl) C_end_limit.m C_end_limit.kp C_end_limit.b .nil pass0 (pa_cons (pv 3) (pa_cons (pv 5) pa_nil))) pa_nil))) pa_nil)))))))), ?_⟩
  obtain ⟨b, inner⟩ := t
  obtain ⟨y, hy, p, ub, wi, rfl, tp, oub, swi⟩ := paired_get' pp ht
  have hi := (List.getElem?_eq_some_iff.mp ht).1
  have okt : O.ok b = true := okt
  have dt : O.dp b ≤ 20 := dt
  have wt : O.wd b ≤ W := wt
  refine ⟨_, rfl, _, rfl, D, _, _, _, rfl, rfl, SqL.of eD, atI_nat (j := i) hy, p, _, rfl, tp.sq, rfl, _, _, rfl, _, _, rfl, rfl, ?_⟩
  refine ⟨_, rfl, _, rfl, _, rfl, D, u, n, i, xs, l, lim, rfl, eD, pp, hi, hu, fun vh lh => ?_⟩
  refine ⟨_, rfl, rfl, _, rfl, ?_⟩
  cases hnx : nextO (l.drop (i + 1)) lim with
  | none =>
    rw [hnx] at lh q
    obtain rfl : vh = .non := lh
    refine ite2 (fun _ => ?_) (fun z => absurd (decide_eq_true rfl) z)
    refine ⟨_, rfl, _, rfl, wi, .non, n, inner, none, W, rfl, hn, hj, swi, oki, rfl, (fun h z => by cases z), (fun h z => by cases z), hW, hb, hg, hl, fun w' H1 s1 sw => ⟨(by show 2 ≤ sizeLine; decide), fun p2 n2 => ?_⟩⟩
    have z2 := same_new (o := .tup [ub, w']) n2
    exact q _ _ (s1.trans z2) ⟨p2, ub, w', rfl, .of upd_same, oub.same (s1.trans z2), sw.same z2⟩
  | some c =>
    rw [hnx] at lh q
    obtain ⟨c1, c2, c3, c4⟩ := hc c hnx
    have lh : OA K H vh c := lh
    obtain ⟨pc, rfl⟩ := lh.ref
    have c2 : O.lt b c = true := c2
    refine ite2 (fun z => by simp at z) (fun _ => ?_)
    have d1 := O.dp_lim2 okt c1 c2
    have w1 := O.wd_lim1 b c
    have wg : W ≤ 1000000 := by omega
    refine ⟨_, rfl, _, rfl, _, rfl, _, rfl, _, _, b, c, rfl, oub, lh, okt, c1, c2, by omega, by omega, by omega, by omega, fun vb H1 s1 ovb => ?_⟩
    refine ⟨wi, vb, n, inner, some (O.endLim b c), W, rfl, hn, hj, swi.same s1, oki, ovb, (fun h z => by obtain rfl := Option.some.inj z; exact ⟨ok_lim okt c1 c2, O.lim_ne okt c1 c2⟩), (fun h z => by obtain rfl := Option.some.inj z; exact ⟨by omega, by omega⟩), hW, hb, hg, hl, fun w' H2 s2 sw => ⟨(by show 2 ≤ sizeLine; decide), fun p2 n2 => ?_⟩⟩
    have z2 := same_new (o := .tup [ub, w']) n2
    exact q _ _ ((s1.trans s2).trans z2) ⟨p2, ub, w', rfl, .of upd_same, oub.same ((s1.trans s2).trans z2), sw.same z2⟩
theorem ok_tidy_before  {aZERO : Addr} {aONE : Addr} {aVowError : Addr} {aInvalidLevels : Addr} {aInvalidStair : Addr} {aInvalidRow : Addr} {aLevelsDiffer : Addr} {aMeaning : Addr} {f_Meaning_init : Addr} {p_Meaning_always : Addr} {f_Meaning_always : Addr} {p_Meaning_never : Addr} {f_Meaning_never : Addr} {p_Meaning_levels : Addr} {f_Meaning_levels : Addr} {f_Meaning_stair : Addr} {f_Meaning_least : Addr} {f_Meaning_lies_in : Addr} {f_Meaning_add : Addr} {f_Meaning_mul : Addr} {f_Meaning_neg : Addr} {f_Meaning_contains : Addr} {f_Meaning_bool : Addr} {f_Meaning_eq : Addr} {f_Meaning_repr : Addr} (T : Txt K mg  aZERO aONE aVowError aInvalidLevels aInvalidStair aInvalidRow aLevelsDiffer aMeaning f_Meaning_init p_Meaning_always f_Meaning_always p_Meaning_never f_Meaning_never p_Meaning_levels f_Meaning_levels f_Meaning_stair f_Meaning_least f_Meaning_lies_in f_Meaning_add f_Meaning_mul f_Meaning_neg f_Meaning_contains f_Meaning_bool f_Meaning_eq f_Meaning_repr) {f f1 f2 : Addr} {fd fd1 fd2 : FuncData} {j : Nat} (F : Fun K "_tidy_before" "_tidy_before" s_tidy_before f fd) (C__longest : Cal P w K mg base 10 "_longest" ["stair", "limit"] (spLong K 5) f1 fd1)
    (C__tidy_step : Cal P w K mg base (11 + 2 * j) "_tidy_step" ["steps", "at", "limit"] (spTidySt K j) f2 fd2) : FnOk P w K mg base CX0 (11 + 2 * j + 1) f fd ["stair", "limit"] (spTidyB K (j + 1)) := by
  refine F.ok sc_tidy_before (fun vs H Q E h => ?_) (fun cdv A outer s H vs Q E hr h => ?_)
  · obtain ⟨_, _, _, _, _, _, rfl, _⟩ := h; rfl
  obtain ⟨v, u, n, st, lim, W, rfl, hn, hj, hv, ok, hu, ho, hlb, hW, hb, hg, hl, q⟩ := h
  refine ⟨_, (pss_cons (ps_if (pt_val (pe_callB call_isD (by rfl) T.z_isinstance (by decide +kernel) (pa_cons (pv 0) (pa_cons (pe_bltn (v := .ty "bool") (u := .type "bool") (by rfl) T.z_bool (by decide +kernel) rfl) pa_nil)))) (pss_one (ps_ret (pv 0))) pss_nil)
  (pss_cons (ps_set (i := 2) sc_tidy_before.nd rfl (Or.inr rfl) (pe_call C__longest.G (hr.mono (by omega)) (by rfl) C__longest.m C__longest.kp C__longest.b .nil pass0 (pa_cons (pv 0) (pa_cons (pv 1) pa_nil))))
  (pss_one (ps_ret (pe_callTy call_tuple_of (by rfl) T.z_tuple (by decide +kernel) (pa_cons (pe_lc (own := [("at", 3)]) (g := gName 3) (tt := tYes) rfl sc_tidy_before.nd (pi_range1 (by rfl) T.z_range (pa_cons (pe_callB call_lenB (by rfl) T.z_len (by decide +kernel) (pa_cons (pv 2) pa_nil)) pa_nil)) (blkOk_by (own := [("at", 3)]) (N := ["stair", "limit", "steps", "at"]) (sc := defScope s_tidy_before) (by decide +kernel)) (fun _ _ _ _ _ => (pg_name (i := 3) sc_tidy_before.nd rfl (Or.inl rfl))) (fun _ _ _ _ _ => pts_nil) (fun _ _ _ _ _ => (pe_call C__tidy_step.G (hr.mono (by omega)) (by rfl) C__tidy_step.m C__tidy_step.kp C__tidy_step.b .nil pass0 (pa_cons (pv 2) (pa_cons (pv 3) (pa_cons (pv 1) pa_nil)))))) pa_nil)))))), ?_⟩
  cases n with
  | zero =>
    obtain rfl : v = .bl st := hv
    exact ⟨_, rfl, rd_bool (.bl st) ⟨_, rfl, iteT ⟨_, rfl, q _ H (Same.refl H) rfl⟩⟩⟩
  | succ n =>
    obtain ⟨l, rfl⟩ : ∃ l : List (O × SD n), l = st := ⟨st, rfl⟩
    obtain ⟨a, xs, rfl, tt, pp⟩ := hv.un
    obtain ⟨hRl, W', hW', hR⟩ := long_all ok ho (by omega) hlb hW hb hg hl
    refine ⟨_, rfl, rd_bool hv.dp ⟨_, rfl, iteF ?_⟩⟩
    refine ⟨_, rfl, _, rfl, _, u, n, l, lim, W, rfl, by omega, by omega, hv, ok, hu, ho, hlb, hW, hb, hg, hl, fun D ys H1 s1 eD py => ?_⟩
    have ly := paired_len py
    refine ⟨_, rfl, rd_len (.inl (SqL.of eD)) fun hz => ⟨_, rfl, (line62 hz).1, (line62 hz).2, fun D2 nD2 => ?_⟩⟩
    have hn1 : ((ys.length : Nat) : Int).toNat = (longest lim l).length := by omega
    have hDD : D ≠ D2 := fun z => by rw [← z, eD] at nD2; cases nD2
    have et : tidyB (n + 1) l lim = tidyCells (tidyB n) lim (longest lim l) := rfl
    refine lc_range (lo := 0) (n := ((ys.length : Nat) : Int).toNat) (fun i H' => Same H1 H' ∧ ∃ zs, H' D2 = some (.lst zs) ∧ zs.length = i ∧ Paired (StA K H' n) zs ((tidyCells (tidyB n) lim (longest lim l)).take i)) ⟨same_new nD2, [], upd_same, rfl, .nil⟩ (fun i H' hi hp => ?_) (fun H2 hp => ?_)
    · obtain ⟨sm, zs, eD2, hzl, pz⟩ := hp
      rw [hn1] at hi
      obtain ⟨t, ht⟩ : ∃ t, (longest lim l)[i]? = some t := ⟨_, List.getElem?_eq_getElem hi⟩
      obtain ⟨r0, r1, r2, r3, r4, r5, r6, r7⟩ := hR i t ht
      rw [show (0 : Int) + (i : Nat) = ((i : Nat) : Int) by omega]
      refine ⟨rfl, _, rfl, _, rfl, _, rfl, D, u, n, i, ys, longest lim l, t, lim, W', rfl, by omega, by omega, sm _ _ eD, steps_tp (same_tp sm) py, ht, (hu.tp (same_tp (s1.trans sm))), hlb, r0, r1, r2, r3, r4, hW', r5, r6, r7, fun w' H3 s3 sw => ?_⟩
      have eD3 := s3 _ _ eD2
      refine ⟨zs, eD3, small40k (by omega), same_mut (sm.trans s3) nD2, zs ++ [w'], upd_same, by rw [List.length_append, hzl]; rfl, ?_⟩
      have tD := tp_lst (o := .lst (zs ++ [w'])) eD3
      rw [List.take_add_one, cells_at ht]
      exact paired_app (steps_tp tD (steps_tp (same_tp s3) pz)) (.cons (StA.tp tD sw) .nil)
    · obtain ⟨sm, zs, eD2, hzl, pz⟩ := hp
      rw [hn1, List.take_of_length_le (by rw [tidyCells_len]; exact Nat.le_refl _)] at pz
      refine ⟨D2, zs, rfl, .inl ⟨SqL.of eD2, fun g ng => ?_⟩⟩
      have s2 := same_new (o := .tup zs) ng
      exact q _ _ ((s1.trans sm).trans s2) (SA.mk (.of upd_same) (steps_tp (same_tp s2) pz))
theorem ok_tidy  {aZERO : Addr} {aONE : Addr} {aVowError : Addr} {aInvalidLevels : Addr} {aInvalidStair : Addr} {aInvalidRow : Addr} {aLevelsDiffer : Addr} {aMeaning : Addr} {f_Meaning_init : Addr} {p_Meaning_always : Addr} {f_Meaning_always : Addr} {p_Meaning_never : Addr} {f_Meaning_never : Addr} {p_Meaning_levels : Addr} {f_Meaning_levels : Addr} {f_Meaning_stair : Addr} {f_Meaning_least : Addr} {f_Meaning_lies_in : Addr} {f_Meaning_add : Addr} {f_Meaning_mul : Addr} {f_Meaning_neg : Addr} {f_Meaning_contains : Addr} {f_Meaning_bool : Addr} {f_Meaning_eq : Addr} {f_Meaning_repr : Addr} (T : Txt K mg  aZERO aONE aVowError aInvalidLevels aInvalidStair aInvalidRow aLevelsDiffer aMeaning f_Meaning_init p_Meaning_always f_Meaning_always p_Meaning_never f_Meaning_never p_Meaning_levels f_Meaning_levels f_Meaning_stair f_Meaning_least f_Meaning_lies_in f_Meaning_add f_Meaning_mul f_Meaning_neg f_Meaning_contains f_Meaning_bool f_Meaning_eq f_Meaning_repr) {f f1 : Addr} {fd fd1 : FuncData} {k : Nat} (F : Fun K "tidy" "tidy" stidy f fd) (C__tidy_before : Cal P w K mg base k "_tidy_before" ["stair", "limit"] (spTidyB K 4) f1 fd1) : FnOk P w K mg base CX0 (k + 1) f fd ["stair"] (spTidy K) := by
  refine F.ok sctidy (fun vs H Q E h => ?_) (fun cdv A outer s H vs Q E hr h => ?_)
  · obtain ⟨_, _, _, _, rfl, _⟩ := h; rfl
  obtain ⟨v, n, st, W, rfl, hn, hv, ok, hW, hb, hg, hl, q⟩ := h
  refine ⟨_, (pss_one (ps_ret (pe_call C__tidy_before.G (hr.mono (by omega)) (by rfl) C__tidy_before.m C__tidy_before.kp C__tidy_before.b .nil pass0 (pa_cons (pv 0) (pa_cons pe_non pa_nil))))), ?_⟩
  exact ⟨_, rfl, v, .non, n, st, none, W, rfl, by omega, by omega, hv, ok, rfl, (fun h z => by cases z), (fun h z => by cases z), hW, hb, hg, hl, q⟩
end
end Vw

set_option Elab.async false
set_option linter.all false
set_option maxRecDepth 100000
set_option maxHeartbeats 4000000
namespace Vw
open PySem PySem.W PyProof.Rows L2
abbrev s_is_step : Stmt := top 27
theorem sc_is_step : FnScope ["levels", "value", "begin", "inner"] ["levels", "value"] (defScope s_is_step) := ⟨rfl, rfl, rfl, by decide +kernel, rfl, by decide +kernel, by decide +kernel⟩
abbrev sis_stair : Stmt := top 26
theorem scis_stair : FnScope ["levels", "value", "at", "step"] ["levels", "value"] (defScope sis_stair) := ⟨rfl, rfl, rfl, by decide +kernel, rfl, by decide +kernel, by decide +kernel⟩
section
variable {P : Program} {w : World} {K : PySem.W.Frag} {mg : Str → Option Value} {base : Heap}
theorem len_two {xs : List V} (e : ¬ (!decide (V.int (xs.length : Nat) = V.int 2)) = true) : (xs.length : Int) = 2 := by
  have : V.int (xs.length : Nat) = V.int 2 := by simpa using e
  exact V.int.inj this
theorem ok_is_step  {aZERO : Addr} {aONE : Addr} {aVowError : Addr} {aInvalidLevels : Addr} {aInvalidStair : Addr} {aInvalidRow : Addr} {aLevelsDiffer : Addr} {aMeaning : Addr} {f_Meaning_init : Addr} {p_Meaning_always : Addr} {f_Meaning_always : Addr} {p_Meaning_never : Addr} {f_Meaning_never : Addr} {p_Meaning_levels : Addr} {f_Meaning_levels : Addr} {f_Meaning_stair : Addr} {f_Meaning_least : Addr} {f_Meaning_lies_in : Addr} {f_Meaning_add : Addr} {f_Meaning_mul : Addr} {f_Meaning_neg : Addr} {f_Meaning_contains : Addr} {f_Meaning_bool : Addr} {f_Meaning_eq : Addr} {f_Meaning_repr : Addr} (T : Txt K mg  aZERO aONE aVowError aInvalidLevels aInvalidStair aInvalidRow aLevelsDiffer aMeaning f_Meaning_init p_Meaning_always f_Meaning_always p_Meaning_never f_Meaning_never p_Meaning_levels f_Meaning_levels f_Meaning_stair f_Meaning_least f_Meaning_lies_in f_Meaning_add f_Meaning_mul f_Meaning_neg f_Meaning_contains f_Meaning_bool f_Meaning_eq f_Meaning_repr) {f f1 f2 : Addr} {fd fd1 fd2 : FuncData} {j : Nat} (F : Fun K "_is_step" "_is_step" s_is_step f fd) (C_is_ordinal : Cal P w K mg base 121 "is_ordinal" ["value"] (spIsOrd K 60) f1 fd1)
    (C_is_stair : Cal P w K mg base (122 + 2 * j) "is_stair" ["levels", "value"] (spIsSt K j) f2 fd2) : FnOk P w K mg base CX0 (122 + 2 * j + 1) f fd ["levels", "value"] (spIsStep K j) := by
  refine F.ok sc_is_step (fun vs H Q E h => ?_) (fun cdv A outer s H vs Q E hr h => ?_)
  · obtain ⟨_, _, _, rfl, _⟩ := h; rfl
  obtain ⟨m, x, d, rfl, hm, hx, hd, q⟩ := h
  refine ⟨_, (pss_cons (ps_if (PW.pt (pw_or (pt_not (pt_val (pe_callB call_isD (by rfl) T.z_isinstance (by decide +kernel) (pa_cons (pv 1) (pa_cons (pe_bltn (v := .ty "tuple") (u := .type "tuple") (by rfl) T.z_tuple (by decide +kernel) rfl) pa_nil))))) (pw_or1 (pt_cmpR op_ne (pe_callB call_lenB (by rfl) T.z_len (by decide +kernel) (pa_cons (pv 1) pa_nil)) pe_int (nomark _))))) (pss_one (ps_ret pe_bl)) pss_nil)
  (pss_cons (ps_asg (pv 1) (pg_tup (by rfl) (pgs_cons (pg_name (i := 2) sc_is_step.nd rfl (Or.inl rfl)) (pgs_cons (pg_name (i := 3) sc_is_step.nd rfl (Or.inl rfl)) pgs_nil))))
  (pss_one (ps_ret (pe_and (pe_call C_is_ordinal.G (hr.mono (by omega)) (by rfl) C_is_ordinal.m C_is_ordinal.kp C_is_ordinal.b .nil pass0 (pa_cons (pv 2) pa_nil)) (pe_one (pe_call C_is_stair.G (hr.mono (by omega)) (by rfl) C_is_stair.m C_is_stair.kp C_is_stair.b .nil pass0 (pa_cons (pe_op op_sub (pv 0) pe_int) (pa_cons (pv 3) pa_nil))))))))), ?_⟩
  refine ⟨_, rfl, rd_tuple hx ⟨_, rfl, ?_⟩⟩
  have no : (∀ a b, d ≠ .tuple [a, b]) → Q (.bl false) H := fun h => by rw [← isStep_other (n := m) h]; exact q H (Same.refl H)
  cases d with
  | tuple ds =>
    obtain ⟨p, xs, rfl, h1, h2⟩ := dp_tup hx
    have hl := dpall_len h2
    refine iteF ⟨_, rfl, rd_len (.inr h1) fun _ => ⟨rfl, _, rfl, ?_⟩⟩
    refine ite2 (fun e => ?_) (fun e => ?_)
    · refine no fun a b z => ?_
      have z' := PyData.tuple.inj z
      subst z'
      rw [show xs.length = 2 from hl] at e
      exact absurd e (by decide)
    · have e' := len_two e
      match ds, xs, hl, h1, h2, e' with
      | [a, b], [u, v], _, h1, .cons g1 (.cons g2 .nil), _ =>
        refine ⟨_, rfl, p, _, rfl, h1, rfl, u, _, rfl, v, _, rfl, rfl, ?_⟩
        have hda : a.depth < 55 ∧ b.depth < 55 := by simp only [PyData.depth, PyData.depthAll] at hd; omega
        refine ⟨_, rfl, u, a, rfl, g1, by omega, fun H1 s1 => ⟨_, rfl, ?_⟩⟩
        rw [isStep_two] at q
        cases ha : isOrdB a with
        | false =>
          rw [ha] at q
          exact iteF (q H1 s1)
        | true =>
          rw [ha] at q
          refine iteT ⟨_, rfl, _, _, rfl, rfl, _, rfl, m, v, b, ?_, hm, dp_same s1 g2, by omega, fun H2 s2 => q H2 (s1.trans s2)⟩
          have : (((m + 1 : Nat) : Int) - 1) = (m : Nat) := by omega
          show [V.int (((m + 1 : Nat) : Int) - 1), v] = _
          rw [this]
      | [], [], _, _, _, h => exact absurd h (by decide)
      | [_], [_], _, _, _, h => exact absurd h (by show ¬ ((1 : Nat) : Int) = 2; decide)
      | _ :: _ :: _ :: r, _ :: _ :: _ :: r', _, _, _, h => exact absurd h (by simp only [List.length_cons]; omega)
  | none => exact iteT (no fun a b z => by cases z)
  | bool _ => exact iteT (no fun a b z => by cases z)
  | int _ => exact iteT (no fun a b z => by cases z)
  | str _ => exact iteT (no fun a b z => by cases z)
  | list _ => exact iteT (no fun a b z => by cases z)
  | dict kv => exact absurd rfl (dp_nodict hx kv)
theorem ok_is_stair  {aZERO : Addr} {aONE : Addr} {aVowError : Addr} {aInvalidLevels : Addr} {aInvalidStair : Addr} {aInvalidRow : Addr} {aLevelsDiffer : Addr} {aMeaning : Addr} {f_Meaning_init : Addr} {p_Meaning_always : Addr} {f_Meaning_always : Addr} {p_Meaning_never : Addr} {f_Meaning_never : Addr} {p_Meaning_levels : Addr} {f_Meaning_levels : Addr} {f_Meaning_stair : Addr} {f_Meaning_least : Addr} {f_Meaning_lies_in : Addr} {f_Meaning_add : Addr} {f_Meaning_mul : Addr} {f_Meaning_neg : Addr} {f_Meaning_contains : Addr} {f_Meaning_bool : Addr} {f_Meaning_eq : Addr} {f_Meaning_repr : Addr} (T : Txt K mg  aZERO aONE aVowError aInvalidLevels aInvalidStair aInvalidRow aLevelsDiffer aMeaning f_Meaning_init p_Meaning_always f_Meaning_always p_Meaning_never f_Meaning_never p_Meaning_levels f_Meaning_levels f_Meaning_stair f_Meaning_least f_Meaning_lies_in f_Meaning_add f_Meaning_mul f_Meaning_neg f_Meaning_contains f_Meaning_bool f_Meaning_eq f_Meaning_repr) {f f1 : Addr} {fd fd1 : FuncData} {j : Nat} (F : Fun K "is_stair" "is_stair" sis_stair f fd)
    (C__is_step : Cal P w K mg base (122 + 2 * j + 1) "_is_step" ["levels", "value"] (spIsStep K j) f1 fd1) : FnOk P w K mg base CX0 (122 + 2 * j + 1 + 1) f fd ["levels", "value"] (spIsSt K (j + 1)) := by
  refine F.ok scis_stair (fun vs H Q E h => ?_) (fun cdv A outer s H vs Q E hr h => ?_)
  · obtain ⟨_, _, _, rfl, _⟩ := h; rfl
  obtain ⟨m, x, d, rfl, hm, hx, hd, q⟩ := h
  refine ⟨_, (pss_cons (ps_if (pt_cmpR op_eq (pv 0) pe_int (nomark _)) (pss_one (ps_ret (pe_callB call_isD (by rfl) T.z_isinstance (by decide +kernel) (pa_cons (pv 1) (pa_cons (pe_bltn (v := .ty "bool") (u := .type "bool") (by rfl) T.z_bool (by decide +kernel) rfl) pa_nil))))) pss_nil)
  (pss_cons (ps_if (PW.pt (pw_or (pt_not (pt_val (pe_callB call_isD (by rfl) T.z_isinstance (by decide +kernel) (pa_cons (pv 1) (pa_cons (pe_bltn (v := .ty "tuple") (u := .type "tuple") (by rfl) T.z_tuple (by decide +kernel) rfl) pa_nil))))) (pw_or1 (pt_cmpR op_eq (pe_callB call_lenB (by rfl) T.z_len (by decide +kernel) (pa_cons (pv 1) pa_nil)) pe_int (nomark _))))) (pss_one (ps_ret pe_bl)) pss_nil)
  (pss_cons (ps_for PassesOwn.never rfl (pi_enumT (by rfl) T.z_enumerate (pa_cons (pv 1) pa_nil)) (pg_tup (by rfl) (pgs_cons (pg_name (i := 2) scis_stair.nd rfl (Or.inl rfl)) (pgs_cons (pg_name (i := 3) scis_stair.nd rfl (Or.inl rfl)) pgs_nil)))
   (pss_cons (ps_if (pt_not (pt_val (pe_call C__is_step.G (hr.mono (by omega)) (by rfl) C__is_step.m C__is_step.kp C__is_step.b .nil pass0 (pa_cons (pv 0) (pa_cons (pv 3) pa_nil))))) (pss_one (ps_ret pe_bl)) pss_nil)
  (pss_cons (ps_ifBy (PW.pt (pw_and (pt_cmpR op_eq (pv 2) pe_int (nomark _)) (pw_and1 (pt_cmpR (op_neO hr.units) (pe_ix ix_tup (pv 3) pe_int (fun _ _ => rfl)) (pe_glob (v := .ref aZERO) (by rfl) T.m_ZERO rfl) (nomark _))))) (pss_one (ps_ret pe_bl)) pss_nil)
  (pss_one (ps_ifBy (PW.pt (pw_and (pt_cmpR op_gt (pv 2) pe_int (nomark _)) (pw_and1 (pt_cmpR (op_leD hr.units) (pe_ix ix_tup (pv 3) pe_int (fun _ _ => rfl)) (pe_ix ix_tup (pe_ix ix_tup (pv 1) (pe_op op_sub (pv 2) pe_int) (fun _ _ => rfl)) pe_int (fun _ _ => rfl)) (nomark _))))) (pss_one (ps_ret pe_bl)) pss_nil)))))
  (pss_one (ps_ret pe_bl))))), ?_⟩
  refine ⟨_, rfl, rfl, _, rfl, ?_⟩
  refine ite2 (fun e => ?_) (fun e => ?_)
  · obtain rfl : m = 0 := by
      have e2 : V.int (m : Int) = V.int 0 := of_decide_eq_true e
      cases m with
      | zero => rfl
      | succ m => injection e2 with e3; omega
    refine ⟨_, rfl, rd_bool hx ?_⟩
    have := q H (Same.refl H)
    rw [isSt_zero] at this
    exact this
  obtain ⟨m, rfl⟩ : ∃ k, m = k + 1 := by
    have : ¬ V.int (m : Int) = V.int 0 := of_decide_eq_false (Bool.eq_false_iff.mpr e)
    cases m with
    | zero => exact absurd rfl this
    | succ k => exact ⟨k, rfl⟩
  refine ⟨_, rfl, rd_tuple hx ⟨_, rfl, ?_⟩⟩
  have no : (∀ ds, d ≠ .tuple ds) → Q (.bl false) H := fun h => by rw [← isSt_other (n := m) h]; exact q H (Same.refl H)
  cases d with
  | none => exact iteT (no fun a z => by cases z)
  | bool _ => exact iteT (no fun a z => by cases z)
  | int _ => exact iteT (no fun a z => by cases z)
  | str _ => exact iteT (no fun a z => by cases z)
  | list _ => exact iteT (no fun a z => by cases z)
  | dict kv => exact absurd rfl (dp_nodict hx kv)
  | tuple ds =>
    obtain ⟨p, xs, rfl, h1, h2⟩ := dp_tup hx
    have hl := dpall_len h2
    have hds : PyData.depthAll ds < 55 := by simp only [PyData.depth] at hd; omega
    refine iteF ⟨_, rfl, rd_len (.inr h1) fun _ => ⟨rfl, _, rfl, ?_⟩⟩
    refine ite2 (fun e => ?_) (fun e => ?_)
    · have h0 : xs.length = 0 := by
        have e2 : V.int (xs.length : Nat) = V.int 0 := of_decide_eq_true e
        injection e2 with e3; omega
      obtain rfl : ds = [] := List.length_eq_zero_iff.mp (hl.symm.trans h0)
      rw [← isSt_empty (n := m)]
      exact q H (Same.refl H)
    have hne : ds ≠ [] := fun z => by
      subst z
      have h0 : xs.length = 0 := hl
      rw [h0] at e
      exact e rfl
    refine ⟨_, rfl, p, xs, rfl, h1, ?_⟩
    refine for_enumT (xs := xs) (fun i σ H' => ∃ u v, σ = [some (.int ((m + 1 : Nat) : Int)), some (.ref p), u, v] ∧ Same H H' ∧ ∃ os, SPre (IsSt m) ds os i) ⟨_, _, rfl, Same.refl H, [], spre_nil ds⟩ (fun i σ H' _ h => ?_) (fun i x2 C σ H' hx2 h nC => ?_) (fun σ H' h => ?_)
    · obtain ⟨_, _, _, s1, _⟩ := h
      exact same_sqt s1 h1
    · obtain ⟨u, v, rfl, s1, os, hp⟩ := h
      obtain ⟨dt, hdt, gx⟩ := dpall_get h2 hx2
      have hdd := depth_get hdt
      have s2 := s1.trans (same_new (o := .tup [.int (i : Nat), x2]) nC)
      refine ⟨C, _, rfl, SqT.of upd_same, rfl, _, _, rfl, _, _, rfl, rfl, ?_⟩
      refine ⟨_, rfl, _, rfl, m, x2, dt, rfl, by omega, dp_same s2 gx, by omega, fun H3 s3 => ⟨_, rfl, ?_⟩⟩
      have s4 := s2.trans s3
      cases ht : isStepB m dt with
      | false =>
        refine iteT ?_
        have := q H3 s4
        rw [bad_step hdt (isStep_no ht)] at this
        exact this
      | true =>
        obtain ⟨o, inner, rfl, ho, hin⟩ := isStep_of ht
        have hdo : O.dp o ≤ 53 := by simp only [PyData.depth, PyData.depthAll, O.depth_toD] at hdd; omega
        obtain ⟨p2, u2, v2, rfl, a1, a2, a3⟩ := dp_two (dp_same s4 gx)
        refine iteF ⟨fun H5 => Same H H5 ∧ isStB (m + 1) (.tuple ds) = false, fun H5 => Same H H5 ∧ (i = 0 → o = .z), ?_, fun H5 h5 => ?_, fun H5 h5 => ?_⟩
        · refine ⟨_, rfl, rfl, _, rfl, ite2 (fun e1 => ?_) (fun e1 => iteF ⟨s4, fun h0 => absurd (by rw [h0]; rfl) e1⟩)⟩
          have h0 : i = 0 := by
            have e2 : V.int (i : Nat) = V.int 0 := of_decide_eq_true e1
            injection e2 with e3; omega
          subst h0
          refine ⟨_, rfl, p2, _, 0, _, rfl, rfl, a1, rfl, rd_neD2 a2 (nil_dp (.inr T.t_ZERO)) (by omega) (by decide) ⟨_, rfl, ?_⟩⟩
          refine ite2 (fun e2 => ⟨s4, bad_first hdt fun z => ?_⟩) (fun e2 => ⟨s4, fun _ => ?_⟩)
          · have e3 : (!decide (o = .z)) = true := e2
            rw [decide_eq_true z] at e3; cases e3
          · cases z : decide (o = .z) with
            | true => exact of_decide_eq_true z
            | false => exact absurd (show (!decide (o = .z)) = true by rw [z]; rfl) e2
        · have := q H5 h5.1
          rw [h5.2] at this
          exact this
        obtain ⟨s5, h0⟩ := h5
        refine ⟨fun H6 => Same H H6 ∧ isStB (m + 1) (.tuple ds) = false, fun H6 => Same H H6 ∧ ∀ o', os.getLast? = some o' → O.lt o' o = true, ?_, fun H6 h6 => ?_, fun H6 h6 => ⟨_, _, rfl, h6.1, _, spre_step hp hdt ho hin h0 h6.2⟩⟩
        · refine ⟨_, rfl, _, _, rfl, rfl, _, rfl, ?_⟩
          refine ite2 (fun e1 => ?_) (fun e1 => iteF ?_)
          · have hi : 0 < i := by have := of_decide_eq_true e1; omega
            obtain ⟨k, rfl⟩ : ∃ k, i = k + 1 := ⟨i - 1, by omega⟩
            obtain ⟨o', in', ol, od⟩ := spre_last hp
            obtain ⟨x3, hx3⟩ : ∃ x3, xs[k]? = some x3 := by
              have : k + 1 < xs.length := (List.getElem?_eq_some_iff.mp hx2).1
              exact ⟨_, List.getElem?_eq_getElem (show k < xs.length by omega)⟩
            obtain ⟨dt3, hdt3, gx3⟩ := dpall_get h2 hx3
            rw [od] at hdt3
            obtain rfl := Option.some.inj hdt3
            obtain ⟨p3, u3, v3, rfl, b1, b2, b3⟩ := dp_two (dp_same s5 gx3)
            obtain ⟨p4, u4, v4, e4, c1, c2, c3⟩ := dp_two (dp_same s5 gx)
            obtain rfl := V.ref.inj e4
            have hj : ((k + 1 : Nat) : Int) - 1 = ((k : Nat) : Int) := by omega
            refine ⟨_, rfl, p2, _, 0, _, rfl, rfl, c1, rfl, _, rfl, _, rfl, _, _, rfl, rfl, p, xs, _, _, rfl, rfl, same_sqt s5 h1, (by rw [hj]; exact atI_nat hx3), p3, _, 0, _, rfl, rfl, b1, rfl, ?_⟩
            refine rd_leD c2 b2 (by omega) ⟨_, rfl, ?_⟩
            refine ite2 (fun e2 => ⟨s5, bad_asc od hdt ?_⟩) (fun e2 => ⟨s5, fun o2 h' => ?_⟩)
            · have e3 : (!O.lt o' o) = true := e2
              cases z : O.lt o' o with
              | false => rfl
              | true => rw [z] at e3; cases e3
            · rw [ol] at h'
              cases h'
              cases z : O.lt o' o with
              | true => rfl
              | false => exact absurd (show (!O.lt o' o) = true by rw [z]; rfl) e2
          · have hi : i = 0 := by
              have : ¬ (0 : Int) < (i : Nat) := of_decide_eq_false (Bool.eq_false_iff.mpr e1)
              omega
            subst hi
            have : os = [] := List.length_eq_zero_iff.mp hp.len
            subst this
            exact ⟨s5, fun o' h' => by cases h'⟩
        · have := q H6 h6.1
          rw [h6.2] at this
          exact this
    · obtain ⟨u, v, rfl, s1, os, hp⟩ := h
      have := q H' s1
      rw [hl] at hp
      rw [spre_end hp hne] at this
      exact this
end
end Vw

set_option Elab.async false
set_option linter.all false
set_option maxRecDepth 100000
set_option maxHeartbeats 4000000
namespace Vw
open PySem PySem.W PyProof.Rows L2
section
variable {P : Program} {w : World} {K : PySem.W.Frag} {mg : Str → Option Value} {base : Heap}
theorem small_line {n : Nat} (h : n ≤ 1000) : n < sizeLine := Nat.lt_of_le_of_lt h (by decide)
abbrev s_law_steps : Stmt := top 57
theorem sc_law_steps : FnScope ["_law_bag_here", "_law_deep", "_law_some", "_law_found", "_law_one_z", "_law_k"] ["_law_bag_here", "_law_deep"] (defScope s_law_steps) := ⟨rfl, rfl, rfl, by decide +kernel, rfl, by decide +kernel, by decide +kernel⟩
theorem ok_lsteps  {aZERO : Addr} {aONE : Addr} {aVowError : Addr} {aInvalidLevels : Addr} {aInvalidStair : Addr} {aInvalidRow : Addr} {aLevelsDiffer : Addr} {aMeaning : Addr} {f_Meaning_init : Addr} {p_Meaning_always : Addr} {f_Meaning_always : Addr} {p_Meaning_never : Addr} {f_Meaning_never : Addr} {p_Meaning_levels : Addr} {f_Meaning_levels : Addr} {f_Meaning_stair : Addr} {f_Meaning_least : Addr} {f_Meaning_lies_in : Addr} {f_Meaning_add : Addr} {f_Meaning_mul : Addr} {f_Meaning_neg : Addr} {f_Meaning_contains : Addr} {f_Meaning_bool : Addr} {f_Meaning_eq : Addr} {f_Meaning_repr : Addr} (T : Txt K mg  aZERO aONE aVowError aInvalidLevels aInvalidStair aInvalidRow aLevelsDiffer aMeaning f_Meaning_init p_Meaning_always f_Meaning_always p_Meaning_never f_Meaning_never p_Meaning_levels f_Meaning_levels f_Meaning_stair f_Meaning_least f_Meaning_lies_in f_Meaning_add f_Meaning_mul f_Meaning_neg f_Meaning_contains f_Meaning_bool f_Meaning_eq f_Meaning_repr) {f f1 f2 : Addr} {fd fd1 fd2 : FuncData} (F : Fun K "_law_steps" "_law_steps" s_law_steps f fd) (C__law_pull : Cal P w K mg base 1 "_law_pull" ["_law_bag_here", "_law_sides"] spPull f1 fd1)
    (C__law_ordinal : Cal P w K mg base 12 "_law_ordinal" ["_law_bag_here", "_law_deep"] (spOrdTo K 10) f2 fd2) : FnOk P w K mg base CX0 13 f fd ["_law_bag_here", "_law_deep"] (spSteps K) := by
  refine F.ok sc_law_steps (fun vs H Q E h => ?_) (fun cdv A outer s H vs Q E hr h => ?_)
  · obtain ⟨_, _, _, rfl, _⟩ := h; rfl
  obtain ⟨l, b, d, rfl, hd, hB, q⟩ := h
  refine ⟨_, (pss_cons (ps_set (i := 2) sc_law_steps.nd rfl (Or.inl rfl) (pe_callB (cr_sortedA hr.units) (by rfl) T.z_sorted (by decide +kernel) (pa_cons (pe_lc (own := [("_law_k", 5)]) (g := gName 5) (tt := tYes) rfl sc_law_steps.nd (pi_range1 (by rfl) T.z_range (pa_cons (pe_call C__law_pull.G (hr.mono (by omega)) (by rfl) C__law_pull.m C__law_pull.kp C__law_pull.b .nil pass0 (pa_cons (pv 0) (pa_cons pe_int pa_nil))) pa_nil)) (blkOk_by (own := [("_law_k", 5)]) (N := ["_law_bag_here", "_law_deep", "_law_some", "_law_found", "_law_one_z", "_law_k"]) (sc := defScope s_law_steps) (by decide +kernel)) (fun _ _ _ _ _ => (pg_name (i := 5) sc_law_steps.nd rfl (Or.inl rfl))) (fun _ _ _ _ _ => pts_nil) (fun _ _ _ _ _ => (pe_call C__law_ordinal.G (hr.mono (by omega)) (by rfl) C__law_ordinal.m C__law_ordinal.kp C__law_ordinal.b .nil pass0 (pa_cons (pv 0) (pa_cons (pv 1) pa_nil))))) pa_nil)))
  (pss_cons (ps_set (i := 3) sc_law_steps.nd rfl (Or.inl rfl) (pe_lst (pa_cons (pe_tup pa_nil) pa_nil)))
  (pss_cons (ps_for PassesOwn.never rfl (pi_list (pv 2)) (pg_name (i := 4) sc_law_steps.nd rfl (Or.inl rfl))
   (pss_one (ps_if (pt_cmpR (op_neO hr.units) (pv 4) (pe_ix ix_list (pv 3) (pe_un un_neg pe_int) (fun _ _ => rfl)) (nomark _)) (pss_one (ps_expr (pe_bm PySem.F.plainAttrs_list PySem.F.slot_list_append PySem.F.type_list_append mt_append (pv 3) (pa_cons (pv 4) pa_nil)))) pss_nil)))
  (pss_one (ps_ret (pv 3)))))), ?_⟩
  refine ⟨_, rfl, l, b, 4, rfl, (by decide), (by decide), hB, fun r H1 r0 r1 k1 B1 => ⟨_, rfl, by omega, by omega, fun D nD => ?_⟩⟩
  have nD0 : H D = none := by
    cases z : H D with
    | none => rfl
    | some o =>
      have := k1 _ _ (B1.ne nD) z
      rw [nD] at this; cases this
  have hDb := B1.ne nD
  have hDl := B1.nl nD
  refine lc_range (lo := 0) (n := r.toNat) (fun i H' => Kp b H H' ∧ Bag l H' b ∧ ∃ xs os, H' D = some (.lst xs) ∧ Paired (OA K H') xs os ∧ xs.length = i ∧ ∀ o ∈ os, O.ok o = true ∧ O.dp o ≤ 8 ∧ O.wd o ≤ 3) ⟨kp_mut k1 nD0, B1.mut hDb hDl, [], [], upd_same, .nil, rfl, fun o ho => by cases ho⟩ (fun i H' hi hp => ?_) (fun H' hp => ?_)
  · obtain ⟨k2, B2, xs, os, eD, po, hl, hos⟩ := hp
    refine ⟨rfl, _, rfl, _, rfl, d, by omega, l, b, rfl, B2, fun o v H2 o1 o2 o3 o4 k3 B3 => ?_⟩
    have t3 := B2.tp k3
    have eD3 := k3 _ _ hDb eD
    refine ⟨xs, eD3, small_line (by omega), kp_mut (k2.trans k3) nD0, B3.mut hDb hDl, xs ++ [v], os ++ [o], upd_same, ?_, by rw [List.length_append, hl]; rfl, fun o' ho' => ?_⟩
    · exact paired_tp (tp_lst eD3) (paired_app (paired_tp t3 po) (.cons o4 .nil))
    · rcases List.mem_append.mp ho' with h | h
      · exact hos o' h
      · rw [List.mem_singleton.mp h]; exact ⟨o1, by omega, o3⟩
  · obtain ⟨k2, B2, xs, os, eD, po, hl, hos⟩ := hp
    refine ⟨D, xs, os, rfl, SqL.of eD, po, (fun o ho => by have := (hos o ho).2.1; omega), fun ys os' S ps hperm hsort nS => ?_⟩
    have hSb := B2.ne nS
    have hSl := B2.nl nS
    have nS0 : H S = none := by
      cases z : H S with
      | none => rfl
      | some o =>
        have := k2 _ _ hSb z
        rw [nS] at this; cases this
    have s3 := same_new (o := .lst ys) nS
    have ps := paired_tp (same_tp s3) ps
    have B3 := B2.same s3
    have k3 := k2.trans (same_kp s3)
    have eS : (upd H' S (.lst ys)) S = some (.lst ys) := upd_same
    generalize upd H' S (.lst ys) = H3 at *
    have hos' : ∀ o ∈ os', O.ok o = true ∧ O.dp o ≤ 8 ∧ O.wd o ≤ 3 := fun o ho => hos o (hperm.mem_iff.mp ho)
    have hyl : ys.length ≤ 3 := by rw [paired_len ps, hperm.length_eq, ← paired_len po, hl]; omega
    -- found = [()]
    refine ⟨(by show 0 ≤ sizeLine; decide), fun p0 n0 => ⟨(by show 1 ≤ sizeLine; decide), fun G nG => ?_⟩⟩
    have s4 := same_new (o := .tup []) n0
    have s5 := same_new (o := .lst [.ref p0]) nG
    have B5 := (B3.same s4).same s5
    have hGb := (B3.same s4).ne nG
    have hGl := (B3.same s4).nl nG
    have k5 := (k3.trans (same_kp s4)).trans (same_kp s5)
    have nG0 : H G = none := by
      cases z : H G with
      | none => rfl
      | some o =>
        have := (k3.trans (same_kp s4)) _ _ hGb z
        rw [nG] at this; cases this
    have oz : OA K (upd (upd H3 p0 (.tup [])) G (.lst [.ref p0])) (.ref p0) .z := (OA.nil (.of upd_same)).same s5
    have ps := paired_tp (same_tp (s4.trans s5)) ps
    have eS := s5 _ _ (s4 _ _ eS)
    have eG : (upd (upd H3 p0 (.tup [])) G (.lst [.ref p0])) G = some (.lst [.ref p0]) := upd_same
    have hSG : S ≠ G := fun z => by
      have := s4 _ _ ‹H3 S = some (.lst ys)›
      rw [z, nG] at this; cases this
    generalize upd (upd H3 p0 (.tup [])) G (.lst [.ref p0]) = H5 at *
    refine ⟨_, rfl, S, rfl, ⟨_, SqL.of eS⟩, ?_⟩
    refine for_list (xs := ys) (fun i σ H6 => ∃ u, σ = [some (.ref b), some (.int (d : Nat)), some (.ref S), some (.ref G), u, none] ∧ Kp b H H6 ∧ Bag l H6 b ∧ H6 S = some (.lst ys) ∧ Paired (OA K H6) ys os' ∧
      ∃ fs qs v pl, H6 G = some (.lst (fs ++ [v])) ∧ Paired (OA K H6) fs qs ∧ OA K H6 v pl ∧ fs.length ≤ i ∧ (qs ++ [pl]).head? = some .z ∧ (qs ++ [pl]).Pairwise (fun a b => O.lt a b = true) ∧ (∀ o ∈ qs ++ [pl], O.ok o = true ∧ O.dp o ≤ 8 ∧ O.wd o ≤ 3) ∧ ∀ o ∈ os'.drop i, O.lt o pl = false)
      ⟨none, rfl, k5, B5, eS, ps, [], [], _, .z, eG, .nil, oz, Nat.le_refl _, rfl, List.pairwise_singleton _ _, fun o ho => by rw [List.mem_singleton.mp ho]; exact ⟨rfl, by decide, by decide⟩, fun o _ => O.not_lt_nil o⟩
      (fun i σ H6 _ h => ?_) (fun i x σ H6 hx h => ?_) (fun σ H6 h => ?_)
    · obtain ⟨u, rfl, k6, B6, eS, _⟩ := h
      exact SqL.of eS
    · obtain ⟨u, rfl, k6, B6, eS, ps, fs, qs, v, pl, eG, pq, ov, hfl, hhead, hasc, hgood, hlow⟩ := h
      obtain ⟨o, ho, oa⟩ := paired_get ps hx
      have hom := hos' o (List.mem_of_getElem? ho)
      have hpl := hgood pl (List.mem_append_right _ (List.mem_singleton.mpr rfl))
      have hdrop := drop_get ho
      have hge : O.lt o pl = false := hlow o (by rw [hdrop]; exact List.mem_cons_self)
      have hi3 : i < 3 := by have := (List.getElem?_eq_some_iff.mp hx).1; omega
      have hlow' : ∀ y ∈ os'.drop (i + 1), O.lt y o = false := fun y hy => by
        have h1 : (os'.drop i).Pairwise (fun a b => O.lt b a = false) := hsort.sublist (List.drop_sublist _ _)
        rw [hdrop] at h1
        exact (List.pairwise_cons.mp h1).1 y hy
      refine ⟨_, rfl, _, rfl, _, rfl, G, _, -1, v, rfl, rfl, SqL.of eG, atI_last _ _, rd_ne oa ov (by omega) (by omega) ⟨_, rfl, ?_⟩⟩
      refine ite2 (fun e => ?_) (fun e => ?_)
      · have hne : o ≠ pl := fun z => by
          have e2 : (!decide (o = pl)) = true := e
          rw [decide_eq_true z] at e2; cases e2
        have hlt := O.lt_of_ge hge hne
        refine ⟨_, rfl, .inl ⟨rfl, _, SqL.of eG⟩, _, rfl, G, fs ++ [v], x, rfl, rfl, eG, small_line (by rw [List.length_append]; show fs.length + 1 ≤ 1000; omega), ?_⟩
        have tG := tp_lst (o := .lst (fs ++ [v] ++ [x])) eG
        refine ⟨_, rfl, kp_mut k6 nG0, B6.mut hGb hGl, by rw [upd_ne hSG]; exact eS, paired_tp tG ps, fs ++ [v], qs ++ [pl], x, o, upd_same, paired_tp tG (paired_app pq (.cons ov .nil)), oa.tp tG, by rw [List.length_append]; show fs.length + 1 ≤ i + 1; omega, ?_, ?_, ?_, hlow'⟩
        · rw [List.head?_append, hhead]; rfl
        · refine List.pairwise_append.mpr ⟨hasc, List.pairwise_singleton _ _, fun a ha c hc => ?_⟩
          rw [List.mem_singleton.mp hc]
          rcases List.mem_append.mp ha with h | h
          · exact O.lt_trans _ _ _ ((List.pairwise_append.mp hasc).2.2 a h pl (List.mem_singleton.mpr rfl)) hlt
          · rw [List.mem_singleton.mp h]; exact hlt
        · intro y hy
          rcases List.mem_append.mp hy with h | h
          · exact hgood y h
          · rw [List.mem_singleton.mp h]; exact hom
      · have heq : o = pl := by
          cases z : decide (o = pl) with
          | true => exact of_decide_eq_true z
          | false => exact absurd (show (!decide (o = pl)) = true by rw [z]; rfl) e
        subst heq
        exact ⟨_, rfl, k6, B6, eS, ps, fs, qs, v, o, eG, pq, ov, by omega, hhead, hasc, hgood, hlow'⟩
    · obtain ⟨u, rfl, k6, B6, eS, ps, fs, qs, v, pl, eG, pq, ov, hfl, hhead, hasc, hgood, hlow⟩ := h
      refine ⟨_, rfl, ?_⟩
      exact q G (fs ++ [v]) (qs ++ [pl]) H6 nG0 hGb hGl eG (paired_app pq (.cons ov .nil)) hhead (by rw [List.length_append, ← paired_len pq]; show fs.length + 1 ≤ 4; omega) hasc hgood k6 B6
abbrev s_law_stair : Stmt := top 58
theorem sc_law_stair : FnScope ["_law_bag_here", "_law_many_z", "_law_begun"] ["_law_bag_here", "_law_many_z"] (defScope s_law_stair) := ⟨rfl, rfl, rfl, by decide +kernel, rfl, by decide +kernel, by decide +kernel⟩
theorem ok_lstair  {aZERO : Addr} {aONE : Addr} {aVowError : Addr} {aInvalidLevels : Addr} {aInvalidStair : Addr} {aInvalidRow : Addr} {aLevelsDiffer : Addr} {aMeaning : Addr} {f_Meaning_init : Addr} {p_Meaning_always : Addr} {f_Meaning_always : Addr} {p_Meaning_never : Addr} {f_Meaning_never : Addr} {p_Meaning_levels : Addr} {f_Meaning_levels : Addr} {f_Meaning_stair : Addr} {f_Meaning_least : Addr} {f_Meaning_lies_in : Addr} {f_Meaning_add : Addr} {f_Meaning_mul : Addr} {f_Meaning_neg : Addr} {f_Meaning_contains : Addr} {f_Meaning_bool : Addr} {f_Meaning_eq : Addr} {f_Meaning_repr : Addr} (T : Txt K mg  aZERO aONE aVowError aInvalidLevels aInvalidStair aInvalidRow aLevelsDiffer aMeaning f_Meaning_init p_Meaning_always f_Meaning_always p_Meaning_never f_Meaning_never p_Meaning_levels f_Meaning_levels f_Meaning_stair f_Meaning_least f_Meaning_lies_in f_Meaning_add f_Meaning_mul f_Meaning_neg f_Meaning_contains f_Meaning_bool f_Meaning_eq f_Meaning_repr) {f f1 f2 : Addr} {fd fd1 fd2 : FuncData} {j : Nat} (F : Fun K "_law_stair" "_law_stair" s_law_stair f fd) (C__law_pull : Cal P w K mg base 1 "_law_pull" ["_law_bag_here", "_law_sides"] spPull f1 fd1)
    (C__law_steps : Cal P w K mg base 13 "_law_steps" ["_law_bag_here", "_law_deep"] (spSteps K) f2 fd2) (C__law_stair : Cal P w K mg base (13 + j) "_law_stair" ["_law_bag_here", "_law_many_z"] (spStair K j) f fd) : FnOk P w K mg base CX0 (13 + j + 1) f fd ["_law_bag_here", "_law_many_z"] (spStair K (j + 1)) := by
  refine F.ok sc_law_stair (fun vs H Q E h => ?_) (fun cdv A outer s H vs Q E hr h => ?_)
  · obtain ⟨_, _, _, rfl, _⟩ := h; rfl
  obtain ⟨l, b, n, rfl, hn, hj, hB, q⟩ := h
  refine ⟨_, (pss_cons (ps_if (pt_cmpR op_eq (pv 1) pe_int (nomark _)) (pss_one (ps_ret (pe_cmpR op_eq (pe_call C__law_pull.G (hr.mono (by omega)) (by rfl) C__law_pull.m C__law_pull.kp C__law_pull.b .nil pass0 (pa_cons (pv 0) (pa_cons pe_int pa_nil))) pe_int (nomark _)))) pss_nil)
  (pss_one (ps_ret (pe_callTy call_tuple_of (by rfl) T.z_tuple (by decide +kernel) (pa_cons (pe_lc (own := [("_law_begun", 2)]) (g := gName 2) (tt := tYes) rfl sc_law_stair.nd (pi_list (pe_call C__law_steps.G (hr.mono (by omega)) (by rfl) C__law_steps.m C__law_steps.kp C__law_steps.b .nil pass0 (pa_cons (pv 0) (pa_cons (pe_op op_add pe_int (pe_call C__law_pull.G (hr.mono (by omega)) (by rfl) C__law_pull.m C__law_pull.kp C__law_pull.b .nil pass0 (pa_cons (pv 0) (pa_cons pe_int pa_nil)))) pa_nil)))) (blkOk_by (own := [("_law_begun", 2)]) (N := ["_law_bag_here", "_law_many_z", "_law_begun"]) (sc := defScope s_law_stair) (by decide +kernel)) (fun _ _ _ _ _ => (pg_name (i := 2) sc_law_stair.nd rfl (Or.inl rfl))) (fun _ _ _ _ _ => pts_nil) (fun _ _ _ _ _ => (pe_tup (pa_cons (pv 2) (pa_cons (pe_call C__law_stair.G (hr.mono (by omega)) (by rfl) C__law_stair.m C__law_stair.kp C__law_stair.b .nil pass0 (pa_cons (pv 0) (pa_cons (pe_op op_sub (pv 1) pe_int) pa_nil))) pa_nil))))) pa_nil))))), ?_⟩
  refine ⟨_, rfl, rfl, _, rfl, ?_⟩
  refine ite2 (fun e => ?_) (fun e => ?_)
  · obtain rfl : n = 0 := by
      have e2 : V.int (n : Int) = V.int 0 := of_decide_eq_true e
      cases n with
      | zero => rfl
      | succ m => injection e2 with e3; omega
    refine ⟨_, rfl, l, b, 2, rfl, by decide, by decide, hB, fun r H1 r0 r1 k1 B1 => ⟨rfl, ?_⟩⟩
    exact q _ (decide (V.int r = V.int 1) : Bool) H1 rfl trivial k1 B1
  · obtain ⟨n, rfl⟩ : ∃ m, n = m + 1 := by
      have : ¬ V.int (n : Int) = V.int 0 := of_decide_eq_false (Bool.eq_false_iff.mpr e)
      cases n with
      | zero => exact absurd rfl this
      | succ m => exact ⟨m, rfl⟩
    refine ⟨_, rfl, _, rfl, l, b, 2, rfl, by decide, by decide, hB, fun r H1 r0 r1 k1 B1 => ⟨_, _, rfl, rfl, l, b, (1 + r).toNat, by rw [Int.toNat_of_nonneg (by omega)]; rfl, by omega, B1, fun D0 xs os H2 nD0 hD0b hD0l eD0 po hhead hlen hasc hgood k2 B2 => ⟨D0, rfl, ⟨_, SqL.of eD0⟩, fun D nD => ?_⟩⟩⟩
    have hDb := B2.ne nD
    have hDl := B2.nl nD
    have hDD : D0 ≠ D := ne_of_none eD0 nD
    have lx : xs.length = os.length := paired_len po
    have nDH : H D = none := by
      cases z : H D with
      | none => rfl
      | some o =>
        have := (k1.trans k2) _ _ hDb z
        rw [nD] at this; cases this
    refine lc_list (xs := xs) (fun i H' => Kp b H H' ∧ Bag l H' b ∧ H' D0 = some (.lst xs) ∧ Paired (OA K H') xs os ∧ ∃ (ys : List V) (ls : List (O × SD n)), H' D = some (.lst ys) ∧ Paired (StA K H' n) ys ls ∧ ls.map (·.1) = os.take i ∧ ∀ t ∈ ls, okS n t.2)
      ⟨kp_mut (k1.trans k2) nDH, B2.mut hDb hDl, by rw [upd_ne hDD]; exact eD0, paired_tp (tp_new nD) po, [], [], upd_same, .nil, rfl, fun t ht => by cases ht⟩ (fun i H' _ hp => SqL.of hp.2.2.1) (fun i x H' hx hp => ?_) (fun H' hp => ?_)
    · obtain ⟨k3, B3, eD0, po, ys, ls, eD, py, hm, hok⟩ := hp
      obtain ⟨o, ho, oa⟩ := paired_get po hx
      have hi : i < xs.length := (List.getElem?_eq_some_iff.mp hx).1
      refine ⟨rfl, _, rfl, _, rfl, _, rfl, _, _, rfl, rfl, l, b, n, ?_, by omega, by omega, B3, fun v st H4 sv okv k4 B4 => ⟨(by show 2 ≤ sizeLine; decide), fun c nc => ?_⟩⟩
      · have : (((n + 1 : Nat) : Int) - 1) = (n : Nat) := by omega
        show [V.ref b, V.int (((n + 1 : Nat) : Int) - 1)] = _
        rw [this]
      · have t4 := B3.tp k4
        have s5 := same_new (o := .tup [x, v]) nc
        have eD5 := s5 _ _ (k4 _ _ hDb eD)
        have eD05 := s5 _ _ (k4 _ _ hD0b eD0)
        have ly : ys.length ≤ i := by
          rw [paired_len py, ← List.length_map (f := (·.1)), hm, List.length_take]; omega
        have tD := tp_lst (o := .lst (ys ++ [.ref c])) eD5
        have tA := (t4.trans (same_tp s5)).trans tD
        refine ⟨ys, eD5, small_line (by omega), kp_mut ((k3.trans k4).trans (same_kp s5)) nDH, (B4.same s5).mut hDb hDl, by rw [upd_ne hDD]; exact eD05, paired_tp tA po, ys ++ [.ref c], ls ++ [(o, st)], upd_same, ?_, by rw [List.map_append, hm, take_get ho]; rfl, fun t ht => ?_⟩
        · refine paired_app (steps_tp tA py) (.cons ?_ .nil)
          exact StA.tp tD ⟨c, x, v, rfl, .of upd_same, oa.tp (t4.trans (same_tp s5)), sv.same s5⟩
        · rcases List.mem_append.mp ht with h | h
          · exact hok t h
          · rw [List.mem_singleton.mp h]; exact okv
    · obtain ⟨k3, B3, eD0, po, ys, ls, eD, py, hm, hok⟩ := hp
      rw [List.take_of_length_le (Nat.le_of_eq lx.symm)] at hm
      refine ⟨D, ys, rfl, .inl ⟨SqL.of eD, fun g ng => ?_⟩⟩
      have s1 := same_new (o := .tup ys) ng
      have hmem : ∀ t ∈ ls, t.1 ∈ os := fun t ht => by rw [← hm]; exact List.mem_map.mpr ⟨t, ht, rfl⟩
      refine q _ ls _ (SA.mk (.of upd_same) (steps_tp (same_tp s1) py)) ⟨fun z => ?_, ?_, fun t ht => hgood _ (hmem t ht), hok, ?_, ?_⟩ (k3.trans (same_kp s1)) (B3.same s1)
      · rw [z] at hm; rw [← hm] at hhead; cases hhead
      · rw [← hm] at hasc; exact List.pairwise_map.mp hasc
      · rw [← List.length_map (f := (·.1)), hm]; exact hlen
      · rw [← List.head?_map, hm]; exact hhead
end
end Vw

set_option Elab.async false
set_option linter.all false
set_option maxRecDepth 100000
set_option maxHeartbeats 4000000
namespace Vw
open PySem PySem.W PyProof.Rows L2
abbrev sMeaning_init : Stmt := match top 47 with | .ClassDef (body := b) .. => b.getD 0 (.Pass ⟨0, 0, 0, 0⟩) | s => s
theorem scMeaning_init : FnScope ["self", "levels", "stair"] ["self", "levels", "stair"] (defScope sMeaning_init) := ⟨rfl, rfl, rfl, by decide +kernel, rfl, by decide +kernel, by decide +kernel⟩
abbrev sMeaning_always : Stmt := match top 47 with | .ClassDef (body := b) .. => b.getD 1 (.Pass ⟨0, 0, 0, 0⟩) | s => s
theorem scMeaning_always : FnScope ["cls", "levels"] ["cls", "levels"] (defScope sMeaning_always) := ⟨rfl, rfl, rfl, by decide +kernel, rfl, by decide +kernel, by decide +kernel⟩
abbrev sMeaning_never : Stmt := match top 47 with | .ClassDef (body := b) .. => b.getD 2 (.Pass ⟨0, 0, 0, 0⟩) | s => s
theorem scMeaning_never : FnScope ["cls", "levels"] ["cls", "levels"] (defScope sMeaning_never) := ⟨rfl, rfl, rfl, by decide +kernel, rfl, by decide +kernel, by decide +kernel⟩
abbrev sMeaning_levels : Stmt := match top 47 with | .ClassDef (body := b) .. => b.getD 4 (.Pass ⟨0, 0, 0, 0⟩) | s => s
theorem scMeaning_levels : FnScope ["self"] ["self"] (defScope sMeaning_levels) := ⟨rfl, rfl, rfl, by decide +kernel, rfl, by decide +kernel, by decide +kernel⟩
abbrev sMeaning_stair : Stmt := match top 47 with | .ClassDef (body := b) .. => b.getD 5 (.Pass ⟨0, 0, 0, 0⟩) | s => s
theorem scMeaning_stair : FnScope ["self"] ["self"] (defScope sMeaning_stair) := ⟨rfl, rfl, rfl, by decide +kernel, rfl, by decide +kernel, by decide +kernel⟩
abbrev sMeaning_least : Stmt := match top 47 with | .ClassDef (body := b) .. => b.getD 6 (.Pass ⟨0, 0, 0, 0⟩) | s => s
theorem scMeaning_least : FnScope ["self"] ["self"] (defScope sMeaning_least) := ⟨rfl, rfl, rfl, by decide +kernel, rfl, by decide +kernel, by decide +kernel⟩
abbrev sMeaning_lies_in : Stmt := match top 47 with | .ClassDef (body := b) .. => b.getD 9 (.Pass ⟨0, 0, 0, 0⟩) | s => s
theorem scMeaning_lies_in : FnScope ["self", "other"] ["self", "other"] (defScope sMeaning_lies_in) := ⟨rfl, rfl, rfl, by decide +kernel, rfl, by decide +kernel, by decide +kernel⟩
abbrev sMeaning_add : Stmt := match top 47 with | .ClassDef (body := b) .. => b.getD 12 (.Pass ⟨0, 0, 0, 0⟩) | s => s
theorem scMeaning_add : FnScope ["self", "other"] ["self", "other"] (defScope sMeaning_add) := ⟨rfl, rfl, rfl, by decide +kernel, rfl, by decide +kernel, by decide +kernel⟩
abbrev sMeaning_mul : Stmt := match top 47 with | .ClassDef (body := b) .. => b.getD 13 (.Pass ⟨0, 0, 0, 0⟩) | s => s
theorem scMeaning_mul : FnScope ["self", "other"] ["self", "other"] (defScope sMeaning_mul) := ⟨rfl, rfl, rfl, by decide +kernel, rfl, by decide +kernel, by decide +kernel⟩
abbrev sMeaning_neg : Stmt := match top 47 with | .ClassDef (body := b) .. => b.getD 14 (.Pass ⟨0, 0, 0, 0⟩) | s => s
theorem scMeaning_neg : FnScope ["self"] ["self"] (defScope sMeaning_neg) := ⟨rfl, rfl, rfl, by decide +kernel, rfl, by decide +kernel, by decide +kernel⟩
abbrev sMeaning_contains : Stmt := match top 47 with | .ClassDef (body := b) .. => b.getD 15 (.Pass ⟨0, 0, 0, 0⟩) | s => s
theorem scMeaning_contains : FnScope ["self", "row"] ["self", "row"] (defScope sMeaning_contains) := ⟨rfl, rfl, rfl, by decide +kernel, rfl, by decide +kernel, by decide +kernel⟩
abbrev sMeaning_bool : Stmt := match top 47 with | .ClassDef (body := b) .. => b.getD 16 (.Pass ⟨0, 0, 0, 0⟩) | s => s
theorem scMeaning_bool : FnScope ["self"] ["self"] (defScope sMeaning_bool) := ⟨rfl, rfl, rfl, by decide +kernel, rfl, by decide +kernel, by decide +kernel⟩
abbrev sMeaning_eq : Stmt := match top 47 with | .ClassDef (body := b) .. => b.getD 17 (.Pass ⟨0, 0, 0, 0⟩) | s => s
theorem scMeaning_eq : FnScope ["self", "other"] ["self", "other"] (defScope sMeaning_eq) := ⟨rfl, rfl, rfl, by decide +kernel, rfl, by decide +kernel, by decide +kernel⟩
abbrev sMeaning_repr : Stmt := match top 47 with | .ClassDef (body := b) .. => b.getD 18 (.Pass ⟨0, 0, 0, 0⟩) | s => s
theorem scMeaning_repr : FnScope ["self"] ["self"] (defScope sMeaning_repr) := ⟨rfl, rfl, rfl, by decide +kernel, rfl, by decide +kernel, by decide +kernel⟩
abbrev scheck_levels : Stmt := top 22
theorem sccheck_levels : FnScope ["levels"] ["levels"] (defScope scheck_levels) := ⟨rfl, rfl, rfl, by decide +kernel, rfl, by decide +kernel, by decide +kernel⟩
abbrev scheck_stair : Stmt := top 28
theorem sccheck_stair : FnScope ["levels", "value"] ["levels", "value"] (defScope scheck_stair) := ⟨rfl, rfl, rfl, by decide +kernel, rfl, by decide +kernel, by decide +kernel⟩
abbrev sturned : Stmt := top 32
theorem scturned : FnScope ["stair", "begin", "inner"] ["stair"] (defScope sturned) := ⟨rfl, rfl, rfl, by decide +kernel, rfl, by decide +kernel, by decide +kernel⟩
abbrev sjoined : Stmt := top 33
theorem scjoined : FnScope ["one", "other", "begin", "inner", "beside"] ["one", "other"] (defScope sjoined) := ⟨rfl, rfl, rfl, by decide +kernel, rfl, by decide +kernel, by decide +kernel⟩
abbrev smet : Stmt := top 34
theorem scmet : FnScope ["one", "other"] ["one", "other"] (defScope smet) := ⟨rfl, rfl, rfl, by decide +kernel, rfl, by decide +kernel, by decide +kernel⟩
section
variable {P : Program} {w : World} {K : PySem.W.Frag} {mg : Str → Option Value} {base : Heap}
theorem ok_check_levels  {aZERO : Addr} {aONE : Addr} {aVowError : Addr} {aInvalidLevels : Addr} {aInvalidStair : Addr} {aInvalidRow : Addr} {aLevelsDiffer : Addr} {aMeaning : Addr} {f_Meaning_init : Addr} {p_Meaning_always : Addr} {f_Meaning_always : Addr} {p_Meaning_never : Addr} {f_Meaning_never : Addr} {p_Meaning_levels : Addr} {f_Meaning_levels : Addr} {f_Meaning_stair : Addr} {f_Meaning_least : Addr} {f_Meaning_lies_in : Addr} {f_Meaning_add : Addr} {f_Meaning_mul : Addr} {f_Meaning_neg : Addr} {f_Meaning_contains : Addr} {f_Meaning_bool : Addr} {f_Meaning_eq : Addr} {f_Meaning_repr : Addr} (T : Txt K mg  aZERO aONE aVowError aInvalidLevels aInvalidStair aInvalidRow aLevelsDiffer aMeaning f_Meaning_init p_Meaning_always f_Meaning_always p_Meaning_never f_Meaning_never p_Meaning_levels f_Meaning_levels f_Meaning_stair f_Meaning_least f_Meaning_lies_in f_Meaning_add f_Meaning_mul f_Meaning_neg f_Meaning_contains f_Meaning_bool f_Meaning_eq f_Meaning_repr) {f : Addr} {fd : FuncData} {k : Nat} (F : Fun K "check_levels" "check_levels" scheck_levels f fd) : FnOk P w K mg base CX0 (k + 1) f fd ["levels"] spChkLev := by
  refine F.ok sccheck_levels (fun vs H Q E h => ?_) (fun cdv A outer s H vs Q E hr h => ?_)
  · obtain ⟨_, rfl, _⟩ := h; rfl
  obtain ⟨m, rfl, h1, h3, q⟩ := h
  refine ⟨_, (pss_one (ps_if (PW.pt (pw_or (pt_cmpR op_lt (pv 0) pe_int (nomark _)) (pw_or1 (pt_cmpR op_gt (pv 0) (pe_globI (by rfl) T.m_MAX_LEVELS) (nomark _))))) (pss_one ps_never) pss_nil)), ?_⟩
  refine ⟨_, rfl, _, _, rfl, rfl, _, rfl, ?_⟩
  refine ite2 (fun z => absurd (of_decide_eq_true z) (by omega)) (fun _ => ?_)
  refine ⟨_, rfl, _, _, rfl, rfl, _, rfl, ?_⟩
  refine ite2 (fun z => absurd (of_decide_eq_true z) (by omega)) (fun _ => ?_)
  exact q
theorem ok_check_stair0  {aZERO : Addr} {aONE : Addr} {aVowError : Addr} {aInvalidLevels : Addr} {aInvalidStair : Addr} {aInvalidRow : Addr} {aLevelsDiffer : Addr} {aMeaning : Addr} {f_Meaning_init : Addr} {p_Meaning_always : Addr} {f_Meaning_always : Addr} {p_Meaning_never : Addr} {f_Meaning_never : Addr} {p_Meaning_levels : Addr} {f_Meaning_levels : Addr} {f_Meaning_stair : Addr} {f_Meaning_least : Addr} {f_Meaning_lies_in : Addr} {f_Meaning_add : Addr} {f_Meaning_mul : Addr} {f_Meaning_neg : Addr} {f_Meaning_contains : Addr} {f_Meaning_bool : Addr} {f_Meaning_eq : Addr} {f_Meaning_repr : Addr} (T : Txt K mg  aZERO aONE aVowError aInvalidLevels aInvalidStair aInvalidRow aLevelsDiffer aMeaning f_Meaning_init p_Meaning_always f_Meaning_always p_Meaning_never f_Meaning_never p_Meaning_levels f_Meaning_levels f_Meaning_stair f_Meaning_least f_Meaning_lies_in f_Meaning_add f_Meaning_mul f_Meaning_neg f_Meaning_contains f_Meaning_bool f_Meaning_eq f_Meaning_repr) {f f1 : Addr} {fd fd1 : FuncData} {k : Nat} (F : Fun K "check_stair" "check_stair" scheck_stair f fd) (C_is_stair : Cal P w K mg base k "is_stair" ["levels", "value"] (spIsSt K 4) f1 fd1) : FnOk P w K mg base CX0 (k + 1) f fd ["levels", "value"] (spChkSt K) := by
  refine F.ok sccheck_stair (fun vs H Q E h => ?_) (fun cdv A outer s H vs Q E hr h => ?_)
  · obtain ⟨_, _, _, rfl, _⟩ := h; rfl
  obtain ⟨v, n, st, rfl, hn, hv, ok, hb, q⟩ := h
  refine ⟨_, (pss_one (ps_if (pt_not (pt_val (pe_call C_is_stair.G (hr.mono (by omega)) (by rfl) C_is_stair.m C_is_stair.kp C_is_stair.b .nil pass0 (pa_cons (pv 0) (pa_cons (pv 1) pa_nil))))) (pss_one ps_never) pss_nil)), ?_⟩
  have d := depth_W n st hb
  refine ⟨_, rfl, _, rfl, n, v, _, rfl, by omega, hv.dp, by omega, fun H1 s1 => ⟨_, rfl, ?_⟩⟩
  rw [isSt_t (isSt_W n st ok)]
  exact iteF (q H1 s1)
theorem ok_turned  {aZERO : Addr} {aONE : Addr} {aVowError : Addr} {aInvalidLevels : Addr} {aInvalidStair : Addr} {aInvalidRow : Addr} {aLevelsDiffer : Addr} {aMeaning : Addr} {f_Meaning_init : Addr} {p_Meaning_always : Addr} {f_Meaning_always : Addr} {p_Meaning_never : Addr} {f_Meaning_never : Addr} {p_Meaning_levels : Addr} {f_Meaning_levels : Addr} {f_Meaning_stair : Addr} {f_Meaning_least : Addr} {f_Meaning_lies_in : Addr} {f_Meaning_add : Addr} {f_Meaning_mul : Addr} {f_Meaning_neg : Addr} {f_Meaning_contains : Addr} {f_Meaning_bool : Addr} {f_Meaning_eq : Addr} {f_Meaning_repr : Addr} (T : Txt K mg  aZERO aONE aVowError aInvalidLevels aInvalidStair aInvalidRow aLevelsDiffer aMeaning f_Meaning_init p_Meaning_always f_Meaning_always p_Meaning_never f_Meaning_never p_Meaning_levels f_Meaning_levels f_Meaning_stair f_Meaning_least f_Meaning_lies_in f_Meaning_add f_Meaning_mul f_Meaning_neg f_Meaning_contains f_Meaning_bool f_Meaning_eq f_Meaning_repr) {f : Addr} {fd : FuncData} {j : Nat} (F : Fun K "turned" "turned" sturned f fd) (C_turned : Cal P w K mg base j "turned" ["stair"] (spTurn K j) f fd) : FnOk P w K mg base CX0 (j + 1) f fd ["stair"] (spTurn K (j + 1)) := by
  refine F.ok scturned (fun vs H Q E h => ?_) (fun cdv A outer s H vs Q E hr h => ?_)
  · obtain ⟨_, _, _, rfl, _⟩ := h; rfl
  obtain ⟨v, n, st, rfl, hv, hb, hn, q⟩ := h
  refine ⟨_, (pss_cons (ps_if (pt_val (pe_callB call_isD (by rfl) T.z_isinstance (by decide +kernel) (pa_cons (pv 0) (pa_cons (pe_bltn (v := .ty "bool") (u := .type "bool") (by rfl) T.z_bool (by decide +kernel) rfl) pa_nil)))) (pss_one (ps_ret (pe_not (pv 0)))) pss_nil)
  (pss_one (ps_ret (pe_callTy call_tuple_of (by rfl) T.z_tuple (by decide +kernel) (pa_cons (pe_lc (own := [("begin", 1), ("inner", 2)]) (g := gTup K 2 (gCons (gName 1) (gCons (gName 2) (gNil)))) (tt := tYes) rfl scturned.nd (pi_tup (pv 0)) (blkOk_by (own := [("begin", 1), ("inner", 2)]) (N := ["stair", "begin", "inner"]) (sc := defScope sturned) (by decide +kernel)) (fun _ _ _ _ _ => (pg_tup (by rfl) (pgs_cons (pg_name (i := 1) scturned.nd rfl (Or.inl rfl)) (pgs_cons (pg_name (i := 2) scturned.nd rfl (Or.inl rfl)) pgs_nil)))) (fun _ _ _ _ _ => pts_nil) (fun _ _ _ _ _ => (pe_tup (pa_cons (pv 1) (pa_cons (pe_call C_turned.G (hr.mono (by omega)) (by rfl) C_turned.m C_turned.kp C_turned.b .nil pass0 (pa_cons (pv 2) pa_nil)) pa_nil))))) pa_nil))))), ?_⟩
  cases n with
  | zero =>
    obtain ⟨st, rfl⟩ : ∃ b : Bool, b = st := ⟨st, rfl⟩
    obtain rfl : v = V.bl st := hv
    exact ⟨_, rfl, rd_bool (.bl st) ⟨_, rfl, iteT ⟨_, rfl, _, rfl, q _ H (Same.refl H) rfl⟩⟩⟩
  | succ n =>
    obtain ⟨st, rfl⟩ : ∃ l : List (O × SD n), l = st := ⟨st, rfl⟩
    have hdp := hv.dp
    obtain ⟨a, xs, rfl, tt, pp⟩ := hv.un
    have hlen : st.length ≤ 1500000 := hb.1
    refine ⟨_, rfl, rd_bool hdp ⟨_, rfl, iteF ⟨_, rfl, a, rfl, ⟨_, tt.sq⟩, fun D nD => ?_⟩⟩⟩
    refine lc_tup (xs := xs) (fun i H' => Same H H' ∧ ∃ ys, H' D = some (.lst ys) ∧ Paired (StA K H' n) ys ((st.take i).map fun t => (t.1, oppS n t.2))) ⟨same_new nD, [], upd_same, .nil⟩ (fun i H' _ hp => ?_) (fun i x H' hx hp => ?_) (fun H' hp => ?_)
    · exact (tt.same hp.1).sq
    · obtain ⟨sm, ys, eD, py⟩ := hp
      obtain ⟨t, ht, p, u, w2, rfl, tp, ou, sw⟩ := paired_get pp hx
      have htm := List.mem_of_getElem? ht
      have hi : i < st.length := (List.getElem?_eq_some_iff.mp ht).1
      refine ⟨p, _, rfl, (tp.same sm).sq, rfl, _, _, rfl, _, _, rfl, rfl, rfl, _, rfl, _, rfl, w2, n, t.2, rfl, sw.same sm, (hb.2 t htm).2.2, by omega, fun w3 H2 s2 sw3 => ⟨(by show 2 ≤ sizeLine; decide), fun c nc => ?_⟩⟩
      have s3 := same_new (o := .tup [u, w3]) nc
      have eD3 := s3 _ _ (s2 _ _ eD)
      have s4 := (sm.trans s2).trans s3
      have ly : ys.length = i := by rw [paired_len py, List.length_map, List.length_take]; omega
      refine ⟨ys, eD3, small40k (by omega), same_mut s4 nD, ys ++ [.ref c], upd_same, ?_⟩
      have tD := tp_lst (o := .lst (ys ++ [.ref c])) eD3
      rw [take_get ht, List.map_append]
      refine paired_app (steps_tp tD (steps_tp (same_tp (s2.trans s3)) py)) (.cons ?_ .nil)
      exact StA.tp tD ⟨c, u, w3, rfl, .of upd_same, ou.same s4, sw3.same s3⟩
    · obtain ⟨sm, ys, eD, py⟩ := hp
      rw [List.take_of_length_le (by rw [paired_len pp]; exact Nat.le_refl _)] at py
      refine ⟨D, ys, rfl, .inl ⟨SqL.of eD, fun g ng => ?_⟩⟩
      have s1 := same_new (o := .tup ys) ng
      exact q _ _ (sm.trans s1) (SA.mk (.of upd_same) (steps_tp (same_tp s1) py))
theorem turn_all  {aZERO : Addr} {aONE : Addr} {aVowError : Addr} {aInvalidLevels : Addr} {aInvalidStair : Addr} {aInvalidRow : Addr} {aLevelsDiffer : Addr} {aMeaning : Addr} {f_Meaning_init : Addr} {p_Meaning_always : Addr} {f_Meaning_always : Addr} {p_Meaning_never : Addr} {f_Meaning_never : Addr} {p_Meaning_levels : Addr} {f_Meaning_levels : Addr} {f_Meaning_stair : Addr} {f_Meaning_least : Addr} {f_Meaning_lies_in : Addr} {f_Meaning_add : Addr} {f_Meaning_mul : Addr} {f_Meaning_neg : Addr} {f_Meaning_contains : Addr} {f_Meaning_bool : Addr} {f_Meaning_eq : Addr} {f_Meaning_repr : Addr} (T : Txt K mg  aZERO aONE aVowError aInvalidLevels aInvalidStair aInvalidRow aLevelsDiffer aMeaning f_Meaning_init p_Meaning_always f_Meaning_always p_Meaning_never f_Meaning_never p_Meaning_levels f_Meaning_levels f_Meaning_stair f_Meaning_least f_Meaning_lies_in f_Meaning_add f_Meaning_mul f_Meaning_neg f_Meaning_contains f_Meaning_bool f_Meaning_eq f_Meaning_repr) {f : Addr} {fd : FuncData} (F : Fun K "turned" "turned" sturned f fd) (b : Binds K fd ["stair"] []) (m : mg "turned" = some (.ref f)) : ∀ j : Nat, FnOk P w K mg base CX0 j f fd ["stair"] (spTurn K j)
  | 0 => none_left fun vs H Q E h => by
    obtain ⟨_, _, _, _, _, _, h, _⟩ := h
    exact absurd h (Nat.not_lt_zero _)
  | j + 1 => ok_turned T F ⟨turn_all T F b m j, m, F.kp, b⟩
theorem ok_joined  {aZERO : Addr} {aONE : Addr} {aVowError : Addr} {aInvalidLevels : Addr} {aInvalidStair : Addr} {aInvalidRow : Addr} {aLevelsDiffer : Addr} {aMeaning : Addr} {f_Meaning_init : Addr} {p_Meaning_always : Addr} {f_Meaning_always : Addr} {p_Meaning_never : Addr} {f_Meaning_never : Addr} {p_Meaning_levels : Addr} {f_Meaning_levels : Addr} {f_Meaning_stair : Addr} {f_Meaning_least : Addr} {f_Meaning_lies_in : Addr} {f_Meaning_add : Addr} {f_Meaning_mul : Addr} {f_Meaning_neg : Addr} {f_Meaning_contains : Addr} {f_Meaning_bool : Addr} {f_Meaning_eq : Addr} {f_Meaning_repr : Addr} (T : Txt K mg  aZERO aONE aVowError aInvalidLevels aInvalidStair aInvalidRow aLevelsDiffer aMeaning f_Meaning_init p_Meaning_always f_Meaning_always p_Meaning_never f_Meaning_never p_Meaning_levels f_Meaning_levels f_Meaning_stair f_Meaning_least f_Meaning_lies_in f_Meaning_add f_Meaning_mul f_Meaning_neg f_Meaning_contains f_Meaning_bool f_Meaning_eq f_Meaning_repr) {f f1 : Addr} {fd fd1 : FuncData} {j : Nat} (F : Fun K "joined" "joined" sjoined f fd) (C__paired : Cal P w K mg base 1 "_paired" ["one", "other"] (spPair K) f1 fd1) (C_joined : Cal P w K mg base (j + 1) "joined" ["one", "other"] (spJnd K j) f fd) :
    FnOk P w K mg base CX0 (j + 2) f fd ["one", "other"] (spJnd K (j + 1)) := by
  refine F.ok scjoined (fun vs H Q E h => ?_) (fun cdv A outer s H vs Q E hr h => ?_)
  · obtain ⟨_, _, _, _, _, rfl, _⟩ := h; rfl
  obtain ⟨v1, v2, n, a, b, rfl, hn, h1, h2, k1, k2, b1, b2, q⟩ := h
  refine ⟨_, (pss_cons (ps_if (pt_val (pe_callB call_isD (by rfl) T.z_isinstance (by decide +kernel) (pa_cons (pv 0) (pa_cons (pe_bltn (v := .ty "bool") (u := .type "bool") (by rfl) T.z_bool (by decide +kernel) rfl) pa_nil)))) (pss_one (ps_ret (pe_or (pv 0) (pe_one (pv 1))))) pss_nil)
  (pss_one (ps_ret (pe_callTy call_tuple_of (by rfl) T.z_tuple (by decide +kernel) (pa_cons (pe_lc (own := [("begin", 2), ("inner", 3), ("beside", 4)]) (g := gTup K 3 (gCons (gName 2) (gCons (gName 3) (gCons (gName 4) (gNil))))) (tt := tYes) rfl scjoined.nd (pi_list (pe_call C__paired.G (hr.mono (by omega)) (by rfl) C__paired.m C__paired.kp C__paired.b .nil pass0 (pa_cons (pv 0) (pa_cons (pv 1) pa_nil)))) (blkOk_by (own := [("begin", 2), ("inner", 3), ("beside", 4)]) (N := ["one", "other", "begin", "inner", "beside"]) (sc := defScope sjoined) (by decide +kernel)) (fun _ _ _ _ _ => (pg_tup (by rfl) (pgs_cons (pg_name (i := 2) scjoined.nd rfl (Or.inl rfl)) (pgs_cons (pg_name (i := 3) scjoined.nd rfl (Or.inl rfl)) (pgs_cons (pg_name (i := 4) scjoined.nd rfl (Or.inl rfl)) pgs_nil))))) (fun _ _ _ _ _ => pts_nil) (fun _ _ _ _ _ => (pe_tup (pa_cons (pv 2) (pa_cons (pe_call C_joined.G (hr.mono (by omega)) (by rfl) C_joined.m C_joined.kp C_joined.b .nil pass0 (pa_cons (pv 3) (pa_cons (pv 4) pa_nil))) pa_nil))))) pa_nil))))), ?_⟩
  cases n with
  | zero =>
    obtain ⟨a, rfl⟩ : ∃ c : Bool, c = a := ⟨a, rfl⟩
    obtain ⟨b, rfl⟩ : ∃ c : Bool, c = b := ⟨b, rfl⟩
    obtain rfl : v1 = .bl a := h1
    obtain rfl : v2 = .bl b := h2
    refine ⟨_, rfl, rd_bool (.bl a) ⟨_, rfl, iteT ⟨_, rfl, a, rfl, ?_⟩⟩⟩
    cases a with
    | true => exact iteT (q _ H (Same.refl H) rfl)
    | false => exact iteF ⟨_, rfl, q _ H (Same.refl H) rfl⟩
  | succ n =>
    obtain ⟨l1, rfl⟩ : ∃ l : List (O × SD n), l = a := ⟨a, rfl⟩
    obtain ⟨l2, rfl⟩ : ∃ l : List (O × SD n), l = b := ⟨b, rfl⟩
    have m1 := b1.1
    have m2 := b2.1
    obtain ⟨p1, x1, rfl, _, _⟩ := h1.un
    refine ⟨_, rfl, rd_bool h1.dp ⟨_, rfl, iteF ?_⟩⟩
    refine ⟨_, rfl, _, rfl, _, _, n, l1, l2, rfl, h1, h2, k1, k2, fun t ht => by have := (b1.2 t ht).1; omega, fun t ht => by have := (b2.2 t ht).1; omega, m1, m2, fun G xs H1 s1 eG px => ?_⟩
    have lx := paired_len px
    rw [List.length_map] at lx
    have lb := bs_len l1 l2
    refine ⟨G, rfl, ⟨_, SqL.of eG⟩, fun D nD => ?_⟩
    refine lc_list (xs := xs) (fun i H' => Same H1 H' ∧ ∃ ys, H' D = some (.lst ys) ∧ ys.length = i ∧ Paired (StA K H' n) ys (((bsOf l1 l2).take i).map fun o => (o, joinS (fun x y => x || y) n (pickS l1 o) (pickS l2 o)))) ⟨same_new nD, [], upd_same, rfl, .nil⟩ (fun i H' _ hp => ?_) (fun i x H' hx hp => ?_) (fun H' hp => ?_)
    · exact SqL.of (hp.1 _ _ eG)
    · obtain ⟨sm, ys, eD, ly, py⟩ := hp
      obtain ⟨t, ht, p, u, w1, w2, rfl, tp, ou, sw1, sw2⟩ := paired_get px hx
      rw [List.getElem?_map] at ht
      obtain ⟨o, ho, rfl⟩ := Option.map_eq_some_iff.mp ht
      have hi : i < xs.length := (List.getElem?_eq_some_iff.mp hx).1
      refine ⟨p, _, rfl, (tp.same sm).sq, rfl, _, _, rfl, _, _, rfl, _, _, rfl, rfl, rfl, _, rfl, _, rfl, _, rfl, w1, w2, n, pickS l1 o, pickS l2 o, rfl, by omega, sw1.same sm, sw2.same sm, okW_pick k1 o, okW_pick k2 o, b1.pick k1 o, b2.pick k2 o, fun w3 H2 s2 sw3 => ⟨(by show 2 ≤ sizeLine; decide), fun c nc => ?_⟩⟩
      have s3 := same_new (o := .tup [u, w3]) nc
      have eD3 := s3 _ _ (s2 _ _ eD)
      have s4 := (sm.trans s2).trans s3
      refine ⟨ys, eD3, small40k (by omega), same_mut s4 nD, ys ++ [.ref c], upd_same, by rw [List.length_append, ly]; rfl, ?_⟩
      have tD := tp_lst (o := .lst (ys ++ [.ref c])) eD3
      rw [take_get ho, List.map_append]
      refine paired_app (steps_tp tD (steps_tp (same_tp (s2.trans s3)) py)) (.cons ?_ .nil)
      exact StA.tp tD ⟨c, u, w3, rfl, .of upd_same, ou.same s4, sw3.same s3⟩
    · obtain ⟨sm, ys, eD, ly, py⟩ := hp
      rw [List.take_of_length_le (by rw [lx]; exact Nat.le_refl _)] at py
      refine ⟨D, ys, rfl, .inl ⟨SqL.of eD, fun g ng => ?_⟩⟩
      have s2 := same_new (o := .tup ys) ng
      exact q _ _ ((s1.trans sm).trans s2) (SA.mk (.of upd_same) (steps_tp (same_tp s2) py))
theorem jnd_all  {aZERO : Addr} {aONE : Addr} {aVowError : Addr} {aInvalidLevels : Addr} {aInvalidStair : Addr} {aInvalidRow : Addr} {aLevelsDiffer : Addr} {aMeaning : Addr} {f_Meaning_init : Addr} {p_Meaning_always : Addr} {f_Meaning_always : Addr} {p_Meaning_never : Addr} {f_Meaning_never : Addr} {p_Meaning_levels : Addr} {f_Meaning_levels : Addr} {f_Meaning_stair : Addr} {f_Meaning_least : Addr} {f_Meaning_lies_in : Addr} {f_Meaning_add : Addr} {f_Meaning_mul : Addr} {f_Meaning_neg : Addr} {f_Meaning_contains : Addr} {f_Meaning_bool : Addr} {f_Meaning_eq : Addr} {f_Meaning_repr : Addr} (T : Txt K mg  aZERO aONE aVowError aInvalidLevels aInvalidStair aInvalidRow aLevelsDiffer aMeaning f_Meaning_init p_Meaning_always f_Meaning_always p_Meaning_never f_Meaning_never p_Meaning_levels f_Meaning_levels f_Meaning_stair f_Meaning_least f_Meaning_lies_in f_Meaning_add f_Meaning_mul f_Meaning_neg f_Meaning_contains f_Meaning_bool f_Meaning_eq f_Meaning_repr) {f f1 : Addr} {fd fd1 : FuncData} (F : Fun K "joined" "joined" sjoined f fd) (b : Binds K fd ["one", "other"] []) (m : mg "joined" = some (.ref f)) (C1 : Cal P w K mg base 1 "_paired" ["one", "other"] (spPair K) f1 fd1) : ∀ j : Nat, FnOk P w K mg base CX0 (j + 1) f fd ["one", "other"] (spJnd K j)
  | 0 => fn_mono (none_left fun vs H Q E h => by
    obtain ⟨_, _, _, _, _, _, h, _⟩ := h
    exact absurd h (Nat.not_lt_zero _)) (Nat.zero_le _)
  | j + 1 => ok_joined T F C1 ⟨jnd_all T F b m C1 j, m, F.kp, b⟩
theorem ok_met  {aZERO : Addr} {aONE : Addr} {aVowError : Addr} {aInvalidLevels : Addr} {aInvalidStair : Addr} {aInvalidRow : Addr} {aLevelsDiffer : Addr} {aMeaning : Addr} {f_Meaning_init : Addr} {p_Meaning_always : Addr} {f_Meaning_always : Addr} {p_Meaning_never : Addr} {f_Meaning_never : Addr} {p_Meaning_levels : Addr} {f_Meaning_levels : Addr} {f_Meaning_stair : Addr} {f_Meaning_least : Addr} {f_Meaning_lies_in : Addr} {f_Meaning_add : Addr} {f_Meaning_mul : Addr} {f_Meaning_neg : Addr} {f_Meaning_contains : Addr} {f_Meaning_bool : Addr} {f_Meaning_eq : Addr} {f_Meaning_repr : Addr} (T : Txt K mg  aZERO aONE aVowError aInvalidLevels aInvalidStair aInvalidRow aLevelsDiffer aMeaning f_Meaning_init p_Meaning_always f_Meaning_always p_Meaning_never f_Meaning_never p_Meaning_levels f_Meaning_levels f_Meaning_stair f_Meaning_least f_Meaning_lies_in f_Meaning_add f_Meaning_mul f_Meaning_neg f_Meaning_contains f_Meaning_bool f_Meaning_eq f_Meaning_repr) {f f1 f2 : Addr} {fd fd1 fd2 : FuncData} {j k : Nat} (F : Fun K "met" "met" smet f fd) (C_turned : Cal P w K mg base k "turned" ["stair"] (spTurn K j) f1 fd1) (C_joined : Cal P w K mg base k "joined" ["one", "other"] (spJnd K j) f2 fd2) :
    FnOk P w K mg base CX0 (k + 1) f fd ["one", "other"] (spMet K j) := by
  refine F.ok scmet (fun vs H Q E h => ?_) (fun cdv A outer s H vs Q E hr h => ?_)
  · obtain ⟨_, _, _, _, _, rfl, _⟩ := h; rfl
  obtain ⟨v1, v2, n, a, b, rfl, hn, h1, h2, k1, k2, b1, b2, b3, q⟩ := h
  refine ⟨_, (pss_one (ps_ret (pe_call C_turned.G (hr.mono (by omega)) (by rfl) C_turned.m C_turned.kp C_turned.b .nil pass0 (pa_cons (pe_call C_joined.G (hr.mono (by omega)) (by rfl) C_joined.m C_joined.kp C_joined.b .nil pass0 (pa_cons (pe_call C_turned.G (hr.mono (by omega)) (by rfl) C_turned.m C_turned.kp C_turned.b .nil pass0 (pa_cons (pv 0) pa_nil)) (pa_cons (pe_call C_turned.G (hr.mono (by omega)) (by rfl) C_turned.m C_turned.kp C_turned.b .nil pass0 (pa_cons (pv 1) pa_nil)) pa_nil))) pa_nil)))), ?_⟩
  refine ⟨_, rfl, v1, n, a, rfl, h1, b1, hn, fun w1 H1 s1 sw1 => ?_⟩
  refine ⟨_, rfl, v2, n, b, rfl, h2.same s1, b2, hn, fun w2 H2 s2 sw2 => ?_⟩
  refine ⟨w1, w2, n, oppS n a, oppS n b, rfl, hn, sw1.same s2, sw2, okW_opp n a k1, okW_opp n b k2, bs_opp n a b1, bs_opp n b b2, fun w3 H3 s3 sw3 => ?_⟩
  exact ⟨w3, n, _, rfl, sw3, b3, hn, fun w4 H4 s4 sw4 => q w4 H4 (((s1.trans s2).trans s3).trans s4) sw4⟩
/-! ### the class -/
theorem ok_Meaning_init  {aZERO : Addr} {aONE : Addr} {aVowError : Addr} {aInvalidLevels : Addr} {aInvalidStair : Addr} {aInvalidRow : Addr} {aLevelsDiffer : Addr} {aMeaning : Addr} {f_Meaning_init : Addr} {p_Meaning_always : Addr} {f_Meaning_always : Addr} {p_Meaning_never : Addr} {f_Meaning_never : Addr} {p_Meaning_levels : Addr} {f_Meaning_levels : Addr} {f_Meaning_stair : Addr} {f_Meaning_least : Addr} {f_Meaning_lies_in : Addr} {f_Meaning_add : Addr} {f_Meaning_mul : Addr} {f_Meaning_neg : Addr} {f_Meaning_contains : Addr} {f_Meaning_bool : Addr} {f_Meaning_eq : Addr} {f_Meaning_repr : Addr} (T : Txt K mg  aZERO aONE aVowError aInvalidLevels aInvalidStair aInvalidRow aLevelsDiffer aMeaning f_Meaning_init p_Meaning_always f_Meaning_always p_Meaning_never f_Meaning_never p_Meaning_levels f_Meaning_levels f_Meaning_stair f_Meaning_least f_Meaning_lies_in f_Meaning_add f_Meaning_mul f_Meaning_neg f_Meaning_contains f_Meaning_bool f_Meaning_eq f_Meaning_repr) {fd f1 f2 f3 : _} {fd1 fd2 fd3 : FuncData} {k : Nat} (F : Fun K "__init__" "Meaning.__init__" sMeaning_init f_Meaning_init fd) (C_check_levels : Cal P w K mg base k "check_levels" ["levels"] spChkLev f1 fd1)
    (C_check_stair : Cal P w K mg base k "check_stair" ["levels", "value"] (spChkSt K) f2 fd2) (C_tidy : Cal P w K mg base k "tidy" ["stair"] (spTidy K) f3 fd3) : FnOk P w K mg base CX0 (k + 1) f_Meaning_init fd ["self", "levels", "stair"] (spMeI K aMeaning) := by
  refine F.ok scMeaning_init (fun vs H Q E h => ?_) (fun cdv A outer s H vs Q E hr h => ?_)
  · obtain ⟨_, _, _, _, _, _, _, _, _, _, rfl, _⟩ := h; rfl
  obtain ⟨a, dx, v, n, st, D, W, t0, t1, t2, rfl, ea, hn1, hn3, hv, hf, hc, q⟩ := h
  refine ⟨_, (pss_cons (ps_expr (pe_call C_check_levels.G (hr.mono (by omega)) (by rfl) C_check_levels.m C_check_levels.kp C_check_levels.b .nil pass0 (pa_cons (pv 1) pa_nil)))
  (pss_cons (ps_expr (pe_call C_check_stair.G (hr.mono (by omega)) (by rfl) C_check_stair.m C_check_stair.kp C_check_stair.b .nil pass0 (pa_cons (pv 1) (pa_cons (pv 2) pa_nil))))
  (pss_cons (ps_fld (pv 0) (pv 1) rfl)
  (pss_one (ps_fld (pv 0) (pe_call C_tidy.G (hr.mono (by omega)) (by rfl) C_tidy.m C_tidy.kp C_tidy.b .nil pass0 (pa_cons (pv 2) pa_nil)) rfl))))), ?_⟩
  have e2 : putF "_stair" = putF "_stair" := rfl
  have e1 : ∀ w : V, putF "_stair" w (putF "_levels" (.int (n : Nat)) []) = meF n w := fun w => by
    show (if ("_levels" : Str) = "_stair" then _ else _) = _
    rw [if_neg (by decide +kernel)]; rfl
  obtain ⟨u1, u2, u3, u4⟩ := hc.tidyOk hf hn3
  refine ⟨_, rfl, n, rfl, hn1, hn3, _, rfl, _, rfl, v, n, st, rfl, hn3, hv, hf.ok, u1, fun H1 s1 => ?_⟩
  refine ⟨_, rfl, _, rfl, a, aMeaning, dx, _, rfl, s1 _ _ ea, T.oc_Meaning.cl, T.na_Meaning__levels, by decide, ?_⟩
  have ea1 : (upd H1 a (.ins aMeaning dx (putF "_levels" (.int (n : Nat)) []))) a = some (.ins aMeaning dx (putF "_levels" (.int (n : Nat)) [])) := upd_same
  have hv1 : SA K (upd H1 a (.ins aMeaning dx (putF "_levels" (.int (n : Nat)) []))) n v st := (hv.same s1).tp (tp_ins (s1 _ _ ea))
  have ke : ∀ b o, b ≠ a → H1 b = some o → (upd H1 a (.ins aMeaning dx (putF "_levels" (.int (n : Nat)) []))) b = some o := fun b o hb h => by rw [upd_ne hb]; exact h
  generalize upd H1 a (.ins aMeaning dx (putF "_levels" (.int (n : Nat)) [])) = H2 at *
  refine ⟨_, rfl, v, n, st, W, rfl, hn3, hv1, hf.ok, hc.2.2.1, u2, u3, u4, fun w H3 s3 sw => ?_⟩
  refine ⟨_, rfl, a, aMeaning, dx, _, rfl, s3 _ _ ea1, T.oc_Meaning.cl, T.na_Meaning__stair, by show 1 < 1000; decide, ?_⟩
  rw [e1, ← upd_twice (x := .ins aMeaning dx [])]
  refine q w (upd H3 a (.ins aMeaning dx [])) (fun b o h => ?_) (sw.tp (tp_ins (s3 _ _ ea1)))
  by_cases hb : b = a
  · subst hb
    rw [ea] at h
    rw [upd_same]; exact h
  · rw [upd_ne hb]
    exact s3 _ _ (ke b o hb (s1 _ _ h))
/-- o.stair() -/
theorem ok_Meaning_stair  {aZERO : Addr} {aONE : Addr} {aVowError : Addr} {aInvalidLevels : Addr} {aInvalidStair : Addr} {aInvalidRow : Addr} {aLevelsDiffer : Addr} {aMeaning : Addr} {f_Meaning_init : Addr} {p_Meaning_always : Addr} {f_Meaning_always : Addr} {p_Meaning_never : Addr} {f_Meaning_never : Addr} {p_Meaning_levels : Addr} {f_Meaning_levels : Addr} {f_Meaning_stair : Addr} {f_Meaning_least : Addr} {f_Meaning_lies_in : Addr} {f_Meaning_add : Addr} {f_Meaning_mul : Addr} {f_Meaning_neg : Addr} {f_Meaning_contains : Addr} {f_Meaning_bool : Addr} {f_Meaning_eq : Addr} {f_Meaning_repr : Addr} (T : Txt K mg  aZERO aONE aVowError aInvalidLevels aInvalidStair aInvalidRow aLevelsDiffer aMeaning f_Meaning_init p_Meaning_always f_Meaning_always p_Meaning_never f_Meaning_never p_Meaning_levels f_Meaning_levels f_Meaning_stair f_Meaning_least f_Meaning_lies_in f_Meaning_add f_Meaning_mul f_Meaning_neg f_Meaning_contains f_Meaning_bool f_Meaning_eq f_Meaning_repr) {fd : FuncData} {k : Nat} (F : Fun K "stair" "Meaning.stair" sMeaning_stair f_Meaning_stair fd) : FnOk P w K mg base CX0 (k + 1) f_Meaning_stair fd ["self"] (fun vs H Q _ => ∃ (x : V) (n : Nat) (s : SD n), vs = [x] ∧ MeA K aMeaning H x n s ∧ ∀ v : V, SA K H n v s → Q v H) := by
  refine F.ok scMeaning_stair (fun vs H Q E h => ?_) (fun cdv A outer s H vs Q E hr h => ?_)
  · obtain ⟨_, _, _, rfl, _⟩ := h; rfl
  obtain ⟨x, n, st, rfl, ⟨a, dx, v, rfl, ea, sv⟩, q⟩ := h
  refine ⟨_, (pss_one (ps_ret (pe_fldK (K := K) rfl (pv 0) rfl))), ?_⟩
  exact ⟨_, rfl, a, aMeaning, dx, _, v, rfl, ea, T.oc_Meaning.cl, T.na_Meaning__stair, look_stair n v, q v sv⟩
/-- o.levels, a property -/
theorem ok_Meaning_levels  {aZERO : Addr} {aONE : Addr} {aVowError : Addr} {aInvalidLevels : Addr} {aInvalidStair : Addr} {aInvalidRow : Addr} {aLevelsDiffer : Addr} {aMeaning : Addr} {f_Meaning_init : Addr} {p_Meaning_always : Addr} {f_Meaning_always : Addr} {p_Meaning_never : Addr} {f_Meaning_never : Addr} {p_Meaning_levels : Addr} {f_Meaning_levels : Addr} {f_Meaning_stair : Addr} {f_Meaning_least : Addr} {f_Meaning_lies_in : Addr} {f_Meaning_add : Addr} {f_Meaning_mul : Addr} {f_Meaning_neg : Addr} {f_Meaning_contains : Addr} {f_Meaning_bool : Addr} {f_Meaning_eq : Addr} {f_Meaning_repr : Addr} (T : Txt K mg  aZERO aONE aVowError aInvalidLevels aInvalidStair aInvalidRow aLevelsDiffer aMeaning f_Meaning_init p_Meaning_always f_Meaning_always p_Meaning_never f_Meaning_never p_Meaning_levels f_Meaning_levels f_Meaning_stair f_Meaning_least f_Meaning_lies_in f_Meaning_add f_Meaning_mul f_Meaning_neg f_Meaning_contains f_Meaning_bool f_Meaning_eq f_Meaning_repr) {fd : FuncData} {k : Nat} (F : Fun K "levels" "Meaning.levels" sMeaning_levels f_Meaning_levels fd) : FnOk P w K mg base CX0 (k + 1) f_Meaning_levels fd ["self"] (fun vs H Q _ => ∃ (x : V) (n : Nat) (s : SD n), vs = [x] ∧ MeA K aMeaning H x n s ∧ Q (.int (n : Nat)) H) := by
  refine F.ok scMeaning_levels (fun vs H Q E h => ?_) (fun cdv A outer s H vs Q E hr h => ?_)
  · obtain ⟨_, _, _, rfl, _⟩ := h; rfl
  obtain ⟨x, n, st, rfl, ⟨a, dx, v, rfl, ea, sv⟩, q⟩ := h
  refine ⟨_, (pss_one (ps_ret (pe_fldK (K := K) rfl (pv 0) rfl))), ?_⟩
  exact ⟨_, rfl, a, aMeaning, dx, _, _, rfl, ea, T.oc_Meaning.cl, T.na_Meaning__levels, look_lev n v, q⟩
/-- -o -/
theorem ok_Meaning_neg  {aZERO : Addr} {aONE : Addr} {aVowError : Addr} {aInvalidLevels : Addr} {aInvalidStair : Addr} {aInvalidRow : Addr} {aLevelsDiffer : Addr} {aMeaning : Addr} {f_Meaning_init : Addr} {p_Meaning_always : Addr} {f_Meaning_always : Addr} {p_Meaning_never : Addr} {f_Meaning_never : Addr} {p_Meaning_levels : Addr} {f_Meaning_levels : Addr} {f_Meaning_stair : Addr} {f_Meaning_least : Addr} {f_Meaning_lies_in : Addr} {f_Meaning_add : Addr} {f_Meaning_mul : Addr} {f_Meaning_neg : Addr} {f_Meaning_contains : Addr} {f_Meaning_bool : Addr} {f_Meaning_eq : Addr} {f_Meaning_repr : Addr} (T : Txt K mg  aZERO aONE aVowError aInvalidLevels aInvalidStair aInvalidRow aLevelsDiffer aMeaning f_Meaning_init p_Meaning_always f_Meaning_always p_Meaning_never f_Meaning_never p_Meaning_levels f_Meaning_levels f_Meaning_stair f_Meaning_least f_Meaning_lies_in f_Meaning_add f_Meaning_mul f_Meaning_neg f_Meaning_contains f_Meaning_bool f_Meaning_eq f_Meaning_repr) {fd : FuncData} {f1 : Addr} {fd1 fd2 : FuncData} {k : Nat} (F : Fun K "__neg__" "Meaning.__neg__" sMeaning_neg f_Meaning_neg fd) (C_turned : Cal P w K mg base k "turned" ["stair"] (spTurn K 4) f1 fd1)
    (G_Meaning_init : FnOk P w K mg base CX0 k f_Meaning_init fd2 ["self", "levels", "stair"] (spMeI K aMeaning)) (b_Meaning_init : Binds K fd2 ["self", "levels", "stair"] []) : FnOk P w K mg base CX0 (k + 2) f_Meaning_neg fd ["self"] (spMe1 K aMeaning (mkMe1 K aMeaning oppS)) := by
  refine F.ok scMeaning_neg (fun vs H Q E h => ?_) (fun cdv A outer s H vs Q E hr h => ?_)
  · obtain ⟨_, _, _, _, _, _, _, _, rfl, _⟩ := h; rfl
  obtain ⟨x, n, st, D, W, t0, t1, t2, rfl, hn1, hn3, ⟨a, dx, v, rfl, ea, sv⟩, hf, hc, q⟩ := h
  refine ⟨_, (pss_one (ps_ret (pe_make T.oc_Meaning.mkc G_Meaning_init (hr.mono (by omega)) (by rfl) T.m_Meaning b_Meaning_init .nil pass0 (pa_cons (pe_fldK (K := K) rfl (pv 0) rfl) (pa_cons (pe_call C_turned.G (hr.mono (by omega)) (by rfl) C_turned.m C_turned.kp C_turned.b .nil pass0 (pa_cons (pe_fldK (K := K) rfl (pv 0) rfl) pa_nil)) pa_nil))))), ?_⟩
  obtain ⟨u1, u2, u3, u4⟩ := hc.tidyOk hf hn3
  refine ⟨_, rfl, a, aMeaning, dx, _, _, rfl, ea, T.oc_Meaning.cl, T.na_Meaning__levels, look_lev n v, ?_⟩
  refine ⟨_, rfl, a, aMeaning, dx, _, v, rfl, ea, T.oc_Meaning.cl, T.na_Meaning__stair, look_stair n v, v, n, st, rfl, sv, u1, by omega, fun w1 H1 s1 sw1 => ?_⟩
  exact use_make hn1 hn3 sw1 hf.opp hc fun x H' s' m => q x H' (s1.trans s') m
end
end Vw

set_option Elab.async false
set_option linter.all false
set_option maxRecDepth 100000
set_option maxHeartbeats 4000000
namespace Vw
open PySem PySem.W PyProof.Rows L2
abbrev sflat_stair : Stmt := top 31
theorem scflat_stair : FnScope ["levels", "value", "_"] ["levels", "value"] (defScope sflat_stair) := ⟨rfl, rfl, rfl, by decide +kernel, rfl, by decide +kernel, by decide +kernel⟩
abbrev sleast_missing : Stmt := top 38
theorem scleast_missing : FnScope ["levels", "stair"] ["levels", "stair"] (defScope sleast_missing) := ⟨rfl, rfl, rfl, by decide +kernel, rfl, by decide +kernel, by decide +kernel⟩
abbrev s_check_alike : Stmt := top 48
theorem sc_check_alike : FnScope ["one", "other"] ["one", "other"] (defScope s_check_alike) := ⟨rfl, rfl, rfl, by decide +kernel, rfl, by decide +kernel, by decide +kernel⟩
section
variable {P : Program} {w : World} {K : PySem.W.Frag} {mg : Str → Option Value} {base : Heap}
theorem ok_flat_stair  {aZERO : Addr} {aONE : Addr} {aVowError : Addr} {aInvalidLevels : Addr} {aInvalidStair : Addr} {aInvalidRow : Addr} {aLevelsDiffer : Addr} {aMeaning : Addr} {f_Meaning_init : Addr} {p_Meaning_always : Addr} {f_Meaning_always : Addr} {p_Meaning_never : Addr} {f_Meaning_never : Addr} {p_Meaning_levels : Addr} {f_Meaning_levels : Addr} {f_Meaning_stair : Addr} {f_Meaning_least : Addr} {f_Meaning_lies_in : Addr} {f_Meaning_add : Addr} {f_Meaning_mul : Addr} {f_Meaning_neg : Addr} {f_Meaning_contains : Addr} {f_Meaning_bool : Addr} {f_Meaning_eq : Addr} {f_Meaning_repr : Addr} (T : Txt K mg  aZERO aONE aVowError aInvalidLevels aInvalidStair aInvalidRow aLevelsDiffer aMeaning f_Meaning_init p_Meaning_always f_Meaning_always p_Meaning_never f_Meaning_never p_Meaning_levels f_Meaning_levels f_Meaning_stair f_Meaning_least f_Meaning_lies_in f_Meaning_add f_Meaning_mul f_Meaning_neg f_Meaning_contains f_Meaning_bool f_Meaning_eq f_Meaning_repr) {f : Addr} {fd : FuncData} {k : Nat} (F : Fun K "flat_stair" "flat_stair" sflat_stair f fd) : FnOk P w K mg base CX0 (k + 1) f fd ["levels", "value"] (spFlatP K) := by
  refine F.ok scflat_stair (fun vs H Q E h => ?_) (fun cdv A outer s H vs Q E hr h => ?_)
  · obtain ⟨_, _, rfl, _⟩ := h; rfl
  obtain ⟨m, v, rfl, hm, q⟩ := h
  refine ⟨_, (pss_cons (ps_for PassesOwn.never rfl (pi_range1 (by rfl) T.z_range (pa_cons (pv 0) pa_nil)) (pg_name (i := 2) scflat_stair.nd rfl (Or.inl rfl))
   (pss_one (ps_set (i := 1) scflat_stair.nd rfl (Or.inl rfl) (pe_tup (pa_cons (pe_tup (pa_cons (pe_glob (v := .ref aZERO) (by rfl) T.m_ZERO rfl) (pa_cons (pv 1) pa_nil))) pa_nil)))))
  (pss_one (ps_ret (pv 1)))), ?_⟩
  refine ⟨_, rfl, (m : Int), rfl, (by omega), (by omega), ?_⟩
  refine for_range (lo := 0) (n := (m : Int).toNat) (fun i σ H' => ∃ u w, σ = [some (.int (m : Nat)), some w, u] ∧ Same H H' ∧ SA K H' i w (flatS i v)) ⟨_, _, rfl, Same.refl H, rfl⟩ (fun i σ H' hi h => ?_) (fun σ H' h => ?_)
  · obtain ⟨u, w, rfl, s1, sw⟩ := h
    refine ⟨_, rfl, (by show 2 ≤ sizeLine; decide), fun p1 n1 => ⟨(by show 1 ≤ sizeLine; decide), fun p2 n2 => ?_⟩⟩
    have z1 := same_new (o := .tup [.ref aZERO, w]) n1
    have z2 := same_new (o := .tup [.ref p1]) n2
    have zz := z1.trans z2
    refine ⟨_, .ref p2, rfl, s1.trans zz, SA.mk (.of upd_same) (.cons ⟨p1, .ref aZERO, w, rfl, (TT.of upd_same).same z2, OA.nil (.inr T.t_ZERO), sw.same zz⟩ .nil)⟩
  · obtain ⟨u, w, rfl, s1, sw⟩ := h
    exact ⟨_, rfl, q w H' s1 sw⟩
theorem ok_least_missing  {aZERO : Addr} {aONE : Addr} {aVowError : Addr} {aInvalidLevels : Addr} {aInvalidStair : Addr} {aInvalidRow : Addr} {aLevelsDiffer : Addr} {aMeaning : Addr} {f_Meaning_init : Addr} {p_Meaning_always : Addr} {f_Meaning_always : Addr} {p_Meaning_never : Addr} {f_Meaning_never : Addr} {p_Meaning_levels : Addr} {f_Meaning_levels : Addr} {f_Meaning_stair : Addr} {f_Meaning_least : Addr} {f_Meaning_lies_in : Addr} {f_Meaning_add : Addr} {f_Meaning_mul : Addr} {f_Meaning_neg : Addr} {f_Meaning_contains : Addr} {f_Meaning_bool : Addr} {f_Meaning_eq : Addr} {f_Meaning_repr : Addr} (T : Txt K mg  aZERO aONE aVowError aInvalidLevels aInvalidStair aInvalidRow aLevelsDiffer aMeaning f_Meaning_init p_Meaning_always f_Meaning_always p_Meaning_never f_Meaning_never p_Meaning_levels f_Meaning_levels f_Meaning_stair f_Meaning_least f_Meaning_lies_in f_Meaning_add f_Meaning_mul f_Meaning_neg f_Meaning_contains f_Meaning_bool f_Meaning_eq f_Meaning_repr) {f f1 f2 : Addr} {fd fd1 fd2 : FuncData} {k : Nat} (F : Fun K "least_missing" "least_missing" sleast_missing f fd) (C_parting : Cal P w K mg base k "parting" ["one", "other"] (spPart K 5) f1 fd1) (C_flat_stair : Cal P w K mg base k "flat_stair" ["levels", "value"] (spFlatP K) f2 fd2) :
    FnOk P w K mg base CX0 (k + 1) f fd ["levels", "stair"] (spMiss K) := by
  refine F.ok scleast_missing (fun vs H Q E h => ?_) (fun cdv A outer s H vs Q E hr h => ?_)
  · obtain ⟨_, _, _, rfl, _⟩ := h; rfl
  obtain ⟨v, n, st, rfl, hn, hv, ok, hb, q⟩ := h
  refine ⟨_, (pss_one (ps_ret (pe_call C_parting.G (hr.mono (by omega)) (by rfl) C_parting.m C_parting.kp C_parting.b .nil pass0 (pa_cons (pv 1) (pa_cons (pe_call C_flat_stair.G (hr.mono (by omega)) (by rfl) C_flat_stair.m C_flat_stair.kp C_flat_stair.b .nil pass0 (pa_cons (pv 0) (pa_cons pe_bl pa_nil))) pa_nil))))), ?_⟩
  refine ⟨_, rfl, _, rfl, n, true, rfl, by omega, fun w1 H1 s1 sw => ?_⟩
  exact ⟨v, w1, n, st, flatS n true, rfl, by omega, by decide, hv.same s1, sw, ok, okW_flat n true, hb, bs_flat (by decide) n true, fun w2 H2 s2 pt => q w2 H2 (s1.trans s2) pt⟩
theorem ok_check_alike  {aZERO : Addr} {aONE : Addr} {aVowError : Addr} {aInvalidLevels : Addr} {aInvalidStair : Addr} {aInvalidRow : Addr} {aLevelsDiffer : Addr} {aMeaning : Addr} {f_Meaning_init : Addr} {p_Meaning_always : Addr} {f_Meaning_always : Addr} {p_Meaning_never : Addr} {f_Meaning_never : Addr} {p_Meaning_levels : Addr} {f_Meaning_levels : Addr} {f_Meaning_stair : Addr} {f_Meaning_least : Addr} {f_Meaning_lies_in : Addr} {f_Meaning_add : Addr} {f_Meaning_mul : Addr} {f_Meaning_neg : Addr} {f_Meaning_contains : Addr} {f_Meaning_bool : Addr} {f_Meaning_eq : Addr} {f_Meaning_repr : Addr} (T : Txt K mg  aZERO aONE aVowError aInvalidLevels aInvalidStair aInvalidRow aLevelsDiffer aMeaning f_Meaning_init p_Meaning_always f_Meaning_always p_Meaning_never f_Meaning_never p_Meaning_levels f_Meaning_levels f_Meaning_stair f_Meaning_least f_Meaning_lies_in f_Meaning_add f_Meaning_mul f_Meaning_neg f_Meaning_contains f_Meaning_bool f_Meaning_eq f_Meaning_repr) {f : Addr} {fd e1 : FuncData} {k : Nat} (F : Fun K "_check_alike" "_check_alike" s_check_alike f fd) (G_Meaning_levels : FnOk P w K mg base CX0 k f_Meaning_levels e1 ["self"] (fun vs H Q _ => ∃ (x : V) (n : Nat) (s : SD n), vs = [x] ∧ MeA K aMeaning H x n s ∧ Q (.int (n : Nat)) H)) (b_Meaning_levels : Binds K e1 ["self"] []) :
    FnOk P w K mg base CX0 (k + 2) f fd ["one", "other"] (spAlk K aMeaning) := by
  refine F.ok sc_check_alike (fun vs H Q E h => ?_) (fun cdv A outer s H vs Q E hr h => ?_)
  · obtain ⟨_, _, _, _, _, rfl, _⟩ := h; rfl
  obtain ⟨x, y, n, s, t, rfl, mx, my, q⟩ := h
  refine ⟨_, (pss_one (ps_if (pt_cmpR op_ne (pe_prop (pv 0) T.oc_Meaning.cl T.pr_Meaning_levels G_Meaning_levels (hr.mono (by omega)) b_Meaning_levels .nil pass0 rfl) (pe_prop (pv 1) T.oc_Meaning.cl T.pr_Meaning_levels G_Meaning_levels (hr.mono (by omega)) b_Meaning_levels .nil pass0 rfl) (nomark _)) (pss_one ps_never) pss_nil)), ?_⟩
  obtain ⟨a, dx, v, rfl, ea, sv⟩ := id mx
  obtain ⟨b, dy, v', rfl, eb, sv'⟩ := id my
  refine ⟨_, rfl, a, dx, _, rfl, ea, _, n, s, rfl, mx, _, rfl, b, dy, _, rfl, eb, _, n, t, rfl, my, ?_⟩
  refine ⟨rfl, _, rfl, ite2 (fun z => ?_) (fun _ => q)⟩
  rw [decide_eq_true rfl] at z; cases z
end
end Vw

set_option Elab.async false
set_option linter.all false
set_option maxRecDepth 100000
set_option maxHeartbeats 4000000
namespace Vw
open PySem PySem.W PyProof.Rows L2
section
variable {P : Program} {w : World} {K : PySem.W.Frag} {mg : Str → Option Value} {base : Heap}
theorem bs_joinC {D W t0 t1 t2 D' W' u0 u1 u2 n : Nat} {a b : SD n} {op : Bool → Bool → Bool} (c : Can D W t0 t1 t2) (c' : Can D' W' u0 u1 u2) (h : Fit3 D W t0 t1 t2 n a) (h' : Fit3 D' W' u0 u1 u2 n b) (l : t0 + u0 ≤ 1500000) : BB n (joinS op n a b) := by
  obtain ⟨d1, d2, c1, c2, c3, c4, c5, c6⟩ := c
  obtain ⟨e1, e2, k1, k2, k3, k4, k5, k6⟩ := c'
  have b1 := Bs.len h.ok ((h.bs.monoD d2).mono (show W ≤ 1000000 by omega) (Nat.le_refl _)) h.lv
  have b2 := Bs.len h'.ok ((h'.bs.monoD e2).mono (show W' ≤ 1000000 by omega) (Nat.le_refl _)) h'.lv
  exact (bs_join n a b h.ok h'.ok b1 b2).mono (Nat.le_refl _) l
theorem pt_none {H : Hp} {w : V} {o : Option (List O)} (h : PtA K H w o) : decide (w = V.non) = o.isNone := by
  cases o with
  | none => exact decide_eq_true h
  | some r =>
    obtain ⟨a, xs, rfl, _⟩ := (h : RowA K H w r)
    exact decide_eq_false fun z => by cases z
theorem ok_Meaning_add  {aZERO : Addr} {aONE : Addr} {aVowError : Addr} {aInvalidLevels : Addr} {aInvalidStair : Addr} {aInvalidRow : Addr} {aLevelsDiffer : Addr} {aMeaning : Addr} {f_Meaning_init : Addr} {p_Meaning_always : Addr} {f_Meaning_always : Addr} {p_Meaning_never : Addr} {f_Meaning_never : Addr} {p_Meaning_levels : Addr} {f_Meaning_levels : Addr} {f_Meaning_stair : Addr} {f_Meaning_least : Addr} {f_Meaning_lies_in : Addr} {f_Meaning_add : Addr} {f_Meaning_mul : Addr} {f_Meaning_neg : Addr} {f_Meaning_contains : Addr} {f_Meaning_bool : Addr} {f_Meaning_eq : Addr} {f_Meaning_repr : Addr} (T : Txt K mg  aZERO aONE aVowError aInvalidLevels aInvalidStair aInvalidRow aLevelsDiffer aMeaning f_Meaning_init p_Meaning_always f_Meaning_always p_Meaning_never f_Meaning_never p_Meaning_levels f_Meaning_levels f_Meaning_stair f_Meaning_least f_Meaning_lies_in f_Meaning_add f_Meaning_mul f_Meaning_neg f_Meaning_contains f_Meaning_bool f_Meaning_eq f_Meaning_repr) {fd : FuncData} {f1 f2 : Addr} {fd1 fd2 fd3 : FuncData} {k : Nat} (F : Fun K "__add__" "Meaning.__add__" sMeaning_add f_Meaning_add fd) (C__check_alike : Cal P w K mg base k "_check_alike" ["one", "other"] (spAlk K aMeaning) f1 fd1) (C_joined : Cal P w K mg base k "joined" ["one", "other"] (spJnd K 4) f2 fd2)
    (G_Meaning_init : FnOk P w K mg base CX0 k f_Meaning_init fd3 ["self", "levels", "stair"] (spMeI K aMeaning)) (b_Meaning_init : Binds K fd3 ["self", "levels", "stair"] []) : FnOk P w K mg base CX0 (k + 2) f_Meaning_add fd ["self", "other"] (spMe2 K aMeaning CanJ (mkMe2 K aMeaning (joinS orB))) := by
  refine F.ok scMeaning_add (fun vs H Q E h => ?_) (fun cdv A outer s H vs Q E hr h => ?_)
  · obtain ⟨_, _, _, _, _, _, _, _, _, _, _, _, _, _, _, rfl, _⟩ := h; rfl
  obtain ⟨x, y, n, st, st', D, W, t0, t1, t2, D', W', u0, u1, u2, rfl, hn1, hn3, mx, my, hf, hf', hc, hc', j, q⟩ := h
  refine ⟨_, (pss_cons (ps_expr (pe_call C__check_alike.G (hr.mono (by omega)) (by rfl) C__check_alike.m C__check_alike.kp C__check_alike.b .nil pass0 (pa_cons (pv 0) (pa_cons (pv 1) pa_nil))))
  (pss_one (ps_ret (pe_make T.oc_Meaning.mkc G_Meaning_init (hr.mono (by omega)) (by rfl) T.m_Meaning b_Meaning_init .nil pass0 (pa_cons (pe_fldK (K := K) rfl (pv 0) rfl) (pa_cons (pe_call C_joined.G (hr.mono (by omega)) (by rfl) C_joined.m C_joined.kp C_joined.b .nil pass0 (pa_cons (pe_fldK (K := K) rfl (pv 0) rfl) (pa_cons (pe_fldK (K := K) rfl (pv 1) rfl) pa_nil))) pa_nil)))))), ?_⟩
  obtain ⟨a, dx, v, rfl, ea, sv⟩ := id mx
  obtain ⟨b, dy, v', rfl, eb, sv'⟩ := id my
  refine ⟨_, rfl, _, rfl, _, _, n, st, st', rfl, mx, my, ?_⟩
  refine ⟨_, rfl, a, aMeaning, dx, _, _, rfl, ea, T.oc_Meaning.cl, T.na_Meaning__levels, look_lev n v, ?_⟩
  refine ⟨_, rfl, a, aMeaning, dx, _, v, rfl, ea, T.oc_Meaning.cl, T.na_Meaning__stair, look_stair n v, _, rfl, b, aMeaning, dy, _, v', rfl, eb, T.oc_Meaning.cl, T.na_Meaning__stair, look_stair n v', ?_⟩
  exact ⟨v, v', n, st, st', rfl, by omega, sv, sv', hf.ok, hf'.ok, (hc.tidyOk hf hn3).1, (hc'.tidyOk hf' hn3).1, fun w1 H1 s1 sw1 => use_make hn1 hn3 sw1 (hf.joinC hf' hn3 hc hc' j) j fun x H' s' m => q x H' (s1.trans s') m⟩
theorem ok_Meaning_mul  {aZERO : Addr} {aONE : Addr} {aVowError : Addr} {aInvalidLevels : Addr} {aInvalidStair : Addr} {aInvalidRow : Addr} {aLevelsDiffer : Addr} {aMeaning : Addr} {f_Meaning_init : Addr} {p_Meaning_always : Addr} {f_Meaning_always : Addr} {p_Meaning_never : Addr} {f_Meaning_never : Addr} {p_Meaning_levels : Addr} {f_Meaning_levels : Addr} {f_Meaning_stair : Addr} {f_Meaning_least : Addr} {f_Meaning_lies_in : Addr} {f_Meaning_add : Addr} {f_Meaning_mul : Addr} {f_Meaning_neg : Addr} {f_Meaning_contains : Addr} {f_Meaning_bool : Addr} {f_Meaning_eq : Addr} {f_Meaning_repr : Addr} (T : Txt K mg  aZERO aONE aVowError aInvalidLevels aInvalidStair aInvalidRow aLevelsDiffer aMeaning f_Meaning_init p_Meaning_always f_Meaning_always p_Meaning_never f_Meaning_never p_Meaning_levels f_Meaning_levels f_Meaning_stair f_Meaning_least f_Meaning_lies_in f_Meaning_add f_Meaning_mul f_Meaning_neg f_Meaning_contains f_Meaning_bool f_Meaning_eq f_Meaning_repr) {fd : FuncData} {f1 f2 : Addr} {fd1 fd2 fd3 : FuncData} {k : Nat} (F : Fun K "__mul__" "Meaning.__mul__" sMeaning_mul f_Meaning_mul fd) (C__check_alike : Cal P w K mg base k "_check_alike" ["one", "other"] (spAlk K aMeaning) f1 fd1) (C_met : Cal P w K mg base k "met" ["one", "other"] (spMet K 4) f2 fd2)
    (G_Meaning_init : FnOk P w K mg base CX0 k f_Meaning_init fd3 ["self", "levels", "stair"] (spMeI K aMeaning)) (b_Meaning_init : Binds K fd3 ["self", "levels", "stair"] []) : FnOk P w K mg base CX0 (k + 2) f_Meaning_mul fd ["self", "other"] (spMe2 K aMeaning CanJ (mkMe2 K aMeaning metS)) := by
  refine F.ok scMeaning_mul (fun vs H Q E h => ?_) (fun cdv A outer s H vs Q E hr h => ?_)
  · obtain ⟨_, _, _, _, _, _, _, _, _, _, _, _, _, _, _, rfl, _⟩ := h; rfl
  obtain ⟨x, y, n, st, st', D, W, t0, t1, t2, D', W', u0, u1, u2, rfl, hn1, hn3, mx, my, hf, hf', hc, hc', j, q⟩ := h
  refine ⟨_, (pss_cons (ps_expr (pe_call C__check_alike.G (hr.mono (by omega)) (by rfl) C__check_alike.m C__check_alike.kp C__check_alike.b .nil pass0 (pa_cons (pv 0) (pa_cons (pv 1) pa_nil))))
  (pss_one (ps_ret (pe_make T.oc_Meaning.mkc G_Meaning_init (hr.mono (by omega)) (by rfl) T.m_Meaning b_Meaning_init .nil pass0 (pa_cons (pe_fldK (K := K) rfl (pv 0) rfl) (pa_cons (pe_call C_met.G (hr.mono (by omega)) (by rfl) C_met.m C_met.kp C_met.b .nil pass0 (pa_cons (pe_fldK (K := K) rfl (pv 0) rfl) (pa_cons (pe_fldK (K := K) rfl (pv 1) rfl) pa_nil))) pa_nil)))))), ?_⟩
  obtain ⟨a, dx, v, rfl, ea, sv⟩ := id mx
  obtain ⟨b, dy, v', rfl, eb, sv'⟩ := id my
  refine ⟨_, rfl, _, rfl, _, _, n, st, st', rfl, mx, my, ?_⟩
  refine ⟨_, rfl, a, aMeaning, dx, _, _, rfl, ea, T.oc_Meaning.cl, T.na_Meaning__levels, look_lev n v, ?_⟩
  refine ⟨_, rfl, a, aMeaning, dx, _, v, rfl, ea, T.oc_Meaning.cl, T.na_Meaning__stair, look_stair n v, _, rfl, b, aMeaning, dy, _, v', rfl, eb, T.oc_Meaning.cl, T.na_Meaning__stair, look_stair n v', ?_⟩
  have fj := hf.opp.joinC (op := orB) hf'.opp hn3 hc hc' j
  exact ⟨v, v', n, st, st', rfl, by omega, sv, sv', hf.ok, hf'.ok, (hc.tidyOk hf hn3).1, (hc'.tidyOk hf' hn3).1, (Can.tidyOk j fj hn3).1, fun w1 H1 s1 sw1 => use_make hn1 hn3 sw1 fj.opp j fun x H' s' m => q x H' (s1.trans s') m⟩
theorem ok_Meaning_lies_in  {aZERO : Addr} {aONE : Addr} {aVowError : Addr} {aInvalidLevels : Addr} {aInvalidStair : Addr} {aInvalidRow : Addr} {aLevelsDiffer : Addr} {aMeaning : Addr} {f_Meaning_init : Addr} {p_Meaning_always : Addr} {f_Meaning_always : Addr} {p_Meaning_never : Addr} {f_Meaning_never : Addr} {p_Meaning_levels : Addr} {f_Meaning_levels : Addr} {f_Meaning_stair : Addr} {f_Meaning_least : Addr} {f_Meaning_lies_in : Addr} {f_Meaning_add : Addr} {f_Meaning_mul : Addr} {f_Meaning_neg : Addr} {f_Meaning_contains : Addr} {f_Meaning_bool : Addr} {f_Meaning_eq : Addr} {f_Meaning_repr : Addr} (T : Txt K mg  aZERO aONE aVowError aInvalidLevels aInvalidStair aInvalidRow aLevelsDiffer aMeaning f_Meaning_init p_Meaning_always f_Meaning_always p_Meaning_never f_Meaning_never p_Meaning_levels f_Meaning_levels f_Meaning_stair f_Meaning_least f_Meaning_lies_in f_Meaning_add f_Meaning_mul f_Meaning_neg f_Meaning_contains f_Meaning_bool f_Meaning_eq f_Meaning_repr) {fd : FuncData} {f1 f2 f3 f4 : Addr} {fd1 fd2 fd3 fd4 : FuncData} {k : Nat} (F : Fun K "lies_in" "Meaning.lies_in" sMeaning_lies_in f_Meaning_lies_in fd) (C_least_missing : Cal P w K mg base k "least_missing" ["levels", "stair"] (spMiss K) f1 fd1) (C__check_alike : Cal P w K mg base k "_check_alike" ["one", "other"] (spAlk K aMeaning) f2 fd2) (C_joined : Cal P w K mg base k "joined" ["one", "other"] (spJnd K 4) f3 fd3) (C_turned : Cal P w K mg base k "turned" ["stair"] (spTurn K 4) f4 fd4) :
    FnOk P w K mg base CX0 (k + 1) f_Meaning_lies_in fd ["self", "other"] (spMe2 K aMeaning CanL (blMe2 liesS)) := by
  refine F.ok scMeaning_lies_in (fun vs H Q E h => ?_) (fun cdv A outer s H vs Q E hr h => ?_)
  · obtain ⟨_, _, _, _, _, _, _, _, _, _, _, _, _, _, _, rfl, _⟩ := h; rfl
  obtain ⟨x, y, n, st, st', D, W, t0, t1, t2, D', W', u0, u1, u2, rfl, hn1, hn3, mx, my, hf, hf', hc, hc', j, q⟩ := h
  refine ⟨_, (pss_cons (ps_expr (pe_call C__check_alike.G (hr.mono (by omega)) (by rfl) C__check_alike.m C__check_alike.kp C__check_alike.b .nil pass0 (pa_cons (pv 0) (pa_cons (pv 1) pa_nil))))
  (pss_one (ps_ret (pe_cmpR op_isN (pe_call C_least_missing.G (hr.mono (by omega)) (by rfl) C_least_missing.m C_least_missing.kp C_least_missing.b .nil pass0 (pa_cons (pe_fldK (K := K) rfl (pv 0) rfl) (pa_cons (pe_call C_joined.G (hr.mono (by omega)) (by rfl) C_joined.m C_joined.kp C_joined.b .nil pass0 (pa_cons (pe_call C_turned.G (hr.mono (by omega)) (by rfl) C_turned.m C_turned.kp C_turned.b .nil pass0 (pa_cons (pe_fldK (K := K) rfl (pv 0) rfl) pa_nil)) (pa_cons (pe_fldK (K := K) rfl (pv 1) rfl) pa_nil))) pa_nil))) pe_non (nomark _))))), ?_⟩
  obtain ⟨a, dx, v, rfl, ea, sv⟩ := id mx
  obtain ⟨b, dy, v', rfl, eb, sv'⟩ := id my
  refine ⟨_, rfl, _, rfl, _, _, n, st, st', rfl, mx, my, ?_⟩
  refine ⟨_, rfl, a, aMeaning, dx, _, _, rfl, ea, T.oc_Meaning.cl, T.na_Meaning__levels, look_lev n v, ?_⟩
  refine ⟨_, rfl, a, aMeaning, dx, _, v, rfl, ea, T.oc_Meaning.cl, T.na_Meaning__stair, look_stair n v, v, n, st, rfl, sv, (hc.tidyOk hf hn3).1, by omega, fun w1 H1 s1 sw1 => ?_⟩
  refine ⟨_, rfl, b, aMeaning, dy, _, v', rfl, s1 _ _ eb, T.oc_Meaning.cl, T.na_Meaning__stair, look_stair n v', w1, v', n, oppS n st, st', rfl, by omega, sw1, sv'.same s1, okW_opp n st hf.ok, hf'.ok, (hc.tidyOk hf.opp hn3).1, (hc'.tidyOk hf' hn3).1, fun w2 H2 s2 sw2 => ?_⟩
  refine ⟨w2, n, _, rfl, hn3, sw2, okW_join n _ _ (okW_opp n st hf.ok) hf'.ok, bs_joinC hc hc' hf.opp hf' j, fun w3 H3 s3 pt => ?_⟩
  refine ⟨rfl, ?_⟩
  rw [pt_none pt]
  exact q H3 ((s1.trans s2).trans s3)
theorem ok_Meaning_always  {aZERO : Addr} {aONE : Addr} {aVowError : Addr} {aInvalidLevels : Addr} {aInvalidStair : Addr} {aInvalidRow : Addr} {aLevelsDiffer : Addr} {aMeaning : Addr} {f_Meaning_init : Addr} {p_Meaning_always : Addr} {f_Meaning_always : Addr} {p_Meaning_never : Addr} {f_Meaning_never : Addr} {p_Meaning_levels : Addr} {f_Meaning_levels : Addr} {f_Meaning_stair : Addr} {f_Meaning_least : Addr} {f_Meaning_lies_in : Addr} {f_Meaning_add : Addr} {f_Meaning_mul : Addr} {f_Meaning_neg : Addr} {f_Meaning_contains : Addr} {f_Meaning_bool : Addr} {f_Meaning_eq : Addr} {f_Meaning_repr : Addr} (T : Txt K mg  aZERO aONE aVowError aInvalidLevels aInvalidStair aInvalidRow aLevelsDiffer aMeaning f_Meaning_init p_Meaning_always f_Meaning_always p_Meaning_never f_Meaning_never p_Meaning_levels f_Meaning_levels f_Meaning_stair f_Meaning_least f_Meaning_lies_in f_Meaning_add f_Meaning_mul f_Meaning_neg f_Meaning_contains f_Meaning_bool f_Meaning_eq f_Meaning_repr) {fd : FuncData} {f1 f2 : Addr} {fd1 fd2 fd3 : FuncData} {k : Nat} (F : Fun K "always" "Meaning.always" sMeaning_always f_Meaning_always fd) (C_check_levels : Cal P w K mg base k "check_levels" ["levels"] spChkLev f1 fd1) (C_flat_stair : Cal P w K mg base k "flat_stair" ["levels", "value"] (spFlatP K) f2 fd2)
    (G_Meaning_init : FnOk P w K mg base CX0 k f_Meaning_init fd3 ["self", "levels", "stair"] (spMeI K aMeaning)) (b_Meaning_init : Binds K fd3 ["self", "levels", "stair"] []) : FnOk P w K mg base CX0 (k + 2) f_Meaning_always fd ["cls", "levels"] (spAlw K aMeaning true) := by
  refine F.ok scMeaning_always (fun vs H Q E h => ?_) (fun cdv A outer s H vs Q E hr h => ?_)
  · obtain ⟨_, rfl, _⟩ := h; rfl
  obtain ⟨n, rfl, hn1, hn3, q⟩ := h
  refine ⟨_, (pss_cons (ps_expr (pe_call C_check_levels.G (hr.mono (by omega)) (by rfl) C_check_levels.m C_check_levels.kp C_check_levels.b .nil pass0 (pa_cons (pv 1) pa_nil)))
  (pss_one (ps_ret (pe_makeL (pv 0) T.oc_Meaning.mkc G_Meaning_init (hr.mono (by omega)) b_Meaning_init .nil pass0 (pa_cons (pv 1) (pa_cons (pe_call C_flat_stair.G (hr.mono (by omega)) (by rfl) C_flat_stair.m C_flat_stair.kp C_flat_stair.b .nil pass0 (pa_cons (pv 1) (pa_cons pe_bl pa_nil))) pa_nil)))))), ?_⟩
  refine ⟨_, rfl, n, rfl, hn1, hn3, ?_⟩
  refine ⟨_, rfl, rfl, _, rfl, _, rfl, n, true, rfl, by omega, fun w1 H1 s1 sw1 => ?_⟩
  exact use_make hn1 hn3 sw1 ((Fit3.flat n true).mono (Nat.zero_le _) (Nat.zero_le _) (Nat.le_refl _) (Nat.le_refl _) (Nat.le_refl _)) (show Can 4 1 1 1 1 by unfold Can; decide) fun x H' s' m => q x H' (s1.trans s') m
theorem ok_Meaning_never  {aZERO : Addr} {aONE : Addr} {aVowError : Addr} {aInvalidLevels : Addr} {aInvalidStair : Addr} {aInvalidRow : Addr} {aLevelsDiffer : Addr} {aMeaning : Addr} {f_Meaning_init : Addr} {p_Meaning_always : Addr} {f_Meaning_always : Addr} {p_Meaning_never : Addr} {f_Meaning_never : Addr} {p_Meaning_levels : Addr} {f_Meaning_levels : Addr} {f_Meaning_stair : Addr} {f_Meaning_least : Addr} {f_Meaning_lies_in : Addr} {f_Meaning_add : Addr} {f_Meaning_mul : Addr} {f_Meaning_neg : Addr} {f_Meaning_contains : Addr} {f_Meaning_bool : Addr} {f_Meaning_eq : Addr} {f_Meaning_repr : Addr} (T : Txt K mg  aZERO aONE aVowError aInvalidLevels aInvalidStair aInvalidRow aLevelsDiffer aMeaning f_Meaning_init p_Meaning_always f_Meaning_always p_Meaning_never f_Meaning_never p_Meaning_levels f_Meaning_levels f_Meaning_stair f_Meaning_least f_Meaning_lies_in f_Meaning_add f_Meaning_mul f_Meaning_neg f_Meaning_contains f_Meaning_bool f_Meaning_eq f_Meaning_repr) {fd : FuncData} {f1 f2 : Addr} {fd1 fd2 fd3 : FuncData} {k : Nat} (F : Fun K "never" "Meaning.never" sMeaning_never f_Meaning_never fd) (C_check_levels : Cal P w K mg base k "check_levels" ["levels"] spChkLev f1 fd1) (C_flat_stair : Cal P w K mg base k "flat_stair" ["levels", "value"] (spFlatP K) f2 fd2)
    (G_Meaning_init : FnOk P w K mg base CX0 k f_Meaning_init fd3 ["self", "levels", "stair"] (spMeI K aMeaning)) (b_Meaning_init : Binds K fd3 ["self", "levels", "stair"] []) : FnOk P w K mg base CX0 (k + 2) f_Meaning_never fd ["cls", "levels"] (spAlw K aMeaning false) := by
  refine F.ok scMeaning_never (fun vs H Q E h => ?_) (fun cdv A outer s H vs Q E hr h => ?_)
  · obtain ⟨_, rfl, _⟩ := h; rfl
  obtain ⟨n, rfl, hn1, hn3, q⟩ := h
  refine ⟨_, (pss_cons (ps_expr (pe_call C_check_levels.G (hr.mono (by omega)) (by rfl) C_check_levels.m C_check_levels.kp C_check_levels.b .nil pass0 (pa_cons (pv 1) pa_nil)))
  (pss_one (ps_ret (pe_makeL (pv 0) T.oc_Meaning.mkc G_Meaning_init (hr.mono (by omega)) b_Meaning_init .nil pass0 (pa_cons (pv 1) (pa_cons (pe_call C_flat_stair.G (hr.mono (by omega)) (by rfl) C_flat_stair.m C_flat_stair.kp C_flat_stair.b .nil pass0 (pa_cons (pv 1) (pa_cons pe_bl pa_nil))) pa_nil)))))), ?_⟩
  refine ⟨_, rfl, n, rfl, hn1, hn3, ?_⟩
  refine ⟨_, rfl, rfl, _, rfl, _, rfl, n, false, rfl, by omega, fun w1 H1 s1 sw1 => ?_⟩
  exact use_make hn1 hn3 sw1 ((Fit3.flat n false).mono (Nat.zero_le _) (Nat.zero_le _) (Nat.le_refl _) (Nat.le_refl _) (Nat.le_refl _)) (show Can 4 1 1 1 1 by unfold Can; decide) fun x H' s' m => q x H' (s1.trans s') m
theorem ok_Meaning_eq  {aZERO : Addr} {aONE : Addr} {aVowError : Addr} {aInvalidLevels : Addr} {aInvalidStair : Addr} {aInvalidRow : Addr} {aLevelsDiffer : Addr} {aMeaning : Addr} {f_Meaning_init : Addr} {p_Meaning_always : Addr} {f_Meaning_always : Addr} {p_Meaning_never : Addr} {f_Meaning_never : Addr} {p_Meaning_levels : Addr} {f_Meaning_levels : Addr} {f_Meaning_stair : Addr} {f_Meaning_least : Addr} {f_Meaning_lies_in : Addr} {f_Meaning_add : Addr} {f_Meaning_mul : Addr} {f_Meaning_neg : Addr} {f_Meaning_contains : Addr} {f_Meaning_bool : Addr} {f_Meaning_eq : Addr} {f_Meaning_repr : Addr} (T : Txt K mg  aZERO aONE aVowError aInvalidLevels aInvalidStair aInvalidRow aLevelsDiffer aMeaning f_Meaning_init p_Meaning_always f_Meaning_always p_Meaning_never f_Meaning_never p_Meaning_levels f_Meaning_levels f_Meaning_stair f_Meaning_least f_Meaning_lies_in f_Meaning_add f_Meaning_mul f_Meaning_neg f_Meaning_contains f_Meaning_bool f_Meaning_eq f_Meaning_repr) {fd : FuncData} {k : Nat} (F : Fun K "__eq__" "Meaning.__eq__" sMeaning_eq f_Meaning_eq fd) : FnOk P w K mg base CX0 (k + 1) f_Meaning_eq fd ["self", "other"] (spMeEq K aMeaning) := by
  refine F.ok scMeaning_eq (fun vs H Q E h => ?_) (fun cdv A outer s H vs Q E hr h => ?_)
  · obtain ⟨_, _, _, _, rfl, _⟩ := h; rfl
  obtain ⟨x, y, n, st, rfl, hn3, mx, my, hb, q⟩ := h
  refine ⟨_, (pss_one (ps_ret (pe_and (pe_callB call_isi (by rfl) T.z_isinstance (by decide +kernel) (pa_cons (pv 1) (pa_cons (pe_glob (v := .ref aMeaning) (by rfl) T.m_Meaning rfl) pa_nil))) (pe_and (pe_cmpR op_eq (pe_fldK (K := K) rfl (pv 0) rfl) (pe_fldK (K := K) rfl (pv 1) rfl) (nomark _)) (pe_one (pe_cmpR (op_eqO hr.units) (pe_fldK (K := K) rfl (pv 0) rfl) (pe_fldK (K := K) rfl (pv 1) rfl) (nomark _))))))), ?_⟩
  obtain ⟨a, dx, v, rfl, ea, sv⟩ := id mx
  obtain ⟨b, dy, v', rfl, eb, sv'⟩ := id my
  refine ⟨_, rfl, .ref b, .ref aMeaning, .ref aMeaning, .ref aMeaning, true, rfl, .own _, T.oc_Meaning.ty eb, T.kt_Meaning_Meaning, true, rfl, ?_⟩
  refine ⟨_, rfl, a, aMeaning, dx, _, _, rfl, ea, T.oc_Meaning.cl, T.na_Meaning__levels, look_lev n v, ?_⟩
  refine ⟨_, rfl, b, aMeaning, dy, _, _, rfl, eb, T.oc_Meaning.cl, T.na_Meaning__levels, look_lev n v', rfl, _, rfl, ?_⟩
  rw [decide_eq_true rfl]
  refine iteT ⟨_, rfl, a, aMeaning, dx, _, v, rfl, ea, T.oc_Meaning.cl, T.na_Meaning__stair, look_stair n v, ?_⟩
  refine ⟨_, rfl, b, aMeaning, dy, _, v', rfl, eb, T.oc_Meaning.cl, T.na_Meaning__stair, look_stair n v', ?_⟩
  exact rd_eqSt sv sv' hb hn3 q
end
end Vw

set_option Elab.async false
set_option linter.all false
set_option maxRecDepth 100000
set_option maxHeartbeats 4000000
namespace Vw
open PySem PySem.W PyProof.Rows L2
/-! the recursions about stairs, closed -/
section
variable {P : Program} {w : World} {K : PySem.W.Frag} {mg : Str → Option Value} {base : Heap}
theorem Cal.mono {k m : Nat} {x : Str} {ps : List Str} {sp : Sp} {f : Addr} {fd : FuncData} (C : Cal P w K mg base k x ps sp f fd) (h : k ≤ m) : Cal P w K mg base m x ps sp f fd := ⟨fn_mono C.G h, C.m, C.kp, C.b⟩
theorem part_all  {aZERO : Addr} {aONE : Addr} {aVowError : Addr} {aInvalidLevels : Addr} {aInvalidStair : Addr} {aInvalidRow : Addr} {aLevelsDiffer : Addr} {aMeaning : Addr} {f_Meaning_init : Addr} {p_Meaning_always : Addr} {f_Meaning_always : Addr} {p_Meaning_never : Addr} {f_Meaning_never : Addr} {p_Meaning_levels : Addr} {f_Meaning_levels : Addr} {f_Meaning_stair : Addr} {f_Meaning_least : Addr} {f_Meaning_lies_in : Addr} {f_Meaning_add : Addr} {f_Meaning_mul : Addr} {f_Meaning_neg : Addr} {f_Meaning_contains : Addr} {f_Meaning_bool : Addr} {f_Meaning_eq : Addr} {f_Meaning_repr : Addr} (T : Txt K mg  aZERO aONE aVowError aInvalidLevels aInvalidStair aInvalidRow aLevelsDiffer aMeaning f_Meaning_init p_Meaning_always f_Meaning_always p_Meaning_never f_Meaning_never p_Meaning_levels f_Meaning_levels f_Meaning_stair f_Meaning_least f_Meaning_lies_in f_Meaning_add f_Meaning_mul f_Meaning_neg f_Meaning_contains f_Meaning_bool f_Meaning_eq f_Meaning_repr) {f f1 f2 : Addr} {fd fd1 fd2 : FuncData} (F : Fun K "parting" "parting" sparting f fd) (b : Binds K fd ["one", "other"] []) (m : mg "parting" = some (.ref f))
    (C1 : Cal P w K mg base 1 "_paired" ["one", "other"] (spPair K) f1 fd1) (C2 : Cal P w K mg base 3 "reached" ["begin", "rest"] (spReach K) f2 fd2) : ∀ j : Nat, FnOk P w K mg base CX0 (j + 3) f fd ["one", "other"] (spPart K j)
  | 0 => fn_mono (none_left fun vs H Q E h => by
    obtain ⟨_, _, _, _, _, _, h, _⟩ := h
    exact absurd h (Nat.not_lt_zero _)) (Nat.zero_le _)
  | j + 1 => ok_parting T F C1 C2 ⟨part_all T F b m C1 C2 j, m, F.kp, b⟩
theorem tidyb_all  {aZERO : Addr} {aONE : Addr} {aVowError : Addr} {aInvalidLevels : Addr} {aInvalidStair : Addr} {aInvalidRow : Addr} {aLevelsDiffer : Addr} {aMeaning : Addr} {f_Meaning_init : Addr} {p_Meaning_always : Addr} {f_Meaning_always : Addr} {p_Meaning_never : Addr} {f_Meaning_never : Addr} {p_Meaning_levels : Addr} {f_Meaning_levels : Addr} {f_Meaning_stair : Addr} {f_Meaning_least : Addr} {f_Meaning_lies_in : Addr} {f_Meaning_add : Addr} {f_Meaning_mul : Addr} {f_Meaning_neg : Addr} {f_Meaning_contains : Addr} {f_Meaning_bool : Addr} {f_Meaning_eq : Addr} {f_Meaning_repr : Addr} (T : Txt K mg  aZERO aONE aVowError aInvalidLevels aInvalidStair aInvalidRow aLevelsDiffer aMeaning f_Meaning_init p_Meaning_always f_Meaning_always p_Meaning_never f_Meaning_never p_Meaning_levels f_Meaning_levels f_Meaning_stair f_Meaning_least f_Meaning_lies_in f_Meaning_add f_Meaning_mul f_Meaning_neg f_Meaning_contains f_Meaning_bool f_Meaning_eq f_Meaning_repr) {f f1 f2 f3 f4 : Addr} {fd fd1 fd2 fd3 fd4 : FuncData} (F : Fun K "_tidy_before" "_tidy_before" s_tidy_before f fd) (b : Binds K fd ["stair", "limit"] []) (m : mg "_tidy_before" = some (.ref f))
    (F1 : Fun K "_tidy_step" "_tidy_step" s_tidy_step f1 fd1) (b1 : Binds K fd1 ["steps", "at", "limit"] []) (m1 : mg "_tidy_step" = some (.ref f1))
    (C2 : Cal P w K mg base 3 "end_limit" ["low", "behind"] (spLim K O.endLim) f2 fd2) (C3 : Cal P w K mg base 1 "_behind" ["steps", "at", "limit"] (spBeh K) f3 fd3) (C4 : Cal P w K mg base 10 "_longest" ["stair", "limit"] (spLong K 5) f4 fd4) :
    ∀ j : Nat, FnOk P w K mg base CX0 (7 + 2 * j + 3) f fd ["stair", "limit"] (spTidyB K j)
  | 0 => fn_mono (none_left fun vs H Q E h => by
    obtain ⟨_, _, _, _, _, _, _, h, _⟩ := h
    exact absurd h (Nat.not_lt_zero _)) (Nat.zero_le _)
  | j + 1 => fn_mono (ok_tidy_before T F C4 ⟨fn_mono (ok_tidy_step (k := 7 + 2 * j) T F1 C2 C3 ⟨tidyb_all T F b m F1 b1 m1 C2 C3 C4 j, m, F.kp, b⟩) (by omega), m1, F1.kp, b1⟩) (by omega)
theorem stair_all  {aZERO : Addr} {aONE : Addr} {aVowError : Addr} {aInvalidLevels : Addr} {aInvalidStair : Addr} {aInvalidRow : Addr} {aLevelsDiffer : Addr} {aMeaning : Addr} {f_Meaning_init : Addr} {p_Meaning_always : Addr} {f_Meaning_always : Addr} {p_Meaning_never : Addr} {f_Meaning_never : Addr} {p_Meaning_levels : Addr} {f_Meaning_levels : Addr} {f_Meaning_stair : Addr} {f_Meaning_least : Addr} {f_Meaning_lies_in : Addr} {f_Meaning_add : Addr} {f_Meaning_mul : Addr} {f_Meaning_neg : Addr} {f_Meaning_contains : Addr} {f_Meaning_bool : Addr} {f_Meaning_eq : Addr} {f_Meaning_repr : Addr} (T : Txt K mg  aZERO aONE aVowError aInvalidLevels aInvalidStair aInvalidRow aLevelsDiffer aMeaning f_Meaning_init p_Meaning_always f_Meaning_always p_Meaning_never f_Meaning_never p_Meaning_levels f_Meaning_levels f_Meaning_stair f_Meaning_least f_Meaning_lies_in f_Meaning_add f_Meaning_mul f_Meaning_neg f_Meaning_contains f_Meaning_bool f_Meaning_eq f_Meaning_repr) {f f1 f2 : Addr} {fd fd1 fd2 : FuncData} (F : Fun K "_law_stair" "_law_stair" s_law_stair f fd) (bF : Binds K fd ["_law_bag_here", "_law_many_z"] []) (mF : mg "_law_stair" = some (.ref f))
    (C1 : Cal P w K mg base 1 "_law_pull" ["_law_bag_here", "_law_sides"] spPull f1 fd1) (C2 : Cal P w K mg base 13 "_law_steps" ["_law_bag_here", "_law_deep"] (spSteps K) f2 fd2) : ∀ j : Nat, FnOk P w K mg base CX0 (13 + j) f fd ["_law_bag_here", "_law_many_z"] (spStair K j)
  | 0 => fn_mono (none_left fun vs H Q E h => by
    obtain ⟨_, _, _, _, h, _⟩ := h
    exact absurd h (Nat.not_lt_zero _)) (Nat.zero_le _)
  | j + 1 => ok_lstair T F C1 C2 ⟨stair_all T F bF mF C1 C2 j, mF, F.kp, bF⟩
theorem is_stair_all  {aZERO : Addr} {aONE : Addr} {aVowError : Addr} {aInvalidLevels : Addr} {aInvalidStair : Addr} {aInvalidRow : Addr} {aLevelsDiffer : Addr} {aMeaning : Addr} {f_Meaning_init : Addr} {p_Meaning_always : Addr} {f_Meaning_always : Addr} {p_Meaning_never : Addr} {f_Meaning_never : Addr} {p_Meaning_levels : Addr} {f_Meaning_levels : Addr} {f_Meaning_stair : Addr} {f_Meaning_least : Addr} {f_Meaning_lies_in : Addr} {f_Meaning_add : Addr} {f_Meaning_mul : Addr} {f_Meaning_neg : Addr} {f_Meaning_contains : Addr} {f_Meaning_bool : Addr} {f_Meaning_eq : Addr} {f_Meaning_repr : Addr} (T : Txt K mg  aZERO aONE aVowError aInvalidLevels aInvalidStair aInvalidRow aLevelsDiffer aMeaning f_Meaning_init p_Meaning_always f_Meaning_always p_Meaning_never f_Meaning_never p_Meaning_levels f_Meaning_levels f_Meaning_stair f_Meaning_least f_Meaning_lies_in f_Meaning_add f_Meaning_mul f_Meaning_neg f_Meaning_contains f_Meaning_bool f_Meaning_eq f_Meaning_repr) {f f1 f2 : Addr} {fd fd1 fd2 : FuncData} (F : Fun K "is_stair" "is_stair" sis_stair f fd) (bF : Binds K fd ["levels", "value"] []) (mF : mg "is_stair" = some (.ref f))
    (F1 : Fun K "_is_step" "_is_step" s_is_step f1 fd1) (b1 : Binds K fd1 ["levels", "value"] []) (m1 : mg "_is_step" = some (.ref f1)) (C2 : Cal P w K mg base 121 "is_ordinal" ["value"] (spIsOrd K 60) f2 fd2) : ∀ j : Nat, FnOk P w K mg base CX0 (122 + 2 * j) f fd ["levels", "value"] (spIsSt K j)
  | 0 => fn_mono (none_left fun vs H Q E h => by
    obtain ⟨_, _, _, _, h, _⟩ := h
    exact absurd h (Nat.not_lt_zero _)) (Nat.zero_le _)
  | j + 1 => fn_mono (ok_is_stair T F ⟨ok_is_step T F1 C2 ⟨is_stair_all T F bF mF F1 b1 m1 C2 j, mF, F.kp, bF⟩, m1, F1.kp, b1⟩) (by omega)
end
end Vw

set_option Elab.async false
set_option linter.all false
set_option maxRecDepth 100000
set_option maxHeartbeats 4000000
namespace Vw
open PySem PySem.W PyProof.Rows L2
abbrev seither : Stmt := top 49
theorem sceither : FnScope ["levels", "meanings", "found", "meaning"] ["levels", "meanings"] (defScope seither) := ⟨rfl, rfl, rfl, by decide +kernel, rfl, by decide +kernel, by decide +kernel⟩
abbrev sboth : Stmt := top 50
theorem scboth : FnScope ["levels", "meanings", "found", "meaning"] ["levels", "meanings"] (defScope sboth) := ⟨rfl, rfl, rfl, by decide +kernel, rfl, by decide +kernel, by decide +kernel⟩
/-- one after another, from the first -/
def spFold (K : PySem.W.Frag) (C : Addr) (sp : Sp) : Sp := fun vs H Q _ => ∃ (p : Addr) (x : V) (r : List V) (G : Nat → V → Hp → Prop), vs = [.int 1, .ref p] ∧ H p = some (.tup (x :: r)) ∧ G 0 x H ∧ (∀ i f H', G i f H' → Same H H') ∧ (∀ i f H' H'', G i f H' → Same H' H'' → G i f H'') ∧
  (∀ (i : Nat) (y f : V) (H' : Hp) (Q' : VK), r[i]? = some y → G i f H' → (∀ z H'', Same H' H'' → G (i + 1) z H'' → Q' z H'') → rTwo C sp E0 f y H' Q') ∧ ∀ f H', G r.length f H' → Q f H'
section
variable {P : Program} {w : World} {K : PySem.W.Frag} {mg : Str → Option Value} {base : Heap}
theorem ok_either  {aZERO : Addr} {aONE : Addr} {aVowError : Addr} {aInvalidLevels : Addr} {aInvalidStair : Addr} {aInvalidRow : Addr} {aLevelsDiffer : Addr} {aMeaning : Addr} {f_Meaning_init : Addr} {p_Meaning_always : Addr} {f_Meaning_always : Addr} {p_Meaning_never : Addr} {f_Meaning_never : Addr} {p_Meaning_levels : Addr} {f_Meaning_levels : Addr} {f_Meaning_stair : Addr} {f_Meaning_least : Addr} {f_Meaning_lies_in : Addr} {f_Meaning_add : Addr} {f_Meaning_mul : Addr} {f_Meaning_neg : Addr} {f_Meaning_contains : Addr} {f_Meaning_bool : Addr} {f_Meaning_eq : Addr} {f_Meaning_repr : Addr} (T : Txt K mg  aZERO aONE aVowError aInvalidLevels aInvalidStair aInvalidRow aLevelsDiffer aMeaning f_Meaning_init p_Meaning_always f_Meaning_always p_Meaning_never f_Meaning_never p_Meaning_levels f_Meaning_levels f_Meaning_stair f_Meaning_least f_Meaning_lies_in f_Meaning_add f_Meaning_mul f_Meaning_neg f_Meaning_contains f_Meaning_bool f_Meaning_eq f_Meaning_repr) {f : Addr} {fd e1 e2 : FuncData} {k : Nat} (F : FunD K "either" "either" (defArgs seither) (defBody seither) (defScope seither) [] [("levels", .int 1)] f fd)
    (G_Meaning_add : FnOk P w K mg base CX0 k f_Meaning_add e1 ["self", "other"] (spMe2 K aMeaning CanJ (mkMe2 K aMeaning (joinS orB)))) (b_Meaning_add : Binds K e1 ["self", "other"] [])
    (G_Meaning_never : FnOk P w K mg base CX0 k f_Meaning_never e2 ["cls", "levels"] (spAlw K aMeaning false)) (b_Meaning_never : Binds K e2 ["cls", "levels"] []) :
    FnR P w K mg base CX0 (k + 1) f (fun vs H Q E => vs.length ≤ sizeLine ∧ ∀ p, H p = Option.none → spFold K aMeaning (spMe2 K aMeaning CanJ (mkMe2 K aMeaning (joinS orB))) [.int 1, V.ref p] (upd H p (.tup vs)) Q E) := by
  refine StX.fn_starK0 F sceither (fun D doc pm an cdv ct us v => ?_) (fun cdv A outer s H vs Q E hr h => ?_)
  · cases us with
    | nil => exact ⟨_, _, _, _, _, _, rfl, rfl, rfl⟩
    | cons u us => exact ⟨_, _, _, _, _, _, rfl, rfl, rfl⟩
  obtain ⟨p, x, r, G, rfl, ep, g0, gs, gm, gn, q⟩ := h
  refine ⟨_, (pss_cons (ps_if (pt_not (pt_truth (pv 1) (by intro _; rfl))) (pss_one (ps_ret (ClX.pe_cmeth (pe_glob (v := .ref aMeaning) (by rfl) T.m_Meaning rfl) T.rd_Meaning T.cm_Meaning_never (FnOk.raw G_Meaning_never b_Meaning_never .nil) (hr.mono (by omega)) pass0 (pa_cons (pv 0) pa_nil)))) pss_nil)
  (pss_cons (ps_set (i := 2) sceither.nd rfl (Or.inl rfl) (pe_ix ix_tup (pv 1) pe_int (fun _ _ => rfl)))
  (pss_cons (ps_for PassesOwn.never rfl (pi_tup (pe_slice sl_tupO (pv 1) (po_some pe_int) po_none)) (pg_name (i := 3) sceither.nd rfl (Or.inl rfl))
   (pss_one (ps_set (i := 2) sceither.nd rfl (Or.inl rfl) (pe_op (op_two T.sf_Meaning T.mt_Meaning_add.at_ T.mt_Meaning_add.fn G_Meaning_add b_Meaning_add (hr.mono (by omega)) pass0) (pv 2) (pv 3)))))
  (pss_one (ps_ret (pv 2)))))), ?_⟩
  have tp : TT K H p (x :: r) := .of ep
  refine ⟨_, rfl, true, .inr (.inl ⟨_, tp.sq, rfl⟩), ?_⟩
  refine iteF ?_
  refine ⟨_, rfl, p, _, 0, _, rfl, rfl, tp.sq, atI_nat (j := 0) rfl, ?_⟩
  refine ⟨_, rfl, _, rfl, rd_sl tp fun p2 H2 s2 t2 => ?_⟩
  have ec : cutV (x :: r) (some 1) none = r := cut_from (α := V) (x :: r) 1
  rw [ec] at t2
  have g2 : G 0 x H2 := gm 0 x H H2 g0 s2
  refine ⟨p2, rfl, ⟨_, t2.sq⟩, ?_⟩
  refine for_tup (xs := r) (fun i σ H' => ∃ u3 f', σ = [some (.int 1), some (.ref p), some f', u3] ∧ G i f' H' ∧ Same H2 H') ⟨_, _, rfl, g2, Same.refl H2⟩ (fun i σ H' _ h => ?_) (fun i y σ H' hy h => ?_) (fun σ H' h => ?_)
  · obtain ⟨_, _, _, _, z⟩ := h
    exact (t2.same z).sq
  · obtain ⟨u3, f', rfl, gi, z⟩ := h
    exact ⟨_, rfl, _, rfl, gn i y f' H' _ hy gi fun z' H'' s' g' => ⟨_, _, rfl, g', z.trans s'⟩⟩
  · obtain ⟨u3, f', rfl, gi, z⟩ := h
    exact ⟨_, rfl, q f' H' gi⟩
theorem ok_both  {aZERO : Addr} {aONE : Addr} {aVowError : Addr} {aInvalidLevels : Addr} {aInvalidStair : Addr} {aInvalidRow : Addr} {aLevelsDiffer : Addr} {aMeaning : Addr} {f_Meaning_init : Addr} {p_Meaning_always : Addr} {f_Meaning_always : Addr} {p_Meaning_never : Addr} {f_Meaning_never : Addr} {p_Meaning_levels : Addr} {f_Meaning_levels : Addr} {f_Meaning_stair : Addr} {f_Meaning_least : Addr} {f_Meaning_lies_in : Addr} {f_Meaning_add : Addr} {f_Meaning_mul : Addr} {f_Meaning_neg : Addr} {f_Meaning_contains : Addr} {f_Meaning_bool : Addr} {f_Meaning_eq : Addr} {f_Meaning_repr : Addr} (T : Txt K mg  aZERO aONE aVowError aInvalidLevels aInvalidStair aInvalidRow aLevelsDiffer aMeaning f_Meaning_init p_Meaning_always f_Meaning_always p_Meaning_never f_Meaning_never p_Meaning_levels f_Meaning_levels f_Meaning_stair f_Meaning_least f_Meaning_lies_in f_Meaning_add f_Meaning_mul f_Meaning_neg f_Meaning_contains f_Meaning_bool f_Meaning_eq f_Meaning_repr) {f : Addr} {fd e1 e2 : FuncData} {k : Nat} (F : FunD K "both" "both" (defArgs sboth) (defBody sboth) (defScope sboth) [] [("levels", .int 1)] f fd)
    (G_Meaning_mul : FnOk P w K mg base CX0 k f_Meaning_mul e1 ["self", "other"] (spMe2 K aMeaning CanJ (mkMe2 K aMeaning metS))) (b_Meaning_mul : Binds K e1 ["self", "other"] [])
    (G_Meaning_always : FnOk P w K mg base CX0 k f_Meaning_always e2 ["cls", "levels"] (spAlw K aMeaning true)) (b_Meaning_always : Binds K e2 ["cls", "levels"] []) :
    FnR P w K mg base CX0 (k + 1) f (fun vs H Q E => vs.length ≤ sizeLine ∧ ∀ p, H p = Option.none → spFold K aMeaning (spMe2 K aMeaning CanJ (mkMe2 K aMeaning metS)) [.int 1, V.ref p] (upd H p (.tup vs)) Q E) := by
  refine StX.fn_starK0 F scboth (fun D doc pm an cdv ct us v => ?_) (fun cdv A outer s H vs Q E hr h => ?_)
  · cases us with
    | nil => exact ⟨_, _, _, _, _, _, rfl, rfl, rfl⟩
    | cons u us => exact ⟨_, _, _, _, _, _, rfl, rfl, rfl⟩
  obtain ⟨p, x, r, G, rfl, ep, g0, gs, gm, gn, q⟩ := h
  refine ⟨_, (pss_cons (ps_if (pt_not (pt_truth (pv 1) (by intro _; rfl))) (pss_one (ps_ret (ClX.pe_cmeth (pe_glob (v := .ref aMeaning) (by rfl) T.m_Meaning rfl) T.rd_Meaning T.cm_Meaning_always (FnOk.raw G_Meaning_always b_Meaning_always .nil) (hr.mono (by omega)) pass0 (pa_cons (pv 0) pa_nil)))) pss_nil)
  (pss_cons (ps_set (i := 2) scboth.nd rfl (Or.inl rfl) (pe_ix ix_tup (pv 1) pe_int (fun _ _ => rfl)))
  (pss_cons (ps_for PassesOwn.never rfl (pi_tup (pe_slice sl_tupO (pv 1) (po_some pe_int) po_none)) (pg_name (i := 3) scboth.nd rfl (Or.inl rfl))
   (pss_one (ps_set (i := 2) scboth.nd rfl (Or.inl rfl) (pe_op (op_two T.sf_Meaning T.mt_Meaning_mul.at_ T.mt_Meaning_mul.fn G_Meaning_mul b_Meaning_mul (hr.mono (by omega)) pass0) (pv 2) (pv 3)))))
  (pss_one (ps_ret (pv 2)))))), ?_⟩
  have tp : TT K H p (x :: r) := .of ep
  refine ⟨_, rfl, true, .inr (.inl ⟨_, tp.sq, rfl⟩), ?_⟩
  refine iteF ?_
  refine ⟨_, rfl, p, _, 0, _, rfl, rfl, tp.sq, atI_nat (j := 0) rfl, ?_⟩
  refine ⟨_, rfl, _, rfl, rd_sl tp fun p2 H2 s2 t2 => ?_⟩
  have ec : cutV (x :: r) (some 1) none = r := cut_from (α := V) (x :: r) 1
  rw [ec] at t2
  have g2 : G 0 x H2 := gm 0 x H H2 g0 s2
  refine ⟨p2, rfl, ⟨_, t2.sq⟩, ?_⟩
  refine for_tup (xs := r) (fun i σ H' => ∃ u3 f', σ = [some (.int 1), some (.ref p), some f', u3] ∧ G i f' H' ∧ Same H2 H') ⟨_, _, rfl, g2, Same.refl H2⟩ (fun i σ H' _ h => ?_) (fun i y σ H' hy h => ?_) (fun σ H' h => ?_)
  · obtain ⟨_, _, _, _, z⟩ := h
    exact (t2.same z).sq
  · obtain ⟨u3, f', rfl, gi, z⟩ := h
    exact ⟨_, rfl, _, rfl, gn i y f' H' _ hy gi fun z' H'' s' g' => ⟨_, _, rfl, g', z.trans s'⟩⟩
  · obtain ⟨u3, f', rfl, gi, z⟩ := h
    exact ⟨_, rfl, q f' H' gi⟩
end
end Vw

set_option Elab.async false
set_option linter.all false
set_option maxRecDepth 100000
set_option maxHeartbeats 4000000
namespace Vw
open PySem PySem.W PyProof.Rows L2
abbrev s_law_made : Stmt := top 59
theorem sc_law_made : FnScope ["_law_bag_here", "_law_many_z"] ["_law_bag_here", "_law_many_z"] (defScope s_law_made) := ⟨rfl, rfl, rfl, by decide +kernel, rfl, by decide +kernel, by decide +kernel⟩
abbrev slaw : Stmt := top 60
theorem sclaw : FnScope ["_law_script", "_law_bag_here", "_law_turn", "_law_many_z", "_law_one_set", "_law_two_set", "_law_three_set", "_law_pairs_z", "_law_left", "_law_right"] ["_law_script"] (defScope slaw) := ⟨rfl, rfl, rfl, by decide +kernel, rfl, by decide +kernel, by decide +kernel⟩
def spMade (K : PySem.W.Frag) (C : Addr) : Sp := fun vs H Q _ => ∃ (l b : Addr) (n : Nat), vs = [.ref b, .int (n : Nat)] ∧ 1 ≤ n ∧ n ≤ 3 ∧ Bag l H b ∧ ∀ (x : V) (P : List O → Prop) (H' : Hp), Kp b H H' → Bag l H' b → Mg K C H' x n P 8 23 64 16 4 → Q x H'
/-- two meanings that are the same -/
def PrA (K : PySem.W.Frag) (C : Addr) (H : Hp) (n : Nat) (v : V) : Prop := ∃ (p : Addr) (x y : V) (s : SD n), v = .ref p ∧ TT K H p [x, y] ∧ MeA K C H x n s ∧ MeA K C H y n s ∧ BB n s
theorem PrA.ip {K : PySem.W.Frag} {C : Addr} {H H' : Hp} {n : Nat} {v : V} (z : Ip H H') (h : PrA K C H n v) : PrA K C H' n v := by
  obtain ⟨p, x, y, s, e, t, m1, m2, b⟩ := h
  exact ⟨p, x, y, s, e, t.tp z.1, m1.ip z, m2.ip z, b⟩
theorem PrA.mk {K : PySem.W.Frag} {C : Addr} {H : Hp} {n : Nat} {x y : V} {p : Addr} {P P' : List O → Prop} {D W t0 t1 t2 D' W' u0 u1 u2 : Nat} (np : H p = none) (m : Mg K C H x n P D W t0 t1 t2) (m' : Mg K C H y n P' D' W' u0 u1 u2) (h3 : n ≤ 3) (i : ∀ os, Row n os → (P os ↔ P' os)) : PrA K C (upd H p (.tup [x, y])) n (.ref p) := by
  obtain ⟨s, me, f, c, ti, q⟩ := m
  obtain ⟨t, me', f', cc, ti', q'⟩ := m'
  obtain rfl : s = t := Mg.one f ti q f' ti' q' i
  have z := same_new (o := .tup [x, y]) np
  exact ⟨p, x, y, s, rfl, .of upd_same, me.same z, me'.same z, (c.tidyOk f h3).1⟩
section
variable {K : PySem.W.Frag} {C : Addr} {H : Hp} {n : Nat} {x y z : V} {Q : VK} {E : XK} {sp : Sp} {P P' P2 P3 P4 : List O → Prop} {D W t0 t1 t2 D' W' u0 u1 u2 D2 W2 a0 a1 a2 D3 W3 v0 v1 v2 D4 W4 c0 c1 c2 : Nat}
theorem use_fold2 (m : Mg K C H x n P D W t0 t1 t2) (m' : Mg K C H y n P' D' W' u0 u1 u2)
    (rule : ∀ (H' : Hp) (Q' : VK), Mg K C H' x n P D W t0 t1 t2 → Mg K C H' y n P' D' W' u0 u1 u2 → (∀ (f : V) (H'' : Hp), Same H' H'' → Mg K C H'' f n P3 D3 W3 v0 v1 v2 → Q' f H'') → rTwo C sp E0 x y H' Q')
    (q : ∀ (f : V) (H' : Hp), Same H H' → Mg K C H' f n P3 D3 W3 v0 v1 v2 → Q f H') : [x, y].length ≤ sizeLine ∧ ∀ p, H p = Option.none → spFold K C sp [.int 1, V.ref p] (upd H p (.tup [x, y])) Q E := by
  refine ⟨by show 2 ≤ sizeLine; decide, fun p hp => ?_⟩
  have z0 := same_new (o := .tup [x, y]) hp
  refine ⟨p, x, [y], fun i f H' => Same (upd H p (.tup [x, y])) H' ∧ (i = 0 → f = x) ∧ (i = 1 → Mg K C H' f n P3 D3 W3 v0 v1 v2), rfl, upd_same, ⟨Same.refl _, fun _ => rfl, fun e => absurd e (by decide)⟩, fun i f H' g => g.1, fun i f H' H'' g s => ⟨g.1.trans s, g.2.1, fun e => (g.2.2 e).same s⟩, fun i w f H' Q' hw g k => ?_, fun f H' g => q f H' (z0.trans g.1) (g.2.2 rfl)⟩
  cases i with
  | succ i => cases hw
  | zero =>
    obtain rfl : y = w := Option.some.inj hw
    obtain rfl : f = x := g.2.1 rfl
    exact rule H' Q' (m.same (z0.trans g.1)) (m'.same (z0.trans g.1)) fun f H'' s mf => k f H'' s ⟨g.1.trans s, fun e => absurd e (by decide), fun _ => mf⟩
theorem use_fold3 (m : Mg K C H x n P D W t0 t1 t2) (m' : Mg K C H y n P' D' W' u0 u1 u2) (m2 : Mg K C H z n P2 D2 W2 a0 a1 a2)
    (rule : ∀ (H' : Hp) (Q' : VK), Mg K C H' x n P D W t0 t1 t2 → Mg K C H' y n P' D' W' u0 u1 u2 → (∀ (f : V) (H'' : Hp), Same H' H'' → Mg K C H'' f n P3 D3 W3 v0 v1 v2 → Q' f H'') → rTwo C sp E0 x y H' Q')
    (rule2 : ∀ (f : V) (H' : Hp) (Q' : VK), Mg K C H' f n P3 D3 W3 v0 v1 v2 → Mg K C H' z n P2 D2 W2 a0 a1 a2 → (∀ (f' : V) (H'' : Hp), Same H' H'' → Mg K C H'' f' n P4 D4 W4 c0 c1 c2 → Q' f' H'') → rTwo C sp E0 f z H' Q')
    (q : ∀ (f : V) (H' : Hp), Same H H' → Mg K C H' f n P4 D4 W4 c0 c1 c2 → Q f H') : [x, y, z].length ≤ sizeLine ∧ ∀ p, H p = Option.none → spFold K C sp [.int 1, V.ref p] (upd H p (.tup [x, y, z])) Q E := by
  refine ⟨by show 3 ≤ sizeLine; decide, fun p hp => ?_⟩
  have z0 := same_new (o := .tup [x, y, z]) hp
  refine ⟨p, x, [y, z], fun i f H' => Same (upd H p (.tup [x, y, z])) H' ∧ (i = 0 → f = x) ∧ (i = 1 → Mg K C H' f n P3 D3 W3 v0 v1 v2) ∧ (i = 2 → Mg K C H' f n P4 D4 W4 c0 c1 c2), rfl, upd_same, ⟨Same.refl _, fun _ => rfl, fun e => absurd e (by decide), fun e => absurd e (by decide)⟩, fun i f H' g => g.1, fun i f H' H'' g s => ⟨g.1.trans s, g.2.1, fun e => (g.2.2.1 e).same s, fun e => (g.2.2.2 e).same s⟩, fun i w f H' Q' hw g k => ?_, fun f H' g => q f H' (z0.trans g.1) (g.2.2.2 rfl)⟩
  match i, hw with
  | 0, hw =>
    obtain rfl : y = w := Option.some.inj hw
    obtain rfl : f = x := g.2.1 rfl
    exact rule H' Q' (m.same (z0.trans g.1)) (m'.same (z0.trans g.1)) fun f H'' s mf => k f H'' s ⟨g.1.trans s, fun e => absurd e (by decide), fun _ => mf, fun e => absurd e (by decide)⟩
  | 1, hw =>
    obtain rfl : z = w := Option.some.inj hw
    exact rule2 f H' Q' (g.2.2.1 rfl) (m2.same (z0.trans g.1)) fun f H'' s mf => k f H'' s ⟨g.1.trans s, fun e => absurd e (by decide), fun e => absurd e (by decide), fun _ => mf⟩
  | i + 2, hw => cases hw
end
section
variable {P : Program} {w : World} {K : PySem.W.Frag} {mg : Str → Option Value} {base : Heap}
theorem ok_lmade  {aZERO : Addr} {aONE : Addr} {aVowError : Addr} {aInvalidLevels : Addr} {aInvalidStair : Addr} {aInvalidRow : Addr} {aLevelsDiffer : Addr} {aMeaning : Addr} {f_Meaning_init : Addr} {p_Meaning_always : Addr} {f_Meaning_always : Addr} {p_Meaning_never : Addr} {f_Meaning_never : Addr} {p_Meaning_levels : Addr} {f_Meaning_levels : Addr} {f_Meaning_stair : Addr} {f_Meaning_least : Addr} {f_Meaning_lies_in : Addr} {f_Meaning_add : Addr} {f_Meaning_mul : Addr} {f_Meaning_neg : Addr} {f_Meaning_contains : Addr} {f_Meaning_bool : Addr} {f_Meaning_eq : Addr} {f_Meaning_repr : Addr} (T : Txt K mg  aZERO aONE aVowError aInvalidLevels aInvalidStair aInvalidRow aLevelsDiffer aMeaning f_Meaning_init p_Meaning_always f_Meaning_always p_Meaning_never f_Meaning_never p_Meaning_levels f_Meaning_levels f_Meaning_stair f_Meaning_least f_Meaning_lies_in f_Meaning_add f_Meaning_mul f_Meaning_neg f_Meaning_contains f_Meaning_bool f_Meaning_eq f_Meaning_repr) {f f1 : Addr} {fd fd1 fd2 : FuncData} {k : Nat} (F : Fun K "_law_made" "_law_made" s_law_made f fd) (C__law_stair : Cal P w K mg base k "_law_stair" ["_law_bag_here", "_law_many_z"] (spStair K 4) f1 fd1)
    (G_Meaning_init : FnOk P w K mg base CX0 k f_Meaning_init fd2 ["self", "levels", "stair"] (spMeI K aMeaning)) (b_Meaning_init : Binds K fd2 ["self", "levels", "stair"] []) : FnOk P w K mg base CX0 (k + 2) f fd ["_law_bag_here", "_law_many_z"] (spMade K aMeaning) := by
  refine F.ok sc_law_made (fun vs H Q E h => ?_) (fun cdv A outer s H vs Q E hr h => ?_)
  · obtain ⟨_, _, _, rfl, _⟩ := h; rfl
  obtain ⟨l, b, n, rfl, hn1, hn3, hB, q⟩ := h
  refine ⟨_, (pss_one (ps_ret (pe_make T.oc_Meaning.mkc G_Meaning_init (hr.mono (by omega)) (by rfl) T.m_Meaning b_Meaning_init .nil pass0 (pa_cons (pv 1) (pa_cons (pe_call C__law_stair.G (hr.mono (by omega)) (by rfl) C__law_stair.m C__law_stair.kp C__law_stair.b .nil pass0 (pa_cons (pv 0) (pa_cons (pv 1) pa_nil))) pa_nil))))), ?_⟩
  refine ⟨_, rfl, _, rfl, _, rfl, l, b, n, rfl, by omega, by omega, hB, fun v st H1 sv okv k1 B1 => ?_⟩
  have fS := Fit3.drawn okv hn3
  have c : Can 8 3 64 16 4 := by unfold Can; decide
  have c' : Can 8 (3 + (16 + 4)) 64 16 4 := by unfold Can; decide
  refine use_make hn1 hn3 sv fS c fun x H' s' m => ?_
  exact q x (fun os => valS n st os = true) H' (k1.trans (same_kp s')) (B1.same s') (Mg.mk hn3 m fS c c' fun os _ => Iff.rfl)
theorem ok_Meaning_eq2  {aZERO : Addr} {aONE : Addr} {aVowError : Addr} {aInvalidLevels : Addr} {aInvalidStair : Addr} {aInvalidRow : Addr} {aLevelsDiffer : Addr} {aMeaning : Addr} {f_Meaning_init : Addr} {p_Meaning_always : Addr} {f_Meaning_always : Addr} {p_Meaning_never : Addr} {f_Meaning_never : Addr} {p_Meaning_levels : Addr} {f_Meaning_levels : Addr} {f_Meaning_stair : Addr} {f_Meaning_least : Addr} {f_Meaning_lies_in : Addr} {f_Meaning_add : Addr} {f_Meaning_mul : Addr} {f_Meaning_neg : Addr} {f_Meaning_contains : Addr} {f_Meaning_bool : Addr} {f_Meaning_eq : Addr} {f_Meaning_repr : Addr} (T : Txt K mg  aZERO aONE aVowError aInvalidLevels aInvalidStair aInvalidRow aLevelsDiffer aMeaning f_Meaning_init p_Meaning_always f_Meaning_always p_Meaning_never f_Meaning_never p_Meaning_levels f_Meaning_levels f_Meaning_stair f_Meaning_least f_Meaning_lies_in f_Meaning_add f_Meaning_mul f_Meaning_neg f_Meaning_contains f_Meaning_bool f_Meaning_eq f_Meaning_repr) {fd : FuncData} {k : Nat} (F : Fun K "__eq__" "Meaning.__eq__" sMeaning_eq f_Meaning_eq fd) : FnOk P w K mg base CX0 (k + 1) f_Meaning_eq fd ["self", "other"] (spMeEq2 K aMeaning) := by
  refine F.ok scMeaning_eq (fun vs H Q E h => ?_) (fun cdv A outer s H vs Q E hr h => ?_)
  · obtain ⟨_, _, _, _, _, rfl, _⟩ := h; rfl
  obtain ⟨x, y, n, st, st', rfl, hn3, mx, my, hb, hb', q⟩ := h
  refine ⟨_, (pss_one (ps_ret (pe_and (pe_callB call_isi (by rfl) T.z_isinstance (by decide +kernel) (pa_cons (pv 1) (pa_cons (pe_glob (v := .ref aMeaning) (by rfl) T.m_Meaning rfl) pa_nil))) (pe_and (pe_cmpR op_eq (pe_fldK (K := K) rfl (pv 0) rfl) (pe_fldK (K := K) rfl (pv 1) rfl) (nomark _)) (pe_one (pe_cmpR (op_eqO hr.units) (pe_fldK (K := K) rfl (pv 0) rfl) (pe_fldK (K := K) rfl (pv 1) rfl) (nomark _))))))), ?_⟩
  obtain ⟨a, dx, v, rfl, ea, sv⟩ := id mx
  obtain ⟨b, dy, v', rfl, eb, sv'⟩ := id my
  refine ⟨_, rfl, .ref b, .ref aMeaning, .ref aMeaning, .ref aMeaning, true, rfl, .own _, T.oc_Meaning.ty eb, T.kt_Meaning_Meaning, true, rfl, ?_⟩
  refine ⟨_, rfl, a, aMeaning, dx, _, _, rfl, ea, T.oc_Meaning.cl, T.na_Meaning__levels, look_lev n v, ?_⟩
  refine ⟨_, rfl, b, aMeaning, dy, _, _, rfl, eb, T.oc_Meaning.cl, T.na_Meaning__levels, look_lev n v', rfl, _, rfl, ?_⟩
  rw [decide_eq_true rfl]
  refine iteT ⟨_, rfl, a, aMeaning, dx, _, v, rfl, ea, T.oc_Meaning.cl, T.na_Meaning__stair, look_stair n v, ?_⟩
  refine ⟨_, rfl, b, aMeaning, dy, _, v', rfl, eb, T.oc_Meaning.cl, T.na_Meaning__stair, look_stair n v', ?_⟩
  exact rd_eqSt2 sv sv' hb hb' hn3 q
theorem ok_law  {aZERO : Addr} {aONE : Addr} {aVowError : Addr} {aInvalidLevels : Addr} {aInvalidStair : Addr} {aInvalidRow : Addr} {aLevelsDiffer : Addr} {aMeaning : Addr} {f_Meaning_init : Addr} {p_Meaning_always : Addr} {f_Meaning_always : Addr} {p_Meaning_never : Addr} {f_Meaning_never : Addr} {p_Meaning_levels : Addr} {f_Meaning_levels : Addr} {f_Meaning_stair : Addr} {f_Meaning_least : Addr} {f_Meaning_lies_in : Addr} {f_Meaning_add : Addr} {f_Meaning_mul : Addr} {f_Meaning_neg : Addr} {f_Meaning_contains : Addr} {f_Meaning_bool : Addr} {f_Meaning_eq : Addr} {f_Meaning_repr : Addr} (T : Txt K mg  aZERO aONE aVowError aInvalidLevels aInvalidStair aInvalidRow aLevelsDiffer aMeaning f_Meaning_init p_Meaning_always f_Meaning_always p_Meaning_never f_Meaning_never p_Meaning_levels f_Meaning_levels f_Meaning_stair f_Meaning_least f_Meaning_lies_in f_Meaning_add f_Meaning_mul f_Meaning_neg f_Meaning_contains f_Meaning_bool f_Meaning_eq f_Meaning_repr) {f f1 f2 f3 f4 g1 g2 : Addr} {fd fd1 fd2 fd3 fd4 e1 e2 e3 e4 e5 e6 e7 e8 : FuncData} (F : Fun K "law" "law" slaw f fd)
    (C__law_bag : Cal P w K mg base 1 "_law_bag" ["_law_script"] (spBag K) f1 fd1) (C__law_pull : Cal P w K mg base 1 "_law_pull" ["_law_bag_here", "_law_sides"] spPull f2 fd2)
    (C__law_made : Cal P w K mg base 140 "_law_made" ["_law_bag_here", "_law_many_z"] (spMade K aMeaning) f3 fd3)
    (C__law_same : Cal P w K mg base 40 "_law_same" ["_law_found", "_law_due"] (spSame K 40) f4 fd4)
    (G_Meaning_neg : FnOk P w K mg base CX0 140 f_Meaning_neg e1 ["self"] (spMe1 K aMeaning (mkMe1 K aMeaning oppS))) (b_Meaning_neg : Binds K e1 ["self"] [])
    (G_Meaning_add : FnOk P w K mg base CX0 140 f_Meaning_add e2 ["self", "other"] (spMe2 K aMeaning CanJ (mkMe2 K aMeaning (joinS orB)))) (b_Meaning_add : Binds K e2 ["self", "other"] [])
    (G_Meaning_mul : FnOk P w K mg base CX0 140 f_Meaning_mul e3 ["self", "other"] (spMe2 K aMeaning CanJ (mkMe2 K aMeaning metS))) (b_Meaning_mul : Binds K e3 ["self", "other"] [])
    (G_Meaning_stair : FnOk P w K mg base CX0 140 f_Meaning_stair e4 ["self"] (fun vs H Q _ => ∃ (x : V) (n : Nat) (s : SD n), vs = [x] ∧ MeA K aMeaning H x n s ∧ ∀ v : V, SA K H n v s → Q v H)) (b_Meaning_stair : Binds K e4 ["self"] [])
    (G_Meaning_lies_in : FnOk P w K mg base CX0 140 f_Meaning_lies_in e5 ["self", "other"] (spMe2 K aMeaning CanL (blMe2 liesS))) (b_Meaning_lies_in : Binds K e5 ["self", "other"] [])
    (G_Meaning_never : FnOk P w K mg base CX0 140 f_Meaning_never e6 ["cls", "levels"] (spAlw K aMeaning false)) (b_Meaning_never : Binds K e6 ["cls", "levels"] [])
    (G_Meaning_always : FnOk P w K mg base CX0 140 f_Meaning_always e7 ["cls", "levels"] (spAlw K aMeaning true)) (b_Meaning_always : Binds K e7 ["cls", "levels"] [])
    (G_Meaning_eq : FnOk P w K mg base CX0 140 f_Meaning_eq e8 ["self", "other"] (spMeEq2 K aMeaning)) (b_Meaning_eq : Binds K e8 ["self", "other"] [])
    (R_either : FnR P w K mg base CX0 144 g1 (fun vs H Q E => vs.length ≤ sizeLine ∧ ∀ p, H p = Option.none → spFold K aMeaning (spMe2 K aMeaning CanJ (mkMe2 K aMeaning (joinS orB))) [.int 1, V.ref p] (upd H p (.tup vs)) Q E)) (kR_either : PySem.W.keepIn K (.ref g1) = true) (mR_either : mg "either" = some (.ref g1))
    (R_both : FnR P w K mg base CX0 144 g2 (fun vs H Q E => vs.length ≤ sizeLine ∧ ∀ p, H p = Option.none → spFold K aMeaning (spMe2 K aMeaning CanJ (mkMe2 K aMeaning metS)) [.int 1, V.ref p] (upd H p (.tup vs)) Q E)) (kR_both : PySem.W.keepIn K (.ref g2) = true) (mR_both : mg "both" = some (.ref g2)) :
    FnOk P w K mg base CX0 146 f fd ["_law_script"] (spLaw K) := by
  refine F.ok sclaw (fun vs H Q E h => ?_) (fun cdv A outer s H vs Q E hr h => ?_)
  · obtain ⟨_, _, rfl, _⟩ := h; rfl
  obtain ⟨a, ns, rfl, hS, hl, q⟩ := h
  refine ⟨_, (pss_cons (ps_set (i := 1) sclaw.nd rfl (Or.inl rfl) (pe_call C__law_bag.G (hr.mono (by omega)) (by rfl) C__law_bag.m C__law_bag.kp C__law_bag.b .nil pass0 (pa_cons (pv 0) pa_nil)))
  (pss_cons (ps_for PassesOwn.never rfl (pi_range1 (by rfl) T.z_range (pa_cons pe_int pa_nil)) (pg_name (i := 2) sclaw.nd rfl (Or.inl rfl))
   (pss_cons (ps_set (i := 3) sclaw.nd rfl (Or.inl rfl) (pe_op op_add pe_int (pe_call C__law_pull.G (hr.mono (by omega)) (by rfl) C__law_pull.m C__law_pull.kp C__law_pull.b .nil pass0 (pa_cons (pv 1) (pa_cons pe_int pa_nil)))))
  (pss_cons (ps_par3 (i := 4) (j := 5) (l := 6) (by rfl) sclaw.nd rfl rfl rfl (by decide) (by decide) (by decide) rfl rfl rfl (pa_cons (pe_call C__law_made.G (hr.mono (by omega)) (by rfl) C__law_made.m C__law_made.kp C__law_made.b .nil pass0 (pa_cons (pv 1) (pa_cons (pv 3) pa_nil))) (pa_cons (pe_call C__law_made.G (hr.mono (by omega)) (by rfl) C__law_made.m C__law_made.kp C__law_made.b .nil pass0 (pa_cons (pv 1) (pa_cons (pv 3) pa_nil))) (pa_cons (pe_call C__law_made.G (hr.mono (by omega)) (by rfl) C__law_made.m C__law_made.kp C__law_made.b .nil pass0 (pa_cons (pv 1) (pa_cons (pv 3) pa_nil))) pa_nil))) (by rfl))
  (pss_cons (ps_set (i := 7) sclaw.nd rfl (Or.inl rfl) (pe_lst (pa_cons (pe_tup (pa_cons (pe_op (op_two T.sf_Meaning T.mt_Meaning_mul.at_ T.mt_Meaning_mul.fn G_Meaning_mul b_Meaning_mul (hr.mono (by omega)) pass0) (pe_op (op_two T.sf_Meaning T.mt_Meaning_add.at_ T.mt_Meaning_add.fn G_Meaning_add b_Meaning_add (hr.mono (by omega)) pass0) (pv 4) (pv 5)) (pv 6)) (pa_cons (pe_op (op_two T.sf_Meaning T.mt_Meaning_add.at_ T.mt_Meaning_add.fn G_Meaning_add b_Meaning_add (hr.mono (by omega)) pass0) (pe_op (op_two T.sf_Meaning T.mt_Meaning_mul.at_ T.mt_Meaning_mul.fn G_Meaning_mul b_Meaning_mul (hr.mono (by omega)) pass0) (pv 4) (pv 6)) (pe_op (op_two T.sf_Meaning T.mt_Meaning_mul.at_ T.mt_Meaning_mul.fn G_Meaning_mul b_Meaning_mul (hr.mono (by omega)) pass0) (pv 5) (pv 6))) pa_nil))) pa_nil)))
  (pss_cons (ps_expr (pe_bm PySem.F.plainAttrs_list PySem.F.slot_list_append PySem.F.type_list_append mt_append (pv 7) (pa_cons (pe_tup (pa_cons (pe_un (un_negI T.mt_Meaning_neg.at_ T.mt_Meaning_neg.fn G_Meaning_neg b_Meaning_neg (hr.mono (by omega)) pass0) (pe_op (op_two T.sf_Meaning T.mt_Meaning_add.at_ T.mt_Meaning_add.fn G_Meaning_add b_Meaning_add (hr.mono (by omega)) pass0) (pv 4) (pv 5))) (pa_cons (pe_op (op_two T.sf_Meaning T.mt_Meaning_mul.at_ T.mt_Meaning_mul.fn G_Meaning_mul b_Meaning_mul (hr.mono (by omega)) pass0) (pe_un (un_negI T.mt_Meaning_neg.at_ T.mt_Meaning_neg.fn G_Meaning_neg b_Meaning_neg (hr.mono (by omega)) pass0) (pv 4)) (pe_un (un_negI T.mt_Meaning_neg.at_ T.mt_Meaning_neg.fn G_Meaning_neg b_Meaning_neg (hr.mono (by omega)) pass0) (pv 5))) pa_nil))) pa_nil)))
  (pss_cons (ps_expr (pe_bm PySem.F.plainAttrs_list PySem.F.slot_list_append PySem.F.type_list_append mt_append (pv 7) (pa_cons (pe_tup (pa_cons (pe_un (un_negI T.mt_Meaning_neg.at_ T.mt_Meaning_neg.fn G_Meaning_neg b_Meaning_neg (hr.mono (by omega)) pass0) (pe_un (un_negI T.mt_Meaning_neg.at_ T.mt_Meaning_neg.fn G_Meaning_neg b_Meaning_neg (hr.mono (by omega)) pass0) (pv 4))) (pa_cons (pv 4) pa_nil))) pa_nil)))
  (pss_cons (ps_expr (pe_bm PySem.F.plainAttrs_list PySem.F.slot_list_append PySem.F.type_list_append mt_append (pv 7) (pa_cons (pe_tup (pa_cons (pe_op (op_two T.sf_Meaning T.mt_Meaning_add.at_ T.mt_Meaning_add.fn G_Meaning_add b_Meaning_add (hr.mono (by omega)) pass0) (pe_op (op_two T.sf_Meaning T.mt_Meaning_mul.at_ T.mt_Meaning_mul.fn G_Meaning_mul b_Meaning_mul (hr.mono (by omega)) pass0) (pv 4) (pv 5)) (pe_op (op_two T.sf_Meaning T.mt_Meaning_mul.at_ T.mt_Meaning_mul.fn G_Meaning_mul b_Meaning_mul (hr.mono (by omega)) pass0) (pv 4) (pe_un (un_negI T.mt_Meaning_neg.at_ T.mt_Meaning_neg.fn G_Meaning_neg b_Meaning_neg (hr.mono (by omega)) pass0) (pv 5)))) (pa_cons (pv 4) pa_nil))) pa_nil)))
  (pss_cons (ps_expr (pe_bm PySem.F.plainAttrs_list PySem.F.slot_list_append PySem.F.type_list_append mt_append (pv 7) (pa_cons (pe_tup (pa_cons (StX.pe_callR R_either (hr.mono (by omega)) kR_either (by rfl) mR_either pass0 (pa_cons (pv 4) (pa_cons (pe_un (un_negI T.mt_Meaning_neg.at_ T.mt_Meaning_neg.fn G_Meaning_neg b_Meaning_neg (hr.mono (by omega)) pass0) (pv 4)) pa_nil))) (pa_cons (ClX.pe_cmeth (pe_glob (v := .ref aMeaning) (by rfl) T.m_Meaning rfl) T.rd_Meaning T.cm_Meaning_always (FnOk.raw G_Meaning_always b_Meaning_always .nil) (hr.mono (by omega)) pass0 (pa_cons (pv 3) pa_nil)) pa_nil))) pa_nil)))
  (pss_cons (ps_expr (pe_bm PySem.F.plainAttrs_list PySem.F.slot_list_append PySem.F.type_list_append mt_append (pv 7) (pa_cons (pe_tup (pa_cons (StX.pe_callR R_both (hr.mono (by omega)) kR_both (by rfl) mR_both pass0 (pa_cons (pv 4) (pa_cons (pv 5) (pa_cons (pe_un (un_negI T.mt_Meaning_neg.at_ T.mt_Meaning_neg.fn G_Meaning_neg b_Meaning_neg (hr.mono (by omega)) pass0) (pv 4)) pa_nil)))) (pa_cons (ClX.pe_cmeth (pe_glob (v := .ref aMeaning) (by rfl) T.m_Meaning rfl) T.rd_Meaning T.cm_Meaning_never (FnOk.raw G_Meaning_never b_Meaning_never .nil) (hr.mono (by omega)) pass0 (pa_cons (pv 3) pa_nil)) pa_nil))) pa_nil)))
  (pss_cons (ps_for PassesOwn.never rfl (pi_list (pv 7)) (pg_tup (by rfl) (pgs_cons (pg_name (i := 8) sclaw.nd rfl (Or.inl rfl)) (pgs_cons (pg_name (i := 9) sclaw.nd rfl (Or.inl rfl)) pgs_nil)))
   (pss_one (ps_if (PW.pt (pw_or (pt_cmpR (op_neI T.mt_Meaning_eq.at_ T.mt_Meaning_eq.fn T.ne_Meaning T.oc_Meaning.hm G_Meaning_eq b_Meaning_eq (hr.mono (by omega)) pass0) (pv 8) (pv 9) (nomark _)) (pw_or1 (pt_not (pt_val (pe_call C__law_same.G (hr.mono (by omega)) (by rfl) C__law_same.m C__law_same.kp C__law_same.b .nil pass0 (pa_cons (pe_meth0 (pv 8) T.oc_Meaning.cl T.mt_Meaning_stair.meth G_Meaning_stair (hr.mono (by omega)) b_Meaning_stair .nil pass0) (pa_cons (pe_meth0 (pv 9) T.oc_Meaning.cl T.mt_Meaning_stair.meth G_Meaning_stair (hr.mono (by omega)) b_Meaning_stair .nil pass0) pa_nil)))))))) (pss_one (ps_ret pe_bl)) pss_nil)))
  (pss_cons (ps_if (pt_cmpR op_ne (pe_cmpR (op_eqI T.mt_Meaning_eq.at_ T.mt_Meaning_eq.fn T.nf_Meaning G_Meaning_eq b_Meaning_eq (hr.mono (by omega)) pass0) (pe_op (op_two T.sf_Meaning T.mt_Meaning_add.at_ T.mt_Meaning_add.fn G_Meaning_add b_Meaning_add (hr.mono (by omega)) pass0) (pv 4) (pv 5)) (pv 5) (nomark _)) (pe_meth (pv 4) T.oc_Meaning.cl T.mt_Meaning_lies_in.meth G_Meaning_lies_in (hr.mono (by omega)) b_Meaning_lies_in .nil pass0 (pa_cons (pv 5) pa_nil)) (nomark _)) (pss_one (ps_ret pe_bl)) pss_nil)
  (pss_one (ps_if (pt_cmpR op_ne (pe_cmpR (op_eqI T.mt_Meaning_eq.at_ T.mt_Meaning_eq.fn T.nf_Meaning G_Meaning_eq b_Meaning_eq (hr.mono (by omega)) pass0) (pv 4) (pv 5) (nomark _)) (pe_and (pe_meth (pv 4) T.oc_Meaning.cl T.mt_Meaning_lies_in.meth G_Meaning_lies_in (hr.mono (by omega)) b_Meaning_lies_in .nil pass0 (pa_cons (pv 5) pa_nil)) (pe_one (pe_meth (pv 5) T.oc_Meaning.cl T.mt_Meaning_lies_in.meth G_Meaning_lies_in (hr.mono (by omega)) b_Meaning_lies_in .nil pass0 (pa_cons (pv 4) pa_nil)))) (nomark _)) (pss_one (ps_ret pe_bl)) pss_nil)))))))))))))
  (pss_one (ps_ret pe_bl)))), ?_⟩
  refine ⟨_, rfl, a, ns, rfl, hS, hl, fun l b H1 nb s1 B1 => ?_⟩
  refine ⟨2, rfl, by decide, by decide, ?_⟩
  refine for_range (lo := 0) (n := 2) (fun i σ H' => ∃ u2 u3 u4 u5 u6 u7 u8 u9, σ = [some (.ref a), some (.ref b), u2, u3, u4, u5, u6, u7, u8, u9] ∧ Bag l H' b) ⟨_, _, _, _, _, _, _, _, rfl, B1⟩ (fun i σ H2 hi h => ?_) (fun σ H2 h => ?_)
  · obtain ⟨u2, u3, u4, u5, u6, u7, u8, u9, rfl, B2⟩ := h
    refine ⟨_, rfl, l, b, 3, rfl, by decide, by decide, B2, fun r H3 r0 r1 k3 B3 => ⟨_, _, rfl, rfl, ?_⟩⟩
    obtain ⟨n, hm⟩ : ∃ m : Nat, 1 + r = (m : Int) := ⟨(1 + r).toNat, by omega⟩
    have hn1 : 1 ≤ n := by omega
    have hn3 : n ≤ 3 := by omega
    rw [show ((fun i j : Int => V.int (i + j)) 1 r) = V.int (n : Nat) from congrArg V.int hm]
    refine ⟨_, rfl, _, rfl, l, b, n, rfl, hn1, hn3, B3, fun x PA H4 k4 B4 mA => ?_⟩
    refine ⟨_, rfl, _, rfl, l, b, n, rfl, hn1, hn3, B4, fun y PB H5 k5 B5 mB => ?_⟩
    refine ⟨_, rfl, _, rfl, l, b, n, rfl, hn1, hn3, B5, fun z PC H6 k6 B6 mC => ?_⟩
    replace mA := (mA.ip (B4.ip k5)).ip (B5.ip k6)
    replace mB := mB.ip (B5.ip k6)
    refine ⟨_, _, _, rfl, ?_⟩
    -- the first pair
    refine ⟨_, rfl, _, rfl, use_add (E := E0) mA mB hn1 hn3 (by unfold CanJ Can; decide) (by decide) (by unfold Can; decide) fun y1 G1 s1 (m1 : Mg K aMeaning G1 y1 n _ 8 159 2048 128 8) => ?_⟩
    refine ⟨_, rfl, use_mul (E := E0) m1 (mC.same s1) hn1 hn3 (by unfold CanJ Can; decide) (by decide) (by unfold Can; decide) fun y2 G2 s2 (m2 : Mg K aMeaning G2 y2 n _ 8 811 40960 640 12) => ?_⟩
    refine ⟨_, rfl, _, rfl, use_mul (E := E0) ((mA.same s1).same s2) ((mC.same s1).same s2) hn1 hn3 (by unfold CanJ Can; decide) (by decide) (by unfold Can; decide) fun y3 G3 s3 (m3 : Mg K aMeaning G3 y3 n _ 8 159 2048 128 8) => ?_⟩
    refine ⟨_, rfl, _, rfl, use_mul (E := E0) (((mB.same s1).same s2).same s3) (((mC.same s1).same s2).same s3) hn1 hn3 (by unfold CanJ Can; decide) (by decide) (by unfold Can; decide) fun y4 G4 s4 (m4 : Mg K aMeaning G4 y4 n _ 8 159 2048 128 8) => ?_⟩
    refine use_add (E := E0) (m3.same s4) m4 hn1 hn3 (by unfold CanJ Can; decide) (by decide) (by unfold Can; decide) fun y5 G5 s5 (m5 : Mg K aMeaning G5 y5 n _ 8 2223 524288 2048 16) => ?_
    refine ⟨(by show 2 ≤ sizeLine; decide), fun p1 n1 => ⟨(by show 1 ≤ sizeLine; decide), fun D nD => ?_⟩⟩
    have pr1 := PrA.mk n1 (((m2.same s3).same s4).same s5) m5 hn3 fun os _ => ⟨fun g => g.1.elim (fun u => .inl ⟨u, g.2⟩) (fun u => .inr ⟨u, g.2⟩), fun g => g.elim (fun u => ⟨.inl u.1, u.2⟩) (fun u => ⟨.inr u.1, u.2⟩)⟩
    have z1 := same_new (o := .tup [y2, y5]) n1
    have z2 := same_new (o := .lst [.ref p1]) nD
    have zz := (((((s1.trans s2).trans s3).trans s4).trans s5).trans z1).trans z2
    have eD : (upd (upd G5 p1 (.tup [y2, y5])) D (.lst [.ref p1])) D = some (.lst [.ref p1]) := upd_same
    have hp : ∀ v ∈ [V.ref p1], PrA K aMeaning (upd (upd G5 p1 (.tup [y2, y5])) D (.lst [.ref p1])) n v := fun v hv => by rw [List.mem_singleton.mp hv]; exact pr1.ip (same_ip z2)
    have hl : [V.ref p1].length = 1 := rfl
    have B7 := B6.same (((((s1.trans s2).trans s3).trans s4).trans s5).trans z1)
    have neD := B7.ne nD
    have nlD := B7.nl nD
    clear B7
    replace mA := mA.same zz
    replace mB := mB.same zz
    replace mC := mC.same zz
    replace B6 := B6.same zz
    generalize upd (upd G5 p1 (.tup [y2, y5])) D (.lst [.ref p1]) = H7 at *
    generalize [V.ref p1] = xs at *
    clear zz z1 z2 pr1 m5 m4 m3 m2 m1 s5 s4 s3 s2 s1
    -- 2
    refine ⟨_, rfl, .inl ⟨rfl, _, SqL.of eD⟩, ?_⟩
    refine ⟨_, rfl, _, rfl, use_add (E := E0) mA mB hn1 hn3 (by unfold CanJ Can; decide) (by decide) (by unfold Can; decide) fun y6 G6 s6 (m6 : Mg K aMeaning G6 y6 n _ 8 159 2048 128 8) => ?_⟩
    refine use_neg (E := E0) m6 hn1 hn3 (by decide) (by unfold Can; decide) fun y7 G7 s7 (m7 : Mg K aMeaning G7 y7 n _ 8 295 2048 128 8) => ?_
    refine ⟨_, rfl, use_neg (E := E0) ((mA.same s6).same s7) hn1 hn3 (by decide) (by unfold Can; decide) fun y8 G8 s8 (m8 : Mg K aMeaning G8 y8 n _ 8 43 64 16 4) => ?_⟩
    refine ⟨_, rfl, use_neg (E := E0) (((mB.same s6).same s7).same s8) hn1 hn3 (by decide) (by unfold Can; decide) fun y9 G9 s9 (m9 : Mg K aMeaning G9 y9 n _ 8 43 64 16 4) => ?_⟩
    refine use_mul (E := E0) (m8.same s9) m9 hn1 hn3 (by unfold CanJ Can; decide) (by decide) (by unfold Can; decide) fun y10 G10 s10 (m10 : Mg K aMeaning G10 y10 n _ 8 179 2048 128 8) => ?_
    refine ⟨(by show 2 ≤ sizeLine; decide), fun p7 n7 => ⟨D, xs, _, rfl, rfl, (((((s6.trans s7).trans s8).trans s9).trans s10).trans (same_new (o := .tup [y7, y10]) n7)) _ _ eD, Nat.lt_of_lt_of_le (show xs.length < 10 by omega) (by decide), ?_⟩⟩
    have pr := PrA.mk n7 (((m7.same s8).same s9).same s10) m10 hn3 fun os _ => ⟨fun g => ⟨fun u => g (.inl u), fun u => g (.inr u)⟩, fun g h => h.elim g.1 g.2⟩
    have zz := ((((s6.trans s7).trans s8).trans s9).trans s10).trans (same_new (o := .tup [y7, y10]) n7)
    generalize upd G10 p7 (.tup [y7, y10]) = X7 at *
    replace eD := zz _ _ eD
    have w1 := ip_lst (o := .lst (xs ++ [.ref p7])) eD
    replace hp : ∀ v ∈ xs ++ [V.ref p7], PrA K aMeaning (upd X7 D (.lst (xs ++ [.ref p7]))) n v := fun v hv => (List.mem_append.mp hv).elim (fun h => ((hp v h).ip (same_ip zz)).ip w1) (fun h => by rw [List.mem_singleton.mp h]; exact pr.ip w1)
    replace mA := (mA.same zz).ip w1
    replace mB := (mB.same zz).ip w1
    replace mC := (mC.same zz).ip w1
    replace B6 := (B6.same zz).mut (o := .lst (xs ++ [.ref p7])) neD nlD
    replace eD : (upd X7 D (.lst (xs ++ [.ref p7]))) D = some (.lst (xs ++ [.ref p7])) := upd_same
    replace hl : (xs ++ [V.ref p7]).length = 2 := by rw [List.length_append, hl]; rfl
    clear w1 pr zz m10 m9 m8 m7 m6 s10 s9 s8 s7 s6 n7
    generalize upd X7 D (.lst (xs ++ [.ref p7])) = H8 at *
    generalize xs ++ [V.ref p7] = xs7 at *
    -- 3
    refine ⟨_, rfl, .inl ⟨rfl, _, SqL.of eD⟩, ?_⟩
    refine ⟨_, rfl, use_neg (E := E0) mA hn1 hn3 (by decide) (by unfold Can; decide) fun y11 G11 s11 (m11 : Mg K aMeaning G11 y11 n _ 8 43 64 16 4) => ?_⟩
    refine use_neg (E := E0) m11 hn1 hn3 (by decide) (by unfold Can; decide) fun y12 G12 s12 (m12 : Mg K aMeaning G12 y12 n _ 8 63 64 16 4) => ?_
    refine ⟨_, rfl, ?_⟩
    refine ⟨(by show 2 ≤ sizeLine; decide), fun p8 n8 => ⟨D, xs7, _, rfl, rfl, ((s11.trans s12).trans (same_new (o := .tup [y12, x]) n8)) _ _ eD, Nat.lt_of_lt_of_le (show xs7.length < 10 by omega) (by decide), ?_⟩⟩
    have pr := PrA.mk n8 m12 ((mA.same s11).same s12) hn3 fun os _ => ⟨fun g => Classical.byContradiction g, fun g h => h g⟩
    have zz := (s11.trans s12).trans (same_new (o := .tup [y12, x]) n8)
    generalize upd G12 p8 (.tup [y12, x]) = X8 at *
    replace eD := zz _ _ eD
    have w1 := ip_lst (o := .lst (xs7 ++ [.ref p8])) eD
    replace hp : ∀ v ∈ xs7 ++ [V.ref p8], PrA K aMeaning (upd X8 D (.lst (xs7 ++ [.ref p8]))) n v := fun v hv => (List.mem_append.mp hv).elim (fun h => ((hp v h).ip (same_ip zz)).ip w1) (fun h => by rw [List.mem_singleton.mp h]; exact pr.ip w1)
    replace mA := (mA.same zz).ip w1
    replace mB := (mB.same zz).ip w1
    replace mC := (mC.same zz).ip w1
    replace B6 := (B6.same zz).mut (o := .lst (xs7 ++ [.ref p8])) neD nlD
    replace eD : (upd X8 D (.lst (xs7 ++ [.ref p8]))) D = some (.lst (xs7 ++ [.ref p8])) := upd_same
    replace hl : (xs7 ++ [V.ref p8]).length = 3 := by rw [List.length_append, hl]; rfl
    clear w1 pr zz m12 m11 s12 s11 n8
    generalize upd X8 D (.lst (xs7 ++ [.ref p8])) = H9 at *
    generalize xs7 ++ [V.ref p8] = xs8 at *
    -- 4
    refine ⟨_, rfl, .inl ⟨rfl, _, SqL.of eD⟩, ?_⟩
    refine ⟨_, rfl, _, rfl, use_mul (E := E0) mA mB hn1 hn3 (by unfold CanJ Can; decide) (by decide) (by unfold Can; decide) fun y13 G13 s13 (m13 : Mg K aMeaning G13 y13 n _ 8 159 2048 128 8) => ?_⟩
    refine ⟨_, rfl, _, rfl, use_neg (E := E0) (mB.same s13) hn1 hn3 (by decide) (by unfold Can; decide) fun y14 G14 s14 (m14 : Mg K aMeaning G14 y14 n _ 8 43 64 16 4) => ?_⟩
    refine use_mul (E := E0) ((mA.same s13).same s14) m14 hn1 hn3 (by unfold CanJ Can; decide) (by decide) (by unfold Can; decide) fun y15 G15 s15 (m15 : Mg K aMeaning G15 y15 n _ 8 179 2048 128 8) => ?_
    refine use_add (E := E0) ((m13.same s14).same s15) m15 hn1 hn3 (by unfold CanJ Can; decide) (by decide) (by unfold Can; decide) fun y16 G16 s16 (m16 : Mg K aMeaning G16 y16 n _ 8 2243 524288 2048 16) => ?_
    refine ⟨_, rfl, ?_⟩
    refine ⟨(by show 2 ≤ sizeLine; decide), fun p9 n9 => ⟨D, xs8, _, rfl, rfl, ((((s13.trans s14).trans s15).trans s16).trans (same_new (o := .tup [y16, x]) n9)) _ _ eD, Nat.lt_of_lt_of_le (show xs8.length < 10 by omega) (by decide), ?_⟩⟩
    have pr := PrA.mk n9 m16 ((((mA.same s13).same s14).same s15).same s16) hn3 fun os _ => ⟨fun g => g.elim And.left And.left, fun g => (Classical.em _).elim (fun h => .inl ⟨g, h⟩) (fun h => .inr ⟨g, h⟩)⟩
    have zz := (((s13.trans s14).trans s15).trans s16).trans (same_new (o := .tup [y16, x]) n9)
    generalize upd G16 p9 (.tup [y16, x]) = X9 at *
    replace eD := zz _ _ eD
    have w1 := ip_lst (o := .lst (xs8 ++ [.ref p9])) eD
    replace hp : ∀ v ∈ xs8 ++ [V.ref p9], PrA K aMeaning (upd X9 D (.lst (xs8 ++ [.ref p9]))) n v := fun v hv => (List.mem_append.mp hv).elim (fun h => ((hp v h).ip (same_ip zz)).ip w1) (fun h => by rw [List.mem_singleton.mp h]; exact pr.ip w1)
    replace mA := (mA.same zz).ip w1
    replace mB := (mB.same zz).ip w1
    replace mC := (mC.same zz).ip w1
    replace B6 := (B6.same zz).mut (o := .lst (xs8 ++ [.ref p9])) neD nlD
    replace eD : (upd X9 D (.lst (xs8 ++ [.ref p9]))) D = some (.lst (xs8 ++ [.ref p9])) := upd_same
    replace hl : (xs8 ++ [V.ref p9]).length = 4 := by rw [List.length_append, hl]; rfl
    clear w1 pr zz m16 m15 m14 m13 s16 s15 s14 s13 n9
    generalize upd X9 D (.lst (xs8 ++ [.ref p9])) = H10 at *
    generalize xs8 ++ [V.ref p9] = xs9 at *
    -- 5
    refine ⟨_, rfl, .inl ⟨rfl, _, SqL.of eD⟩, ?_⟩
    refine ⟨_, rfl, _, rfl, use_neg (E := E0) mA hn1 hn3 (by decide) (by unfold Can; decide) fun y17 G17 s17 (m17 : Mg K aMeaning G17 y17 n _ 8 43 64 16 4) => ?_⟩
    refine use_fold2 (mA.same s17) m17 (fun H' Q' i1 i2 k => use_add (E := E0) i1 i2 hn1 hn3 (by unfold CanJ Can; decide) (D3 := 8) (W4 := 179) (v0 := 2048) (v1 := 128) (v2 := 8) (by decide) (by unfold Can; decide) k) fun y18 G18 s18 m18 => ?_
    refine ⟨rfl, _, rfl, use_alw (E := E0) hn1 hn3 fun y19 G19 s19 m19 => ?_⟩
    refine ⟨(by show 2 ≤ sizeLine; decide), fun p10 n10 => ⟨D, xs9, _, rfl, rfl, (((s17.trans s18).trans s19).trans (same_new (o := .tup [y18, y19]) n10)) _ _ eD, Nat.lt_of_lt_of_le (show xs9.length < 10 by omega) (by decide), ?_⟩⟩
    have pr := PrA.mk n10 (m18.same s19) m19 hn3 fun os _ => ⟨fun _ => rfl, fun _ => Classical.em _⟩
    have zz := ((s17.trans s18).trans s19).trans (same_new (o := .tup [y18, y19]) n10)
    generalize upd G19 p10 (.tup [y18, y19]) = X10 at *
    replace eD := zz _ _ eD
    have w1 := ip_lst (o := .lst (xs9 ++ [.ref p10])) eD
    replace hp : ∀ v ∈ xs9 ++ [V.ref p10], PrA K aMeaning (upd X10 D (.lst (xs9 ++ [.ref p10]))) n v := fun v hv => (List.mem_append.mp hv).elim (fun h => ((hp v h).ip (same_ip zz)).ip w1) (fun h => by rw [List.mem_singleton.mp h]; exact pr.ip w1)
    replace mA := (mA.same zz).ip w1
    replace mB := (mB.same zz).ip w1
    replace mC := (mC.same zz).ip w1
    replace B6 := (B6.same zz).mut (o := .lst (xs9 ++ [.ref p10])) neD nlD
    replace eD : (upd X10 D (.lst (xs9 ++ [.ref p10]))) D = some (.lst (xs9 ++ [.ref p10])) := upd_same
    replace hl : (xs9 ++ [V.ref p10]).length = 5 := by rw [List.length_append, hl]; rfl
    clear w1 pr zz m19 m18 m17 s19 s18 s17 n10
    generalize upd X10 D (.lst (xs9 ++ [.ref p10])) = H11 at *
    generalize xs9 ++ [V.ref p10] = xs10 at *
    -- 6
    refine ⟨_, rfl, .inl ⟨rfl, _, SqL.of eD⟩, ?_⟩
    refine ⟨_, rfl, _, rfl, _, rfl, use_neg (E := E0) mA hn1 hn3 (by decide) (by unfold Can; decide) fun y20 G20 s20 (m20 : Mg K aMeaning G20 y20 n _ 8 43 64 16 4) => ?_⟩
    refine use_fold3 (mA.same s20) (mB.same s20) m20 (fun H' Q' i1 i2 k => use_mul (E := E0) i1 i2 hn1 hn3 (by unfold CanJ Can; decide) (D3 := 8) (W4 := 159) (v0 := 2048) (v1 := 128) (v2 := 8) (by decide) (by unfold Can; decide) k) (fun f' H' Q' i1 i2 k => use_mul (E := E0) i1 i2 hn1 hn3 (by unfold CanJ Can; decide) (D3 := 8) (W4 := 811) (v0 := 40960) (v1 := 640) (v2 := 12) (by decide) (by unfold Can; decide) k) fun y21 G21 s21 m21 => ?_
    refine ⟨rfl, _, rfl, use_alw (E := E0) hn1 hn3 fun y22 G22 s22 m22 => ?_⟩
    refine ⟨(by show 2 ≤ sizeLine; decide), fun p11 n11 => ⟨D, xs10, _, rfl, rfl, (((s20.trans s21).trans s22).trans (same_new (o := .tup [y21, y22]) n11)) _ _ eD, Nat.lt_of_lt_of_le (show xs10.length < 10 by omega) (by decide), ?_⟩⟩
    have pr := PrA.mk n11 (m21.same s22) m22 hn3 fun os _ => ⟨fun g => absurd g.1.1 g.2, fun g => Bool.noConfusion g⟩
    have zz := ((s20.trans s21).trans s22).trans (same_new (o := .tup [y21, y22]) n11)
    generalize upd G22 p11 (.tup [y21, y22]) = X11 at *
    replace eD := zz _ _ eD
    have w1 := ip_lst (o := .lst (xs10 ++ [.ref p11])) eD
    replace hp : ∀ v ∈ xs10 ++ [V.ref p11], PrA K aMeaning (upd X11 D (.lst (xs10 ++ [.ref p11]))) n v := fun v hv => (List.mem_append.mp hv).elim (fun h => ((hp v h).ip (same_ip zz)).ip w1) (fun h => by rw [List.mem_singleton.mp h]; exact pr.ip w1)
    replace mA := (mA.same zz).ip w1
    replace mB := (mB.same zz).ip w1
    replace mC := (mC.same zz).ip w1
    replace B6 := (B6.same zz).mut (o := .lst (xs10 ++ [.ref p11])) neD nlD
    replace eD : (upd X11 D (.lst (xs10 ++ [.ref p11]))) D = some (.lst (xs10 ++ [.ref p11])) := upd_same
    replace hl : (xs10 ++ [V.ref p11]).length = 6 := by rw [List.length_append, hl]; rfl
    clear w1 pr zz m22 m21 m20 s22 s21 s20 n11
    generalize upd X11 D (.lst (xs10 ++ [.ref p11])) = H12 at *
    generalize xs10 ++ [V.ref p11] = xs11 at *
    -- each pair
    refine ⟨_, rfl, D, rfl, ⟨_, SqL.of eD⟩, ?_⟩
    refine for_list (xs := xs11) (fun j σ H' => ∃ u8 u9, σ = [some (.ref a), some (.ref b), some (.int (0 + (i : Int))), some (.int (n : Nat)), some x, some y, some z, some (.ref D), u8, u9] ∧ Same H12 H') ⟨_, _, rfl, Same.refl H12⟩ (fun j σ H' _ h => ?_) (fun j v σ H' hv h => ?_) (fun σ H' h => ?_)
    · obtain ⟨_, _, _, zs⟩ := h
      exact SqL.of (zs _ _ eD)
    · obtain ⟨u8, u9, rfl, zs⟩ := h
      obtain ⟨p, l', r', s', rfl, tp, ml, mr, bb⟩ := hp v (List.mem_of_getElem? hv)
      replace ml := ml.same zs
      replace mr := mr.same zs
      obtain ⟨al, dl, wl, rfl, el, sl⟩ := id ml
      obtain ⟨ar, dr, wr, rfl, er, sr⟩ := id mr
      have dep := depth_W n s' bb
      have e1 := stair_self n s'
      refine ⟨p, _, rfl, (tp.same zs).sq, rfl, _, _, rfl, _, _, rfl, rfl, ?_⟩
      refine ⟨_, rfl, _, rfl, al, dl, _, ar, dr, _, rfl, rfl, el, er, _, _, n, s', s', rfl, hn3, ml, mr, bb, bb, _, rfl, ?_⟩
      rw [e1]
      refine ⟨_, rfl, iteF ?_⟩
      refine ⟨_, rfl, al, dl, _, rfl, el, look_other n wl (by decide +kernel) (by decide +kernel), _, n, s', rfl, ml, fun v8 sv8 => ?_⟩
      refine ⟨_, rfl, ar, dr, _, rfl, er, look_other n wr (by decide +kernel) (by decide +kernel), _, n, s', rfl, mr, fun v9 sv9 => ?_⟩
      exact ⟨v8, v9, stD n s', rfl, sv8.dp, sv9.dp, by omega, fun H2 s2 => ⟨_, rfl, iteF ⟨_, _, rfl, zs.trans s2⟩⟩⟩
    · obtain ⟨u8, u9, rfl, zs⟩ := h
      replace mA := mA.same zs
      replace mB := mB.same zs
      replace B6 := B6.same zs
      refine ⟨_, rfl, _, rfl, use_add (E := E0) mA mB hn1 hn3 (by unfold CanJ Can; decide) (by decide) (by unfold Can; decide) fun y1 G1 s1 (m1 : Mg K aMeaning G1 y1 n _ 8 159 2048 128 8) => ?_⟩
      refine ⟨_, rfl, two_at m1 (mB.same s1) (use_eq2 (E := E0) m1 (mB.same s1) hn3 ?_)⟩
      refine ⟨_, rfl, meth_at (mA.same s1) (by decide +kernel) (by decide +kernel) ⟨_, rfl, use_lies2 (E := E0) (mA.same s1) (mB.same s1) hn1 hn3 (by unfold CanL; decide) fun G2 s2 => ⟨rfl, _, rfl, ?_⟩⟩⟩
      rw [dec_iff (show (∀ os, Row n os → (PA os ∨ PB os ↔ PB os)) ↔ (∀ os, Row n os → PA os → PB os) from ⟨fun g os r h => (g os r).mp (.inl h), fun g os r => ⟨fun h => h.elim (g os r) id, .inr⟩⟩), decide_eq_true rfl]
      refine iteF ?_
      replace mA := (mA.same s1).same s2
      replace mB := (mB.same s1).same s2
      replace B6 := B6.same (s1.trans s2)
      refine ⟨_, rfl, _, rfl, two_at mA mB (use_eq2 (E := E0) mA mB hn3 ?_)⟩
      refine ⟨_, rfl, meth_at mA (by decide +kernel) (by decide +kernel) ⟨_, rfl, use_lies2 (E := E0) mA mB hn1 hn3 (by unfold CanL; decide) fun G3 s3 => ⟨_, rfl, ?_⟩⟩⟩
      refine ite2 (fun hab => ?_) (fun hab => ?_)
      · replace hab : ∀ os, Row n os → PA os → PB os := @of_decide_eq_true _ (Classical.propDecidable _) hab
        refine ⟨_, rfl, meth_at (mB.same s3) (by decide +kernel) (by decide +kernel) ⟨_, rfl, use_lies2 (E := E0) (mB.same s3) (mA.same s3) hn1 hn3 (by unfold CanL; decide) fun G4 s4 => ⟨rfl, _, rfl, ?_⟩⟩⟩
        rw [dec_iff (show (∀ os, Row n os → (PA os ↔ PB os)) ↔ (∀ os, Row n os → PB os → PA os) from ⟨fun g os r => (g os r).mpr, fun g os r => ⟨hab os r, g os r⟩⟩), decide_eq_true rfl]
        exact iteF ⟨_, _, _, _, _, _, _, _, rfl, B6.same (s3.trans s4)⟩
      · have hn : ¬ ∀ os, Row n os → (PA os ↔ PB os) := fun g => hab (@decide_eq_true _ (Classical.propDecidable _) fun os r => (g os r).mp)
        refine ⟨rfl, _, rfl, ?_⟩
        rw [@decide_eq_false _ (Classical.propDecidable _) hn, decide_eq_true rfl]
        exact iteF ⟨_, _, _, _, _, _, _, _, rfl, B6.same s3⟩
  · obtain ⟨u2, u3, u4, u5, u6, u7, u8, u9, rfl, B2⟩ := h
    exact q H2
theorem main  {aZERO : Addr} {aONE : Addr} {aVowError : Addr} {aInvalidLevels : Addr} {aInvalidStair : Addr} {aInvalidRow : Addr} {aLevelsDiffer : Addr} {aMeaning : Addr} {f_Meaning_init : Addr} {p_Meaning_always : Addr} {f_Meaning_always : Addr} {p_Meaning_never : Addr} {f_Meaning_never : Addr} {p_Meaning_levels : Addr} {f_Meaning_levels : Addr} {f_Meaning_stair : Addr} {f_Meaning_least : Addr} {f_Meaning_lies_in : Addr} {f_Meaning_add : Addr} {f_Meaning_mul : Addr} {f_Meaning_neg : Addr} {f_Meaning_contains : Addr} {f_Meaning_bool : Addr} {f_Meaning_eq : Addr} {f_Meaning_repr : Addr} (T : Txt K mg  aZERO aONE aVowError aInvalidLevels aInvalidStair aInvalidRow aLevelsDiffer aMeaning f_Meaning_init p_Meaning_always f_Meaning_always p_Meaning_never f_Meaning_never p_Meaning_levels f_Meaning_levels f_Meaning_stair f_Meaning_least f_Meaning_lies_in f_Meaning_add f_Meaning_mul f_Meaning_neg f_Meaning_contains f_Meaning_bool f_Meaning_eq f_Meaning_repr) {fd_Meaning_init : FuncData} (F_Meaning_init : Fun K "__init__" "Meaning.__init__" sMeaning_init f_Meaning_init fd_Meaning_init) (b_Meaning_init : Binds K fd_Meaning_init ["self", "levels", "stair"] [])
    {fd_Meaning_always : FuncData} (F_Meaning_always : Fun K "always" "Meaning.always" sMeaning_always f_Meaning_always fd_Meaning_always) (b_Meaning_always : Binds K fd_Meaning_always ["cls", "levels"] [])
    {fd_Meaning_never : FuncData} (F_Meaning_never : Fun K "never" "Meaning.never" sMeaning_never f_Meaning_never fd_Meaning_never) (b_Meaning_never : Binds K fd_Meaning_never ["cls", "levels"] [])
    {fd_Meaning_levels : FuncData} (F_Meaning_levels : Fun K "levels" "Meaning.levels" sMeaning_levels f_Meaning_levels fd_Meaning_levels) (b_Meaning_levels : Binds K fd_Meaning_levels ["self"] [])
    {fd_Meaning_stair : FuncData} (F_Meaning_stair : Fun K "stair" "Meaning.stair" sMeaning_stair f_Meaning_stair fd_Meaning_stair) (b_Meaning_stair : Binds K fd_Meaning_stair ["self"] [])
    {fd_Meaning_least : FuncData} (F_Meaning_least : Fun K "least" "Meaning.least" sMeaning_least f_Meaning_least fd_Meaning_least) (b_Meaning_least : Binds K fd_Meaning_least ["self"] [])
    {fd_Meaning_lies_in : FuncData} (F_Meaning_lies_in : Fun K "lies_in" "Meaning.lies_in" sMeaning_lies_in f_Meaning_lies_in fd_Meaning_lies_in) (b_Meaning_lies_in : Binds K fd_Meaning_lies_in ["self", "other"] [])
    {fd_Meaning_add : FuncData} (F_Meaning_add : Fun K "__add__" "Meaning.__add__" sMeaning_add f_Meaning_add fd_Meaning_add) (b_Meaning_add : Binds K fd_Meaning_add ["self", "other"] [])
    {fd_Meaning_mul : FuncData} (F_Meaning_mul : Fun K "__mul__" "Meaning.__mul__" sMeaning_mul f_Meaning_mul fd_Meaning_mul) (b_Meaning_mul : Binds K fd_Meaning_mul ["self", "other"] [])
    {fd_Meaning_neg : FuncData} (F_Meaning_neg : Fun K "__neg__" "Meaning.__neg__" sMeaning_neg f_Meaning_neg fd_Meaning_neg) (b_Meaning_neg : Binds K fd_Meaning_neg ["self"] [])
    {fd_Meaning_contains : FuncData} (F_Meaning_contains : Fun K "__contains__" "Meaning.__contains__" sMeaning_contains f_Meaning_contains fd_Meaning_contains) (b_Meaning_contains : Binds K fd_Meaning_contains ["self", "row"] [])
    {fd_Meaning_bool : FuncData} (F_Meaning_bool : Fun K "__bool__" "Meaning.__bool__" sMeaning_bool f_Meaning_bool fd_Meaning_bool) (b_Meaning_bool : Binds K fd_Meaning_bool ["self"] [])
    {fd_Meaning_eq : FuncData} (F_Meaning_eq : Fun K "__eq__" "Meaning.__eq__" sMeaning_eq f_Meaning_eq fd_Meaning_eq) (b_Meaning_eq : Binds K fd_Meaning_eq ["self", "other"] [])
    {fd_Meaning_repr : FuncData} (F_Meaning_repr : Fun K "__repr__" "Meaning.__repr__" sMeaning_repr f_Meaning_repr fd_Meaning_repr) (b_Meaning_repr : Binds K fd_Meaning_repr ["self"] [])
    {f_is_ordinal : Addr} {fd_is_ordinal : FuncData} (F_is_ordinal : Fun K "is_ordinal" "is_ordinal" sis_ordinal f_is_ordinal fd_is_ordinal) (b_is_ordinal : Binds K fd_is_ordinal ["value"] []) (m_is_ordinal : mg "is_ordinal" = some (.ref f_is_ordinal))
    {f__is_term : Addr} {fd__is_term : FuncData} (F__is_term : Fun K "_is_term" "_is_term" s_is_term f__is_term fd__is_term) (b__is_term : Binds K fd__is_term ["value"] []) (m__is_term : mg "_is_term" = some (.ref f__is_term))
    {f__is_count : Addr} {fd__is_count : FuncData} (F__is_count : Fun K "_is_count" "_is_count" s_is_count f__is_count fd__is_count) (b__is_count : Binds K fd__is_count ["value"] []) (m__is_count : mg "_is_count" = some (.ref f__is_count))
    {f_plus : Addr} {fd_plus : FuncData} (F_plus : Fun K "plus" "plus" splus f_plus fd_plus) (b_plus : Binds K fd_plus ["one", "other"] []) (m_plus : mg "plus" = some (.ref f_plus))
    {f_successor : Addr} {fd_successor : FuncData} (F_successor : Fun K "successor" "successor" ssuccessor f_successor fd_successor) (b_successor : Binds K fd_successor ["ordinal"] []) (m_successor : mg "successor" = some (.ref f_successor))
    {f_end_of : Addr} {fd_end_of : FuncData} (F_end_of : Fun K "end_of" "end_of" send_of f_end_of fd_end_of) (b_end_of : Binds K fd_end_of ["ordinal"] []) (m_end_of : mg "end_of" = some (.ref f_end_of))
    {f_raised : Addr} {fd_raised : FuncData} (F_raised : Fun K "raised" "raised" sraised f_raised fd_raised) (b_raised : Binds K fd_raised ["ordinal", "end"] []) (m_raised : mg "raised" = some (.ref f_raised))
    {f_end_limit : Addr} {fd_end_limit : FuncData} (F_end_limit : Fun K "end_limit" "end_limit" send_limit f_end_limit fd_end_limit) (b_end_limit : Binds K fd_end_limit ["low", "behind"] []) (m_end_limit : mg "end_limit" = some (.ref f_end_limit))
    {f__gap : Addr} {fd__gap : FuncData} (F__gap : Fun K "_gap" "_gap" s_gap f__gap fd__gap) (b__gap : Binds K fd__gap ["low", "behind"] []) (m__gap : mg "_gap" = some (.ref f__gap))
    {f_check_levels : Addr} {fd_check_levels : FuncData} (F_check_levels : Fun K "check_levels" "check_levels" scheck_levels f_check_levels fd_check_levels) (b_check_levels : Binds K fd_check_levels ["levels"] []) (m_check_levels : mg "check_levels" = some (.ref f_check_levels))
    {f_is_stair : Addr} {fd_is_stair : FuncData} (F_is_stair : Fun K "is_stair" "is_stair" sis_stair f_is_stair fd_is_stair) (b_is_stair : Binds K fd_is_stair ["levels", "value"] []) (m_is_stair : mg "is_stair" = some (.ref f_is_stair))
    {f__is_step : Addr} {fd__is_step : FuncData} (F__is_step : Fun K "_is_step" "_is_step" s_is_step f__is_step fd__is_step) (b__is_step : Binds K fd__is_step ["levels", "value"] []) (m__is_step : mg "_is_step" = some (.ref f__is_step))
    {f_check_stair : Addr} {fd_check_stair : FuncData} (F_check_stair : Fun K "check_stair" "check_stair" scheck_stair f_check_stair fd_check_stair) (b_check_stair : Binds K fd_check_stair ["levels", "value"] []) (m_check_stair : mg "check_stair" = some (.ref f_check_stair))
    {f_value_at : Addr} {fd_value_at : FuncData} (F_value_at : Fun K "value_at" "value_at" svalue_at f_value_at fd_value_at) (b_value_at : Binds K fd_value_at ["stair", "row"] []) (m_value_at : mg "value_at" = some (.ref f_value_at))
    {f_inner_at : Addr} {fd_inner_at : FuncData} (F_inner_at : Fun K "inner_at" "inner_at" sinner_at f_inner_at fd_inner_at) (b_inner_at : Binds K fd_inner_at ["stair", "ordinal"] []) (m_inner_at : mg "inner_at" = some (.ref f_inner_at))
    {f_flat_stair : Addr} {fd_flat_stair : FuncData} (F_flat_stair : Fun K "flat_stair" "flat_stair" sflat_stair f_flat_stair fd_flat_stair) (b_flat_stair : Binds K fd_flat_stair ["levels", "value"] []) (m_flat_stair : mg "flat_stair" = some (.ref f_flat_stair))
    {f_turned : Addr} {fd_turned : FuncData} (F_turned : Fun K "turned" "turned" sturned f_turned fd_turned) (b_turned : Binds K fd_turned ["stair"] []) (m_turned : mg "turned" = some (.ref f_turned))
    {f_joined : Addr} {fd_joined : FuncData} (F_joined : Fun K "joined" "joined" sjoined f_joined fd_joined) (b_joined : Binds K fd_joined ["one", "other"] []) (m_joined : mg "joined" = some (.ref f_joined))
    {f_met : Addr} {fd_met : FuncData} (F_met : Fun K "met" "met" smet f_met fd_met) (b_met : Binds K fd_met ["one", "other"] []) (m_met : mg "met" = some (.ref f_met))
    {f__paired : Addr} {fd__paired : FuncData} (F__paired : Fun K "_paired" "_paired" s_paired f__paired fd__paired) (b__paired : Binds K fd__paired ["one", "other"] []) (m__paired : mg "_paired" = some (.ref f__paired))
    {f_reached : Addr} {fd_reached : FuncData} (F_reached : Fun K "reached" "reached" sreached f_reached fd_reached) (b_reached : Binds K fd_reached ["begin", "rest"] []) (m_reached : mg "reached" = some (.ref f_reached))
    {f_parting : Addr} {fd_parting : FuncData} (F_parting : Fun K "parting" "parting" sparting f_parting fd_parting) (b_parting : Binds K fd_parting ["one", "other"] []) (m_parting : mg "parting" = some (.ref f_parting))
    {f_least_missing : Addr} {fd_least_missing : FuncData} (F_least_missing : Fun K "least_missing" "least_missing" sleast_missing f_least_missing fd_least_missing) (b_least_missing : Binds K fd_least_missing ["levels", "stair"] []) (m_least_missing : mg "least_missing" = some (.ref f_least_missing))
    {f_tidy : Addr} {fd_tidy : FuncData} (F_tidy : Fun K "tidy" "tidy" stidy f_tidy fd_tidy) (b_tidy : Binds K fd_tidy ["stair"] []) (m_tidy : mg "tidy" = some (.ref f_tidy))
    {f__tidy_before : Addr} {fd__tidy_before : FuncData} (F__tidy_before : Fun K "_tidy_before" "_tidy_before" s_tidy_before f__tidy_before fd__tidy_before) (b__tidy_before : Binds K fd__tidy_before ["stair", "limit"] []) (m__tidy_before : mg "_tidy_before" = some (.ref f__tidy_before))
    {f__tidy_step : Addr} {fd__tidy_step : FuncData} (F__tidy_step : Fun K "_tidy_step" "_tidy_step" s_tidy_step f__tidy_step fd__tidy_step) (b__tidy_step : Binds K fd__tidy_step ["steps", "at", "limit"] []) (m__tidy_step : mg "_tidy_step" = some (.ref f__tidy_step))
    {f__behind : Addr} {fd__behind : FuncData} (F__behind : Fun K "_behind" "_behind" s_behind f__behind fd__behind) (b__behind : Binds K fd__behind ["steps", "at", "limit"] []) (m__behind : mg "_behind" = some (.ref f__behind))
    {f__longest : Addr} {fd__longest : FuncData} (F__longest : Fun K "_longest" "_longest" s_longest f__longest fd__longest) (b__longest : Binds K fd__longest ["stair", "limit"] []) (m__longest : mg "_longest" = some (.ref f__longest))
    {f__conflict : Addr} {fd__conflict : FuncData} (F__conflict : Fun K "_conflict" "_conflict" s_conflict f__conflict fd__conflict) (b__conflict : Binds K fd__conflict ["before", "inner", "bound", "begin"] []) (m__conflict : mg "_conflict" = some (.ref f__conflict))
    {f__spliced : Addr} {fd__spliced : FuncData} (F__spliced : Fun K "_spliced" "_spliced" s_spliced f__spliced fd__spliced) (b__spliced : Binds K fd__spliced ["before", "inner", "bound"] []) (m__spliced : mg "_spliced" = some (.ref f__spliced))
    {f__check_alike : Addr} {fd__check_alike : FuncData} (F__check_alike : Fun K "_check_alike" "_check_alike" s_check_alike f__check_alike fd__check_alike) (b__check_alike : Binds K fd__check_alike ["one", "other"] []) (m__check_alike : mg "_check_alike" = some (.ref f__check_alike))
    {f__law_bag : Addr} {fd__law_bag : FuncData} (F__law_bag : Fun K "_law_bag" "_law_bag" s_law_bag f__law_bag fd__law_bag) (b__law_bag : Binds K fd__law_bag ["_law_script"] []) (m__law_bag : mg "_law_bag" = some (.ref f__law_bag))
    {f__law_pull : Addr} {fd__law_pull : FuncData} (F__law_pull : Fun K "_law_pull" "_law_pull" s_law_pull f__law_pull fd__law_pull) (b__law_pull : Binds K fd__law_pull ["_law_bag_here", "_law_sides"] []) (m__law_pull : mg "_law_pull" = some (.ref f__law_pull))
    {f__law_same : Addr} {fd__law_same : FuncData} (F__law_same : Fun K "_law_same" "_law_same" s_law_same f__law_same fd__law_same) (b__law_same : Binds K fd__law_same ["_law_found", "_law_due"] []) (m__law_same : mg "_law_same" = some (.ref f__law_same))
    {f__law_num : Addr} {fd__law_num : FuncData} (F__law_num : Fun K "_law_num" "_law_num" s_law_num f__law_num fd__law_num) (b__law_num : Binds K fd__law_num ["_law_many_z"] []) (m__law_num : mg "_law_num" = some (.ref f__law_num))
    {f__law_ordinal : Addr} {fd__law_ordinal : FuncData} (F__law_ordinal : Fun K "_law_ordinal" "_law_ordinal" s_law_ordinal f__law_ordinal fd__law_ordinal) (b__law_ordinal : Binds K fd__law_ordinal ["_law_bag_here", "_law_deep"] []) (m__law_ordinal : mg "_law_ordinal" = some (.ref f__law_ordinal))
    {f__law_steps : Addr} {fd__law_steps : FuncData} (F__law_steps : Fun K "_law_steps" "_law_steps" s_law_steps f__law_steps fd__law_steps) (b__law_steps : Binds K fd__law_steps ["_law_bag_here", "_law_deep"] []) (m__law_steps : mg "_law_steps" = some (.ref f__law_steps))
    {f__law_stair : Addr} {fd__law_stair : FuncData} (F__law_stair : Fun K "_law_stair" "_law_stair" s_law_stair f__law_stair fd__law_stair) (b__law_stair : Binds K fd__law_stair ["_law_bag_here", "_law_many_z"] []) (m__law_stair : mg "_law_stair" = some (.ref f__law_stair))
    {f__law_made : Addr} {fd__law_made : FuncData} (F__law_made : Fun K "_law_made" "_law_made" s_law_made f__law_made fd__law_made) (b__law_made : Binds K fd__law_made ["_law_bag_here", "_law_many_z"] []) (m__law_made : mg "_law_made" = some (.ref f__law_made))
    {f_law : Addr} {fd_law : FuncData} (F_law : Fun K "law" "law" slaw f_law fd_law) (b_law : Binds K fd_law ["_law_script"] []) (m_law : mg "law" = some (.ref f_law))
    {f_omega_power : Addr} {fd_omega_power : FuncData} (F_omega_power : FunD K "omega_power" "omega_power" (defArgs somega_power) (defBody somega_power) (defScope somega_power) [] [("times", .int 1)] f_omega_power fd_omega_power) (m_omega_power : mg "omega_power" = some (.ref f_omega_power))
    {f_either : Addr} {fd_either : FuncData} (F_either : FunD K "either" "either" (defArgs seither) (defBody seither) (defScope seither) [] [("levels", .int 1)] f_either fd_either) (m_either : mg "either" = some (.ref f_either))
    {f_both : Addr} {fd_both : FuncData} (F_both : FunD K "both" "both" (defArgs sboth) (defBody sboth) (defScope sboth) [] [("levels", .int 1)] f_both fd_both) (m_both : mg "both" = some (.ref f_both)) : FnOk P w K mg base CX0 146 f_law fd_law ["_law_script"] (spLaw K) := by
  have C1 : Cal P w K mg base 1 "_law_pull" ["_law_bag_here", "_law_sides"] spPull _ _ := ⟨ok_pull T F__law_pull, m__law_pull, F__law_pull.kp, b__law_pull⟩
  have C2 : Cal P w K mg base 1 "_law_num" ["_law_many_z"] (spNum K) _ _ := ⟨ok_num T F__law_num, m__law_num, F__law_num.kp, b__law_num⟩
  have C3 : Cal P w K mg base 12 "_law_ordinal" ["_law_bag_here", "_law_deep"] (spOrdTo K 10) _ _ := ⟨fn_some fun d hd => fn_mono (ord_all T F__law_ordinal b__law_ordinal m__law_ordinal C1 C2 d hd) (by omega), m__law_ordinal, F__law_ordinal.kp, b__law_ordinal⟩
  have C7 : Cal P w K mg base 13 "_law_steps" ["_law_bag_here", "_law_deep"] (spSteps K) _ _ := ⟨ok_lsteps T F__law_steps C1 C3, m__law_steps, F__law_steps.kp, b__law_steps⟩
  have D1 : Cal P w K mg base 1 "plus" ["one", "other"] (spPlus K) _ _ := ⟨ok_plus T F_plus, m_plus, F_plus.kp, b_plus⟩
  have D2 : Cal P w K mg base 1 "end_of" ["ordinal"] (spO1 K endO) _ _ := ⟨ok_end_of T F_end_of, m_end_of, F_end_of.kp, b_end_of⟩
  obtain ⟨ds, hd, bd⟩ := power_binds F_omega_power
  have D3 : Cal P w K mg base 2 "raised" ["ordinal", "end"] (spO2 K O.raisedO) _ _ := ⟨ok_raised T F_raised D1 D2 (ok_power T F_omega_power) m_omega_power F_omega_power.kp hd bd, m_raised, F_raised.kp, b_raised⟩
  have D4 : Cal P w K mg base 3 "end_limit" ["low", "behind"] (spLim K O.endLim) _ _ := ⟨ok_limit T F_end_limit ⟨ok_successor T F_successor D1, m_successor, F_successor.kp, b_successor⟩ D2 ⟨ok_gap T F__gap, m__gap, F__gap.kp, b__gap⟩ (ok_power T F_omega_power) m_omega_power F_omega_power.kp hd bd, m_end_limit, F_end_limit.kp, b_end_limit⟩
  have D5 : Cal P w K mg base 3 "reached" ["begin", "rest"] (spReach K) _ _ := ⟨ok_reached T F_reached D3, m_reached, F_reached.kp, b_reached⟩
  have D6 : Cal P w K mg base 1 "_behind" ["steps", "at", "limit"] (spBeh K) _ _ := ⟨ok_behind T F__behind, m__behind, F__behind.kp, b__behind⟩
  have D7 : Cal P w K mg base 1 "_paired" ["one", "other"] (spPair K) _ _ := ⟨ok_paired T F__paired, m__paired, F__paired.kp, b__paired⟩
  have D8 : Cal P w K mg base 8 "parting" ["one", "other"] (spPart K 5) _ _ := ⟨part_all T F_parting b_parting m_parting D7 D5 5, m_parting, F_parting.kp, b_parting⟩
  have D9 : Cal P w K mg base 9 "_conflict" ["before", "inner", "bound", "begin"] (spConf K 5) _ _ := ⟨ok_conflict (k := 5) T F__conflict D8 D5, m__conflict, F__conflict.kp, b__conflict⟩
  have D10 : Cal P w K mg base 1 "inner_at" ["stair", "ordinal"] (spPickW K) _ _ := ⟨ok_inner_atW T F_inner_at, m_inner_at, F_inner_at.kp, b_inner_at⟩
  have D11 : Cal P w K mg base 2 "_spliced" ["before", "inner", "bound"] (spSpl K) _ _ := ⟨ok_spliced T F__spliced D10, m__spliced, F__spliced.kp, b__spliced⟩
  have D12 : Cal P w K mg base 10 "_longest" ["stair", "limit"] (spLong K 5) _ _ := ⟨ok_longest (k := 5) T F__longest D4 D9 D6 D11, m__longest, F__longest.kp, b__longest⟩
  have D13 : Cal P w K mg base 18 "_tidy_before" ["stair", "limit"] (spTidyB K 4) _ _ := ⟨tidyb_all T F__tidy_before b__tidy_before m__tidy_before F__tidy_step b__tidy_step m__tidy_step D4 D6 D12 4, m__tidy_before, F__tidy_before.kp, b__tidy_before⟩
  have D15 : Cal P w K mg base 1 "_is_count" ["value"] (spCnt K) _ _ := ⟨ok_cnt T F__is_count, m__is_count, F__is_count.kp, b__is_count⟩
  have D16 : Cal P w K mg base 121 "is_ordinal" ["value"] (spIsOrd K 60) _ _ := ⟨isord_all T F_is_ordinal b_is_ordinal m_is_ordinal F__is_term b__is_term m__is_term D15 60 (Nat.le_refl _), m_is_ordinal, F_is_ordinal.kp, b_is_ordinal⟩
  have D17 : Cal P w K mg base 130 "is_stair" ["levels", "value"] (spIsSt K 4) _ _ := ⟨is_stair_all T F_is_stair b_is_stair m_is_stair F__is_step b__is_step m__is_step D16 4, m_is_stair, F_is_stair.kp, b_is_stair⟩
  have G1 := ok_Meaning_init (k := 131) T F_Meaning_init ⟨fn_mono (ok_check_levels (k := 0) T F_check_levels) (by decide), m_check_levels, F_check_levels.kp, b_check_levels⟩ ⟨ok_check_stair0 (k := 130) T F_check_stair D17, m_check_stair, F_check_stair.kp, b_check_stair⟩ ⟨fn_mono (ok_tidy T F_tidy D13) (by decide), m_tidy, F_tidy.kp, b_tidy⟩
  have D18 : Cal P w K mg base 1 "flat_stair" ["levels", "value"] (spFlatP K) _ _ := ⟨ok_flat_stair (k := 0) T F_flat_stair, m_flat_stair, F_flat_stair.kp, b_flat_stair⟩
  have D19 : Cal P w K mg base 9 "least_missing" ["levels", "stair"] (spMiss K) _ _ := ⟨ok_least_missing (k := 8) T F_least_missing D8 (D18.mono (by decide)), m_least_missing, F_least_missing.kp, b_least_missing⟩
  have D21 : Cal P w K mg base 3 "_check_alike" ["one", "other"] (spAlk K aMeaning) _ _ := ⟨ok_check_alike (k := 1) T F__check_alike (ok_Meaning_levels (k := 0) T F_Meaning_levels) b_Meaning_levels, m__check_alike, F__check_alike.kp, b__check_alike⟩
  have D23 : Cal P w K mg base 4 "turned" ["stair"] (spTurn K 4) _ _ := ⟨turn_all T F_turned b_turned m_turned 4, m_turned, F_turned.kp, b_turned⟩
  have D24 : Cal P w K mg base 5 "joined" ["one", "other"] (spJnd K 4) _ _ := ⟨jnd_all T F_joined b_joined m_joined D7 4, m_joined, F_joined.kp, b_joined⟩
  have D25 : Cal P w K mg base 6 "met" ["one", "other"] (spMet K 4) _ _ := ⟨ok_met (k := 5) T F_met (D23.mono (by decide)) D24, m_met, F_met.kp, b_met⟩
  have D26 : Cal P w K mg base 1 "check_levels" ["levels"] spChkLev _ _ := ⟨ok_check_levels (k := 0) T F_check_levels, m_check_levels, F_check_levels.kp, b_check_levels⟩
  have GA := ok_Meaning_add (k := 132) T F_Meaning_add (D21.mono (by decide)) (D24.mono (by decide)) G1 b_Meaning_init
  have GM := ok_Meaning_mul (k := 132) T F_Meaning_mul (D21.mono (by decide)) (D25.mono (by decide)) G1 b_Meaning_init
  have GW := ok_Meaning_always (k := 132) T F_Meaning_always (D26.mono (by decide)) (D18.mono (by decide)) G1 b_Meaning_init
  have GN := ok_Meaning_never (k := 132) T F_Meaning_never (D26.mono (by decide)) (D18.mono (by decide)) G1 b_Meaning_init
  exact ok_law T F_law ⟨ok_bag T F__law_bag, m__law_bag, F__law_bag.kp, b__law_bag⟩ C1
    ⟨fn_mono (ok_lmade (k := 132) T F__law_made ⟨fn_mono (stair_all T F__law_stair b__law_stair m__law_stair C1 C7 4) (by decide), m__law_stair, F__law_stair.kp, b__law_stair⟩ G1 b_Meaning_init) (by decide), m__law_made, F__law_made.kp, b__law_made⟩
    ⟨same_all T F__law_same b__law_same m__law_same 40, m__law_same, F__law_same.kp, b__law_same⟩
    (fn_mono (ok_Meaning_neg (k := 132) T F_Meaning_neg (D23.mono (by decide)) G1 b_Meaning_init) (by decide)) b_Meaning_neg
    (fn_mono GA (by decide)) b_Meaning_add
    (fn_mono GM (by decide)) b_Meaning_mul
    (fn_mono (ok_Meaning_stair (k := 0) T F_Meaning_stair) (by decide)) b_Meaning_stair
    (fn_mono (ok_Meaning_lies_in (k := 9) T F_Meaning_lies_in D19 (D21.mono (by decide)) (D24.mono (by decide)) (D23.mono (by decide))) (by decide)) b_Meaning_lies_in
    (fn_mono GN (by decide)) b_Meaning_never (fn_mono GW (by decide)) b_Meaning_always
    (fn_mono (ok_Meaning_eq2 (k := 0) T F_Meaning_eq) (by decide)) b_Meaning_eq
    ((ok_either (k := 134) T F_either GA b_Meaning_add GN b_Meaning_never).mono (by decide)) F_either.kp m_either
    ((ok_both (k := 134) T F_both GM b_Meaning_mul GW b_Meaning_always).mono (by decide)) F_both.kp m_both
end
end Vw

namespace Vw
open PySem PySem.W PyProof.Rows L2
theorem all_mk {l : PySem.W.OpenLaw} {w : World} {K : PySem.W.Frag} {h : Heap} {mg : Str → Option Value} {fa : Addr} (X : K.In h) (G : h.Ns mainGlobals mg) (hfa : mg "law" = some (.ref fa))
    {aVowError : Addr} (ac_VowError : PySem.W.nsIn K mainGlobals "VowError" = some (some (.ref aVowError)))
    {aInvalidLevels : Addr} (ac_InvalidLevels : PySem.W.nsIn K mainGlobals "InvalidLevels" = some (some (.ref aInvalidLevels)))
    {aInvalidStair : Addr} (ac_InvalidStair : PySem.W.nsIn K mainGlobals "InvalidStair" = some (some (.ref aInvalidStair)))
    {aInvalidRow : Addr} (ac_InvalidRow : PySem.W.nsIn K mainGlobals "InvalidRow" = some (some (.ref aInvalidRow)))
    {aLevelsDiffer : Addr} (ac_LevelsDiffer : PySem.W.nsIn K mainGlobals "LevelsDiffer" = some (some (.ref aLevelsDiffer)))
    {aMeaning : Addr} (ac_Meaning : PySem.W.nsIn K mainGlobals "Meaning" = some (some (.ref aMeaning)))
    (hn1 : PySem.W.specialIn K (.builtin "object.__class__") "__get__" = some (some (.builtin "getset_descriptor.__get__"))) (ht1 : PySem.W.takesIn K (.builtin "object.__class__") = some true)
    {f_Meaning_init : Addr} (pg_Meaning : PySem.W.plainGet K aMeaning Str.empty = true) (hdp_Meaning : PySem.W.hasDictIn K aMeaning = true) (po_Meaning : PySem.W.plainOver K aMeaning = true) (sap_Meaning : PySem.W.findIn K (.ref aMeaning) "__setattr__" = some (some (.builtin "object.__setattr__")))
    (mk_Meaning : PySem.W.makesIn K aMeaning = true) (mi_Meaning : PySem.W.findIn K (.ref aMeaning) "__init__" = some (some (.ref f_Meaning_init))) (fnI_Meaning : PySem.W.isFn K (.ref f_Meaning_init) = true) (kpC_Meaning : PySem.W.keepIn K (.ref aMeaning) = true)
    (sf_Meaning : PySem.W.selfFirst K aMeaning = true) (nf_Meaning : PySem.W.notFirst K aMeaning (.ref aMeaning) = true)
    (hap_Meaning : PySem.W.findIn K (.ref aMeaning) "__class__" = some (some (.builtin "object.__class__"))) (hmp_Meaning : PySem.W.mroIn K aMeaning (.type "object") = some true)
    (ne_Meaning : PySem.W.findIn K (.ref aMeaning) "__ne__" = some (some (.builtin "object.__ne__")))
    (na_Meaning__levels : NoAttr K aMeaning "_levels") (na_Meaning__stair : NoAttr K aMeaning "_stair") (kt_Meaning_Meaning : PySem.W.kitOne K (.ref aMeaning) (.ref aMeaning) = some true)
    (rdp_Meaning : PySem.W.readsIn K aMeaning (.type "type") = true) (sgp_Meaning : PySem.W.specialIn K (.ref aMeaning) "__getattribute__" = some (some (.builtin "type.__getattribute__")))
    {od_Meaning_init an_Meaning_init : Option Addr} {sl_Meaning_init : Array (Option Value)} {oc_Meaning_init kV_Meaning_init dc_Meaning_init pm_Meaning_init cd_Meaning_init ct_Meaning_init : Value}
    (l_Meaning_init : K.lookup f_Meaning_init = some ⟨oc_Meaning_init, od_Meaning_init, .func (PySem.W.fnOf "__init__" "Meaning.__init__" (defArgs sMeaning_init) (defBody sMeaning_init) (defScope sMeaning_init) .none kV_Meaning_init dc_Meaning_init pm_Meaning_init an_Meaning_init cd_Meaning_init ct_Meaning_init), sl_Meaning_init⟩) (c_Meaning_init : PySem.W.codeIn K cd_Meaning_init "Meaning.__init__" = true) (k_Meaning_init : PySem.W.keepIn K (.ref f_Meaning_init) = true)
    {p_Meaning_always f_Meaning_always : Addr} {rs_Meaning_always : List Value} (at_Meaning_always : PySem.W.findCls K (.ref aMeaning) (.type "type") "always" = some (.get (.builtin "classmethod.__get__") (.ref p_Meaning_always) .none (.ref aMeaning))) (rc_Meaning_always : PySem.W.recIn K p_Meaning_always "classmethod" = some (.ref f_Meaning_always :: rs_Meaning_always)) (fi_Meaning_always : PySem.W.fnIn K f_Meaning_always = true)
    {od_Meaning_always an_Meaning_always : Option Addr} {sl_Meaning_always : Array (Option Value)} {oc_Meaning_always kV_Meaning_always dc_Meaning_always pm_Meaning_always cd_Meaning_always ct_Meaning_always : Value}
    (l_Meaning_always : K.lookup f_Meaning_always = some ⟨oc_Meaning_always, od_Meaning_always, .func (PySem.W.fnOf "always" "Meaning.always" (defArgs sMeaning_always) (defBody sMeaning_always) (defScope sMeaning_always) .none kV_Meaning_always dc_Meaning_always pm_Meaning_always an_Meaning_always cd_Meaning_always ct_Meaning_always), sl_Meaning_always⟩) (c_Meaning_always : PySem.W.codeIn K cd_Meaning_always "Meaning.always" = true) (k_Meaning_always : PySem.W.keepIn K (.ref f_Meaning_always) = true)
    {p_Meaning_never f_Meaning_never : Addr} {rs_Meaning_never : List Value} (at_Meaning_never : PySem.W.findCls K (.ref aMeaning) (.type "type") "never" = some (.get (.builtin "classmethod.__get__") (.ref p_Meaning_never) .none (.ref aMeaning))) (rc_Meaning_never : PySem.W.recIn K p_Meaning_never "classmethod" = some (.ref f_Meaning_never :: rs_Meaning_never)) (fi_Meaning_never : PySem.W.fnIn K f_Meaning_never = true)
    {od_Meaning_never an_Meaning_never : Option Addr} {sl_Meaning_never : Array (Option Value)} {oc_Meaning_never kV_Meaning_never dc_Meaning_never pm_Meaning_never cd_Meaning_never ct_Meaning_never : Value}
    (l_Meaning_never : K.lookup f_Meaning_never = some ⟨oc_Meaning_never, od_Meaning_never, .func (PySem.W.fnOf "never" "Meaning.never" (defArgs sMeaning_never) (defBody sMeaning_never) (defScope sMeaning_never) .none kV_Meaning_never dc_Meaning_never pm_Meaning_never an_Meaning_never cd_Meaning_never ct_Meaning_never), sl_Meaning_never⟩) (c_Meaning_never : PySem.W.codeIn K cd_Meaning_never "Meaning.never" = true) (k_Meaning_never : PySem.W.keepIn K (.ref f_Meaning_never) = true)
    {p_Meaning_levels f_Meaning_levels : Addr} {rs_Meaning_levels : List Value} (at_Meaning_levels : PySem.W.findIn K (.ref aMeaning) "levels" = some (some (.ref p_Meaning_levels))) (gt_Meaning_levels : PySem.W.specialIn K (.ref p_Meaning_levels) "__get__" = some (some (.builtin "property.__get__"))) (tk_Meaning_levels : PySem.W.takesIn K (.ref p_Meaning_levels) = some true) (rc_Meaning_levels : PySem.W.recIn K p_Meaning_levels "property" = some (.ref f_Meaning_levels :: rs_Meaning_levels))
    {od_Meaning_levels an_Meaning_levels : Option Addr} {sl_Meaning_levels : Array (Option Value)} {oc_Meaning_levels kV_Meaning_levels dc_Meaning_levels pm_Meaning_levels cd_Meaning_levels ct_Meaning_levels : Value}
    (l_Meaning_levels : K.lookup f_Meaning_levels = some ⟨oc_Meaning_levels, od_Meaning_levels, .func (PySem.W.fnOf "levels" "Meaning.levels" (defArgs sMeaning_levels) (defBody sMeaning_levels) (defScope sMeaning_levels) .none kV_Meaning_levels dc_Meaning_levels pm_Meaning_levels an_Meaning_levels cd_Meaning_levels ct_Meaning_levels), sl_Meaning_levels⟩) (c_Meaning_levels : PySem.W.codeIn K cd_Meaning_levels "Meaning.levels" = true) (k_Meaning_levels : PySem.W.keepIn K (.ref f_Meaning_levels) = true)
    {f_Meaning_stair : Addr} (at_Meaning_stair : PySem.W.findIn K (.ref aMeaning) "stair" = some (some (.ref f_Meaning_stair))) (fn_Meaning_stair : PySem.W.isFn K (.ref f_Meaning_stair) = true)
    {od_Meaning_stair an_Meaning_stair : Option Addr} {sl_Meaning_stair : Array (Option Value)} {oc_Meaning_stair kV_Meaning_stair dc_Meaning_stair pm_Meaning_stair cd_Meaning_stair ct_Meaning_stair : Value}
    (l_Meaning_stair : K.lookup f_Meaning_stair = some ⟨oc_Meaning_stair, od_Meaning_stair, .func (PySem.W.fnOf "stair" "Meaning.stair" (defArgs sMeaning_stair) (defBody sMeaning_stair) (defScope sMeaning_stair) .none kV_Meaning_stair dc_Meaning_stair pm_Meaning_stair an_Meaning_stair cd_Meaning_stair ct_Meaning_stair), sl_Meaning_stair⟩) (c_Meaning_stair : PySem.W.codeIn K cd_Meaning_stair "Meaning.stair" = true) (k_Meaning_stair : PySem.W.keepIn K (.ref f_Meaning_stair) = true)
    {f_Meaning_least : Addr} (at_Meaning_least : PySem.W.findIn K (.ref aMeaning) "least" = some (some (.ref f_Meaning_least))) (fn_Meaning_least : PySem.W.isFn K (.ref f_Meaning_least) = true)
    {od_Meaning_least an_Meaning_least : Option Addr} {sl_Meaning_least : Array (Option Value)} {oc_Meaning_least kV_Meaning_least dc_Meaning_least pm_Meaning_least cd_Meaning_least ct_Meaning_least : Value}
    (l_Meaning_least : K.lookup f_Meaning_least = some ⟨oc_Meaning_least, od_Meaning_least, .func (PySem.W.fnOf "least" "Meaning.least" (defArgs sMeaning_least) (defBody sMeaning_least) (defScope sMeaning_least) .none kV_Meaning_least dc_Meaning_least pm_Meaning_least an_Meaning_least cd_Meaning_least ct_Meaning_least), sl_Meaning_least⟩) (c_Meaning_least : PySem.W.codeIn K cd_Meaning_least "Meaning.least" = true) (k_Meaning_least : PySem.W.keepIn K (.ref f_Meaning_least) = true)
    {f_Meaning_lies_in : Addr} (at_Meaning_lies_in : PySem.W.findIn K (.ref aMeaning) "lies_in" = some (some (.ref f_Meaning_lies_in))) (fn_Meaning_lies_in : PySem.W.isFn K (.ref f_Meaning_lies_in) = true)
    {od_Meaning_lies_in an_Meaning_lies_in : Option Addr} {sl_Meaning_lies_in : Array (Option Value)} {oc_Meaning_lies_in kV_Meaning_lies_in dc_Meaning_lies_in pm_Meaning_lies_in cd_Meaning_lies_in ct_Meaning_lies_in : Value}
    (l_Meaning_lies_in : K.lookup f_Meaning_lies_in = some ⟨oc_Meaning_lies_in, od_Meaning_lies_in, .func (PySem.W.fnOf "lies_in" "Meaning.lies_in" (defArgs sMeaning_lies_in) (defBody sMeaning_lies_in) (defScope sMeaning_lies_in) .none kV_Meaning_lies_in dc_Meaning_lies_in pm_Meaning_lies_in an_Meaning_lies_in cd_Meaning_lies_in ct_Meaning_lies_in), sl_Meaning_lies_in⟩) (c_Meaning_lies_in : PySem.W.codeIn K cd_Meaning_lies_in "Meaning.lies_in" = true) (k_Meaning_lies_in : PySem.W.keepIn K (.ref f_Meaning_lies_in) = true)
    {f_Meaning_add : Addr} (at_Meaning_add : PySem.W.findIn K (.ref aMeaning) "__add__" = some (some (.ref f_Meaning_add))) (fn_Meaning_add : PySem.W.isFn K (.ref f_Meaning_add) = true)
    {od_Meaning_add an_Meaning_add : Option Addr} {sl_Meaning_add : Array (Option Value)} {oc_Meaning_add kV_Meaning_add dc_Meaning_add pm_Meaning_add cd_Meaning_add ct_Meaning_add : Value}
    (l_Meaning_add : K.lookup f_Meaning_add = some ⟨oc_Meaning_add, od_Meaning_add, .func (PySem.W.fnOf "__add__" "Meaning.__add__" (defArgs sMeaning_add) (defBody sMeaning_add) (defScope sMeaning_add) .none kV_Meaning_add dc_Meaning_add pm_Meaning_add an_Meaning_add cd_Meaning_add ct_Meaning_add), sl_Meaning_add⟩) (c_Meaning_add : PySem.W.codeIn K cd_Meaning_add "Meaning.__add__" = true) (k_Meaning_add : PySem.W.keepIn K (.ref f_Meaning_add) = true)
    {f_Meaning_mul : Addr} (at_Meaning_mul : PySem.W.findIn K (.ref aMeaning) "__mul__" = some (some (.ref f_Meaning_mul))) (fn_Meaning_mul : PySem.W.isFn K (.ref f_Meaning_mul) = true)
    {od_Meaning_mul an_Meaning_mul : Option Addr} {sl_Meaning_mul : Array (Option Value)} {oc_Meaning_mul kV_Meaning_mul dc_Meaning_mul pm_Meaning_mul cd_Meaning_mul ct_Meaning_mul : Value}
    (l_Meaning_mul : K.lookup f_Meaning_mul = some ⟨oc_Meaning_mul, od_Meaning_mul, .func (PySem.W.fnOf "__mul__" "Meaning.__mul__" (defArgs sMeaning_mul) (defBody sMeaning_mul) (defScope sMeaning_mul) .none kV_Meaning_mul dc_Meaning_mul pm_Meaning_mul an_Meaning_mul cd_Meaning_mul ct_Meaning_mul), sl_Meaning_mul⟩) (c_Meaning_mul : PySem.W.codeIn K cd_Meaning_mul "Meaning.__mul__" = true) (k_Meaning_mul : PySem.W.keepIn K (.ref f_Meaning_mul) = true)
    {f_Meaning_neg : Addr} (at_Meaning_neg : PySem.W.findIn K (.ref aMeaning) "__neg__" = some (some (.ref f_Meaning_neg))) (fn_Meaning_neg : PySem.W.isFn K (.ref f_Meaning_neg) = true)
    {od_Meaning_neg an_Meaning_neg : Option Addr} {sl_Meaning_neg : Array (Option Value)} {oc_Meaning_neg kV_Meaning_neg dc_Meaning_neg pm_Meaning_neg cd_Meaning_neg ct_Meaning_neg : Value}
    (l_Meaning_neg : K.lookup f_Meaning_neg = some ⟨oc_Meaning_neg, od_Meaning_neg, .func (PySem.W.fnOf "__neg__" "Meaning.__neg__" (defArgs sMeaning_neg) (defBody sMeaning_neg) (defScope sMeaning_neg) .none kV_Meaning_neg dc_Meaning_neg pm_Meaning_neg an_Meaning_neg cd_Meaning_neg ct_Meaning_neg), sl_Meaning_neg⟩) (c_Meaning_neg : PySem.W.codeIn K cd_Meaning_neg "Meaning.__neg__" = true) (k_Meaning_neg : PySem.W.keepIn K (.ref f_Meaning_neg) = true)
    {f_Meaning_contains : Addr} (at_Meaning_contains : PySem.W.findIn K (.ref aMeaning) "__contains__" = some (some (.ref f_Meaning_contains))) (fn_Meaning_contains : PySem.W.isFn K (.ref f_Meaning_contains) = true)
    {od_Meaning_contains an_Meaning_contains : Option Addr} {sl_Meaning_contains : Array (Option Value)} {oc_Meaning_contains kV_Meaning_contains dc_Meaning_contains pm_Meaning_contains cd_Meaning_contains ct_Meaning_contains : Value}
    (l_Meaning_contains : K.lookup f_Meaning_contains = some ⟨oc_Meaning_contains, od_Meaning_contains, .func (PySem.W.fnOf "__contains__" "Meaning.__contains__" (defArgs sMeaning_contains) (defBody sMeaning_contains) (defScope sMeaning_contains) .none kV_Meaning_contains dc_Meaning_contains pm_Meaning_contains an_Meaning_contains cd_Meaning_contains ct_Meaning_contains), sl_Meaning_contains⟩) (c_Meaning_contains : PySem.W.codeIn K cd_Meaning_contains "Meaning.__contains__" = true) (k_Meaning_contains : PySem.W.keepIn K (.ref f_Meaning_contains) = true)
    {f_Meaning_bool : Addr} (at_Meaning_bool : PySem.W.findIn K (.ref aMeaning) "__bool__" = some (some (.ref f_Meaning_bool))) (fn_Meaning_bool : PySem.W.isFn K (.ref f_Meaning_bool) = true)
    {od_Meaning_bool an_Meaning_bool : Option Addr} {sl_Meaning_bool : Array (Option Value)} {oc_Meaning_bool kV_Meaning_bool dc_Meaning_bool pm_Meaning_bool cd_Meaning_bool ct_Meaning_bool : Value}
    (l_Meaning_bool : K.lookup f_Meaning_bool = some ⟨oc_Meaning_bool, od_Meaning_bool, .func (PySem.W.fnOf "__bool__" "Meaning.__bool__" (defArgs sMeaning_bool) (defBody sMeaning_bool) (defScope sMeaning_bool) .none kV_Meaning_bool dc_Meaning_bool pm_Meaning_bool an_Meaning_bool cd_Meaning_bool ct_Meaning_bool), sl_Meaning_bool⟩) (c_Meaning_bool : PySem.W.codeIn K cd_Meaning_bool "Meaning.__bool__" = true) (k_Meaning_bool : PySem.W.keepIn K (.ref f_Meaning_bool) = true)
    {f_Meaning_eq : Addr} (at_Meaning_eq : PySem.W.findIn K (.ref aMeaning) "__eq__" = some (some (.ref f_Meaning_eq))) (fn_Meaning_eq : PySem.W.isFn K (.ref f_Meaning_eq) = true)
    {od_Meaning_eq an_Meaning_eq : Option Addr} {sl_Meaning_eq : Array (Option Value)} {oc_Meaning_eq kV_Meaning_eq dc_Meaning_eq pm_Meaning_eq cd_Meaning_eq ct_Meaning_eq : Value}
    (l_Meaning_eq : K.lookup f_Meaning_eq = some ⟨oc_Meaning_eq, od_Meaning_eq, .func (PySem.W.fnOf "__eq__" "Meaning.__eq__" (defArgs sMeaning_eq) (defBody sMeaning_eq) (defScope sMeaning_eq) .none kV_Meaning_eq dc_Meaning_eq pm_Meaning_eq an_Meaning_eq cd_Meaning_eq ct_Meaning_eq), sl_Meaning_eq⟩) (c_Meaning_eq : PySem.W.codeIn K cd_Meaning_eq "Meaning.__eq__" = true) (k_Meaning_eq : PySem.W.keepIn K (.ref f_Meaning_eq) = true)
    {f_Meaning_repr : Addr} (at_Meaning_repr : PySem.W.findIn K (.ref aMeaning) "__repr__" = some (some (.ref f_Meaning_repr))) (fn_Meaning_repr : PySem.W.isFn K (.ref f_Meaning_repr) = true)
    {od_Meaning_repr an_Meaning_repr : Option Addr} {sl_Meaning_repr : Array (Option Value)} {oc_Meaning_repr kV_Meaning_repr dc_Meaning_repr pm_Meaning_repr cd_Meaning_repr ct_Meaning_repr : Value}
    (l_Meaning_repr : K.lookup f_Meaning_repr = some ⟨oc_Meaning_repr, od_Meaning_repr, .func (PySem.W.fnOf "__repr__" "Meaning.__repr__" (defArgs sMeaning_repr) (defBody sMeaning_repr) (defScope sMeaning_repr) .none kV_Meaning_repr dc_Meaning_repr pm_Meaning_repr an_Meaning_repr cd_Meaning_repr ct_Meaning_repr), sl_Meaning_repr⟩) (c_Meaning_repr : PySem.W.codeIn K cd_Meaning_repr "Meaning.__repr__" = true) (k_Meaning_repr : PySem.W.keepIn K (.ref f_Meaning_repr) = true)
    {f_is_ordinal : Addr} {od_is_ordinal an_is_ordinal : Option Addr} {sl_is_ordinal : Array (Option Value)} {oc_is_ordinal kV_is_ordinal dc_is_ordinal pm_is_ordinal cd_is_ordinal ct_is_ordinal : Value}
    (a_is_ordinal : PySem.W.nsIn K mainGlobals "is_ordinal" = some (some (.ref f_is_ordinal))) (l_is_ordinal : K.lookup f_is_ordinal = some ⟨oc_is_ordinal, od_is_ordinal, .func (PySem.W.fnOf "is_ordinal" "is_ordinal" (defArgs sis_ordinal) (defBody sis_ordinal) (defScope sis_ordinal) .none kV_is_ordinal dc_is_ordinal pm_is_ordinal an_is_ordinal cd_is_ordinal ct_is_ordinal), sl_is_ordinal⟩) (c_is_ordinal : PySem.W.codeIn K cd_is_ordinal "is_ordinal" = true) (k_is_ordinal : PySem.W.keepIn K (.ref f_is_ordinal) = true)
    {f__is_term : Addr} {od__is_term an__is_term : Option Addr} {sl__is_term : Array (Option Value)} {oc__is_term kV__is_term dc__is_term pm__is_term cd__is_term ct__is_term : Value}
    (a__is_term : PySem.W.nsIn K mainGlobals "_is_term" = some (some (.ref f__is_term))) (l__is_term : K.lookup f__is_term = some ⟨oc__is_term, od__is_term, .func (PySem.W.fnOf "_is_term" "_is_term" (defArgs s_is_term) (defBody s_is_term) (defScope s_is_term) .none kV__is_term dc__is_term pm__is_term an__is_term cd__is_term ct__is_term), sl__is_term⟩) (c__is_term : PySem.W.codeIn K cd__is_term "_is_term" = true) (k__is_term : PySem.W.keepIn K (.ref f__is_term) = true)
    {f__is_count : Addr} {od__is_count an__is_count : Option Addr} {sl__is_count : Array (Option Value)} {oc__is_count kV__is_count dc__is_count pm__is_count cd__is_count ct__is_count : Value}
    (a__is_count : PySem.W.nsIn K mainGlobals "_is_count" = some (some (.ref f__is_count))) (l__is_count : K.lookup f__is_count = some ⟨oc__is_count, od__is_count, .func (PySem.W.fnOf "_is_count" "_is_count" (defArgs s_is_count) (defBody s_is_count) (defScope s_is_count) .none kV__is_count dc__is_count pm__is_count an__is_count cd__is_count ct__is_count), sl__is_count⟩) (c__is_count : PySem.W.codeIn K cd__is_count "_is_count" = true) (k__is_count : PySem.W.keepIn K (.ref f__is_count) = true)
    {f_plus : Addr} {od_plus an_plus : Option Addr} {sl_plus : Array (Option Value)} {oc_plus kV_plus dc_plus pm_plus cd_plus ct_plus : Value}
    (a_plus : PySem.W.nsIn K mainGlobals "plus" = some (some (.ref f_plus))) (l_plus : K.lookup f_plus = some ⟨oc_plus, od_plus, .func (PySem.W.fnOf "plus" "plus" (defArgs splus) (defBody splus) (defScope splus) .none kV_plus dc_plus pm_plus an_plus cd_plus ct_plus), sl_plus⟩) (c_plus : PySem.W.codeIn K cd_plus "plus" = true) (k_plus : PySem.W.keepIn K (.ref f_plus) = true)
    {f_successor : Addr} {od_successor an_successor : Option Addr} {sl_successor : Array (Option Value)} {oc_successor kV_successor dc_successor pm_successor cd_successor ct_successor : Value}
    (a_successor : PySem.W.nsIn K mainGlobals "successor" = some (some (.ref f_successor))) (l_successor : K.lookup f_successor = some ⟨oc_successor, od_successor, .func (PySem.W.fnOf "successor" "successor" (defArgs ssuccessor) (defBody ssuccessor) (defScope ssuccessor) .none kV_successor dc_successor pm_successor an_successor cd_successor ct_successor), sl_successor⟩) (c_successor : PySem.W.codeIn K cd_successor "successor" = true) (k_successor : PySem.W.keepIn K (.ref f_successor) = true)
    {f_end_of : Addr} {od_end_of an_end_of : Option Addr} {sl_end_of : Array (Option Value)} {oc_end_of kV_end_of dc_end_of pm_end_of cd_end_of ct_end_of : Value}
    (a_end_of : PySem.W.nsIn K mainGlobals "end_of" = some (some (.ref f_end_of))) (l_end_of : K.lookup f_end_of = some ⟨oc_end_of, od_end_of, .func (PySem.W.fnOf "end_of" "end_of" (defArgs send_of) (defBody send_of) (defScope send_of) .none kV_end_of dc_end_of pm_end_of an_end_of cd_end_of ct_end_of), sl_end_of⟩) (c_end_of : PySem.W.codeIn K cd_end_of "end_of" = true) (k_end_of : PySem.W.keepIn K (.ref f_end_of) = true)
    {f_raised : Addr} {od_raised an_raised : Option Addr} {sl_raised : Array (Option Value)} {oc_raised kV_raised dc_raised pm_raised cd_raised ct_raised : Value}
    (a_raised : PySem.W.nsIn K mainGlobals "raised" = some (some (.ref f_raised))) (l_raised : K.lookup f_raised = some ⟨oc_raised, od_raised, .func (PySem.W.fnOf "raised" "raised" (defArgs sraised) (defBody sraised) (defScope sraised) .none kV_raised dc_raised pm_raised an_raised cd_raised ct_raised), sl_raised⟩) (c_raised : PySem.W.codeIn K cd_raised "raised" = true) (k_raised : PySem.W.keepIn K (.ref f_raised) = true)
    {f_end_limit : Addr} {od_end_limit an_end_limit : Option Addr} {sl_end_limit : Array (Option Value)} {oc_end_limit kV_end_limit dc_end_limit pm_end_limit cd_end_limit ct_end_limit : Value}
    (a_end_limit : PySem.W.nsIn K mainGlobals "end_limit" = some (some (.ref f_end_limit))) (l_end_limit : K.lookup f_end_limit = some ⟨oc_end_limit, od_end_limit, .func (PySem.W.fnOf "end_limit" "end_limit" (defArgs send_limit) (defBody send_limit) (defScope send_limit) .none kV_end_limit dc_end_limit pm_end_limit an_end_limit cd_end_limit ct_end_limit), sl_end_limit⟩) (c_end_limit : PySem.W.codeIn K cd_end_limit "end_limit" = true) (k_end_limit : PySem.W.keepIn K (.ref f_end_limit) = true)
    {f__gap : Addr} {od__gap an__gap : Option Addr} {sl__gap : Array (Option Value)} {oc__gap kV__gap dc__gap pm__gap cd__gap ct__gap : Value}
    (a__gap : PySem.W.nsIn K mainGlobals "_gap" = some (some (.ref f__gap))) (l__gap : K.lookup f__gap = some ⟨oc__gap, od__gap, .func (PySem.W.fnOf "_gap" "_gap" (defArgs s_gap) (defBody s_gap) (defScope s_gap) .none kV__gap dc__gap pm__gap an__gap cd__gap ct__gap), sl__gap⟩) (c__gap : PySem.W.codeIn K cd__gap "_gap" = true) (k__gap : PySem.W.keepIn K (.ref f__gap) = true)
    {f_check_levels : Addr} {od_check_levels an_check_levels : Option Addr} {sl_check_levels : Array (Option Value)} {oc_check_levels kV_check_levels dc_check_levels pm_check_levels cd_check_levels ct_check_levels : Value}
    (a_check_levels : PySem.W.nsIn K mainGlobals "check_levels" = some (some (.ref f_check_levels))) (l_check_levels : K.lookup f_check_levels = some ⟨oc_check_levels, od_check_levels, .func (PySem.W.fnOf "check_levels" "check_levels" (defArgs scheck_levels) (defBody scheck_levels) (defScope scheck_levels) .none kV_check_levels dc_check_levels pm_check_levels an_check_levels cd_check_levels ct_check_levels), sl_check_levels⟩) (c_check_levels : PySem.W.codeIn K cd_check_levels "check_levels" = true) (k_check_levels : PySem.W.keepIn K (.ref f_check_levels) = true)
    {f_is_stair : Addr} {od_is_stair an_is_stair : Option Addr} {sl_is_stair : Array (Option Value)} {oc_is_stair kV_is_stair dc_is_stair pm_is_stair cd_is_stair ct_is_stair : Value}
    (a_is_stair : PySem.W.nsIn K mainGlobals "is_stair" = some (some (.ref f_is_stair))) (l_is_stair : K.lookup f_is_stair = some ⟨oc_is_stair, od_is_stair, .func (PySem.W.fnOf "is_stair" "is_stair" (defArgs sis_stair) (defBody sis_stair) (defScope sis_stair) .none kV_is_stair dc_is_stair pm_is_stair an_is_stair cd_is_stair ct_is_stair), sl_is_stair⟩) (c_is_stair : PySem.W.codeIn K cd_is_stair "is_stair" = true) (k_is_stair : PySem.W.keepIn K (.ref f_is_stair) = true)
    {f__is_step : Addr} {od__is_step an__is_step : Option Addr} {sl__is_step : Array (Option Value)} {oc__is_step kV__is_step dc__is_step pm__is_step cd__is_step ct__is_step : Value}
    (a__is_step : PySem.W.nsIn K mainGlobals "_is_step" = some (some (.ref f__is_step))) (l__is_step : K.lookup f__is_step = some ⟨oc__is_step, od__is_step, .func (PySem.W.fnOf "_is_step" "_is_step" (defArgs s_is_step) (defBody s_is_step) (defScope s_is_step) .none kV__is_step dc__is_step pm__is_step an__is_step cd__is_step ct__is_step), sl__is_step⟩) (c__is_step : PySem.W.codeIn K cd__is_step "_is_step" = true) (k__is_step : PySem.W.keepIn K (.ref f__is_step) = true)
    {f_check_stair : Addr} {od_check_stair an_check_stair : Option Addr} {sl_check_stair : Array (Option Value)} {oc_check_stair kV_check_stair dc_check_stair pm_check_stair cd_check_stair ct_check_stair : Value}
    (a_check_stair : PySem.W.nsIn K mainGlobals "check_stair" = some (some (.ref f_check_stair))) (l_check_stair : K.lookup f_check_stair = some ⟨oc_check_stair, od_check_stair, .func (PySem.W.fnOf "check_stair" "check_stair" (defArgs scheck_stair) (defBody scheck_stair) (defScope scheck_stair) .none kV_check_stair dc_check_stair pm_check_stair an_check_stair cd_check_stair ct_check_stair), sl_check_stair⟩) (c_check_stair : PySem.W.codeIn K cd_check_stair "check_stair" = true) (k_check_stair : PySem.W.keepIn K (.ref f_check_stair) = true)
    {f_value_at : Addr} {od_value_at an_value_at : Option Addr} {sl_value_at : Array (Option Value)} {oc_value_at kV_value_at dc_value_at pm_value_at cd_value_at ct_value_at : Value}
    (a_value_at : PySem.W.nsIn K mainGlobals "value_at" = some (some (.ref f_value_at))) (l_value_at : K.lookup f_value_at = some ⟨oc_value_at, od_value_at, .func (PySem.W.fnOf "value_at" "value_at" (defArgs svalue_at) (defBody svalue_at) (defScope svalue_at) .none kV_value_at dc_value_at pm_value_at an_value_at cd_value_at ct_value_at), sl_value_at⟩) (c_value_at : PySem.W.codeIn K cd_value_at "value_at" = true) (k_value_at : PySem.W.keepIn K (.ref f_value_at) = true)
    {f_inner_at : Addr} {od_inner_at an_inner_at : Option Addr} {sl_inner_at : Array (Option Value)} {oc_inner_at kV_inner_at dc_inner_at pm_inner_at cd_inner_at ct_inner_at : Value}
    (a_inner_at : PySem.W.nsIn K mainGlobals "inner_at" = some (some (.ref f_inner_at))) (l_inner_at : K.lookup f_inner_at = some ⟨oc_inner_at, od_inner_at, .func (PySem.W.fnOf "inner_at" "inner_at" (defArgs sinner_at) (defBody sinner_at) (defScope sinner_at) .none kV_inner_at dc_inner_at pm_inner_at an_inner_at cd_inner_at ct_inner_at), sl_inner_at⟩) (c_inner_at : PySem.W.codeIn K cd_inner_at "inner_at" = true) (k_inner_at : PySem.W.keepIn K (.ref f_inner_at) = true)
    {f_flat_stair : Addr} {od_flat_stair an_flat_stair : Option Addr} {sl_flat_stair : Array (Option Value)} {oc_flat_stair kV_flat_stair dc_flat_stair pm_flat_stair cd_flat_stair ct_flat_stair : Value}
    (a_flat_stair : PySem.W.nsIn K mainGlobals "flat_stair" = some (some (.ref f_flat_stair))) (l_flat_stair : K.lookup f_flat_stair = some ⟨oc_flat_stair, od_flat_stair, .func (PySem.W.fnOf "flat_stair" "flat_stair" (defArgs sflat_stair) (defBody sflat_stair) (defScope sflat_stair) .none kV_flat_stair dc_flat_stair pm_flat_stair an_flat_stair cd_flat_stair ct_flat_stair), sl_flat_stair⟩) (c_flat_stair : PySem.W.codeIn K cd_flat_stair "flat_stair" = true) (k_flat_stair : PySem.W.keepIn K (.ref f_flat_stair) = true)
    {f_turned : Addr} {od_turned an_turned : Option Addr} {sl_turned : Array (Option Value)} {oc_turned kV_turned dc_turned pm_turned cd_turned ct_turned : Value}
    (a_turned : PySem.W.nsIn K mainGlobals "turned" = some (some (.ref f_turned))) (l_turned : K.lookup f_turned = some ⟨oc_turned, od_turned, .func (PySem.W.fnOf "turned" "turned" (defArgs sturned) (defBody sturned) (defScope sturned) .none kV_turned dc_turned pm_turned an_turned cd_turned ct_turned), sl_turned⟩) (c_turned : PySem.W.codeIn K cd_turned "turned" = true) (k_turned : PySem.W.keepIn K (.ref f_turned) = true)
    {f_joined : Addr} {od_joined an_joined : Option Addr} {sl_joined : Array (Option Value)} {oc_joined kV_joined dc_joined pm_joined cd_joined ct_joined : Value}
    (a_joined : PySem.W.nsIn K mainGlobals "joined" = some (some (.ref f_joined))) (l_joined : K.lookup f_joined = some ⟨oc_joined, od_joined, .func (PySem.W.fnOf "joined" "joined" (defArgs sjoined) (defBody sjoined) (defScope sjoined) .none kV_joined dc_joined pm_joined an_joined cd_joined ct_joined), sl_joined⟩) (c_joined : PySem.W.codeIn K cd_joined "joined" = true) (k_joined : PySem.W.keepIn K (.ref f_joined) = true)
    {f_met : Addr} {od_met an_met : Option Addr} {sl_met : Array (Option Value)} {oc_met kV_met dc_met pm_met cd_met ct_met : Value}
    (a_met : PySem.W.nsIn K mainGlobals "met" = some (some (.ref f_met))) (l_met : K.lookup f_met = some ⟨oc_met, od_met, .func (PySem.W.fnOf "met" "met" (defArgs smet) (defBody smet) (defScope smet) .none kV_met dc_met pm_met an_met cd_met ct_met), sl_met⟩) (c_met : PySem.W.codeIn K cd_met "met" = true) (k_met : PySem.W.keepIn K (.ref f_met) = true)
    {f__paired : Addr} {od__paired an__paired : Option Addr} {sl__paired : Array (Option Value)} {oc__paired kV__paired dc__paired pm__paired cd__paired ct__paired : Value}
    (a__paired : PySem.W.nsIn K mainGlobals "_paired" = some (some (.ref f__paired))) (l__paired : K.lookup f__paired = some ⟨oc__paired, od__paired, .func (PySem.W.fnOf "_paired" "_paired" (defArgs s_paired) (defBody s_paired) (defScope s_paired) .none kV__paired dc__paired pm__paired an__paired cd__paired ct__paired), sl__paired⟩) (c__paired : PySem.W.codeIn K cd__paired "_paired" = true) (k__paired : PySem.W.keepIn K (.ref f__paired) = true)
    {f_reached : Addr} {od_reached an_reached : Option Addr} {sl_reached : Array (Option Value)} {oc_reached kV_reached dc_reached pm_reached cd_reached ct_reached : Value}
    (a_reached : PySem.W.nsIn K mainGlobals "reached" = some (some (.ref f_reached))) (l_reached : K.lookup f_reached = some ⟨oc_reached, od_reached, .func (PySem.W.fnOf "reached" "reached" (defArgs sreached) (defBody sreached) (defScope sreached) .none kV_reached dc_reached pm_reached an_reached cd_reached ct_reached), sl_reached⟩) (c_reached : PySem.W.codeIn K cd_reached "reached" = true) (k_reached : PySem.W.keepIn K (.ref f_reached) = true)
    {f_parting : Addr} {od_parting an_parting : Option Addr} {sl_parting : Array (Option Value)} {oc_parting kV_parting dc_parting pm_parting cd_parting ct_parting : Value}
    (a_parting : PySem.W.nsIn K mainGlobals "parting" = some (some (.ref f_parting))) (l_parting : K.lookup f_parting = some ⟨oc_parting, od_parting, .func (PySem.W.fnOf "parting" "parting" (defArgs sparting) (defBody sparting) (defScope sparting) .none kV_parting dc_parting pm_parting an_parting cd_parting ct_parting), sl_parting⟩) (c_parting : PySem.W.codeIn K cd_parting "parting" = true) (k_parting : PySem.W.keepIn K (.ref f_parting) = true)
    {f_least_missing : Addr} {od_least_missing an_least_missing : Option Addr} {sl_least_missing : Array (Option Value)} {oc_least_missing kV_least_missing dc_least_missing pm_least_missing cd_least_missing ct_least_missing : Value}
    (a_least_missing : PySem.W.nsIn K mainGlobals "least_missing" = some (some (.ref f_least_missing))) (l_least_missing : K.lookup f_least_missing = some ⟨oc_least_missing, od_least_missing, .func (PySem.W.fnOf "least_missing" "least_missing" (defArgs sleast_missing) (defBody sleast_missing) (defScope sleast_missing) .none kV_least_missing dc_least_missing pm_least_missing an_least_missing cd_least_missing ct_least_missing), sl_least_missing⟩) (c_least_missing : PySem.W.codeIn K cd_least_missing "least_missing" = true) (k_least_missing : PySem.W.keepIn K (.ref f_least_missing) = true)
    {f_tidy : Addr} {od_tidy an_tidy : Option Addr} {sl_tidy : Array (Option Value)} {oc_tidy kV_tidy dc_tidy pm_tidy cd_tidy ct_tidy : Value}
    (a_tidy : PySem.W.nsIn K mainGlobals "tidy" = some (some (.ref f_tidy))) (l_tidy : K.lookup f_tidy = some ⟨oc_tidy, od_tidy, .func (PySem.W.fnOf "tidy" "tidy" (defArgs stidy) (defBody stidy) (defScope stidy) .none kV_tidy dc_tidy pm_tidy an_tidy cd_tidy ct_tidy), sl_tidy⟩) (c_tidy : PySem.W.codeIn K cd_tidy "tidy" = true) (k_tidy : PySem.W.keepIn K (.ref f_tidy) = true)
    {f__tidy_before : Addr} {od__tidy_before an__tidy_before : Option Addr} {sl__tidy_before : Array (Option Value)} {oc__tidy_before kV__tidy_before dc__tidy_before pm__tidy_before cd__tidy_before ct__tidy_before : Value}
    (a__tidy_before : PySem.W.nsIn K mainGlobals "_tidy_before" = some (some (.ref f__tidy_before))) (l__tidy_before : K.lookup f__tidy_before = some ⟨oc__tidy_before, od__tidy_before, .func (PySem.W.fnOf "_tidy_before" "_tidy_before" (defArgs s_tidy_before) (defBody s_tidy_before) (defScope s_tidy_before) .none kV__tidy_before dc__tidy_before pm__tidy_before an__tidy_before cd__tidy_before ct__tidy_before), sl__tidy_before⟩) (c__tidy_before : PySem.W.codeIn K cd__tidy_before "_tidy_before" = true) (k__tidy_before : PySem.W.keepIn K (.ref f__tidy_before) = true)
    {f__tidy_step : Addr} {od__tidy_step an__tidy_step : Option Addr} {sl__tidy_step : Array (Option Value)} {oc__tidy_step kV__tidy_step dc__tidy_step pm__tidy_step cd__tidy_step ct__tidy_step : Value}
    (a__tidy_step : PySem.W.nsIn K mainGlobals "_tidy_step" = some (some (.ref f__tidy_step))) (l__tidy_step : K.lookup f__tidy_step = some ⟨oc__tidy_step, od__tidy_step, .func (PySem.W.fnOf "_tidy_step" "_tidy_step" (defArgs s_tidy_step) (defBody s_tidy_step) (defScope s_tidy_step) .none kV__tidy_step dc__tidy_step pm__tidy_step an__tidy_step cd__tidy_step ct__tidy_step), sl__tidy_step⟩) (c__tidy_step : PySem.W.codeIn K cd__tidy_step "_tidy_step" = true) (k__tidy_step : PySem.W.keepIn K (.ref f__tidy_step) = true)
    {f__behind : Addr} {od__behind an__behind : Option Addr} {sl__behind : Array (Option Value)} {oc__behind kV__behind dc__behind pm__behind cd__behind ct__behind : Value}
    (a__behind : PySem.W.nsIn K mainGlobals "_behind" = some (some (.ref f__behind))) (l__behind : K.lookup f__behind = some ⟨oc__behind, od__behind, .func (PySem.W.fnOf "_behind" "_behind" (defArgs s_behind) (defBody s_behind) (defScope s_behind) .none kV__behind dc__behind pm__behind an__behind cd__behind ct__behind), sl__behind⟩) (c__behind : PySem.W.codeIn K cd__behind "_behind" = true) (k__behind : PySem.W.keepIn K (.ref f__behind) = true)
    {f__longest : Addr} {od__longest an__longest : Option Addr} {sl__longest : Array (Option Value)} {oc__longest kV__longest dc__longest pm__longest cd__longest ct__longest : Value}
    (a__longest : PySem.W.nsIn K mainGlobals "_longest" = some (some (.ref f__longest))) (l__longest : K.lookup f__longest = some ⟨oc__longest, od__longest, .func (PySem.W.fnOf "_longest" "_longest" (defArgs s_longest) (defBody s_longest) (defScope s_longest) .none kV__longest dc__longest pm__longest an__longest cd__longest ct__longest), sl__longest⟩) (c__longest : PySem.W.codeIn K cd__longest "_longest" = true) (k__longest : PySem.W.keepIn K (.ref f__longest) = true)
    {f__conflict : Addr} {od__conflict an__conflict : Option Addr} {sl__conflict : Array (Option Value)} {oc__conflict kV__conflict dc__conflict pm__conflict cd__conflict ct__conflict : Value}
    (a__conflict : PySem.W.nsIn K mainGlobals "_conflict" = some (some (.ref f__conflict))) (l__conflict : K.lookup f__conflict = some ⟨oc__conflict, od__conflict, .func (PySem.W.fnOf "_conflict" "_conflict" (defArgs s_conflict) (defBody s_conflict) (defScope s_conflict) .none kV__conflict dc__conflict pm__conflict an__conflict cd__conflict ct__conflict), sl__conflict⟩) (c__conflict : PySem.W.codeIn K cd__conflict "_conflict" = true) (k__conflict : PySem.W.keepIn K (.ref f__conflict) = true)
    {f__spliced : Addr} {od__spliced an__spliced : Option Addr} {sl__spliced : Array (Option Value)} {oc__spliced kV__spliced dc__spliced pm__spliced cd__spliced ct__spliced : Value}
    (a__spliced : PySem.W.nsIn K mainGlobals "_spliced" = some (some (.ref f__spliced))) (l__spliced : K.lookup f__spliced = some ⟨oc__spliced, od__spliced, .func (PySem.W.fnOf "_spliced" "_spliced" (defArgs s_spliced) (defBody s_spliced) (defScope s_spliced) .none kV__spliced dc__spliced pm__spliced an__spliced cd__spliced ct__spliced), sl__spliced⟩) (c__spliced : PySem.W.codeIn K cd__spliced "_spliced" = true) (k__spliced : PySem.W.keepIn K (.ref f__spliced) = true)
    {f__check_alike : Addr} {od__check_alike an__check_alike : Option Addr} {sl__check_alike : Array (Option Value)} {oc__check_alike kV__check_alike dc__check_alike pm__check_alike cd__check_alike ct__check_alike : Value}
    (a__check_alike : PySem.W.nsIn K mainGlobals "_check_alike" = some (some (.ref f__check_alike))) (l__check_alike : K.lookup f__check_alike = some ⟨oc__check_alike, od__check_alike, .func (PySem.W.fnOf "_check_alike" "_check_alike" (defArgs s_check_alike) (defBody s_check_alike) (defScope s_check_alike) .none kV__check_alike dc__check_alike pm__check_alike an__check_alike cd__check_alike ct__check_alike), sl__check_alike⟩) (c__check_alike : PySem.W.codeIn K cd__check_alike "_check_alike" = true) (k__check_alike : PySem.W.keepIn K (.ref f__check_alike) = true)
    {f__law_bag : Addr} {od__law_bag an__law_bag : Option Addr} {sl__law_bag : Array (Option Value)} {oc__law_bag kV__law_bag dc__law_bag pm__law_bag cd__law_bag ct__law_bag : Value}
    (a__law_bag : PySem.W.nsIn K mainGlobals "_law_bag" = some (some (.ref f__law_bag))) (l__law_bag : K.lookup f__law_bag = some ⟨oc__law_bag, od__law_bag, .func (PySem.W.fnOf "_law_bag" "_law_bag" (defArgs s_law_bag) (defBody s_law_bag) (defScope s_law_bag) .none kV__law_bag dc__law_bag pm__law_bag an__law_bag cd__law_bag ct__law_bag), sl__law_bag⟩) (c__law_bag : PySem.W.codeIn K cd__law_bag "_law_bag" = true) (k__law_bag : PySem.W.keepIn K (.ref f__law_bag) = true)
    {f__law_pull : Addr} {od__law_pull an__law_pull : Option Addr} {sl__law_pull : Array (Option Value)} {oc__law_pull kV__law_pull dc__law_pull pm__law_pull cd__law_pull ct__law_pull : Value}
    (a__law_pull : PySem.W.nsIn K mainGlobals "_law_pull" = some (some (.ref f__law_pull))) (l__law_pull : K.lookup f__law_pull = some ⟨oc__law_pull, od__law_pull, .func (PySem.W.fnOf "_law_pull" "_law_pull" (defArgs s_law_pull) (defBody s_law_pull) (defScope s_law_pull) .none kV__law_pull dc__law_pull pm__law_pull an__law_pull cd__law_pull ct__law_pull), sl__law_pull⟩) (c__law_pull : PySem.W.codeIn K cd__law_pull "_law_pull" = true) (k__law_pull : PySem.W.keepIn K (.ref f__law_pull) = true)
    {f__law_same : Addr} {od__law_same an__law_same : Option Addr} {sl__law_same : Array (Option Value)} {oc__law_same kV__law_same dc__law_same pm__law_same cd__law_same ct__law_same : Value}
    (a__law_same : PySem.W.nsIn K mainGlobals "_law_same" = some (some (.ref f__law_same))) (l__law_same : K.lookup f__law_same = some ⟨oc__law_same, od__law_same, .func (PySem.W.fnOf "_law_same" "_law_same" (defArgs s_law_same) (defBody s_law_same) (defScope s_law_same) .none kV__law_same dc__law_same pm__law_same an__law_same cd__law_same ct__law_same), sl__law_same⟩) (c__law_same : PySem.W.codeIn K cd__law_same "_law_same" = true) (k__law_same : PySem.W.keepIn K (.ref f__law_same) = true)
    {f__law_num : Addr} {od__law_num an__law_num : Option Addr} {sl__law_num : Array (Option Value)} {oc__law_num kV__law_num dc__law_num pm__law_num cd__law_num ct__law_num : Value}
    (a__law_num : PySem.W.nsIn K mainGlobals "_law_num" = some (some (.ref f__law_num))) (l__law_num : K.lookup f__law_num = some ⟨oc__law_num, od__law_num, .func (PySem.W.fnOf "_law_num" "_law_num" (defArgs s_law_num) (defBody s_law_num) (defScope s_law_num) .none kV__law_num dc__law_num pm__law_num an__law_num cd__law_num ct__law_num), sl__law_num⟩) (c__law_num : PySem.W.codeIn K cd__law_num "_law_num" = true) (k__law_num : PySem.W.keepIn K (.ref f__law_num) = true)
    {f__law_ordinal : Addr} {od__law_ordinal an__law_ordinal : Option Addr} {sl__law_ordinal : Array (Option Value)} {oc__law_ordinal kV__law_ordinal dc__law_ordinal pm__law_ordinal cd__law_ordinal ct__law_ordinal : Value}
    (a__law_ordinal : PySem.W.nsIn K mainGlobals "_law_ordinal" = some (some (.ref f__law_ordinal))) (l__law_ordinal : K.lookup f__law_ordinal = some ⟨oc__law_ordinal, od__law_ordinal, .func (PySem.W.fnOf "_law_ordinal" "_law_ordinal" (defArgs s_law_ordinal) (defBody s_law_ordinal) (defScope s_law_ordinal) .none kV__law_ordinal dc__law_ordinal pm__law_ordinal an__law_ordinal cd__law_ordinal ct__law_ordinal), sl__law_ordinal⟩) (c__law_ordinal : PySem.W.codeIn K cd__law_ordinal "_law_ordinal" = true) (k__law_ordinal : PySem.W.keepIn K (.ref f__law_ordinal) = true)
    {f__law_steps : Addr} {od__law_steps an__law_steps : Option Addr} {sl__law_steps : Array (Option Value)} {oc__law_steps kV__law_steps dc__law_steps pm__law_steps cd__law_steps ct__law_steps : Value}
    (a__law_steps : PySem.W.nsIn K mainGlobals "_law_steps" = some (some (.ref f__law_steps))) (l__law_steps : K.lookup f__law_steps = some ⟨oc__law_steps, od__law_steps, .func (PySem.W.fnOf "_law_steps" "_law_steps" (defArgs s_law_steps) (defBody s_law_steps) (defScope s_law_steps) .none kV__law_steps dc__law_steps pm__law_steps an__law_steps cd__law_steps ct__law_steps), sl__law_steps⟩) (c__law_steps : PySem.W.codeIn K cd__law_steps "_law_steps" = true) (k__law_steps : PySem.W.keepIn K (.ref f__law_steps) = true)
    {f__law_stair : Addr} {od__law_stair an__law_stair : Option Addr} {sl__law_stair : Array (Option Value)} {oc__law_stair kV__law_stair dc__law_stair pm__law_stair cd__law_stair ct__law_stair : Value}
    (a__law_stair : PySem.W.nsIn K mainGlobals "_law_stair" = some (some (.ref f__law_stair))) (l__law_stair : K.lookup f__law_stair = some ⟨oc__law_stair, od__law_stair, .func (PySem.W.fnOf "_law_stair" "_law_stair" (defArgs s_law_stair) (defBody s_law_stair) (defScope s_law_stair) .none kV__law_stair dc__law_stair pm__law_stair an__law_stair cd__law_stair ct__law_stair), sl__law_stair⟩) (c__law_stair : PySem.W.codeIn K cd__law_stair "_law_stair" = true) (k__law_stair : PySem.W.keepIn K (.ref f__law_stair) = true)
    {f__law_made : Addr} {od__law_made an__law_made : Option Addr} {sl__law_made : Array (Option Value)} {oc__law_made kV__law_made dc__law_made pm__law_made cd__law_made ct__law_made : Value}
    (a__law_made : PySem.W.nsIn K mainGlobals "_law_made" = some (some (.ref f__law_made))) (l__law_made : K.lookup f__law_made = some ⟨oc__law_made, od__law_made, .func (PySem.W.fnOf "_law_made" "_law_made" (defArgs s_law_made) (defBody s_law_made) (defScope s_law_made) .none kV__law_made dc__law_made pm__law_made an__law_made cd__law_made ct__law_made), sl__law_made⟩) (c__law_made : PySem.W.codeIn K cd__law_made "_law_made" = true) (k__law_made : PySem.W.keepIn K (.ref f__law_made) = true)
    {f_law : Addr} {od_law an_law : Option Addr} {sl_law : Array (Option Value)} {oc_law kV_law dc_law pm_law cd_law ct_law : Value}
    (a_law : PySem.W.nsIn K mainGlobals "law" = some (some (.ref f_law))) (l_law : K.lookup f_law = some ⟨oc_law, od_law, .func (PySem.W.fnOf "law" "law" (defArgs slaw) (defBody slaw) (defScope slaw) .none kV_law dc_law pm_law an_law cd_law ct_law), sl_law⟩) (c_law : PySem.W.codeIn K cd_law "law" = true) (k_law : PySem.W.keepIn K (.ref f_law) = true)
    {f_omega_power D_omega_power : Addr} {od_omega_power an_omega_power : Option Addr} {sl_omega_power : Array (Option Value)} {oc_omega_power dc_omega_power pm_omega_power cd_omega_power ct_omega_power : Value} {tk_omega_power : Tok}
    (a_omega_power : PySem.W.nsIn K mainGlobals "omega_power" = some (some (.ref f_omega_power))) (l_omega_power : K.lookup f_omega_power = some ⟨oc_omega_power, od_omega_power, .func (PySem.W.fnOf "omega_power" "omega_power" (defArgs somega_power) (defBody somega_power) (defScope somega_power) .none (.ref D_omega_power) dc_omega_power pm_omega_power an_omega_power cd_omega_power ct_omega_power), sl_omega_power⟩) (c_omega_power : PySem.W.codeIn K cd_omega_power "omega_power" = true) (k_omega_power : PySem.W.keepIn K (.ref f_omega_power) = true) (w_omega_power : PySem.W.nsIn K D_omega_power "times" = some (some (.int 1 tk_omega_power)))
    {f_either D_either : Addr} {od_either an_either : Option Addr} {sl_either : Array (Option Value)} {oc_either dc_either pm_either cd_either ct_either : Value} {tk_either : Tok}
    (a_either : PySem.W.nsIn K mainGlobals "either" = some (some (.ref f_either))) (l_either : K.lookup f_either = some ⟨oc_either, od_either, .func (PySem.W.fnOf "either" "either" (defArgs seither) (defBody seither) (defScope seither) .none (.ref D_either) dc_either pm_either an_either cd_either ct_either), sl_either⟩) (c_either : PySem.W.codeIn K cd_either "either" = true) (k_either : PySem.W.keepIn K (.ref f_either) = true) (w_either : PySem.W.nsIn K D_either "levels" = some (some (.int 1 tk_either)))
    {f_both D_both : Addr} {od_both an_both : Option Addr} {sl_both : Array (Option Value)} {oc_both dc_both pm_both cd_both ct_both : Value} {tk_both : Tok}
    (a_both : PySem.W.nsIn K mainGlobals "both" = some (some (.ref f_both))) (l_both : K.lookup f_both = some ⟨oc_both, od_both, .func (PySem.W.fnOf "both" "both" (defArgs sboth) (defBody sboth) (defScope sboth) .none (.ref D_both) dc_both pm_both an_both cd_both ct_both), sl_both⟩) (c_both : PySem.W.codeIn K cd_both "both" = true) (k_both : PySem.W.keepIn K (.ref f_both) = true) (w_both : PySem.W.nsIn K D_both "levels" = some (some (.int 1 tk_both)))
    (z_len : PySem.W.nsIn K mainGlobals "len" = some none)
    (z_range : PySem.W.nsIn K mainGlobals "range" = some none)
    (z_enumerate : PySem.W.nsIn K mainGlobals "enumerate" = some none)
    (z_isinstance : PySem.W.nsIn K mainGlobals "isinstance" = some none)
    (z_int : PySem.W.nsIn K mainGlobals "int" = some none)
    (z_list : PySem.W.nsIn K mainGlobals "list" = some none)
    (z_tuple : PySem.W.nsIn K mainGlobals "tuple" = some none)
    (z_str : PySem.W.nsIn K mainGlobals "str" = some none)
    (z_bool : PySem.W.nsIn K mainGlobals "bool" = some none)
    (z_all : PySem.W.nsIn K mainGlobals "all" = some none)
    (z_sum : PySem.W.nsIn K mainGlobals "sum" = some none)
    (z_sorted : PySem.W.nsIn K mainGlobals "sorted" = some none)
    (z_max : PySem.W.nsIn K mainGlobals "max" = some none)
    (z_ValueError : PySem.W.nsIn K mainGlobals "ValueError" = some none)
    {aZERO : Addr} (ac_ZERO : PySem.W.nsIn K mainGlobals "ZERO" = some (some (.ref aZERO)))
    {oz1 : Option Addr} {nz1 : Nat} {sz1 : Array (Option Value)} (lz1 : K.lookup aZERO = some ⟨.type "tuple", oz1, .seq #[] nz1, sz1⟩)
    {aONE : Addr} (ac_ONE : PySem.W.nsIn K mainGlobals "ONE" = some (some (.ref aONE)))
    {p1 q1 : Addr} {tk1 : Tok} {o1 o2 o3 : Option Addr} {n1 n2 n3 : Nat} {sl1 sl2 sl3 : Array (Option Value)} (lo1 : K.lookup aONE = some ⟨.type "tuple", o1, .seq #[.ref p1] n1, sl1⟩) (lo2 : K.lookup p1 = some ⟨.type "tuple", o2, .seq #[.ref q1, .int 1 tk1] n2, sl2⟩) (lo3 : K.lookup q1 = some ⟨.type "tuple", o3, .seq #[] n3, sl3⟩)
    {tkMAX_LEVELS : Tok} (ac_MAX_LEVELS : PySem.W.nsIn K mainGlobals "MAX_LEVELS" = some (some (.int 3 tkMAX_LEVELS))) :
    ∃ fd : FuncData, (∀ (s : Shared) (v : Value), BindsTo s fd ⟨[v], []⟩ [("_law_script", v)]) ∧ ∀ base : Heap, K.In base → base.Ns mainGlobals mg → FnOk l.prog w K mg base CX0 146 fa fd ["_law_script"] (spLaw K) := by
  have e := hfa.symm.trans (PySem.W.mg_of X G a_law)
  cases e
  have F_Meaning_init := fun_mk (st := sMeaning_init) l_Meaning_init c_Meaning_init k_Meaning_init
  have b_Meaning_init := F_Meaning_init.binds (ps := ["self", "levels", "stair"]) fun _ _ _ _ _ _ us hl => match us, hl with | [_, _, _], _ => rfl
  have F_Meaning_always := fun_mk (st := sMeaning_always) l_Meaning_always c_Meaning_always k_Meaning_always
  have b_Meaning_always := F_Meaning_always.binds (ps := ["cls", "levels"]) fun _ _ _ _ _ _ us hl => match us, hl with | [_, _], _ => rfl
  have F_Meaning_never := fun_mk (st := sMeaning_never) l_Meaning_never c_Meaning_never k_Meaning_never
  have b_Meaning_never := F_Meaning_never.binds (ps := ["cls", "levels"]) fun _ _ _ _ _ _ us hl => match us, hl with | [_, _], _ => rfl
  have F_Meaning_levels := fun_mk (st := sMeaning_levels) l_Meaning_levels c_Meaning_levels k_Meaning_levels
  have b_Meaning_levels := F_Meaning_levels.binds (ps := ["self"]) fun _ _ _ _ _ _ us hl => match us, hl with | [_], _ => rfl
  have F_Meaning_stair := fun_mk (st := sMeaning_stair) l_Meaning_stair c_Meaning_stair k_Meaning_stair
  have b_Meaning_stair := F_Meaning_stair.binds (ps := ["self"]) fun _ _ _ _ _ _ us hl => match us, hl with | [_], _ => rfl
  have F_Meaning_least := fun_mk (st := sMeaning_least) l_Meaning_least c_Meaning_least k_Meaning_least
  have b_Meaning_least := F_Meaning_least.binds (ps := ["self"]) fun _ _ _ _ _ _ us hl => match us, hl with | [_], _ => rfl
  have F_Meaning_lies_in := fun_mk (st := sMeaning_lies_in) l_Meaning_lies_in c_Meaning_lies_in k_Meaning_lies_in
  have b_Meaning_lies_in := F_Meaning_lies_in.binds (ps := ["self", "other"]) fun _ _ _ _ _ _ us hl => match us, hl with | [_, _], _ => rfl
  have F_Meaning_add := fun_mk (st := sMeaning_add) l_Meaning_add c_Meaning_add k_Meaning_add
  have b_Meaning_add := F_Meaning_add.binds (ps := ["self", "other"]) fun _ _ _ _ _ _ us hl => match us, hl with | [_, _], _ => rfl
  have F_Meaning_mul := fun_mk (st := sMeaning_mul) l_Meaning_mul c_Meaning_mul k_Meaning_mul
  have b_Meaning_mul := F_Meaning_mul.binds (ps := ["self", "other"]) fun _ _ _ _ _ _ us hl => match us, hl with | [_, _], _ => rfl
  have F_Meaning_neg := fun_mk (st := sMeaning_neg) l_Meaning_neg c_Meaning_neg k_Meaning_neg
  have b_Meaning_neg := F_Meaning_neg.binds (ps := ["self"]) fun _ _ _ _ _ _ us hl => match us, hl with | [_], _ => rfl
  have F_Meaning_contains := fun_mk (st := sMeaning_contains) l_Meaning_contains c_Meaning_contains k_Meaning_contains
  have b_Meaning_contains := F_Meaning_contains.binds (ps := ["self", "row"]) fun _ _ _ _ _ _ us hl => match us, hl with | [_, _], _ => rfl
  have F_Meaning_bool := fun_mk (st := sMeaning_bool) l_Meaning_bool c_Meaning_bool k_Meaning_bool
  have b_Meaning_bool := F_Meaning_bool.binds (ps := ["self"]) fun _ _ _ _ _ _ us hl => match us, hl with | [_], _ => rfl
  have F_Meaning_eq := fun_mk (st := sMeaning_eq) l_Meaning_eq c_Meaning_eq k_Meaning_eq
  have b_Meaning_eq := F_Meaning_eq.binds (ps := ["self", "other"]) fun _ _ _ _ _ _ us hl => match us, hl with | [_, _], _ => rfl
  have F_Meaning_repr := fun_mk (st := sMeaning_repr) l_Meaning_repr c_Meaning_repr k_Meaning_repr
  have b_Meaning_repr := F_Meaning_repr.binds (ps := ["self"]) fun _ _ _ _ _ _ us hl => match us, hl with | [_], _ => rfl
  have F_is_ordinal := fun_mk (st := sis_ordinal) l_is_ordinal c_is_ordinal k_is_ordinal
  have b_is_ordinal := F_is_ordinal.binds (ps := ["value"]) fun _ _ _ _ _ _ us hl => match us, hl with | [_], _ => rfl
  have m_is_ordinal := PySem.W.mg_of X G a_is_ordinal
  have F__is_term := fun_mk (st := s_is_term) l__is_term c__is_term k__is_term
  have b__is_term := F__is_term.binds (ps := ["value"]) fun _ _ _ _ _ _ us hl => match us, hl with | [_], _ => rfl
  have m__is_term := PySem.W.mg_of X G a__is_term
  have F__is_count := fun_mk (st := s_is_count) l__is_count c__is_count k__is_count
  have b__is_count := F__is_count.binds (ps := ["value"]) fun _ _ _ _ _ _ us hl => match us, hl with | [_], _ => rfl
  have m__is_count := PySem.W.mg_of X G a__is_count
  have F_plus := fun_mk (st := splus) l_plus c_plus k_plus
  have b_plus := F_plus.binds (ps := ["one", "other"]) fun _ _ _ _ _ _ us hl => match us, hl with | [_, _], _ => rfl
  have m_plus := PySem.W.mg_of X G a_plus
  have F_successor := fun_mk (st := ssuccessor) l_successor c_successor k_successor
  have b_successor := F_successor.binds (ps := ["ordinal"]) fun _ _ _ _ _ _ us hl => match us, hl with | [_], _ => rfl
  have m_successor := PySem.W.mg_of X G a_successor
  have F_end_of := fun_mk (st := send_of) l_end_of c_end_of k_end_of
  have b_end_of := F_end_of.binds (ps := ["ordinal"]) fun _ _ _ _ _ _ us hl => match us, hl with | [_], _ => rfl
  have m_end_of := PySem.W.mg_of X G a_end_of
  have F_raised := fun_mk (st := sraised) l_raised c_raised k_raised
  have b_raised := F_raised.binds (ps := ["ordinal", "end"]) fun _ _ _ _ _ _ us hl => match us, hl with | [_, _], _ => rfl
  have m_raised := PySem.W.mg_of X G a_raised
  have F_end_limit := fun_mk (st := send_limit) l_end_limit c_end_limit k_end_limit
  have b_end_limit := F_end_limit.binds (ps := ["low", "behind"]) fun _ _ _ _ _ _ us hl => match us, hl with | [_, _], _ => rfl
  have m_end_limit := PySem.W.mg_of X G a_end_limit
  have F__gap := fun_mk (st := s_gap) l__gap c__gap k__gap
  have b__gap := F__gap.binds (ps := ["low", "behind"]) fun _ _ _ _ _ _ us hl => match us, hl with | [_, _], _ => rfl
  have m__gap := PySem.W.mg_of X G a__gap
  have F_check_levels := fun_mk (st := scheck_levels) l_check_levels c_check_levels k_check_levels
  have b_check_levels := F_check_levels.binds (ps := ["levels"]) fun _ _ _ _ _ _ us hl => match us, hl with | [_], _ => rfl
  have m_check_levels := PySem.W.mg_of X G a_check_levels
  have F_is_stair := fun_mk (st := sis_stair) l_is_stair c_is_stair k_is_stair
  have b_is_stair := F_is_stair.binds (ps := ["levels", "value"]) fun _ _ _ _ _ _ us hl => match us, hl with | [_, _], _ => rfl
  have m_is_stair := PySem.W.mg_of X G a_is_stair
  have F__is_step := fun_mk (st := s_is_step) l__is_step c__is_step k__is_step
  have b__is_step := F__is_step.binds (ps := ["levels", "value"]) fun _ _ _ _ _ _ us hl => match us, hl with | [_, _], _ => rfl
  have m__is_step := PySem.W.mg_of X G a__is_step
  have F_check_stair := fun_mk (st := scheck_stair) l_check_stair c_check_stair k_check_stair
  have b_check_stair := F_check_stair.binds (ps := ["levels", "value"]) fun _ _ _ _ _ _ us hl => match us, hl with | [_, _], _ => rfl
  have m_check_stair := PySem.W.mg_of X G a_check_stair
  have F_value_at := fun_mk (st := svalue_at) l_value_at c_value_at k_value_at
  have b_value_at := F_value_at.binds (ps := ["stair", "row"]) fun _ _ _ _ _ _ us hl => match us, hl with | [_, _], _ => rfl
  have m_value_at := PySem.W.mg_of X G a_value_at
  have F_inner_at := fun_mk (st := sinner_at) l_inner_at c_inner_at k_inner_at
  have b_inner_at := F_inner_at.binds (ps := ["stair", "ordinal"]) fun _ _ _ _ _ _ us hl => match us, hl with | [_, _], _ => rfl
  have m_inner_at := PySem.W.mg_of X G a_inner_at
  have F_flat_stair := fun_mk (st := sflat_stair) l_flat_stair c_flat_stair k_flat_stair
  have b_flat_stair := F_flat_stair.binds (ps := ["levels", "value"]) fun _ _ _ _ _ _ us hl => match us, hl with | [_, _], _ => rfl
  have m_flat_stair := PySem.W.mg_of X G a_flat_stair
  have F_turned := fun_mk (st := sturned) l_turned c_turned k_turned
  have b_turned := F_turned.binds (ps := ["stair"]) fun _ _ _ _ _ _ us hl => match us, hl with | [_], _ => rfl
  have m_turned := PySem.W.mg_of X G a_turned
  have F_joined := fun_mk (st := sjoined) l_joined c_joined k_joined
  have b_joined := F_joined.binds (ps := ["one", "other"]) fun _ _ _ _ _ _ us hl => match us, hl with | [_, _], _ => rfl
  have m_joined := PySem.W.mg_of X G a_joined
  have F_met := fun_mk (st := smet) l_met c_met k_met
  have b_met := F_met.binds (ps := ["one", "other"]) fun _ _ _ _ _ _ us hl => match us, hl with | [_, _], _ => rfl
  have m_met := PySem.W.mg_of X G a_met
  have F__paired := fun_mk (st := s_paired) l__paired c__paired k__paired
  have b__paired := F__paired.binds (ps := ["one", "other"]) fun _ _ _ _ _ _ us hl => match us, hl with | [_, _], _ => rfl
  have m__paired := PySem.W.mg_of X G a__paired
  have F_reached := fun_mk (st := sreached) l_reached c_reached k_reached
  have b_reached := F_reached.binds (ps := ["begin", "rest"]) fun _ _ _ _ _ _ us hl => match us, hl with | [_, _], _ => rfl
  have m_reached := PySem.W.mg_of X G a_reached
  have F_parting := fun_mk (st := sparting) l_parting c_parting k_parting
  have b_parting := F_parting.binds (ps := ["one", "other"]) fun _ _ _ _ _ _ us hl => match us, hl with | [_, _], _ => rfl
  have m_parting := PySem.W.mg_of X G a_parting
  have F_least_missing := fun_mk (st := sleast_missing) l_least_missing c_least_missing k_least_missing
  have b_least_missing := F_least_missing.binds (ps := ["levels", "stair"]) fun _ _ _ _ _ _ us hl => match us, hl with | [_, _], _ => rfl
  have m_least_missing := PySem.W.mg_of X G a_least_missing
  have F_tidy := fun_mk (st := stidy) l_tidy c_tidy k_tidy
  have b_tidy := F_tidy.binds (ps := ["stair"]) fun _ _ _ _ _ _ us hl => match us, hl with | [_], _ => rfl
  have m_tidy := PySem.W.mg_of X G a_tidy
  have F__tidy_before := fun_mk (st := s_tidy_before) l__tidy_before c__tidy_before k__tidy_before
  have b__tidy_before := F__tidy_before.binds (ps := ["stair", "limit"]) fun _ _ _ _ _ _ us hl => match us, hl with | [_, _], _ => rfl
  have m__tidy_before := PySem.W.mg_of X G a__tidy_before
  have F__tidy_step := fun_mk (st := s_tidy_step) l__tidy_step c__tidy_step k__tidy_step
  have b__tidy_step := F__tidy_step.binds (ps := ["steps", "at", "limit"]) fun _ _ _ _ _ _ us hl => match us, hl with | [_, _, _], _ => rfl
  have m__tidy_step := PySem.W.mg_of X G a__tidy_step
  have F__behind := fun_mk (st := s_behind) l__behind c__behind k__behind
  have b__behind := F__behind.binds (ps := ["steps", "at", "limit"]) fun _ _ _ _ _ _ us hl => match us, hl with | [_, _, _], _ => rfl
  have m__behind := PySem.W.mg_of X G a__behind
  have F__longest := fun_mk (st := s_longest) l__longest c__longest k__longest
  have b__longest := F__longest.binds (ps := ["stair", "limit"]) fun _ _ _ _ _ _ us hl => match us, hl with | [_, _], _ => rfl
  have m__longest := PySem.W.mg_of X G a__longest
  have F__conflict := fun_mk (st := s_conflict) l__conflict c__conflict k__conflict
  have b__conflict := F__conflict.binds (ps := ["before", "inner", "bound", "begin"]) fun _ _ _ _ _ _ us hl => match us, hl with | [_, _, _, _], _ => rfl
  have m__conflict := PySem.W.mg_of X G a__conflict
  have F__spliced := fun_mk (st := s_spliced) l__spliced c__spliced k__spliced
  have b__spliced := F__spliced.binds (ps := ["before", "inner", "bound"]) fun _ _ _ _ _ _ us hl => match us, hl with | [_, _, _], _ => rfl
  have m__spliced := PySem.W.mg_of X G a__spliced
  have F__check_alike := fun_mk (st := s_check_alike) l__check_alike c__check_alike k__check_alike
  have b__check_alike := F__check_alike.binds (ps := ["one", "other"]) fun _ _ _ _ _ _ us hl => match us, hl with | [_, _], _ => rfl
  have m__check_alike := PySem.W.mg_of X G a__check_alike
  have F__law_bag := fun_mk (st := s_law_bag) l__law_bag c__law_bag k__law_bag
  have b__law_bag := F__law_bag.binds (ps := ["_law_script"]) fun _ _ _ _ _ _ us hl => match us, hl with | [_], _ => rfl
  have m__law_bag := PySem.W.mg_of X G a__law_bag
  have F__law_pull := fun_mk (st := s_law_pull) l__law_pull c__law_pull k__law_pull
  have b__law_pull := F__law_pull.binds (ps := ["_law_bag_here", "_law_sides"]) fun _ _ _ _ _ _ us hl => match us, hl with | [_, _], _ => rfl
  have m__law_pull := PySem.W.mg_of X G a__law_pull
  have F__law_same := fun_mk (st := s_law_same) l__law_same c__law_same k__law_same
  have b__law_same := F__law_same.binds (ps := ["_law_found", "_law_due"]) fun _ _ _ _ _ _ us hl => match us, hl with | [_, _], _ => rfl
  have m__law_same := PySem.W.mg_of X G a__law_same
  have F__law_num := fun_mk (st := s_law_num) l__law_num c__law_num k__law_num
  have b__law_num := F__law_num.binds (ps := ["_law_many_z"]) fun _ _ _ _ _ _ us hl => match us, hl with | [_], _ => rfl
  have m__law_num := PySem.W.mg_of X G a__law_num
  have F__law_ordinal := fun_mk (st := s_law_ordinal) l__law_ordinal c__law_ordinal k__law_ordinal
  have b__law_ordinal := F__law_ordinal.binds (ps := ["_law_bag_here", "_law_deep"]) fun _ _ _ _ _ _ us hl => match us, hl with | [_, _], _ => rfl
  have m__law_ordinal := PySem.W.mg_of X G a__law_ordinal
  have F__law_steps := fun_mk (st := s_law_steps) l__law_steps c__law_steps k__law_steps
  have b__law_steps := F__law_steps.binds (ps := ["_law_bag_here", "_law_deep"]) fun _ _ _ _ _ _ us hl => match us, hl with | [_, _], _ => rfl
  have m__law_steps := PySem.W.mg_of X G a__law_steps
  have F__law_stair := fun_mk (st := s_law_stair) l__law_stair c__law_stair k__law_stair
  have b__law_stair := F__law_stair.binds (ps := ["_law_bag_here", "_law_many_z"]) fun _ _ _ _ _ _ us hl => match us, hl with | [_, _], _ => rfl
  have m__law_stair := PySem.W.mg_of X G a__law_stair
  have F__law_made := fun_mk (st := s_law_made) l__law_made c__law_made k__law_made
  have b__law_made := F__law_made.binds (ps := ["_law_bag_here", "_law_many_z"]) fun _ _ _ _ _ _ us hl => match us, hl with | [_, _], _ => rfl
  have m__law_made := PySem.W.mg_of X G a__law_made
  have F_law := fun_mk (st := slaw) l_law c_law k_law
  have b_law := F_law.binds (ps := ["_law_script"]) fun _ _ _ _ _ _ us hl => match us, hl with | [_], _ => rfl
  have m_law := PySem.W.mg_of X G a_law
  have F_omega_power : FunD K "omega_power" "omega_power" (defArgs somega_power) (defBody somega_power) (defScope somega_power) [] [("times", .int 1)] f_omega_power _ := ⟨⟨_, _, _, _, _, _, _, _, _, _, rfl, l_omega_power, c_omega_power, .inl ⟨rfl, rfl⟩, .inr ⟨D_omega_power, rfl, fun q hq => by rw [List.mem_singleton.mp hq]; exact ⟨_, w_omega_power, ⟨_, rfl⟩⟩⟩⟩, k_omega_power⟩
  have m_omega_power := PySem.W.mg_of X G a_omega_power
  have F_either : FunD K "either" "either" (defArgs seither) (defBody seither) (defScope seither) [] [("levels", .int 1)] f_either _ := ⟨⟨_, _, _, _, _, _, _, _, _, _, rfl, l_either, c_either, .inl ⟨rfl, rfl⟩, .inr ⟨D_either, rfl, fun q hq => by rw [List.mem_singleton.mp hq]; exact ⟨_, w_either, ⟨_, rfl⟩⟩⟩⟩, k_either⟩
  have m_either := PySem.W.mg_of X G a_either
  have F_both : FunD K "both" "both" (defArgs sboth) (defBody sboth) (defScope sboth) [] [("levels", .int 1)] f_both _ := ⟨⟨_, _, _, _, _, _, _, _, _, _, rfl, l_both, c_both, .inl ⟨rfl, rfl⟩, .inr ⟨D_both, rfl, fun q hq => by rw [List.mem_singleton.mp hq]; exact ⟨_, w_both, ⟨_, rfl⟩⟩⟩⟩, k_both⟩
  have m_both := PySem.W.mg_of X G a_both
  have y_len := PySem.W.mg_none_of X G z_len
  have y_range := PySem.W.mg_none_of X G z_range
  have y_enumerate := PySem.W.mg_none_of X G z_enumerate
  have y_isinstance := PySem.W.mg_none_of X G z_isinstance
  have y_int := PySem.W.mg_none_of X G z_int
  have y_list := PySem.W.mg_none_of X G z_list
  have y_tuple := PySem.W.mg_none_of X G z_tuple
  have y_str := PySem.W.mg_none_of X G z_str
  have y_bool := PySem.W.mg_none_of X G z_bool
  have y_all := PySem.W.mg_none_of X G z_all
  have y_sum := PySem.W.mg_none_of X G z_sum
  have y_sorted := PySem.W.mg_none_of X G z_sorted
  have y_max := PySem.W.mg_none_of X G z_max
  have y_ValueError := PySem.W.mg_none_of X G z_ValueError
  have T : Txt K mg aZERO aONE aVowError aInvalidLevels aInvalidStair aInvalidRow aLevelsDiffer aMeaning f_Meaning_init p_Meaning_always f_Meaning_always p_Meaning_never f_Meaning_never p_Meaning_levels f_Meaning_levels f_Meaning_stair f_Meaning_least f_Meaning_lies_in f_Meaning_add f_Meaning_mul f_Meaning_neg f_Meaning_contains f_Meaning_bool f_Meaning_eq f_Meaning_repr := ⟨PySem.W.mg_of X G ac_VowError, PySem.W.mg_of X G ac_InvalidLevels, PySem.W.mg_of X G ac_InvalidStair, PySem.W.mg_of X G ac_InvalidRow, PySem.W.mg_of X G ac_LevelsDiffer, PySem.W.mg_of X G ac_Meaning, ⟨⟨pg_Meaning, hdp_Meaning, po_Meaning, sap_Meaning⟩, ⟨mk_Meaning, mi_Meaning, fnI_Meaning, kpC_Meaning⟩, hap_Meaning, hn1, ht1, hmp_Meaning⟩, sf_Meaning, nf_Meaning, ne_Meaning, na_Meaning__levels, na_Meaning__stair, kt_Meaning_Meaning, ⟨at_Meaning_always, ⟨_, rc_Meaning_always⟩, fi_Meaning_always⟩, ⟨at_Meaning_never, ⟨_, rc_Meaning_never⟩, fi_Meaning_never⟩, ⟨at_Meaning_levels, gt_Meaning_levels, tk_Meaning_levels, ⟨_, rc_Meaning_levels⟩⟩, ⟨at_Meaning_stair, fn_Meaning_stair, k_Meaning_stair⟩, ⟨at_Meaning_least, fn_Meaning_least, k_Meaning_least⟩, ⟨at_Meaning_lies_in, fn_Meaning_lies_in, k_Meaning_lies_in⟩, ⟨at_Meaning_add, fn_Meaning_add, k_Meaning_add⟩, ⟨at_Meaning_mul, fn_Meaning_mul, k_Meaning_mul⟩, ⟨at_Meaning_neg, fn_Meaning_neg, k_Meaning_neg⟩, ⟨at_Meaning_contains, fn_Meaning_contains, k_Meaning_contains⟩, ⟨at_Meaning_bool, fn_Meaning_bool, k_Meaning_bool⟩, ⟨at_Meaning_eq, fn_Meaning_eq, k_Meaning_eq⟩, ⟨at_Meaning_repr, fn_Meaning_repr, k_Meaning_repr⟩, ⟨rdp_Meaning, sgp_Meaning⟩, y_len, y_range, y_enumerate, y_isinstance, y_int, y_list, y_tuple, y_str, y_bool, y_all, y_sum, y_sorted, y_max, y_ValueError, PySem.W.mg_of X G ac_ZERO, ⟨_, _, _, lz1, rfl, rfl, by decide, .nil⟩, PySem.W.mg_of X G ac_ONE, one_mk lo1 lo2 lo3, ⟨_, PySem.W.mg_of X G ac_MAX_LEVELS⟩⟩
  exact ⟨PySem.W.fnOf "law" "law" (defArgs slaw) (defBody slaw) (defScope slaw) .none kV_law dc_law pm_law an_law cd_law ct_law, fun s v => .of_eq rfl, fun base _ _ => main T F_Meaning_init b_Meaning_init F_Meaning_always b_Meaning_always F_Meaning_never b_Meaning_never F_Meaning_levels b_Meaning_levels F_Meaning_stair b_Meaning_stair F_Meaning_least b_Meaning_least F_Meaning_lies_in b_Meaning_lies_in F_Meaning_add b_Meaning_add F_Meaning_mul b_Meaning_mul F_Meaning_neg b_Meaning_neg F_Meaning_contains b_Meaning_contains F_Meaning_bool b_Meaning_bool F_Meaning_eq b_Meaning_eq F_Meaning_repr b_Meaning_repr F_is_ordinal b_is_ordinal m_is_ordinal F__is_term b__is_term m__is_term F__is_count b__is_count m__is_count F_plus b_plus m_plus F_successor b_successor m_successor F_end_of b_end_of m_end_of F_raised b_raised m_raised F_end_limit b_end_limit m_end_limit F__gap b__gap m__gap F_check_levels b_check_levels m_check_levels F_is_stair b_is_stair m_is_stair F__is_step b__is_step m__is_step F_check_stair b_check_stair m_check_stair F_value_at b_value_at m_value_at F_inner_at b_inner_at m_inner_at F_flat_stair b_flat_stair m_flat_stair F_turned b_turned m_turned F_joined b_joined m_joined F_met b_met m_met F__paired b__paired m__paired F_reached b_reached m_reached F_parting b_parting m_parting F_least_missing b_least_missing m_least_missing F_tidy b_tidy m_tidy F__tidy_before b__tidy_before m__tidy_before F__tidy_step b__tidy_step m__tidy_step F__behind b__behind m__behind F__longest b__longest m__longest F__conflict b__conflict m__conflict F__spliced b__spliced m__spliced F__check_alike b__check_alike m__check_alike F__law_bag b__law_bag m__law_bag F__law_pull b__law_pull m__law_pull F__law_same b__law_same m__law_same F__law_num b__law_num m__law_num F__law_ordinal b__law_ordinal m__law_ordinal F__law_steps b__law_steps m__law_steps F__law_stair b__law_stair m__law_stair F__law_made b__law_made m__law_made F_law b_law m_law F_omega_power m_omega_power F_either m_either F_both m_both⟩
end Vw
open PySem PySem.W PyProof.Rows
set_option maxRecDepth 100000 in
set_option maxHeartbeats 0 in
theorem PySem.Challenge.cw_vowstair_k19_whole_rules_of_sets_holds : PySem.Challenge.rw_vowstair_k19_whole_rules_of_sets.Holds := by
  w_on; o_law; k_head; (case hw => w_witness2)
  k_fill
  refine L2.walk_of (l := PySem.Challenge.rw_vowstair_k19_whole_rules_of_sets) (n := 63) (k := 146) (x := "_law_script") (CX := fun _ => L2.CX0) (sp := fun w => Vw.spLaw _) rfl (by decide) rfl ⟨rfl, by decide, by decide⟩ (fun w h Y => PySem.W.kIn_of Y) ?F (fun _ _ a ns hl _ hS => ⟨a, ns, rfl, hS, hl, fun _ => rfl⟩) (fun _ _ _ _ _ h => h)
  case F =>
    intro w mg fa h KX G hmg
    refine' Vw.all_mk KX G hmg ?ac_VowError ?ac_InvalidLevels ?ac_InvalidStair ?ac_InvalidRow ?ac_LevelsDiffer ?ac_Meaning ?hn1 ?ht1 ?pg_Meaning ?hdp_Meaning ?po_Meaning ?sap_Meaning ?mk_Meaning ?mi_Meaning ?fnI_Meaning ?kpC_Meaning ?sf_Meaning ?nf_Meaning ?hap_Meaning ?hmp_Meaning ?ne_Meaning ?na_Meaning__levels ?na_Meaning__stair ?kt_Meaning_Meaning ?rdp_Meaning ?sgp_Meaning ?l_Meaning_init ?c_Meaning_init ?k_Meaning_init ?at_Meaning_always ?rc_Meaning_always ?fi_Meaning_always ?l_Meaning_always ?c_Meaning_always ?k_Meaning_always ?at_Meaning_never ?rc_Meaning_never ?fi_Meaning_never ?l_Meaning_never ?c_Meaning_never ?k_Meaning_never ?at_Meaning_levels ?gt_Meaning_levels ?tk_Meaning_levels ?rc_Meaning_levels ?l_Meaning_levels ?c_Meaning_levels ?k_Meaning_levels ?at_Meaning_stair ?fn_Meaning_stair ?l_Meaning_stair ?c_Meaning_stair ?k_Meaning_stair ?at_Meaning_least ?fn_Meaning_least ?l_Meaning_least ?c_Meaning_least ?k_Meaning_least ?at_Meaning_lies_in ?fn_Meaning_lies_in ?l_Meaning_lies_in ?c_Meaning_lies_in ?k_Meaning_lies_in ?at_Meaning_add ?fn_Meaning_add ?l_Meaning_add ?c_Meaning_add ?k_Meaning_add ?at_Meaning_mul ?fn_Meaning_mul ?l_Meaning_mul ?c_Meaning_mul ?k_Meaning_mul ?at_Meaning_neg ?fn_Meaning_neg ?l_Meaning_neg ?c_Meaning_neg ?k_Meaning_neg ?at_Meaning_contains ?fn_Meaning_contains ?l_Meaning_contains ?c_Meaning_contains ?k_Meaning_contains ?at_Meaning_bool ?fn_Meaning_bool ?l_Meaning_bool ?c_Meaning_bool ?k_Meaning_bool ?at_Meaning_eq ?fn_Meaning_eq ?l_Meaning_eq ?c_Meaning_eq ?k_Meaning_eq ?at_Meaning_repr ?fn_Meaning_repr ?l_Meaning_repr ?c_Meaning_repr ?k_Meaning_repr ?a_is_ordinal ?l_is_ordinal ?c_is_ordinal ?k_is_ordinal ?a__is_term ?l__is_term ?c__is_term ?k__is_term ?a__is_count ?l__is_count ?c__is_count ?k__is_count ?a_plus ?l_plus ?c_plus ?k_plus ?a_successor ?l_successor ?c_successor ?k_successor ?a_end_of ?l_end_of ?c_end_of ?k_end_of ?a_raised ?l_raised ?c_raised ?k_raised ?a_end_limit ?l_end_limit ?c_end_limit ?k_end_limit ?a__gap ?l__gap ?c__gap ?k__gap ?a_check_levels ?l_check_levels ?c_check_levels ?k_check_levels ?a_is_stair ?l_is_stair ?c_is_stair ?k_is_stair ?a__is_step ?l__is_step ?c__is_step ?k__is_step ?a_check_stair ?l_check_stair ?c_check_stair ?k_check_stair ?a_value_at ?l_value_at ?c_value_at ?k_value_at ?a_inner_at ?l_inner_at ?c_inner_at ?k_inner_at ?a_flat_stair ?l_flat_stair ?c_flat_stair ?k_flat_stair ?a_turned ?l_turned ?c_turned ?k_turned ?a_joined ?l_joined ?c_joined ?k_joined ?a_met ?l_met ?c_met ?k_met ?a__paired ?l__paired ?c__paired ?k__paired ?a_reached ?l_reached ?c_reached ?k_reached ?a_parting ?l_parting ?c_parting ?k_parting ?a_least_missing ?l_least_missing ?c_least_missing ?k_least_missing ?a_tidy ?l_tidy ?c_tidy ?k_tidy ?a__tidy_before ?l__tidy_before ?c__tidy_before ?k__tidy_before ?a__tidy_step ?l__tidy_step ?c__tidy_step ?k__tidy_step ?a__behind ?l__behind ?c__behind ?k__behind ?a__longest ?l__longest ?c__longest ?k__longest ?a__conflict ?l__conflict ?c__conflict ?k__conflict ?a__spliced ?l__spliced ?c__spliced ?k__spliced ?a__check_alike ?l__check_alike ?c__check_alike ?k__check_alike ?a__law_bag ?l__law_bag ?c__law_bag ?k__law_bag ?a__law_pull ?l__law_pull ?c__law_pull ?k__law_pull ?a__law_same ?l__law_same ?c__law_same ?k__law_same ?a__law_num ?l__law_num ?c__law_num ?k__law_num ?a__law_ordinal ?l__law_ordinal ?c__law_ordinal ?k__law_ordinal ?a__law_steps ?l__law_steps ?c__law_steps ?k__law_steps ?a__law_stair ?l__law_stair ?c__law_stair ?k__law_stair ?a__law_made ?l__law_made ?c__law_made ?k__law_made ?a_law ?l_law ?c_law ?k_law ?a_omega_power ?l_omega_power ?c_omega_power ?k_omega_power ?w_omega_power ?a_either ?l_either ?c_either ?k_either ?w_either ?a_both ?l_both ?c_both ?k_both ?w_both ?z_len ?z_range ?z_enumerate ?z_isinstance ?z_int ?z_list ?z_tuple ?z_str ?z_bool ?z_all ?z_sum ?z_sorted ?z_max ?z_ValueError ?ac_ZERO ?lz1 ?ac_ONE ?lo1 ?lo2 ?lo3 ?ac_MAX_LEVELS
    (case ac_VowError => k_is)
    (case ac_InvalidLevels => k_is)
    (case ac_InvalidStair => k_is)
    (case ac_InvalidRow => k_is)
    (case ac_LevelsDiffer => k_is)
    (case ac_Meaning => k_is)
    (case hn1 => k_is)
    (case ht1 => k_is)
    (case pg_Meaning => k_is)
    (case hdp_Meaning => k_is)
    (case po_Meaning => k_is)
    (case sap_Meaning => k_is)
    (case mk_Meaning => k_is)
    (case mi_Meaning => k_is)
    (case fnI_Meaning => k_is)
    (case kpC_Meaning => k_is)
    (case sf_Meaning => k_is)
    (case nf_Meaning => k_is)
    (case hap_Meaning => k_is)
    (case hmp_Meaning => k_is)
    (case ne_Meaning => k_is)
    (case na_Meaning__levels => (unfold L2.NoAttr; k_is))
    (case na_Meaning__stair => (unfold L2.NoAttr; k_is))
    (case kt_Meaning_Meaning => kit_is)
    (case rdp_Meaning => k_is)
    (case sgp_Meaning => k_is)
    (case l_Meaning_init => k_is)
    (case c_Meaning_init => k_is)
    (case k_Meaning_init => k_is)
    (case at_Meaning_always => k_is)
    (case rc_Meaning_always => k_is)
    (case fi_Meaning_always => k_is)
    (case l_Meaning_always => k_is)
    (case c_Meaning_always => k_is)
    (case k_Meaning_always => k_is)
    (case at_Meaning_never => k_is)
    (case rc_Meaning_never => k_is)
    (case fi_Meaning_never => k_is)
    (case l_Meaning_never => k_is)
    (case c_Meaning_never => k_is)
    (case k_Meaning_never => k_is)
    (case at_Meaning_levels => k_is)
    (case gt_Meaning_levels => k_is)
    (case tk_Meaning_levels => k_is)
    (case rc_Meaning_levels => k_is)
    (case l_Meaning_levels => k_is)
    (case c_Meaning_levels => k_is)
    (case k_Meaning_levels => k_is)
    (case at_Meaning_stair => k_is)
    (case fn_Meaning_stair => k_is)
    (case l_Meaning_stair => k_is)
    (case c_Meaning_stair => k_is)
    (case k_Meaning_stair => k_is)
    (case at_Meaning_least => k_is)
    (case fn_Meaning_least => k_is)
    (case l_Meaning_least => k_is)
    (case c_Meaning_least => k_is)
    (case k_Meaning_least => k_is)
    (case at_Meaning_lies_in => k_is)
    (case fn_Meaning_lies_in => k_is)
    (case l_Meaning_lies_in => k_is)
    (case c_Meaning_lies_in => k_is)
    (case k_Meaning_lies_in => k_is)
    (case at_Meaning_add => k_is)
    (case fn_Meaning_add => k_is)
    (case l_Meaning_add => k_is)
    (case c_Meaning_add => k_is)
    (case k_Meaning_add => k_is)
    (case at_Meaning_mul => k_is)
    (case fn_Meaning_mul => k_is)
    (case l_Meaning_mul => k_is)
    (case c_Meaning_mul => k_is)
    (case k_Meaning_mul => k_is)
    (case at_Meaning_neg => k_is)
    (case fn_Meaning_neg => k_is)
    (case l_Meaning_neg => k_is)
    (case c_Meaning_neg => k_is)
    (case k_Meaning_neg => k_is)
    (case at_Meaning_contains => k_is)
    (case fn_Meaning_contains => k_is)
    (case l_Meaning_contains => k_is)
    (case c_Meaning_contains => k_is)
    (case k_Meaning_contains => k_is)
    (case at_Meaning_bool => k_is)
    (case fn_Meaning_bool => k_is)
    (case l_Meaning_bool => k_is)
    (case c_Meaning_bool => k_is)
    (case k_Meaning_bool => k_is)
    (case at_Meaning_eq => k_is)
    (case fn_Meaning_eq => k_is)
    (case l_Meaning_eq => k_is)
    (case c_Meaning_eq => k_is)
    (case k_Meaning_eq => k_is)
    (case at_Meaning_repr => k_is)
    (case fn_Meaning_repr => k_is)
    (case l_Meaning_repr => k_is)
    (case c_Meaning_repr => k_is)
    (case k_Meaning_repr => k_is)
    (case a_is_ordinal => k_is)
    (case l_is_ordinal => k_is)
    (case c_is_ordinal => k_is)
    (case k_is_ordinal => k_is)
    (case a__is_term => k_is)
    (case l__is_term => k_is)
    (case c__is_term => k_is)
    (case k__is_term => k_is)
    (case a__is_count => k_is)
    (case l__is_count => k_is)
    (case c__is_count => k_is)
    (case k__is_count => k_is)
    (case a_plus => k_is)
    (case l_plus => k_is)
    (case c_plus => k_is)
    (case k_plus => k_is)
    (case a_successor => k_is)
    (case l_successor => k_is)
    (case c_successor => k_is)
    (case k_successor => k_is)
    (case a_end_of => k_is)
    (case l_end_of => k_is)
    (case c_end_of => k_is)
    (case k_end_of => k_is)
    (case a_raised => k_is)
    (case l_raised => k_is)
    (case c_raised => k_is)
    (case k_raised => k_is)
    (case a_end_limit => k_is)
    (case l_end_limit => k_is)
    (case c_end_limit => k_is)
    (case k_end_limit => k_is)
    (case a__gap => k_is)
    (case l__gap => k_is)
    (case c__gap => k_is)
    (case k__gap => k_is)
    (case a_check_levels => k_is)
    (case l_check_levels => k_is)
    (case c_check_levels => k_is)
    (case k_check_levels => k_is)
    (case a_is_stair => k_is)
    (case l_is_stair => k_is)
    (case c_is_stair => k_is)
    (case k_is_stair => k_is)
    (case a__is_step => k_is)
    (case l__is_step => k_is)
    (case c__is_step => k_is)
    (case k__is_step => k_is)
    (case a_check_stair => k_is)
    (case l_check_stair => k_is)
    (case c_check_stair => k_is)
    (case k_check_stair => k_is)
    (case a_value_at => k_is)
    (case l_value_at => k_is)
    (case c_value_at => k_is)
    (case k_value_at => k_is)
    (case a_inner_at => k_is)
    (case l_inner_at => k_is)
    (case c_inner_at => k_is)
    (case k_inner_at => k_is)
    (case a_flat_stair => k_is)
    (case l_flat_stair => k_is)
    (case c_flat_stair => k_is)
    (case k_flat_stair => k_is)
    (case a_turned => k_is)
    (case l_turned => k_is)
    (case c_turned => k_is)
    (case k_turned => k_is)
    (case a_joined => k_is)
    (case l_joined => k_is)
    (case c_joined => k_is)
    (case k_joined => k_is)
    (case a_met => k_is)
    (case l_met => k_is)
    (case c_met => k_is)
    (case k_met => k_is)
    (case a__paired => k_is)
    (case l__paired => k_is)
    (case c__paired => k_is)
    (case k__paired => k_is)
    (case a_reached => k_is)
    (case l_reached => k_is)
    (case c_reached => k_is)
    (case k_reached => k_is)
    (case a_parting => k_is)
    (case l_parting => k_is)
    (case c_parting => k_is)
    (case k_parting => k_is)
    (case a_least_missing => k_is)
    (case l_least_missing => k_is)
    (case c_least_missing => k_is)
    (case k_least_missing => k_is)
    (case a_tidy => k_is)
    (case l_tidy => k_is)
    (case c_tidy => k_is)
    (case k_tidy => k_is)
    (case a__tidy_before => k_is)
    (case l__tidy_before => k_is)
    (case c__tidy_before => k_is)
    (case k__tidy_before => k_is)
    (case a__tidy_step => k_is)
    (case l__tidy_step => k_is)
    (case c__tidy_step => k_is)
    (case k__tidy_step => k_is)
    (case a__behind => k_is)
    (case l__behind => k_is)
    (case c__behind => k_is)
    (case k__behind => k_is)
    (case a__longest => k_is)
    (case l__longest => k_is)
    (case c__longest => k_is)
    (case k__longest => k_is)
    (case a__conflict => k_is)
    (case l__conflict => k_is)
    (case c__conflict => k_is)
    (case k__conflict => k_is)
    (case a__spliced => k_is)
    (case l__spliced => k_is)
    (case c__spliced => k_is)
    (case k__spliced => k_is)
    (case a__check_alike => k_is)
    (case l__check_alike => k_is)
    (case c__check_alike => k_is)
    (case k__check_alike => k_is)
    (case a__law_bag => k_is)
    (case l__law_bag => k_is)
    (case c__law_bag => k_is)
    (case k__law_bag => k_is)
    (case a__law_pull => k_is)
    (case l__law_pull => k_is)
    (case c__law_pull => k_is)
    (case k__law_pull => k_is)
    (case a__law_same => k_is)
    (case l__law_same => k_is)
    (case c__law_same => k_is)
    (case k__law_same => k_is)
    (case a__law_num => k_is)
    (case l__law_num => k_is)
    (case c__law_num => k_is)
    (case k__law_num => k_is)
    (case a__law_ordinal => k_is)
    (case l__law_ordinal => k_is)
    (case c__law_ordinal => k_is)
    (case k__law_ordinal => k_is)
    (case a__law_steps => k_is)
    (case l__law_steps => k_is)
    (case c__law_steps => k_is)
    (case k__law_steps => k_is)
    (case a__law_stair => k_is)
    (case l__law_stair => k_is)
    (case c__law_stair => k_is)
    (case k__law_stair => k_is)
    (case a__law_made => k_is)
    (case l__law_made => k_is)
    (case c__law_made => k_is)
    (case k__law_made => k_is)
    (case a_law => k_is)
    (case l_law => k_is)
    (case c_law => k_is)
    (case k_law => k_is)
    (case a_omega_power => k_is)
    (case l_omega_power => k_is)
    (case c_omega_power => k_is)
    (case k_omega_power => k_is)
    (case w_omega_power => k_is)
    (case a_either => k_is)
    (case l_either => k_is)
    (case c_either => k_is)
    (case k_either => k_is)
    (case w_either => k_is)
    (case a_both => k_is)
    (case l_both => k_is)
    (case c_both => k_is)
    (case k_both => k_is)
    (case w_both => k_is)
    (case z_len => k_is)
    (case z_range => k_is)
    (case z_enumerate => k_is)
    (case z_isinstance => k_is)
    (case z_int => k_is)
    (case z_list => k_is)
    (case z_tuple => k_is)
    (case z_str => k_is)
    (case z_bool => k_is)
    (case z_all => k_is)
    (case z_sum => k_is)
    (case z_sorted => k_is)
    (case z_max => k_is)
    (case z_ValueError => k_is)
    (case ac_ZERO => k_is)
    (case lz1 => k_is)
    (case ac_ONE => k_is)
    (case lo1 => k_is)
    (case lo2 => k_is)
    (case lo3 => k_is)
    (case ac_MAX_LEVELS => k_is)



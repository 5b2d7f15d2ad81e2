import PyProof.Rows.All
import Wide.All
import OpenK.AllK
import Wide.FinOn
import KE.DataCmp
import KE.SortCalls
import HandS.ForList
import KE.SortData
import HandS.SortKw
import HandS.ForMost
import HandS.IsInst
import HandS.TupAny
import HandS.EndBits
import HandS.Wide
import HandS.Codes
import HandS.Text
import HandS.Walk
import HandS.Defaults
import HandS.More
import HandS.TupMul
import PySem.Challenge.RW_vowstair_k21_names_recognized
namespace Vw
inductive O where
  | z
  | add (e : O) (c : Int) (r : O)
  deriving DecidableEq
namespace O
def lt : O → O → Bool
  | z, z => false
  | z, add _ _ _ => true
  | add _ _ _, z => false
  | add e c r, add e' c' r' => if e = e' then (if c = c' then lt r r' else decide (c < c')) else lt e e'
theorem lt_irrefl : ∀ a : O, lt a a = false
  | z => rfl
  | add e c r => by simp [lt, lt_irrefl r]
theorem lt_trans : ∀ (a b c : O), lt a b = true → lt b c = true → lt a c = true
  | a, b, z, _, h2 => by cases b <;> simp [lt] at h2
  | a, z, add _ _ _, h1, _ => by cases a <;> simp [lt] at h1
  | z, add _ _ _, add _ _ _, _, _ => rfl
  | add e c r, add e' c' r', add e2 c2 r2, h1, h2 => by
    simp only [lt] at h1 h2 ⊢
    by_cases he : e = e'
    · subst he
      by_cases he2 : e = e2
      · subst he2
        simp only [if_true] at h1 h2 ⊢
        by_cases hc : c = c'
        · subst hc
          simp only [if_true] at h1
          by_cases hc2 : c = c2
          · subst hc2
            simp only [if_true] at h2 ⊢
            exact lt_trans r r' r2 h1 h2
          · rw [if_neg hc2] at h2 ⊢; exact h2
        · rw [if_neg hc] at h1
          have h1' := of_decide_eq_true h1
          by_cases hc2 : c' = c2
          · subst hc2; rw [if_neg hc]; exact h1
          · rw [if_neg hc2] at h2
            have h2' := of_decide_eq_true h2
            rw [if_neg (by omega)]; exact decide_eq_true (by omega)
      · rw [if_neg he2] at h2 ⊢; exact h2
    · rw [if_neg he] at h1
      by_cases he2 : e' = e2
      · subst he2; rw [if_neg he]; exact h1
      · rw [if_neg he2] at h2
        have h3 := lt_trans e e' e2 h1 h2
        by_cases he3 : e = e2
        · subst he3; rw [lt_irrefl] at h3; cases h3
        · rw [if_neg he3]; exact h3
theorem lt_asymm {a b : O} (h : lt a b = true) : lt b a = false := by
  cases q : lt b a with
  | false => rfl
  | true => have := lt_trans a b a h q; rw [lt_irrefl] at this; cases this
theorem lt_ne {a b : O} (h : lt a b = true) : a ≠ b := fun e => by subst e; rw [lt_irrefl] at h; cases h
theorem lt_total : ∀ (a b : O), a ≠ b → lt a b = true ∨ lt b a = true
  | z, z, h => absurd rfl h
  | z, add _ _ _, _ => .inl rfl
  | add _ _ _, z, _ => .inr rfl
  | add e c r, add e' c' r', h => by
    simp only [lt]
    by_cases he : e = e'
    · subst he
      simp only [if_true]
      by_cases hc : c = c'
      · subst hc
        simp only [if_true]
        exact lt_total r r' fun q => h (by rw [q])
      · rw [if_neg hc, if_neg (fun q => hc q.symm)]
        rcases Int.lt_or_gt_of_ne hc with q | q
        · exact .inl (decide_eq_true q)
        · exact .inr (decide_eq_true q)
    · rw [if_neg he, if_neg (fun q => he q.symm)]
      exact lt_total e e' he
theorem eq_of {a b : O} (h1 : lt a b = false) (h2 : lt b a = false) : a = b := by
  by_cases h : a = b
  · exact h
  · rcases lt_total a b h with q | q
    · rw [h1] at q; cases q
    · rw [h2] at q; cases q
theorem lt_of_ge {a b : O} (h : lt a b = false) (n : a ≠ b) : lt b a = true := by
  rcases lt_total a b n with q | q
  · rw [h] at q; cases q
  · exact q
/-- b ≤ a -/
theorem ge_trans {a b c : O} (h1 : lt a b = false) (h2 : lt b c = false) : lt a c = false := by
  cases q : lt a c with
  | false => rfl
  | true =>
    by_cases e : b = c
    · subst e; rw [h1] at q; cases q
    · have h3 := lt_of_ge h2 e
      have h4 := lt_trans _ _ _ q h3
      rw [h1] at h4; cases h4
theorem lt_ge {a b c : O} (h1 : lt a b = true) (h2 : lt c b = false) : lt a c = true := by
  by_cases e : c = b
  · subst e; exact h1
  · exact lt_trans _ _ _ h1 (lt_of_ge h2 e)
theorem ge_lt {a b c : O} (h1 : lt b a = false) (h2 : lt b c = true) : lt a c = true := by
  by_cases e : b = a
  · subst e; exact h2
  · exact lt_trans _ _ _ (lt_of_ge h1 e) h2

/-- the terms -/
def ts : O → List (O × Int)
  | z => []
  | add e c r => (e, c) :: ts r
def of : List (O × Int) → O
  | [] => z
  | (e, c) :: r => add e c (of r)
theorem of_ts : ∀ o : O, of (ts o) = o
  | z => rfl
  | add e c r => by show add e c (of (ts r)) = _; rw [of_ts r]
theorem ts_of : ∀ l : List (O × Int), ts (of l) = l
  | [] => rfl
  | (e, c) :: r => by show (e, c) :: ts (of r) = _; rw [ts_of r]
theorem ts_inj {a b : O} (h : ts a = ts b) : a = b := by rw [← of_ts a, ← of_ts b, h]

/-- the head's exponent is below e -/
def under (e : O) : O → Bool
  | z => true
  | add e' _ _ => lt e' e
/-- a right ordinal -/
def ok : O → Bool
  | z => true
  | add e c r => ok e && decide (1 ≤ c) && ok r && under e r
theorem ok_add {e : O} {c : Int} {r : O} : ok (add e c r) = true ↔ ok e = true ∧ 1 ≤ c ∧ ok r = true ∧ under e r = true := by
  simp [ok, Bool.and_eq_true, and_assoc]
/-- all exponents of an ordinal under e are below e -/
theorem under_all : ∀ {r : O} {e : O}, ok r = true → under e r = true → ∀ p ∈ ts r, lt p.1 e = true
  | z, _, _, _, p, hp => by cases hp
  | add e' c' r', e, h, hu, p, hp => by
    have h' := ok_add.mp h
    rcases List.mem_cons.mp hp with q | q
    · subst q; exact hu
    · exact lt_trans _ _ _ (under_all h'.2.2.1 h'.2.2.2 p q) hu

/-- the sum -/
def sum : O → O → O
  | a, z => a
  | z, b => b
  | add e c r, add e' c' r' => if lt e e' = true then add e' c' r' else if e = e' then add e (c + c') r' else add e c (sum r (add e' c' r'))
@[simp] theorem sum_z (a : O) : sum a z = a := by cases a <;> rfl
@[simp] theorem z_sum (b : O) : sum z b = b := by cases b <;> rfl
theorem sum_lt {e : O} {c : Int} {r : O} {e' : O} {c' : Int} {r' : O} (h : lt e e' = true) : sum (add e c r) (add e' c' r') = add e' c' r' := by
  show (if lt e e' = true then _ else _) = _; rw [if_pos h]
theorem sum_eq {e : O} {c : Int} {r : O} {c' : Int} {r' : O} : sum (add e c r) (add e c' r') = add e (c + c') r' := by
  show (if lt e e = true then _ else _) = _
  rw [lt_irrefl, if_neg Bool.false_ne_true, if_pos rfl]
theorem sum_gt {e : O} {c : Int} {r : O} {e' : O} {c' : Int} {r' : O} (h : lt e' e = true) : sum (add e c r) (add e' c' r') = add e c (sum r (add e' c' r')) := by
  show (if lt e e' = true then _ else _) = _
  rw [lt_asymm h, if_neg Bool.false_ne_true, if_neg (lt_ne h).symm]

/-- what the program's plus does -/
def plusP : O → O → O
  | a, z => a
  | a, add e c r => of ((ts a).filter (fun t => lt e t.1) ++ (e, (((ts a).filter fun t => decide (t.1 = e)).map fun t => t.2).sum + c) :: ts r)
/-- what the law's own sum does -/
def sumL : O → O → O
  | a, z => a
  | a, add e c r =>
    let left := (ts a).filter fun t => !lt t.1 e
    match left.getLast? with
    | some (e1, c1) => if e1 = e then of (left.dropLast ++ (e, c1 + c) :: ts r) else of (left ++ (e, c) :: ts r)
    | none => of (left ++ (e, c) :: ts r)
theorem filter_none {α : Type} {p : α → Bool} : ∀ {l : List α}, (∀ x ∈ l, p x = false) → l.filter p = []
  | [], _ => rfl
  | x :: r, h => by
    rw [List.filter_cons, h x List.mem_cons_self, if_neg Bool.false_ne_true]
    exact filter_none fun y hy => h y (List.mem_cons_of_mem _ hy)
theorem plusP_sum : ∀ (a b : O), ok a = true → plusP a b = sum a b
  | a, z, _ => by cases a <;> rfl
  | z, add e c r, _ => by show of ([] ++ (e, 0 + c) :: ts r) = _; simp [of, of_ts]
  | add e1 c1 r1, add e c r, h => by
    have h' := ok_add.mp h
    have ih := plusP_sum r1 (add e c r) h'.2.2.1
    have hall := under_all h'.2.2.1 h'.2.2.2
    by_cases q : e1 = e
    · subst q
      rw [sum_eq]
      have f1 : (ts r1).filter (fun t => lt e1 t.1) = [] := filter_none fun x hx => lt_asymm (hall x hx)
      have f2 : (ts r1).filter (fun t => decide (t.1 = e1)) = [] := filter_none fun x hx => decide_eq_false (lt_ne (hall x hx))
      show of ((ts (add e1 c1 r1)).filter _ ++ _) = _
      simp only [ts, List.filter_cons, lt_irrefl, f1, f2, decide_true, if_true]
      simp [of, of_ts]
    · rcases lt_total e1 e q with k | k
      · rw [sum_lt k]
        have f1 : (ts (add e1 c1 r1)).filter (fun t => lt e t.1) = [] := filter_none fun x hx => by
          rcases List.mem_cons.mp hx with y | y
          · subst y; exact lt_asymm k
          · exact lt_asymm (lt_trans _ _ _ (hall x y) k)
        have f2 : (ts (add e1 c1 r1)).filter (fun t => decide (t.1 = e)) = [] := filter_none fun x hx => by
          rcases List.mem_cons.mp hx with y | y
          · subst y; exact decide_eq_false q
          · exact decide_eq_false (lt_ne (lt_trans _ _ _ (hall x y) k))
        show of ((ts (add e1 c1 r1)).filter _ ++ _) = _
        rw [f1, f2]
        simp [of, of_ts]
      · rw [sum_gt k, ← ih]
        show of ((ts (add e1 c1 r1)).filter _ ++ _) = add e1 c1 (of ((ts r1).filter _ ++ _))
        have d : decide (e1 = e) = false := decide_eq_false q
        simp only [ts, List.filter_cons, k, d, if_true]
        simp [of]
theorem sumL_sum : ∀ (a b : O), ok a = true → sumL a b = sum a b
  | a, z, _ => by cases a <;> rfl
  | z, add e c r, _ => by show of ([] ++ (e, c) :: ts r) = _; simp [of, of_ts]
  | add e1 c1 r1, add e c r, h => by
    have h' := ok_add.mp h
    have ih := sumL_sum r1 (add e c r) h'.2.2.1
    have hall := under_all h'.2.2.1 h'.2.2.2
    by_cases q : e1 = e
    · subst q
      rw [sum_eq]
      have f1 : (ts r1).filter (fun t => !lt t.1 e1) = [] := filter_none fun x hx => by rw [hall x hx]; rfl
      simp only [sumL, ts, List.filter_cons, lt_irrefl, f1, Bool.not_false, if_true]
      simp [of, of_ts]
    · rcases lt_total e1 e q with k | k
      · rw [sum_lt k]
        have f1 : (ts r1).filter (fun t => !lt t.1 e) = [] := filter_none fun x hx => by rw [lt_trans _ _ _ (hall x hx) k]; rfl
        simp only [sumL, ts, List.filter_cons, k, f1]
        simp [of, of_ts]
      · rw [sum_gt k, ← ih]
        have k2 := lt_asymm k
        simp only [sumL, ts, List.filter_cons, k2, Bool.not_false, if_true]
        cases hl : (ts r1).filter (fun t => !lt t.1 e) with
        | nil => simp [of, q]
        | cons x l =>
          rw [List.getLast?_cons_cons]
          cases hg : (x :: l).getLast? with
          | none => simp at hg
          | some p =>
            obtain ⟨e2, c2⟩ := p
            simp only
            by_cases q2 : e2 = e
            · rw [if_pos q2, if_pos q2, List.dropLast_cons_cons]; rfl
            · rw [if_neg q2, if_neg q2]; rfl
theorem ok_under_sum : ∀ (a b e : O), under e a = true → under e b = true → under e (sum a b) = true
  | a, z, e, h, _ => by rw [sum_z]; exact h
  | z, b, e, _, h => by rw [z_sum]; exact h
  | add e1 c1 r1, add e2 c2 r2, e, h1, h2 => by
    by_cases q : e1 = e2
    · subst q; rw [sum_eq]; exact h1
    · rcases lt_total e1 e2 q with k | k
      · rw [sum_lt k]; exact h2
      · rw [sum_gt k]; exact h1
theorem ok_sum : ∀ (a b : O), ok a = true → ok b = true → ok (sum a b) = true
  | a, z, h, _ => by rw [sum_z]; exact h
  | z, b, _, h => by rw [z_sum]; exact h
  | add e1 c1 r1, add e2 c2 r2, h1, h2 => by
    have g1 := ok_add.mp h1
    have g2 := ok_add.mp h2
    by_cases q : e1 = e2
    · subst q; rw [sum_eq]; exact ok_add.mpr ⟨g1.1, by omega, g2.2.2.1, g2.2.2.2⟩
    · rcases lt_total e1 e2 q with k | k
      · rw [sum_lt k]; exact h2
      · rw [sum_gt k]; exact ok_add.mpr ⟨g1.1, g1.2.1, ok_sum r1 _ g1.2.2.1 h2, ok_under_sum _ _ _ g1.2.2.2 k⟩
theorem lt_head {e : O} {c : Int} {r e' : O} {c' : Int} {r' : O} (h : lt e e' = true) : lt (add e c r) (add e' c' r') = true := by
  show (if e = e' then _ else _) = _; rw [if_neg (lt_ne h)]; exact h
theorem lt_cnt {e : O} {c : Int} {r : O} {c' : Int} {r' : O} (h : c < c') : lt (add e c r) (add e c' r') = true := by
  show (if e = e then (if c = c' then _ else _) else _) = _
  rw [if_pos rfl, if_neg (by omega)]; exact decide_eq_true h
theorem lt_rest {e : O} {c : Int} {r r' : O} : lt (add e c r) (add e c r') = lt r r' := by
  show (if e = e then (if c = c then _ else _) else _) = _
  rw [if_pos rfl, if_pos rfl]
theorem nil_lt {a : O} (h : a ≠ z) : lt z a = true := by cases a <;> first | rfl | exact absurd rfl h
theorem not_lt_nil (a : O) : lt a z = false := by cases a <;> rfl
theorem sum_add_ne (a e : O) (c : Int) (r : O) : sum a (add e c r) ≠ z := by
  cases a with
  | z => rw [z_sum]; intro h; cases h
  | add e1 c1 r1 =>
    show (if _ then _ else if _ then _ else _) ≠ _
    split
    · intro h; cases h
    · split <;> (intro h; cases h)
/-- strictly ascending in the second part -/
theorem sum_mono : ∀ (a b c : O), ok a = true → ok b = true → ok c = true → lt b c = true → lt (sum a b) (sum a c) = true
  | z, b, c, _, _, _, h => by rw [z_sum, z_sum]; exact h
  | a, b, z, _, _, _, h => by rw [not_lt_nil] at h; cases h
  | add e1 c1 r1, z, add e3 c3 r3, ha, _, hc, _ => by
    have g1 := ok_add.mp ha
    have g3 := ok_add.mp hc
    rw [sum_z]
    by_cases q : e1 = e3
    · subst q; rw [sum_eq]; exact lt_cnt (by omega)
    · rcases lt_total e1 e3 q with k | k
      · rw [sum_lt k]; exact lt_head k
      · rw [sum_gt k, lt_rest]
        have := sum_mono r1 z (add e3 c3 r3) g1.2.2.1 rfl hc rfl
        rw [sum_z] at this
        exact this
  | add e1 c1 r1, add e2 c2 r2, add e3 c3 r3, ha, hb, hc, h => by
    have g1 := ok_add.mp ha
    have g2 := ok_add.mp hb
    have g3 := ok_add.mp hc
    by_cases q : e1 = e2
    · subst q
      rw [sum_eq]
      by_cases q3 : e1 = e3
      · subst q3
        rw [sum_eq]
        simp only [lt, if_true] at h ⊢
        by_cases x : c2 = c3
        · subst x; simpa using h
        · rw [if_neg x] at h
          rw [if_neg (by omega)]
          exact decide_eq_true (by have := of_decide_eq_true h; omega)
      · have k : lt e1 e3 = true := by simpa [lt, q3] using h
        rw [sum_lt k]; exact lt_head k
    · rcases lt_total e1 e2 q with k | k
      · rw [sum_lt k]
        have k3 : lt e1 e3 = true := by
          by_cases q3 : e2 = e3
          · subst q3; exact k
          · exact lt_trans _ _ _ k (by simpa [lt, q3] using h)
        rw [sum_lt k3]; exact h
      · rw [sum_gt k]
        by_cases q3 : e1 = e3
        · subst q3; rw [sum_eq]; exact lt_cnt (by omega)
        · rcases lt_total e1 e3 q3 with k3 | k3
          · rw [sum_lt k3]; exact lt_head k3
          · rw [sum_gt k3, lt_rest]
            exact sum_mono r1 _ _ g1.2.2.1 hb hc h
theorem sum_mono_iff {a b c : O} (ha : ok a = true) (hb : ok b = true) (hc : ok c = true) : lt (sum a b) (sum a c) = lt b c := by
  cases q : lt b c with
  | true => exact sum_mono a b c ha hb hc q
  | false =>
    by_cases e : c = b
    · subst e; exact lt_irrefl _
    · have k := lt_of_ge q (fun x => e x.symm)
      exact lt_asymm (sum_mono a c b ha hc hb k)
/-- at least the first part -/
theorem sum_ge_left {a b : O} (ha : ok a = true) (hb : ok b = true) : lt (sum a b) a = false := by
  by_cases e : b = z
  · subst e; rw [sum_z]; exact lt_irrefl _
  · have := sum_mono a z b ha rfl hb (nil_lt e)
    rw [sum_z] at this
    exact lt_asymm this
/-- at least the second part -/
theorem sum_ge_right : ∀ (a b : O), ok a = true → ok b = true → lt (sum a b) b = false
  | a, z, _, _ => not_lt_nil _
  | z, b, _, _ => by rw [z_sum]; exact lt_irrefl _
  | add e1 c1 r1, add e2 c2 r2, ha, hb => by
    have g1 := ok_add.mp ha
    by_cases q : e1 = e2
    · subst q; rw [sum_eq]; exact lt_asymm (lt_cnt (by omega))
    · rcases lt_total e1 e2 q with k | k
      · rw [sum_lt k]; exact lt_irrefl _
      · rw [sum_gt k]; exact lt_asymm (lt_head k)
theorem sum_assoc : ∀ (a b c : O), ok a = true → ok b = true → ok c = true → sum (sum a b) c = sum a (sum b c)
  | a, b, z, _, _, _ => by rw [sum_z, sum_z]
  | a, z, add _ _ _, _, _, _ => by rw [sum_z, z_sum]
  | z, add _ _ _, add _ _ _, _, _, _ => by rw [z_sum, z_sum]
  | add e1 c1 r1, add e2 c2 r2, add e3 c3 r3, ha, hb, hc => by
    have g1 := ok_add.mp ha
    have g2 := ok_add.mp hb
    by_cases q23 : e2 = e3
    · subst q23
      rw [sum_eq]
      by_cases q : e1 = e2
      · subst q; rw [sum_eq, sum_eq, sum_eq, Int.add_assoc]
      · rcases lt_total e1 e2 q with k | k
        · rw [sum_lt k, sum_lt k, sum_eq]
        · rw [sum_gt k, sum_gt k, sum_gt k, sum_assoc r1 _ _ g1.2.2.1 hb hc, sum_eq]
    · rcases lt_total e2 e3 q23 with k23 | k23
      · rw [sum_lt k23]
        by_cases q : e1 = e2
        · subst q; rw [sum_eq, sum_lt k23, sum_lt k23]
        · rcases lt_total e1 e2 q with k | k
          · rw [sum_lt k, sum_lt k23, sum_lt (lt_trans _ _ _ k k23)]
          · rw [sum_gt k]
            by_cases q3 : e1 = e3
            · subst q3; rw [sum_eq, sum_eq]
            · rcases lt_total e1 e3 q3 with k3 | k3
              · rw [sum_lt k3, sum_lt k3]
              · rw [sum_gt k3, sum_gt k3, sum_assoc r1 _ _ g1.2.2.1 hb hc, sum_lt k23]
      · rw [sum_gt k23]
        by_cases q : e1 = e2
        · subst q; rw [sum_eq, sum_gt k23, sum_eq]
        · rcases lt_total e1 e2 q with k | k
          · rw [sum_lt k, sum_lt k, sum_gt k23]
          · rw [sum_gt k, sum_gt (lt_trans _ _ _ k23 k), sum_gt k, sum_assoc r1 _ _ g1.2.2.1 hb hc, sum_gt k23]
def one : O := add z 1 z
/-- nothing between an ordinal and the next one -/
theorem lt_succ_iff : ∀ (a b : O), ok a = true → ok b = true → lt a b = true → lt b (sum a one) = false
  | z, b, _, hb, h => by
    rw [z_sum]
    cases b with
    | z => cases h
    | add e c r =>
      have g := ok_add.mp hb
      show (if e = z then (if c = 1 then lt r z else decide (c < 1)) else lt e z) = false
      rw [not_lt_nil, not_lt_nil]
      split
      · split
        · rfl
        · exact decide_eq_false (by omega)
      · rfl
  | add e c r, z, _, _, h => by cases h
  | add e c r, add e' c' r', ha, hb, h => by
    have g := ok_add.mp ha
    have g' := ok_add.mp hb
    by_cases qz : e = z
    · subst qz
      show lt _ (sum (add z c r) (add z 1 z)) = false
      rw [sum_eq]
      have hr : r = z := by
        cases r with
        | z => rfl
        | add x y w => have := g.2.2.2; rw [show under z (add x y w) = lt x z from rfl, not_lt_nil] at this; cases this
      subst hr
      by_cases q : z = e'
      · subst q
        have hc : c < c' ∨ (c = c' ∧ lt z r' = true) := by
          simp only [lt, if_true] at h
          by_cases x : c = c'
          · rw [if_pos x] at h; exact .inr ⟨x, h⟩
          · rw [if_neg x] at h; exact .inl (of_decide_eq_true h)
        rcases hc with x | ⟨x, y⟩
        · by_cases x2 : c + 1 = c'
          · rw [x2, lt_rest, not_lt_nil]
          · exact lt_asymm (lt_cnt (by omega))
        · have hr' : r' = z := by
            cases r' with
            | z => rfl
            | add x2 y2 w2 => have := g'.2.2.2; rw [show under z (add x2 y2 w2) = lt x2 z from rfl, not_lt_nil] at this; cases this
          rw [hr'] at y; cases y
      · exact lt_asymm (lt_head (nil_lt (fun x => q x.symm)))
    · have k : lt z e = true := nil_lt qz
      show lt _ (sum (add e c r) (add z 1 z)) = false
      rw [sum_gt k]
      by_cases q : e = e'
      · subst q
        by_cases x : c = c'
        · subst x
          rw [lt_rest] at h ⊢
          exact lt_succ_iff r r' g.2.2.1 g'.2.2.1 h
        · simp only [lt, if_true] at h
          rw [if_neg x] at h
          exact lt_asymm (lt_cnt (of_decide_eq_true h))
      · have : lt e e' = true := by simpa [lt, q] using h
        exact lt_asymm (lt_head this)
theorem ok_one : ok one = true := by decide
theorem lt_succ {a : O} (h : ok a = true) : lt a (sum a one) = true := by
  have := sum_mono a z one h rfl ok_one rfl
  rw [sum_z] at this
  exact this
end O
end Vw

set_option Elab.async false
set_option linter.all false
set_option maxRecDepth 100000
namespace Vw
open PySem PySem.W PyProof.Rows L2
namespace O
def toDs : O → List PyData
  | z => []
  | add e c r => .tuple [.tuple (toDs e), .int c] :: toDs r
def toD (o : O) : PyData := .tuple (toDs o)
def dp : O → Nat
  | z => 0
  | add e _ r => max (dp e + 2) (dp r)
theorem depth_toDs : ∀ o : O, PyData.depthAll (toDs o) = dp o
  | z => by simp [toDs, dp, PyData.depthAll]
  | add e c r => by
    have h1 := depth_toDs e
    have h2 := depth_toDs r
    simp only [toDs, dp, PyData.depthAll, PyData.depth, h1, h2]
    omega
theorem depth_toD (o : O) : (toD o).depth = dp o + 1 := by simp only [toD, PyData.depth, depth_toDs]
theorem lay_toDs : ∀ o : O, PyData.canLayAll0 (toDs o) = true
  | z => by simp [toDs, PyData.canLayAll0]
  | add e c r => by simp [toDs, PyData.canLayAll0, PyData.canLay0, lay_toDs e, lay_toDs r]
theorem lay_toD (o : O) : (toD o).canLay0 = true := by simp only [toD, PyData.canLay0, lay_toDs]
theorem shaped_toD {o : O} (h : dp o ≤ 60) : SeqAt.shaped (toD o) = true := by
  unfold SeqAt.shaped
  rw [lay_toD, depth_toD]
  simp; omega
theorem alike_toDs : ∀ a b : O, alikeAll (toDs a) (toDs b) = true
  | z, _ => by simp [toDs, alikeAll]
  | add _ _ _, z => by simp [toDs, alikeAll]
  | add e c r, add e' c' r' => by simp [toDs, alikeAll, alike, alike_toDs e e', alike_toDs r r']
theorem alike_toD (a b : O) : alike (toD a) (toD b) = true := by simp only [toD, alike, alike_toDs]
theorem eqv_toDs : ∀ a b : O, PyData.eqvAll (toDs a) (toDs b) = decide (a = b)
  | z, z => by simp [toDs, PyData.eqvAll]
  | z, add _ _ _ => by simp [toDs, PyData.eqvAll]
  | add _ _ _, z => by simp [toDs, PyData.eqvAll]
  | add e c r, add e' c' r' => by
    simp only [toDs, PyData.eqvAll, PyData.eqv, eqv_toDs e e', eqv_toDs r r']
    by_cases h1 : e = e' <;> by_cases h2 : c = c' <;> by_cases h3 : r = r' <;> simp [h1, h2, h3]
theorem eqv_toD (a b : O) : PyData.eqv (toD a) (toD b) = decide (a = b) := by simp only [toD, PyData.eqv, eqv_toDs]
/-- a term -/
def tD (p : O × Int) : PyData := .tuple [toD p.1, .int p.2]
theorem toDs_ts : ∀ o : O, toDs o = (ts o).map tD
  | z => rfl
  | add e c r => by show _ :: toDs r = _ :: _; rw [toDs_ts r]; rfl
theorem lt_toDs : ∀ a b : O, PyProof.Rows.lexLt itemOrd (keyToksAll (toDs a)) (keyToksAll (toDs b)) = lt a b
  | z, z => lex_irrefl _
  | z, add e c r => by
    simp only [toDs, toks_all_cons]
    simp only [keyToksAll]
    rw [lex_diff (O := itemOrd) (by simp)]
    rfl
  | add e c r, z => by
    simp only [toDs, toks_all_cons]
    simp only [keyToksAll]
    rw [lex_diff (O := itemOrd) (by simp)]
    rfl
  | add e c r, add e' c' r' => by
    have al : alike (.tuple [.tuple (toDs e), .int c]) (.tuple [.tuple (toDs e'), .int c']) = true := by simp [alikeAll, alike, alike_toDs e e']
    have ev : PyData.eqv (.tuple [.tuple (toDs e), .int c]) (.tuple [.tuple (toDs e'), .int c']) = decide (e = e' ∧ c = c') := by
      simp only [PyData.eqvAll, PyData.eqv, eqv_toDs e e']
      by_cases h1 : e = e' <;> by_cases h2 : c = c' <;> simp [h1, h2]
    simp only [toDs, lt]
    by_cases h1 : e = e'
    · by_cases h2 : c = c'
      · rw [dataLt_all_yes al (by rw [ev]; simp [h1, h2]), lt_toDs r r', if_pos h1, if_pos h2]
      · rw [dataLt_all_no al (by rw [ev]; simp [h1, h2]), if_pos h1, if_neg h2, dataLt_tuple, dataLt_all_yes (by simp [alike, alike_toDs e e']) (by subst h1; simp [PyData.eqv, eqv_toDs]), dataLt_all_no (by simp [alike]) (by simp [PyData.eqv, h2]), dataLt_int]
    · rw [dataLt_all_no al (by rw [ev]; simp [h1]), if_neg h1, dataLt_tuple, dataLt_all_no (by simp [alike, alike_toDs e e']) (by simp only [PyData.eqv, eqv_toDs e e']; simp [h1]), dataLt_tuple, lt_toDs e e']
theorem lt_toD (a b : O) : dataLt (toD a) (toD b) = lt a b := by rw [toD, toD, dataLt_tuple, lt_toDs]
end O
/-! ### < > <= >= of data -/
section
variable {X : Cx}
@[irreducible] def rCmp (g : PyData → PyData → Bool) (K : PySem.W.Frag) : R2 := fun x y H Q => ∃ d e, Dp K H x d ∧ Dp K H y e ∧ alike d e = true ∧ d ≠ .none ∧ d.depth ≤ 64 ∧ Q (.bl (g d e)) H
theorem op_ltD (hu : X.A.units + 64 < cLine) : OpR X (compareOp .Lt) (rCmp (fun d e => dataLt d e) X.K) := by
  intro pins s σ H x y v u Q I rx ry h
  unfold rCmp at h
  obtain ⟨d, e, hd, he, al, hn, hz, q⟩ := h
  obtain ⟨as, r1⟩ := Dp.reads I d x v hd rx
  obtain ⟨bs, r2⟩ := Dp.reads I e y u he ry
  exact lt_data r1 r2 al hn (by have := Nat.min_le_left d.depth e.depth; omega) ⟨.bl _, H, I, rfl, q⟩
theorem op_gtD (hu : X.A.units + 64 < cLine) : OpR X (compareOp .Gt) (rCmp (fun d e => dataLt e d) X.K) := by
  intro pins s σ H x y v u Q I rx ry h
  unfold rCmp at h
  obtain ⟨d, e, hd, he, al, hn, hz, q⟩ := h
  obtain ⟨as, r1⟩ := Dp.reads I d x v hd rx
  obtain ⟨bs, r2⟩ := Dp.reads I e y u he ry
  exact gt_data r1 r2 al hn (by have := Nat.min_le_left d.depth e.depth; omega) ⟨.bl _, H, I, rfl, q⟩
theorem op_leD (hu : X.A.units + 64 < cLine) : OpR X (compareOp .LtE) (rCmp (fun d e => !dataLt e d) X.K) := by
  intro pins s σ H x y v u Q I rx ry h
  unfold rCmp at h
  obtain ⟨d, e, hd, he, al, hn, hz, q⟩ := h
  obtain ⟨as, r1⟩ := Dp.reads I d x v hd rx
  obtain ⟨bs, r2⟩ := Dp.reads I e y u he ry
  exact le_data r1 r2 al hn (by have := Nat.min_le_left d.depth e.depth; omega) ⟨.bl _, H, I, rfl, q⟩
theorem op_geD (hu : X.A.units + 64 < cLine) : OpR X (compareOp .GtE) (rCmp (fun d e => !dataLt d e) X.K) := by
  intro pins s σ H x y v u Q I rx ry h
  unfold rCmp at h
  obtain ⟨d, e, hd, he, al, hn, hz, q⟩ := h
  obtain ⟨as, r1⟩ := Dp.reads I d x v hd rx
  obtain ⟨bs, r2⟩ := Dp.reads I e y u he ry
  exact ge_data r1 r2 al hn (by have := Nat.min_le_left d.depth e.depth; omega) ⟨.bl _, H, I, rfl, q⟩
end
end Vw

set_option Elab.async false
set_option linter.all false
set_option maxRecDepth 100000
namespace Vw
open PySem PySem.W PySem.SeqAt PyProof.Rows
section
variable {prog : Program} {w : World} {A : Around} {E : Value → Shared → Prop} {s : Shared}
theorem call_tuple_lt {Q : Value → Shared → Prop} {l b : Addr} {items items2 : Array Value} {e r : Nat → Bool} (hl : s.heap.IsTuple l items) (hb : s.heap.IsTuple b items2)
    (he : ∀ j (h1 : j < items.size) (h2 : j < items2.size), EqAt A.in1 s items[j] items2[j] (e j)) (hr : ∀ j (h1 : j < items.size) (h2 : j < items2.size), e j = false → RcLt A.in1 s items[j] items2[j] (r j))
    (h : Q (.bool (firstLt e r (decide (items.size < items2.size)) (List.range (min items.size items2.size)))) s) : wpAny (model prog w) A (call (.builtin "tuple.__lt__") [.ref l, .ref b]) Q E s := by
  obtain ⟨⟨cls, dd, data, sl⟩, ho, hc, n, hd⟩ := id hl
  obtain ⟨⟨cls2, dd2, data2, sl2⟩, ho2, hc2, n2, hd2⟩ := id hb
  simp only at hc hd hc2 hd2
  subst hc hd hc2 hd2
  exact call_meets F.slot_tuple_lt ⟨_, ho, rfl⟩ F.entry_tuple_lt (F.args_tuple_lt_2 _ _) (SeqAt.tuple_ltAt l b items items2 n n2 dd dd2 sl sl2 e r) ⟨ho, ho2, he, hr, h⟩
/-- two tuples by tuple's own less-than -/
theorem oneLt_tups {xs ys : List PyData} {a b : Value} {as bs : List Addr} {Q : Bool → Shared → Prop} (ra : Reads s.heap a (.tuple xs) as) (rb : Reads s.heap b (.tuple ys) bs) (h : alike (.tuple xs) (.tuple ys) = true)
    (hu : A.units + min (PyData.tuple xs).depth (PyData.tuple ys).depth < cLine) (hq : Q (dataLt (.tuple xs) (.tuple ys)) s) : wpAny (model prog w) A (oneLt' true a b) Q E s := by
  have hal : alikeAll xs ys = true := by simpa [alike] using h
  cases ra with
  | @tuple l o vs n _ as₁ h1 h2 h3 h4 =>
    cases rb with
    | @tuple l' o' vs' n' _ bs₁ k1 k2 k3 k4 =>
      have n1 : vs.size = xs.length := by simpa using ReadsAll.length _ _ _ h4
      have n2 : vs'.size = ys.length := by simpa using ReadsAll.length _ _ _ k4
      rw [dataLt_tuple, ← firstLt_toks xs ys hal, ← n1, ← n2] at hq
      rw [oneLt'_eq]
      simp only [if_true]
      refine wpAny_bind (wpAny_cRoomFor (room_here hu) ?_)
      refine wpAny_bind (wpAny_callSpecialIfBound?_slot (T := "tuple") ⟨_, h1, h2⟩ F.slot_tuple_lt (call_tuple_lt (e := pairEq xs ys) (r := fun j => dataLt (xs.getD j .none) (ys.getD j .none)) ⟨_, h1, h2, _, h3⟩ ⟨_, k1, k2, _, k3⟩ (fun j j1 j2 => ?_) (fun j j1 j2 hj => ?_) ?_))
      · have := eqAt_alikeAll xs ys A.in1 s vs.toList vs'.toList _ _ h4 k4 hal (room_in hu) j (by simpa using j1) (by simpa using j2)
        simpa using this
      · have := rcLt_alikeAll xs ys A.in1 s vs.toList vs'.toList _ _ h4 k4 hal (room_in hu) j (by simpa using j1) (by simpa using j2) hj
        simpa using this
      · exact wpAny_truthy_bool hq
theorem keyLt'_general (x y : Value) : keyLt' general' x y = oneLt' false x y := rfl
/-- a tuple with an item -/
def fullT : PyData → Bool
  | .tuple (_ :: _) => true
  | _ => false
theorem fullT_no {d : PyData} (h : d = .tuple []) : fullT d = false := by subst h; rfl
theorem fullT_yes {xs : List PyData} (h : ¬ PyData.tuple xs = .tuple []) : fullT (.tuple xs) = true := by
  cases xs with
  | nil => exact absurd rfl h
  | cons _ _ => rfl
/-- the first items -/
theorem firsts_any : ∀ {vs : List Value} {ds : List PyData}, EachIs (fun v d => ∃ as, Reads s.heap v d as) vs ds → (∀ d ∈ ds, ∃ xs, d = .tuple xs) →
    ∃ fs : List (Option Value), fs.map (·.isSome) = ds.map fullT ∧ ∀ (Q : List (Option Value) → Shared → Prop), Q fs s → wpAny (model prog w) A (vs.mapM firstOfTuple') Q E s
  | _, _, .nil, _ => ⟨[], rfl, fun Q q => by rw [List.mapM_nil]; exact wpAny_pure q⟩
  | _, _, .cons (a := v) (b := d) ⟨as, r⟩ t, ht => by
    obtain ⟨fs, h1, h2⟩ := firsts_any t fun d hd => ht d (List.mem_cons_of_mem _ hd)
    obtain ⟨xs, rfl⟩ := ht d (List.mem_cons_self ..)
    cases r with
    | @tuple a o vs n _ _ ho hc hd hr =>
      have hn : vs.size = xs.length := by simpa using ReadsAll.length _ _ _ hr
      refine ⟨vs[0]? :: fs, ?_, fun Q q => ?_⟩
      · rw [List.map_cons, List.map_cons, h1]
        congr 1
        cases xs with
        | nil =>
          have : vs.size = 0 := by simpa using hn
          simp [this, fullT]
        | cons x r =>
          have : 0 < vs.size := by simp at hn; omega
          simp [this, fullT]
      · rw [List.mapM_cons]
        refine wpAny_bind ?_
        rw [kas_first_eq]
        refine wpAny_bind (Looks.here (show Looks (model prog w) s.heap (typeOf (.ref a)) o.cls from (Looks.ld ho).andThen .now) ?_)
        rw [hc, if_neg (by first | decide | simp)]
        refine wpAny_bind (listItems_at ho hd (wpAny_pure ?_))
        exact wpAny_bind (h2 _ (wpAny_pure q))
/-- the kind of tuples of which some are empty -/
theorem kind_tups {vs : List Value} {ds : List PyData} (e : EachIs (fun v d => ∃ as, Reads s.heap v d as) vs ds) (ht : ∀ d ∈ ds, ∃ xs, d = .tuple xs) (hx : .tuple [] ∈ ds) :
    ∃ kd, (kd = oneType' ∨ kd = general') ∧ ∀ (E : Value → Shared → Prop) (Q : SortKind → Shared → Prop), Q kd s → wpAny (model prog w) A (keyKind' vs.toArray) Q E s := by
  have hall : ∀ fs : List (Option Value), fs.map (·.isSome) = ds.map fullT → ¬ (fs.toArray.all (·.isSome)) = true := fun fs hf hh => by
    simp only [List.all_toArray] at hh
    have h2 : (fs.map (·.isSome)).all id = true := by rw [List.all_map]; exact hh
    rw [hf, List.all_map, List.all_eq_true] at h2
    have := h2 _ hx
    simp [fullT] at this
  cases ds with
  | nil => cases hx
  | cons d₀ ds₀ =>
    have hsp : ∀ fs : List (Option Value), fs.map (·.isSome) = (d₀ :: ds₀).map fullT → (fs.toArray[0]?.bind id).isSome = fullT d₀ := fun fs hf => by
      cases fs with
      | nil => simp at hf
      | cons f r =>
        rw [List.map_cons, List.map_cons] at hf
        have := (List.cons.inj hf).1
        simpa using this
    by_cases h0 : d₀ = .tuple []
    · refine ⟨oneType', .inl rfl, fun E Q q => ?_⟩
      obtain ⟨fs, h1, h2⟩ := firsts_any (prog := prog) (w := w) (A := A) (E := E) (s := s) e ht
      rw [keyKind'_eq, List.mapM_toArray, map_eq_pure_bind]
      refine wpAny_bind (wpAny_bind (h2 _ (wpAny_pure ?_)))
      rw [if_neg (hall fs h1), if_neg (by rw [hsp fs h1, fullT_no h0]; exact Bool.false_ne_true)]
      rw [oneTypeOnly'_eq, List.mapM_toArray, map_eq_pure_bind]
      refine wpAny_bind (wpAny_bind (wpAny_bind (kas_mapM (r := Value.type "tuple") _ (fun v hv Q' hq => ?_) (wpAny_pure ?_))))
      · obtain ⟨d, hd, as, r⟩ := e.left v hv
        obtain ⟨xs, rfl⟩ := ht d hd
        exact (looks_reads r).here hq
      · have hne : vs ≠ [] := by rintro rfl; cases e
        obtain ⟨v0, vr, rfl⟩ : ∃ v0 vr, vs = v0 :: vr := by
          cases vs with
          | nil => exact absurd rfl hne
          | cons v0 vr => exact ⟨v0, vr, rfl⟩
        have hall3 : ((List.map (fun _ => Value.type "tuple") (v0 :: vr)).toArray.all fun x => x == Value.type "tuple") = true := by
          simp only [List.all_toArray, List.all_map, List.all_eq_true]
          intro _ _
          exact beq_self_eq_true _
        have h00 : (List.map (fun _ => Value.type "tuple") (v0 :: vr)).toArray[0]? = some (Value.type "tuple") := by simp
        rw [h00]
        simp only [hall3, if_true]
        exact wpAny_pure (wpAny_pure q)
    · refine ⟨general', .inr rfl, fun E Q q => ?_⟩
      obtain ⟨fs, h1, h2⟩ := firsts_any (prog := prog) (w := w) (A := A) (E := E) (s := s) e ht
      rw [keyKind'_eq, List.mapM_toArray, map_eq_pure_bind]
      refine wpAny_bind (wpAny_bind (h2 _ (wpAny_pure ?_)))
      rw [if_neg (hall fs h1), if_pos (by rw [hsp fs h1]; obtain ⟨xs, rfl⟩ := ht d₀ (List.mem_cons_self ..); exact fullT_yes h0)]
      exact wpAny_pure q
/-- tuples that are alike can be sorted, also where some are empty -/
theorem SortsAt.tups {vs : List Value} {ds : List PyData} (e : EachIs (fun v d => ∃ as, Reads s.heap v d as) vs ds) (hal : AllAlike ds) (ht : ∀ d ∈ ds, ∃ xs, d = .tuple xs) (hu : ∀ d, d ∈ ds → A.units + d.depth < cLine) : SortsAt prog w A s (dataKind s.heap ds) vs := by
  by_cases hx : .tuple [] ∈ ds
  · have room : ∀ {d d' : PyData}, d ∈ ds → A.units + min d.depth d'.depth < cLine := fun {d d'} hd => Nat.lt_of_le_of_lt (Nat.add_le_add_left (Nat.min_le_left _ _) _) (hu d hd)
    refine ⟨fun v hv => ?_, ?_⟩
    · obtain ⟨d, hd, as, r⟩ := e.left v hv
      exact ⟨_, dataKind_some hal hd r⟩
    · obtain ⟨kd, hk, h2⟩ := kind_tups (prog := prog) (w := w) (A := A) (s := s) e ht hx
      refine ⟨kd, ?_, fun _ E Q q => h2 E Q q⟩
      intro E x y a b Q ha hb hq
      obtain ⟨d, as, hd, ra, rfl⟩ := dataKind_inv ha
      obtain ⟨d', as', hd', rb, rfl⟩ := dataKind_inv hb
      have hdd := hal d hd d' hd'
      have hroom := room (d' := d') hd
      obtain ⟨x1, rfl⟩ := ht d hd
      obtain ⟨x2, rfl⟩ := ht d' hd'
      rcases hk with rfl | rfl
      · rw [keyLt'_oneType]
        exact oneLt_tups ra rb hdd hroom hq
      · rw [keyLt'_general]
        exact oneLt_alike (fun z => absurd z Bool.false_ne_true) ra rb hdd (fun z => by cases z) hroom hq
  · exact SortsAt.data e hal (.inl fun d hd => by
      obtain ⟨xs, rfl⟩ := ht d hd
      cases xs with
      | nil => exact absurd hd hx
      | cons x r => exact ⟨x, r, rfl⟩) hu
end
end Vw

set_option Elab.async false
set_option linter.all false
set_option maxRecDepth 100000
namespace Vw
open PySem PySem.W PyProof.Rows L2
/-! ### heaps -/
/-- all but the object at b stay -/
def Kp (b : Addr) (H H' : Hp) : Prop := ∀ a o, a ≠ b → H a = some o → H' a = some o
theorem Kp.refl {b : Addr} (H : Hp) : Kp b H H := fun _ _ _ h => h
theorem Kp.trans {b : Addr} {H H1 H2 : Hp} (x : Kp b H H1) (y : Kp b H1 H2) : Kp b H H2 := fun a o n h => y a o n (x a o n h)
theorem same_kp {b : Addr} {H H' : Hp} (x : Same H H') : Kp b H H' := fun a o _ h => x a o h
theorem Kp.upd {b : Addr} {H : Hp} {o : HO} : Kp b H (upd H b o) := fun a u n h => by rw [upd_ne n]; exact h
theorem same_new {H : Hp} {p : Addr} {o : HO} (h : H p = none) : Same H (upd H p o) := fun b u q => by rw [upd_ne (ne_of_none q h)]; exact q
/-- an object that H did not know may change -/
theorem same_mut {H H' : Hp} {p : Addr} {o : HO} (x : Same H H') (h : H p = none) : Same H (upd H' p o) := fun b u q => by rw [upd_ne (ne_of_none q h)]; exact x b u q
theorem kp_mut {b : Addr} {H H' : Hp} {p : Addr} {o : HO} (x : Kp b H H') (h : H p = none) : Kp b H (upd H' p o) := fun a u n q => by rw [upd_ne (ne_of_none q h)]; exact x a u n q
/-- all tuples stay -/
def Tp (H H' : Hp) : Prop := ∀ a xs, H a = some (.tup xs) → H' a = some (.tup xs)
theorem Tp.refl (H : Hp) : Tp H H := fun _ _ h => h
theorem Tp.trans {H H1 H2 : Hp} (x : Tp H H1) (y : Tp H1 H2) : Tp H H2 := fun a o h => y a o (x a o h)
theorem same_tp {H H' : Hp} (x : Same H H') : Tp H H' := fun a xs h => x a _ h
theorem Kp.tp {b : Addr} {H H' : Hp} {ys : List V} (x : Kp b H H') (hb : H b = some (.lst ys)) : Tp H H' := fun a xs h => x a _ (ne_of h hb (fun z => by cases z)) h
theorem tp_new {H : Hp} {p : Addr} {o : HO} (h : H p = none) : Tp H (upd H p o) := same_tp (same_new h)
theorem tp_lst {H : Hp} {p : Addr} {ys : List V} {o : HO} (h : H p = some (.lst ys)) : Tp H (upd H p o) := fun a xs q => by rw [upd_ne (ne_of q h (fun z => by cases z))]; exact q

/-! ### ordinals in the heap -/
def KT (K : PySem.W.Frag) (a : Addr) (xs : List V) : Prop := ∃ (o : Obj) (its : Array Value) (n : Nat), K.lookup a = some o ∧ o.cls = .type "tuple" ∧ o.data = .seq its n ∧ its.size ≤ sizeLine ∧ Vals xs its.toList
def TT (K : PySem.W.Frag) (H : Hp) (a : Addr) (xs : List V) : Prop := H a = some (.tup xs) ∨ KT K a xs
section
variable {K : PySem.W.Frag} {H H' : Hp}
theorem TT.tp {a : Addr} {xs : List V} (t : Tp H H') (h : TT K H a xs) : TT K H' a xs := h.imp (t a xs) id
theorem TT.sq {a : Addr} {xs : List V} (h : TT K H a xs) : SqT K H a xs := by
  rcases h with h | h
  · exact .inl (.inl h)
  · exact .inr h
theorem TT.of {a : Addr} {xs : List V} (h : H a = some (.tup xs)) : TT K H a xs := .inl h
theorem TT.ty {a : Addr} {xs : List V} (h : TT K H a xs) : TyX K H (.ref a) (.type "tuple") := by
  rcases h with h | ⟨o, its, n, h1, h2, _⟩
  · exact .base (.tup h)
  · exact .kTuple h1 h2
def TsA (K : PySem.W.Frag) (H : Hp) : List V → O → Prop
  | vs, .z => vs = []
  | vs, .add e c r => ∃ p q ws vr, vs = .ref p :: vr ∧ TT K H p [.ref q, .int c] ∧ TT K H q ws ∧ TsA K H ws e ∧ TsA K H vr r
def OA (K : PySem.W.Frag) (H : Hp) (v : V) (o : O) : Prop := ∃ a vs, v = .ref a ∧ TT K H a vs ∧ TsA K H vs o
/-- a term -/
def TmA (K : PySem.W.Frag) (H : Hp) (v : V) (t : O × Int) : Prop := ∃ p q, v = .ref p ∧ TT K H p [.ref q, .int t.2] ∧ OA K H (.ref q) t.1
theorem TsA.tp (t : Tp H H') : ∀ {o : O} {vs : List V}, TsA K H vs o → TsA K H' vs o
  | .z, _, h => h
  | .add e c r, _, h => by
    obtain ⟨p, q, ws, vr, rfl, h1, h2, h3, h4⟩ := h
    exact ⟨p, q, ws, vr, rfl, h1.tp t, h2.tp t, TsA.tp t h3, TsA.tp t h4⟩
theorem OA.tp {v : V} {o : O} (t : Tp H H') (h : OA K H v o) : OA K H' v o := by
  obtain ⟨a, vs, rfl, h1, h2⟩ := h
  exact ⟨a, vs, rfl, h1.tp t, h2.tp t⟩
theorem TmA.tp {v : V} {x : O × Int} (t : Tp H H') (h : TmA K H v x) : TmA K H' v x := by
  obtain ⟨p, q, rfl, h1, h2⟩ := h
  exact ⟨p, q, rfl, h1.tp t, h2.tp t⟩
theorem TsA.pair : ∀ {o : O} {vs : List V}, TsA K H vs o → Paired (TmA K H) vs (O.ts o)
  | .z, _, h => by cases h; exact .nil
  | .add e c r, _, h => by
    obtain ⟨p, q, ws, vr, rfl, h1, h2, h3, h4⟩ := h
    exact .cons ⟨p, q, rfl, h1, q, ws, rfl, h2, h3⟩ (TsA.pair h4)
theorem TsA.of : ∀ {l : List (O × Int)} {vs : List V}, Paired (TmA K H) vs l → TsA K H vs (O.of l)
  | _, _, .nil => rfl
  | _, _, .cons (b := (e, c)) ⟨p, q, h0, h1, q', ws, h2, h3, h4⟩ t => by
    cases h0
    cases h2
    exact ⟨p, q, ws, _, rfl, h1, h3, h4, TsA.of t⟩
theorem OA.of {a : Addr} {vs : List V} {l : List (O × Int)} (h : TT K H a vs) (p : Paired (TmA K H) vs l) : OA K H (.ref a) (O.of l) := ⟨a, vs, rfl, h, .of p⟩
theorem paired_mono {α β : Type} {F G : α → β → Prop} (h : ∀ a b, F a b → G a b) : ∀ {xs : List α} {ys : List β}, Paired F xs ys → Paired G xs ys
  | _, _, .nil => .nil
  | _, _, .cons a t => .cons (h _ _ a) (paired_mono h t)
theorem paired_app {α β : Type} {F : α → β → Prop} : ∀ {xs xs2 : List α} {ys ys2 : List β}, Paired F xs ys → Paired F xs2 ys2 → Paired F (xs ++ xs2) (ys ++ ys2)
  | _, _, _, _, .nil, t => t
  | _, _, _, _, .cons a t, u => .cons a (paired_app t u)
theorem paired_get {α β : Type} {F : α → β → Prop} : ∀ {xs : List α} {ys : List β} {i : Nat} {x : α}, Paired F xs ys → xs[i]? = some x → ∃ y, ys[i]? = some y ∧ F x y
  | _, _, _, _, .nil, h => by simp at h
  | _, _, 0, _, .cons a t, h => by
    simp at h; subst h
    exact ⟨_, rfl, a⟩
  | _, _, i + 1, _, .cons a t, h => by
    obtain ⟨y, h1, h2⟩ := paired_get (i := i) t (by simpa using h)
    exact ⟨y, by simpa using h1, h2⟩
theorem paired_get' {α β : Type} {F : α → β → Prop} : ∀ {xs : List α} {ys : List β} {i : Nat} {y : β}, Paired F xs ys → ys[i]? = some y → ∃ x, xs[i]? = some x ∧ F x y
  | _, _, _, _, .nil, h => by simp at h
  | _, _, 0, _, .cons a t, h => by
    simp at h; subst h
    exact ⟨_, rfl, a⟩
  | _, _, i + 1, _, .cons a t, h => by
    obtain ⟨y, h1, h2⟩ := paired_get' (i := i) t (by simpa using h)
    exact ⟨y, by simpa using h1, h2⟩
theorem paired_len {α β : Type} {F : α → β → Prop} : ∀ {xs : List α} {ys : List β}, Paired F xs ys → xs.length = ys.length
  | _, _, .nil => rfl
  | _, _, .cons _ t => congrArg Nat.succ (paired_len t)
theorem paired_take {α β : Type} {F : α → β → Prop} : ∀ {xs : List α} {ys : List β} (n : Nat), Paired F xs ys → Paired F (xs.take n) (ys.take n)
  | _, _, 0, _ => .nil
  | _, _, _ + 1, .nil => .nil
  | _, _, n + 1, .cons a t => .cons a (paired_take n t)
theorem paired_drop {α β : Type} {F : α → β → Prop} : ∀ {xs : List α} {ys : List β} (n : Nat), Paired F xs ys → Paired F (xs.drop n) (ys.drop n)
  | _, _, 0, h => h
  | _, _, _ + 1, .nil => .nil
  | _, _, n + 1, .cons a t => paired_drop n t
theorem paired_filter {α β : Type} {F : α → β → Prop} (f : α → Bool) (g : β → Bool) (h : ∀ a b, F a b → f a = g b) : ∀ {xs : List α} {ys : List β}, Paired F xs ys → Paired F (xs.filter f) (ys.filter g)
  | _, _, .nil => .nil
  | _, _, .cons (a := a) (b := b) x t => by
    rw [List.filter_cons, List.filter_cons, h a b x]
    cases g b with
    | true => exact .cons x (paired_filter f g h t)
    | false => exact paired_filter f g h t
mutual
theorem TsA.dp : ∀ {o : O} {vs : List V}, TsA K H vs o → DpAll K H vs (O.toDs o)
  | .z, _, h => by cases h; exact .nil
  | .add e c r, _, h => by
    obtain ⟨p, q, ws, vr, rfl, h1, h2, h3, h4⟩ := h
    exact .cons (.tup h1.sq (.cons (.tup h2.sq (TsA.dp h3)) (.cons (.int c) .nil))) (TsA.dp h4)
end
theorem OA.dp {v : V} {o : O} (h : OA K H v o) : Dp K H v (O.toD o) := by
  obtain ⟨a, vs, rfl, h1, h2⟩ := h
  exact .tup h1.sq h2.dp
theorem OA.ref {v : V} {o : O} (h : OA K H v o) : ∃ a, v = .ref a := by
  obtain ⟨a, vs, rfl, _⟩ := h
  exact ⟨a, rfl⟩
theorem OA.nil {a : Addr} (h : TT K H a []) : OA K H (.ref a) .z := ⟨a, [], rfl, h, rfl⟩
/-! ### what the comparisons ask -/
variable {x y : V} {a b : O} {Q : VK}
theorem rd_lt (ha : OA K H x a) (hb : OA K H y b) (h : O.dp a ≤ 60) (q : Q (.bl (O.lt a b)) H) : rCmp (fun d e => dataLt d e) K x y H Q := by
  unfold rCmp
  exact ⟨_, _, ha.dp, hb.dp, O.alike_toD a b, (fun z => by cases z), by rw [O.depth_toD]; omega, by show Q (.bl (dataLt _ _)) H; rw [O.lt_toD]; exact q⟩
theorem rd_gt (ha : OA K H x a) (hb : OA K H y b) (h : O.dp a ≤ 60) (q : Q (.bl (O.lt b a)) H) : rCmp (fun d e => dataLt e d) K x y H Q := by
  unfold rCmp
  exact ⟨_, _, ha.dp, hb.dp, O.alike_toD a b, (fun z => by cases z), by rw [O.depth_toD]; omega, by show Q (.bl (dataLt _ _)) H; rw [O.lt_toD]; exact q⟩
theorem rd_le (ha : OA K H x a) (hb : OA K H y b) (h : O.dp a ≤ 60) (q : Q (.bl (!O.lt b a)) H) : rCmp (fun d e => !dataLt e d) K x y H Q := by
  unfold rCmp
  exact ⟨_, _, ha.dp, hb.dp, O.alike_toD a b, (fun z => by cases z), by rw [O.depth_toD]; omega, by show Q (.bl (!dataLt _ _)) H; rw [O.lt_toD]; exact q⟩
theorem rd_ge (ha : OA K H x a) (hb : OA K H y b) (h : O.dp a ≤ 60) (q : Q (.bl (!O.lt a b)) H) : rCmp (fun d e => !dataLt d e) K x y H Q := by
  unfold rCmp
  exact ⟨_, _, ha.dp, hb.dp, O.alike_toD a b, (fun z => by cases z), by rw [O.depth_toD]; omega, by show Q (.bl (!dataLt _ _)) H; rw [O.lt_toD]; exact q⟩
@[irreducible] def rEqO (K : PySem.W.Frag) : R2 := rEqD K
@[irreducible] def rNeO (K : PySem.W.Frag) : R2 := rNeD K
theorem rd_eq (ha : OA K H x a) (hb : OA K H y b) (h : O.dp a ≤ 60) (h2 : O.dp b ≤ 60) (q : Q (.bl (decide (a = b))) H) : rEqO K x y H Q := by
  unfold rEqO
  exact ⟨_, _, ha.dp, hb.dp, O.shaped_toD h, O.shaped_toD h2, by rw [O.eqv_toD]; exact q⟩
theorem rd_ne (ha : OA K H x a) (hb : OA K H y b) (h : O.dp a ≤ 60) (h2 : O.dp b ≤ 60) (q : Q (.bl (!decide (a = b))) H) : rNeO K x y H Q := by
  unfold rNeO
  exact ⟨_, _, ha.dp, hb.dp, O.shaped_toD h, O.shaped_toD h2, by rw [O.eqv_toD]; exact q⟩
end
theorem op_eqO {X : Cx} (hu : X.A.units + 64 < cLine) : OpR X (compareOp .Eq) (rEqO X.K) := by unfold rEqO; exact op_eqD hu
theorem op_neO {X : Cx} (hu : X.A.units + 64 < cLine) : OpR X (compareOp .NotEq) (rNeO X.K) := by unfold rNeO; exact op_neD hu
/-! ### sorted(.., reverse=True) of ordinals -/
def rSortedO (K : PySem.W.Frag) : List V → List V → Hp → VK → Prop := fun vs zs H Q => ∃ (a : Addr) (xs : List V) (os : List O), vs = [V.ref a] ∧ zs = [.bl true] ∧ SqL K H a xs ∧ Paired (OA K H) xs os ∧ (∀ o ∈ os, O.dp o ≤ 60) ∧
  ∀ (ys : List V) (os' : List O) (p : Addr), Paired (OA K H) ys os' → os'.Perm os → os'.Pairwise (fun a b => O.lt a b = false) → H p = none → Q (.ref p) (upd H p (.lst ys))
theorem dataLe_toD (a b : O) : dataLe true O.toD a b = !O.lt a b := by
  show sortLe (listOrd itemOrd) true (fun b => keyToks (O.toD b)) a b = _
  rw [← O.lt_toD]
  rfl
section
variable {X : Cx}
theorem each_of {R : Value → O → Prop} {F : V → O → Prop} (h : ∀ x u o, F x o → RelV x u → R u o) : ∀ {xs : List V} {os : List O} {us : List Value}, Paired F xs os → Vals xs us → EachIs R us os
  | _, _, _, .nil, .nil => .nil
  | _, _, _, .cons a t, .cons b u => .cons (h _ _ _ a b) (each_of h t u)
theorem each_back {F : V → O → Prop} : ∀ {us : List Value} {os : List O}, EachIs (fun u o => ∃ x, RelV x u ∧ F x o) us os → ∃ ys, Vals ys us ∧ Paired F ys os
  | _, _, .nil => ⟨[], .nil, .nil⟩
  | _, _, .cons ⟨x, a, b⟩ t => by
    obtain ⟨ys, h1, h2⟩ := each_back t
    exact ⟨x :: ys, .cons a h1, .cons b h2⟩
theorem cr_sortedO (hu : X.A.units + 64 < cLine) : CallRK X (.builtin "sorted") [Str.ofString "reverse"] (rSortedO X.K) := by
  intro pins s σ H vs zs us ws Q I r rz h
  obtain ⟨a, xs, os, rfl, rfl, hs, hp, hd, q⟩ := h
  obtain rfl := Vals.ref1 r
  obtain ⟨w1, rfl, e1⟩ := vals1 rz
  obtain rfl : w1 = Value.bool true := e1
  obtain ⟨its, rv, hl, hz⟩ := I.list hs
  have e0 : EachIs (fun u o => ∃ x, RelV x u ∧ OA X.K H x o) its os := each_of (fun x u o a b => ⟨x, b, a⟩) hp rv
  have er : EachIs (fun v o => ∃ as, Reads s.heap v (O.toD o) as) its os := e0.mono fun u o ⟨x, rx, ox⟩ => Dp.reads I _ _ _ ox.dp rx
  have er' : EachIs (fun v o => ∃ as, Reads (sortingHeap (copyHeap s.heap its) (s.heap.objs.size + 1) its) v (O.toD o) as) its os := er.mono fun _ _ ⟨as, r⟩ => ⟨as, PyProof.Rows.Reads.keeps (fun _ _ => sorting_copy_old) r⟩
  have hal : AllAlike (os.map O.toD) := AllAlike.of O.alike_toD
  refine sorted_rev_vals (b := true) hl.isList (SortsAt.tups (s := { s with heap := sortingHeap (copyHeap s.heap its) (s.heap.objs.size + 1) its }) (each_map (R := fun v d => ∃ as, Reads (sortingHeap (copyHeap s.heap its) (s.heap.objs.size + 1) its) v d as) O.toD er') hal (fun d hd => ?_) (fun d hm => ?_)) (by rw [← rv.length]; exact hz) ?_
  · obtain ⟨o, _, rfl⟩ := List.mem_map.mp hd
    exact ⟨_, rfl⟩
  · obtain ⟨o, ho, rfl⟩ := List.mem_map.mp hm
    rw [O.depth_toD]
    have := hd o ho
    show X.A.units + 1 + 1 + _ < _
    omega
  · have e2 := sortVals_data (h' := sortingHeap (copyHeap s.heap its) (s.heap.objs.size + 1) its) (enc := O.toD) true e0 er' hal
    obtain ⟨ys, v1, v2⟩ := each_back e2
    obtain ⟨ep, he'⟩ := PyProof.Rows.sortedAll_at s.heap its (sortVals (dataKind (sortingHeap (copyHeap s.heap its) (s.heap.objs.size + 1) its) (os.map O.toD)) true its its).toArray
    have hlen : ys.length ≤ sizeLine := by
      rw [paired_len v2, (List.mergeSort_perm os _).length_eq, ← paired_len hp]
      exact hz
    refine ⟨.ref _, upd H (s.heap.objs.size + 1) (.lst ys), I.laid (t' := s.toks) (fun _ _ => PyProof.Rows.sortedAll_old) (Nat.le_succ _) ⟨hlen, _, ep, v1, he'⟩, rfl, q _ _ _ v2 (List.mergeSort_perm os _) ?_ (I.hok.fresh (Nat.le_succ _))⟩
    refine (List.pairwise_mergeSort (le := dataLe true O.toD) (fun a b c h1 h2 => ?_) (fun a b => ?_) os).imp fun {a b} h => ?_
    · rw [dataLe_toD] at h1 h2 ⊢
      simp only [Bool.not_eq_true'] at h1 h2 ⊢
      exact O.ge_trans h1 h2
    · rw [dataLe_toD, dataLe_toD]
      by_cases e : a = b
      · subst e; rw [O.lt_irrefl]; rfl
      · rcases O.lt_total a b e with k | k
        · rw [k, O.lt_asymm k]; rfl
        · rw [k, O.lt_asymm k]; rfl
    · rw [dataLe_toD] at h
      simpa using h
end
/-! ### f(k = v, ..) -/
section
variable {X : Cx} {CX : CXT} {k : Nat} {f : Addr} {fd : FuncData} {ps ks : List Str} {sp : Sp} {E : XK} {x : Str} {p pos : Pos} {kws : List Keyword} {tk : TA} {g : List Value → List Value → List Value} {gV : List V → List V → List V}
theorem pe_callK0 (F : FnOk X.prog X.w X.K X.mg X.base CX k f fd ps sp) (hr : Room k X.A) (hg : Gl X x) (hm : X.mg x = some (.ref f)) (hk : PySem.W.keepIn X.K (.ref f) = true) (hb : KBinds X.K fd ps ks g gV) (hx : Passes CX X E)
    (hkw : PK X kws tk) (hall : (backToKw pos (keywordEach kws X.env)).all (·.1.isSome) = true := by rfl) (hks : (backToKw pos (keywordEach kws X.env)).filterMap (·.1) = ks := by rfl)
    (hdb : (x == ("__debug__" : Str)) = false := by decide)
    (hpl : ((backTo pos (starEach [] X.env)).any (·.1) || (backToKw pos (keywordEach kws X.env)).any (·.1.isNone)) = false := by rfl) :
    PE X (.Call (.Name x p) [] kws pos) (tCallK sp gV E tNil tk) := by
  refine ⟨fun pins s σ H Q I h => ?_⟩
  refine wpAny_Call_Name_kw (ld_glob I hg hm ?_ hdb)
  refine PySem.W.callWith_KW0 (h₀ := X.base) I.ok.mod.kin hk hall ?_ hpl
  refine thn (hkw.run pos pins s σ H _ I h) fun ws s2 ⟨zs, H2, I2, rz, q2⟩ => ⟨I2.kIn, ?_⟩
  rw [hks]
  exact run_fnk (us := []) (vs := []) F hr hb hx I2 .nil rz q2
end
/-! ### a def that keeps its promise, as it is called -/
structure Cal (P : Program) (w : World) (K : PySem.W.Frag) (mg : Str → Option Value) (base : Heap) (k : Nat) (x : Str) (ps : List Str) (sp : Sp) (f : Addr) (fd : FuncData) : Prop where
  G : FnOk P w K mg base CX0 k f fd ps sp
  m : mg x = some (.ref f)
  kp : PySem.W.keepIn K (.ref f) = true
  b : Binds K fd ps []
end Vw

set_option Elab.async false
set_option linter.all false
set_option maxRecDepth 100000
namespace Vw
open PySem PySem.W PyProof.Rows L2
namespace O
def num (n : Int) : O := if 0 < n then add z n z else z
theorem ok_num (n : Int) : ok (num n) = true := by
  unfold num
  split
  · exact ok_add.mpr ⟨rfl, by omega, rfl, rfl⟩
  · rfl
theorem dp_num (n : Int) : dp (num n) ≤ 2 := by
  unfold num
  split
  · show max (0 + 2) 0 ≤ 2; omega
  · show 0 ≤ 2; omega
theorem len_num (n : Int) : (ts (num n)).length ≤ 1 := by
  unfold num
  split
  · exact Nat.le_refl _
  · exact Nat.zero_le _
def lastE (l : List (O × Int)) : Option O := l.getLast?.map (·.1)
theorem under_of {e : O} : ∀ {l : List (O × Int)}, l ≠ [] → under e (of l) = (match l with | [] => true | t :: _ => lt t.1 e)
  | [], h => absurd rfl h
  | t :: _, _ => rfl
theorem ok_snoc : ∀ (l : List (O × Int)) (p : O) (c : Int), ok (of l) = true → ok p = true → 1 ≤ c → (∀ t, l.getLast? = some t → lt p t.1 = true) → ok (of (l ++ [(p, c)])) = true
  | [], p, c, _, hp, hc, _ => ok_add.mpr ⟨hp, hc, rfl, rfl⟩
  | [t], p, c, h, hp, hc, hl => by
    have g := ok_add.mp h
    exact ok_add.mpr ⟨g.1, g.2.1, ok_add.mpr ⟨hp, hc, rfl, rfl⟩, hl t rfl⟩
  | t :: u :: r, p, c, h, hp, hc, hl => by
    have g := ok_add.mp h
    refine ok_add.mpr ⟨g.1, g.2.1, ok_snoc (u :: r) p c g.2.2.1 hp hc (fun x hx => hl x (by rw [List.getLast?_cons_cons]; exact hx)), g.2.2.2⟩
theorem dp_of : ∀ (l : List (O × Int)) (n : Nat), (∀ t ∈ l, dp t.1 + 2 ≤ n) → dp (of l) ≤ n
  | [], n, _ => Nat.zero_le _
  | t :: r, n, h => by
    have h1 := h t List.mem_cons_self
    have h2 := dp_of r n fun x hx => h x (List.mem_cons_of_mem _ hx)
    show max (dp t.1 + 2) (dp (of r)) ≤ n
    omega
/-- the greatest number of terms, however deep -/
def wd : O → Nat
  | z => 0
  | add e c r => max (wd e) (max ((ts r).length + 1) (wd r))
theorem len_wd : ∀ a : O, (ts a).length ≤ wd a
  | z => Nat.le_refl _
  | add e c r => by show (ts r).length + 1 ≤ max (wd e) (max ((ts r).length + 1) (wd r)); omega
theorem wd_mem : ∀ {o : O} {t : O × Int}, t ∈ ts o → wd t.1 ≤ wd o
  | z, t, h => by cases h
  | add e c r, t, h => by
    rcases List.mem_cons.mp h with q | q
    · subst q; show wd e ≤ max (wd e) (max _ (wd r)); omega
    · have := wd_mem q; show _ ≤ max (wd e) (max _ (wd r)); omega
theorem wd_of : ∀ (l : List (O × Int)) (n : Nat), l.length ≤ n → (∀ t ∈ l, wd t.1 ≤ n) → wd (of l) ≤ n
  | [], n, _, _ => Nat.zero_le _
  | t :: r, n, hl, h => by
    have h1 := h t List.mem_cons_self
    have hl : r.length + 1 ≤ n := hl
    have h2 := wd_of r n (by omega) fun x hx => h x (List.mem_cons_of_mem _ hx)
    show max (wd t.1) (max ((ts (of r)).length + 1) (wd (of r))) ≤ n
    rw [ts_of]
    omega
theorem wd_num (n : Int) : wd (num n) ≤ 1 := by
  unfold num
  split
  · exact Nat.le_refl _
  · exact Nat.zero_le _
theorem dp_mem : ∀ {o : O} {t : O × Int}, t ∈ ts o → dp t.1 + 2 ≤ dp o
  | z, t, h => by cases h
  | add e c r, t, h => by
    rcases List.mem_cons.mp h with q | q
    · subst q; show dp e + 2 ≤ max (dp e + 2) (dp r); omega
    · have := dp_mem q; show _ ≤ max (dp e + 2) (dp r); omega
theorem ok_mem : ∀ {o : O} {t : O × Int}, ok o = true → t ∈ ts o → ok t.1 = true ∧ 1 ≤ t.2
  | z, t, _, h => by cases h
  | add e c r, t, hk, h => by
    have g := ok_add.mp hk
    rcases List.mem_cons.mp h with q | q
    · subst q; exact ⟨g.1, g.2.1⟩
    · exact ok_mem g.2.2.1 q
theorem dp_sum : ∀ (a b : O), dp (sum a b) ≤ max (dp a) (dp b)
  | a, z => by rw [sum_z]; omega
  | z, b => by rw [z_sum]; omega
  | add e1 c1 r1, add e2 c2 r2 => by
    by_cases q : e1 = e2
    · subst q; rw [sum_eq]; show max (dp e1 + 2) (dp r2) ≤ max (max _ _) (max _ _); omega
    · rcases lt_total e1 e2 q with k | k
      · rw [sum_lt k]; omega
      · rw [sum_gt k]
        have := dp_sum r1 (add e2 c2 r2)
        show max (dp e1 + 2) (dp (sum r1 (add e2 c2 r2))) ≤ max (max (dp e1 + 2) (dp r1)) _
        omega
theorem len_sum : ∀ (a b : O), (ts (sum a b)).length ≤ (ts a).length + (ts b).length
  | a, z => by rw [sum_z]; omega
  | z, b => by rw [z_sum]; omega
  | add e1 c1 r1, add e2 c2 r2 => by
    by_cases q : e1 = e2
    · subst q; rw [sum_eq]; simp only [ts, List.length_cons]; omega
    · rcases lt_total e1 e2 q with k | k
      · rw [sum_lt k]; omega
      · rw [sum_gt k]
        have := len_sum r1 (add e2 c2 r2)
        simp only [ts, List.length_cons] at this ⊢
        omega
end O
/-! ### data by kind -/
def tyN : PyData → String
  | .none => "NoneType"
  | .bool _ => "bool"
  | .int _ => "int"
  | .str _ => "str"
  | .list _ => "list"
  | .tuple _ => "tuple"
  | .dict _ => "dict"
section
variable {K : PySem.W.Frag} {H H' : Hp}
theorem dp_ty {x : V} {d : PyData} (h : Dp K H x d) : TyX K H x (.type (tyN d)) := by
  cases h with
  | non => exact .base .non
  | bl b => exact .base (.bl b)
  | int i => exact .base (.int i)
  | str s => exact .base (.str s)
  | lst hs _ =>
    rcases hs with (h | ⟨o, h⟩) | ⟨o, its, n, h1, h2, _⟩
    · exact .base (.lst h)
    · exact .base (.frz h)
    · exact .kList h1 h2
  | tup hs _ =>
    rcases hs with (h | ⟨o, h⟩) | ⟨o, its, n, h1, h2, _⟩
    · exact .base (.tup h)
    · exact .fTuple h
    · exact .kTuple h1 h2
def isinN (n T : String) : Bool := n == T || (n == "bool" && T == "int")
def isin (d : PyData) (T : String) : Bool := isinN (tyN d) T
theorem kits {T : String} (h0 : kitB "NoneType" T = some (isinN "NoneType" T)) (h1 : kitB "bool" T = some (isinN "bool" T)) (h2 : kitB "int" T = some (isinN "int" T)) (h3 : kitB "str" T = some (isinN "str" T)) (h4 : kitB "list" T = some (isinN "list" T)) (h5 : kitB "tuple" T = some (isinN "tuple" T)) :
    ∀ d : PyData, (∀ kv, d ≠ .dict kv) → kitOne K (.type (tyN d)) (.type T) = some (isin d T)
  | .none, _ => kit_ty h0
  | .bool _, _ => kit_ty h1
  | .int _, _ => kit_ty h2
  | .str _, _ => kit_ty h3
  | .list _, _ => kit_ty h4
  | .tuple _, _ => kit_ty h5
  | .dict kv, h => absurd rfl (h kv)
theorem kit_list (d : PyData) (hd : ∀ kv, d ≠ .dict kv) : kitOne K (.type (tyN d)) (.type "list") = some (isin d "list") := kits (by decide +kernel) (by decide +kernel) (by decide +kernel) (by decide +kernel) (by decide +kernel) (by decide +kernel) d hd
theorem kit_tuple (d : PyData) (hd : ∀ kv, d ≠ .dict kv) : kitOne K (.type (tyN d)) (.type "tuple") = some (isin d "tuple") := kits (by decide +kernel) (by decide +kernel) (by decide +kernel) (by decide +kernel) (by decide +kernel) (by decide +kernel) d hd
theorem kit_bool (d : PyData) (hd : ∀ kv, d ≠ .dict kv) : kitOne K (.type (tyN d)) (.type "bool") = some (isin d "bool") := kits (by decide +kernel) (by decide +kernel) (by decide +kernel) (by decide +kernel) (by decide +kernel) (by decide +kernel) d hd
theorem kit_int (d : PyData) (hd : ∀ kv, d ≠ .dict kv) : kitOne K (.type (tyN d)) (.type "int") = some (isin d "int") := kits (by decide +kernel) (by decide +kernel) (by decide +kernel) (by decide +kernel) (by decide +kernel) (by decide +kernel) d hd
theorem kit_str (d : PyData) (hd : ∀ kv, d ≠ .dict kv) : kitOne K (.type (tyN d)) (.type "str") = some (isin d "str") := kits (by decide +kernel) (by decide +kernel) (by decide +kernel) (by decide +kernel) (by decide +kernel) (by decide +kernel) d hd
theorem dp_nodict {x : V} {d : PyData} (h : Dp K H x d) : ∀ kv, d ≠ .dict kv := fun kv e => by subst e; cases h
@[irreducible] def rIsD (K : PySem.W.Frag) : List V → Hp → VK → Prop := rIsi K
@[irreducible] def rIsDT (K : PySem.W.Frag) : List V → Hp → VK → Prop := rIsiT K
theorem call_isD {X : Cx} : CallR X (.builtin "isinstance") (rIsD X.K) := by unfold rIsD; exact call_isi
theorem call_isDT {X : Cx} : CallR X (.builtin "isinstance") (rIsDT X.K) := by unfold rIsDT; exact call_isiT
variable {Q : VK} {x : V} {d : PyData}
theorem rd_list (h : Dp K H x d) (q : Q (.bl (isin d "list")) H) : rIsD K [x, .ty "list"] H Q := by unfold rIsD; exact ⟨x, _, _, _, _, rfl, .ty _, dp_ty h, kit_list d (dp_nodict h), q⟩
theorem rd_tuple (h : Dp K H x d) (q : Q (.bl (isin d "tuple")) H) : rIsD K [x, .ty "tuple"] H Q := by unfold rIsD; exact ⟨x, _, _, _, _, rfl, .ty _, dp_ty h, kit_tuple d (dp_nodict h), q⟩
theorem rd_bool (h : Dp K H x d) (q : Q (.bl (isin d "bool")) H) : rIsD K [x, .ty "bool"] H Q := by unfold rIsD; exact ⟨x, _, _, _, _, rfl, .ty _, dp_ty h, kit_bool d (dp_nodict h), q⟩
theorem rd_int (h : Dp K H x d) (q : Q (.bl (isin d "int")) H) : rIsD K [x, .ty "int"] H Q := by unfold rIsD; exact ⟨x, _, _, _, _, rfl, .ty _, dp_ty h, kit_int d (dp_nodict h), q⟩
theorem rd_str (h : Dp K H x d) (q : Q (.bl (isin d "str")) H) : rIsD K [x, .ty "str"] H Q := by unfold rIsD; exact ⟨x, _, _, _, _, rfl, .ty _, dp_ty h, kit_str d (dp_nodict h), q⟩
def isLT : PyData → Bool
  | .list _ => true
  | .tuple _ => true
  | _ => false
theorem rd_lt2 {tp : Addr} (h : Dp K H x d) (ht : H tp = some (.tup [.ty "list", .ty "tuple"])) (q : Q (.bl (isLT d)) H) : rIsDT K [x, .ref tp] H Q := by
  unfold rIsDT
  refine ⟨x, tp, _, _, [.type "list", .type "tuple"], isLT d, rfl, ht, .cons (.ty _) (.cons (.ty _) .nil), dp_ty h, ?_, q⟩
  refine kitAny_cons (kit_list d (dp_nodict h)) (fun e => kitAny_cons (kit_tuple d (dp_nodict h)) (fun e2 => ?_) fun e2 => ?_) fun e => ?_
  · rw [kitAny_nil]
    cases d <;> first | rfl | (revert e e2; show _ = false → _ = false → _; decide +revert) | exact absurd e (by show ¬ (isinN "list" "list" = false); decide) | exact absurd e2 (by show ¬ (isinN "tuple" "tuple" = false); decide)
  · cases d <;> first | rfl | exact absurd e2 (by show ¬ (isinN "NoneType" "tuple" = true); decide) | exact absurd e2 (by show ¬ (isinN "bool" "tuple" = true); decide) | exact absurd e2 (by show ¬ (isinN "int" "tuple" = true); decide) | exact absurd e2 (by show ¬ (isinN "str" "tuple" = true); decide) | exact absurd e2 (by show ¬ (isinN "dict" "tuple" = true); decide)
  · cases d <;> first | rfl | exact absurd e (by show ¬ (isinN "NoneType" "list" = true); decide) | exact absurd e (by show ¬ (isinN "bool" "list" = true); decide) | exact absurd e (by show ¬ (isinN "int" "list" = true); decide) | exact absurd e (by show ¬ (isinN "str" "list" = true); decide) | exact absurd e (by show ¬ (isinN "dict" "list" = true); decide)
theorem same_sqt {a : Addr} {xs : List V} (e : Same H H') (h : SqT K H a xs) : SqT K H' a xs := by
  rcases h with (h | ⟨o, h⟩) | h
  · exact .inl (.inl (e _ _ h))
  · exact .inl (.inr ⟨o, e _ _ h⟩)
  · exact .inr h
mutual
theorem dp_same (e : Same H H') : ∀ {d : PyData} {v : V}, Dp K H v d → Dp K H' v d
  | _, _, .non => .non
  | _, _, .bl b => .bl b
  | _, _, .int i => .int i
  | _, _, .str x => .str x
  | _, _, .lst h t => .lst (e.seq h) (dpall_same e t)
  | _, _, .tup h t => .tup (same_sqt e h) (dpall_same e t)
theorem dpall_same (e : Same H H') : ∀ {ds : List PyData} {vs : List V}, DpAll K H vs ds → DpAll K H' vs ds
  | _, _, .nil => .nil
  | _, _, .cons h t => .cons (dp_same e h) (dpall_same e t)
end
theorem dpall_len : ∀ {ds : List PyData} {vs : List V}, DpAll K H vs ds → vs.length = ds.length
  | _, _, .nil => rfl
  | _, _, .cons h t => congrArg Nat.succ (dpall_len t)
theorem dpall_get : ∀ {ds : List PyData} {vs : List V} {i : Nat} {v : V}, DpAll K H vs ds → vs[i]? = some v → ∃ d, ds[i]? = some d ∧ Dp K H v d
  | _, _, _, _, .nil, h => by simp at h
  | _, _, 0, _, .cons a t, h => by
    simp at h; subst h
    exact ⟨_, rfl, a⟩
  | _, _, i + 1, _, .cons a t, h => by
    obtain ⟨y, h1, h2⟩ := dpall_get (i := i) t (by simpa using h)
    exact ⟨y, by simpa using h1, h2⟩
theorem depth_get : ∀ {ds : List PyData} {i : Nat} {d : PyData}, ds[i]? = some d → d.depth ≤ PyData.depthAll ds
  | [], _, _, h => by simp at h
  | x :: r, 0, d, h => by
    simp at h; subst h
    simp only [PyData.depthAll]; omega
  | x :: r, i + 1, d, h => by
    have := depth_get (ds := r) (i := i) (by simpa using h)
    simp only [PyData.depthAll]; omega
theorem atI_ex {xs : List V} {i : Int} (h0 : 0 ≤ i) (h : i < (xs.length : Int)) : ∃ v, xs[i.toNat]? = some v ∧ atI xs i = some v := by
  obtain ⟨j, rfl⟩ := Int.eq_ofNat_of_zero_le h0
  have hj : j < xs.length := by omega
  exact ⟨xs[j], List.getElem?_eq_getElem hj, atI_nat (List.getElem?_eq_getElem hj)⟩
end
/-! ### len, with the bound that the model keeps -/
@[irreducible] def rLenB (K : PySem.W.Frag) : List V → Hp → VK → Prop := fun vs H Q => ∃ p ys, vs = [.ref p] ∧ (SqL K H p ys ∨ SqT K H p ys) ∧ (ys.length ≤ sizeLine → Q (.int (ys.length : Nat)) H)
theorem call_lenB {X : Cx} : CallR X (.builtin "len") (rLenB X.K) := by
  intro pins s σ H xs us Q I r h
  unfold rLenB at h
  obtain ⟨p, ys, rfl, hs, q⟩ := h
  have hz : ys.length ≤ sizeLine := by
    rcases hs with hs | hs
    · obtain ⟨_, _, _, z⟩ := I.list hs; exact z
    · obtain ⟨_, _, _, z⟩ := I.tuple hs; exact z
  exact call_len_seq pins s σ H _ us Q I r ⟨p, ys, rfl, hs, q hz⟩
theorem rd_len {K : PySem.W.Frag} {H : Hp} {Q : VK} {p : Addr} {ys : List V} (h : SqL K H p ys ∨ SqT K H p ys) (q : ys.length ≤ sizeLine → Q (.int (ys.length : Nat)) H) : rLenB K [.ref p] H Q := by
  unfold rLenB
  exact ⟨p, ys, rfl, h, q⟩
theorem line62 {n : Nat} (h : n ≤ sizeLine) : -(2 ^ 62) ≤ (n : Int) ∧ (n : Int) < 2 ^ 62 := by
  have : sizeLine ≤ 2 ^ 40 := by decide
  omega
/-! ### the bag of numbers -/
def Bag (l : Addr) (H : Hp) (b : Addr) : Prop := ∃ (ns : List Int) (i g s k : Int), l ≠ b ∧ H b = some (.lst [.ref l, .int i, .int g, .int s, .int k]) ∧ H l = some (.lst (ns.map V.int)) ∧ ns.length ≤ 63 ∧ 0 ≤ i ∧ 0 ≤ s ∧ s < 2147483647
theorem Bag.same {l : Addr} {H H' : Hp} {b : Addr} (x : Same H H') (h : Bag l H b) : Bag l H' b := by
  obtain ⟨ns, i, g, s, k, h1, h2, h3, h4⟩ := h
  exact ⟨ns, i, g, s, k, h1, x _ _ h2, x _ _ h3, h4⟩
theorem Bag.tp {l : Addr} {H H' : Hp} {b : Addr} (h : Bag l H b) (x : Kp b H H') : Tp H H' := by
  obtain ⟨ns, i, g, s, k, h1, h2, h3, h4⟩ := h
  exact x.tp h2
theorem Bag.ne {l : Addr} {H : Hp} {b p : Addr} (h : Bag l H b) (hp : H p = none) : p ≠ b := by
  obtain ⟨ns, i, g, s, k, h1, h2, h3, h4⟩ := h
  exact (ne_of_none h2 hp).symm
theorem Bag.nl {l : Addr} {H : Hp} {b p : Addr} (h : Bag l H b) (hp : H p = none) : p ≠ l := by
  obtain ⟨ns, i, g, s, k, h1, h2, h3, h4⟩ := h
  exact (ne_of_none h3 hp).symm
theorem Bag.mut {l : Addr} {H : Hp} {b p : Addr} {o : HO} (h : Bag l H b) (h1 : p ≠ b) (h2 : p ≠ l) : Bag l (upd H p o) b := by
  obtain ⟨ns, i, g, s, k, e1, e2, e3, e4⟩ := h
  exact ⟨ns, i, g, s, k, e1, by rw [upd_ne h1.symm]; exact e2, by rw [upd_ne h2.symm]; exact e3, e4⟩
def spBag (K : PySem.W.Frag) : Sp := fun vs H Q _ => ∃ (a : Addr) (ns : List Int), vs = [.ref a] ∧ SqL K H a (ns.map V.int) ∧ ns.length ≤ 63 ∧ ∀ (l b : Addr) (H' : Hp), H b = none → Same H H' → Bag l H' b → Q (.ref b) H'
/-- one number of the bag, below n -/
def spPull : Sp := fun vs H Q _ => ∃ (l b : Addr) (n : Int), vs = [.ref b, .int n] ∧ 1 ≤ n ∧ n < 2 ^ 100 ∧ Bag l H b ∧ ∀ (r : Int) (H' : Hp), 0 ≤ r → r < n → Kp b H H' → Bag l H' b → Q (.int r) H'
/-- one of some -/
def spOf (K : PySem.W.Frag) : Sp := fun vs H Q _ => ∃ (l b a : Addr) (xs : List V), vs = [.ref b, .ref a] ∧ Bag l H b ∧ ((a ≠ b ∧ H a = some (.lst xs)) ∨ TT K H a xs) ∧ xs ≠ [] ∧ ∀ (x : V) (H' : Hp), x ∈ xs → Kp b H H' → Bag l H' b → Q x H'
def spNum (K : PySem.W.Frag) : Sp := fun vs H Q _ => ∃ n : Int, vs = [.int n] ∧ ∀ (v : V) (H' : Hp), Same H H' → OA K H' v (O.num n) → Q v H'
/-- equal data are the same -/
def spSame (K : PySem.W.Frag) (n : Nat) : Sp := fun vs H Q _ => ∃ (x y : V) (d : PyData), vs = [x, y] ∧ Dp K H x d ∧ Dp K H y d ∧ d.depth < n ∧ ∀ H', Same H H' → Q (.bl true) H'
/-- a drawn ordinal -/
def spOrd (K : PySem.W.Frag) (d : Nat) : Sp := fun vs H Q _ => ∃ (l b : Addr), vs = [.ref b, .int (d : Int)] ∧ Bag l H b ∧ ∀ (o : O) (v : V) (H' : Hp), O.ok o = true → O.dp o ≤ 2 * d + 2 → O.wd o ≤ 3 → OA K H' v o → Kp b H H' → Bag l H' b → Q v H'
theorem cut_map (ns : List Int) (lo hi : Option Int) : ∃ ms : List Int, cutV (ns.map V.int) lo hi = ms.map V.int ∧ ms.length ≤ ns.length := by
  refine ⟨(ns.drop (HT.sIx (ns.map V.int).length 0 lo)).take (HT.sIx (ns.map V.int).length (ns.map V.int).length hi - HT.sIx (ns.map V.int).length 0 lo), ?_, ?_⟩
  · unfold cutV
    rw [List.map_take, List.map_drop]
  · rw [List.length_take, List.length_drop]; omega
/-- a def that keeps its promise, as it is called -/
theorem none_left {P : Program} {w : World} {K : PySem.W.Frag} {mg : Str → Option Value} {base : Heap} {f : Addr} {fd : FuncData} {ps : List Str} {sp : Sp} (no : ∀ vs H Q E, ¬ sp vs H Q E) : FnOk P w K mg base CX0 0 f fd ps sp :=
  ⟨fun vs H Q E h => absurd h (no vs H Q E), fun A outer s H args us vs Q E _ _ _ _ h => absurd h (no vs H Q E)⟩
/-- if, what holds behind the test said once -/
def tIfBy (c : L2.TT) (t u : TS) : TS := fun D σ H => ∃ A B : Hp → Prop, (c σ H fun b H1 => if b = true then A H1 else B H1) ∧ (∀ H1, A H1 → t D σ H1) ∧ ∀ H1, B H1 → u D σ H1
theorem ps_ifBy {X : Cx} {c : Expr} {a b : List Stmt} {tc : L2.TT} {t u : TS} {pos : Pos} (hc : PT X c tc) (ha : PSs X a t) (hb : PSs X b u) : PS X (.If c a b pos) (tIfBy tc t u) := by
  refine ⟨fun pins s σ H D I h => ?_⟩
  obtain ⟨A, B, h, h1, h2⟩ := h
  refine wpAny_If (thn (hc.run pins s σ H _ I h) fun d s1 ⟨H1, I1, q1⟩ => ?_)
  cases d with
  | true =>
    rw [if_pos rfl] at q1
    exact ha.run pins s1 σ H1 D I1 (h1 _ q1)
  | false =>
    rw [if_neg Bool.false_ne_true] at q1
    exact hb.run pins s1 σ H1 D I1 (h2 _ q1)
theorem eqv_nil (l : List PyData) : PyData.eqv (.list l) (.list []) = l.isEmpty := by
  cases l <;> simp [PyData.eqv, PyData.eqvAll]
theorem lay_terms : ∀ l : List (O × Int), PyData.canLayAll0 (l.map O.tD) = true
  | [] => by simp [PyData.canLayAll0]
  | t :: r => by simp [PyData.canLayAll0, O.tD, PyData.canLay0, O.lay_toD, lay_terms r]
theorem depth_terms (n : Nat) : ∀ l : List (O × Int), (∀ t ∈ l, O.dp t.1 + 2 ≤ n) → PyData.depthAll (l.map O.tD) ≤ n
  | [], _ => by simp [PyData.depthAll]
  | t :: r, h => by
    have h1 := h t List.mem_cons_self
    have h2 := depth_terms n r fun x hx => h x (List.mem_cons_of_mem _ hx)
    simp only [List.map_cons, PyData.depthAll, O.tD, PyData.depth, O.depth_toD]
    omega
theorem shaped_terms {l : List (O × Int)} (h : ∀ t ∈ l, O.dp t.1 ≤ 50) : SeqAt.shaped (.list (l.map O.tD)) = true := by
  have := depth_terms 52 l fun t ht => by have := h t ht; omega
  unfold SeqAt.shaped
  rw [show (PyData.list (l.map O.tD)).canLay0 = true by simp [PyData.canLay0, lay_terms], show (PyData.list (l.map O.tD)).depth = PyData.depthAll (l.map O.tD) + 1 by simp [PyData.depth], Bool.true_and, decide_eq_true_eq]
  omega
theorem shaped_nil : SeqAt.shaped (.list []) = true := by unfold SeqAt.shaped; simp [PyData.canLay0, PyData.canLayAll0, PyData.depth, PyData.depthAll]
section
variable {K : PySem.W.Frag} {H : Hp}
theorem TmA.dp {v : V} {t : O × Int} (h : TmA K H v t) : Dp K H v (O.tD t) := by
  obtain ⟨p, q, rfl, h1, h2⟩ := h
  exact .tup h1.sq (.cons h2.dp (.cons (.int _) .nil))
theorem terms_dp : ∀ {xs : List V} {l : List (O × Int)}, Paired (TmA K H) xs l → DpAll K H xs (l.map O.tD)
  | _, _, .nil => .nil
  | _, _, .cons a t => .cons a.dp (terms_dp t)
/-- a list of terms against the empty one -/
theorem rd_eqNil {x y : V} {p p2 : Addr} {xs : List V} {l : List (O × Int)} {Q : VK} (h1 : SqL K H p xs) (h2 : Paired (TmA K H) xs l) (h3 : SqL K H p2 []) (hd : ∀ t ∈ l, O.dp t.1 ≤ 50) (q : Q (.bl l.isEmpty) H) : rEqO K (.ref p) (.ref p2) H Q := by
  unfold rEqO
  refine ⟨_, _, .lst h1 (terms_dp h2), .lst h3 .nil, shaped_terms hd, shaped_nil, ?_⟩
  rw [eqv_nil]
  cases l <;> exact q
theorem rd_neNil {x y : V} {p p2 : Addr} {xs : List V} {l : List (O × Int)} {Q : VK} (h1 : SqL K H p xs) (h2 : Paired (TmA K H) xs l) (h3 : SqL K H p2 []) (hd : ∀ t ∈ l, O.dp t.1 ≤ 50) (q : Q (.bl (!l.isEmpty)) H) : rNeO K (.ref p) (.ref p2) H Q := by
  unfold rNeO
  refine ⟨_, _, .lst h1 (terms_dp h2), .lst h3 .nil, shaped_terms hd, shaped_nil, ?_⟩
  rw [eqv_nil]
  cases l <;> exact q
theorem paired_tp {H' : Hp} (t : Tp H H') {xs : List V} {os : List O} (h : Paired (OA K H) xs os) : Paired (OA K H') xs os := paired_mono (fun _ _ a => a.tp t) h
theorem terms_tp {H' : Hp} (t : Tp H H') {xs : List V} {l : List (O × Int)} (h : Paired (TmA K H) xs l) : Paired (TmA K H') xs l := paired_mono (fun _ _ a => a.tp t) h
theorem TmA.new {p q : Addr} {c : Int} {e : O} (h : OA K H (.ref q) e) (hp : H p = some (.tup [.ref q, .int c])) : TmA K H (.ref p) (e, c) := ⟨p, q, rfl, .of hp, h⟩
end
/-! ### tuples joined, cut -/
section
variable {K : PySem.W.Frag} {H : Hp} {Q : VK}
@[irreducible] def rCatO (K : PySem.W.Frag) : R2 := rCatA K
theorem op_catO {X : Cx} : OpR X (binaryOp .Add) (rCatO X.K) := by unfold rCatO; exact op_catA
theorem rd_cat {a b : Addr} {xs ys : List V} (ha : TT K H a xs) (hb : TT K H b ys) (hz : xs.length + ys.length ≤ 100000) (q : ∀ (p : Addr) (H' : Hp), Same H H' → TT K H' p (xs ++ ys) → Q (.ref p) H') : rCatO K (.ref a) (.ref b) H Q := by
  unfold rCatO
  refine ⟨a, b, xs, ys, rfl, rfl, ha.sq, hb.sq, Nat.le_trans hz (by decide), fun e => q b H (Same.refl H) (by rw [e]; exact hb), fun _ e => q a H (Same.refl H) (by rw [e, List.append_nil]; exact ha), fun _ _ p np => q p _ (same_new np) (.of upd_same)⟩
@[irreducible] def rSlO (K : PySem.W.Frag) : V → Option Int → Option Int → Hp → VK → Prop := rSlA K
theorem sl_tupO {X : Cx} : SlR X (rSlO X.K) := by unfold rSlO; exact sl_tupA
theorem cut_from {α : Type} (xs : List V) (k : Nat) : cutV xs (some (k : Int)) none = xs.drop k := by
  unfold cutV
  rw [HT.sIx_nat, HT.sIx_none]
  rcases Nat.le_total k xs.length with h | h
  · rw [Nat.min_eq_left h, List.take_of_length_le (by rw [List.length_drop]; omega)]
  · rw [Nat.min_eq_right h, List.drop_of_length_le (Nat.le_refl _), List.drop_of_length_le h]; simp
theorem cut_to {α : Type} (xs : List V) (k : Nat) : cutV xs none (some (k : Int)) = xs.take k := by
  unfold cutV
  rw [HT.sIx_nat, HT.sIx_none, List.drop_zero, Nat.sub_zero]
  rcases Nat.le_total k xs.length with h | h
  · rw [Nat.min_eq_left h]
  · rw [Nat.min_eq_right h, List.take_of_length_le h, List.take_of_length_le (Nat.le_refl _)]
theorem rd_sl {a : Addr} {xs : List V} {lo hi : Option Int} (ha : TT K H a xs) (q : ∀ (p : Addr) (H' : Hp), Same H H' → TT K H' p (cutV xs lo hi) → Q (.ref p) H') : rSlO K (.ref a) lo hi H Q := by
  unfold rSlO
  refine ⟨a, xs, rfl, ha.sq, fun e => q a H (Same.refl H) ?_, fun _ p np => q p _ (same_new np) (.of upd_same)⟩
  have : cutV xs lo hi = xs := by
    unfold cutV
    rw [e.1, e.2, List.drop_zero, Nat.sub_zero, List.take_length]
  rw [this]; exact ha
theorem rd_from {a : Addr} {xs : List V} (k : Nat) (ha : TT K H a xs) (q : ∀ (p : Addr) (H' : Hp), Same H H' → TT K H' p (xs.drop k) → Q (.ref p) H') : rSlO K (.ref a) (some (k : Int)) none H Q := rd_sl ha fun p H' s t => q p H' s (by rw [cut_from (α := Nat)] at t; exact t)
theorem rd_to {a : Addr} {xs : List V} (k : Nat) (ha : TT K H a xs) (q : ∀ (p : Addr) (H' : Hp), Same H H' → TT K H' p (xs.take k) → Q (.ref p) H') : rSlO K (.ref a) none (some (k : Int)) H Q := rd_sl ha fun p H' s t => q p H' s (by rw [cut_to (α := Nat)] at t; exact t)
theorem take_filter {α : Type} (l : List α) (f : α → Bool) (i : Nat) (t : α) (h : l[i]? = some t) : (l.take (i + 1)).filter f = (l.take i).filter f ++ (if f t = true then [t] else []) := by
  rw [List.take_add_one, h, List.filter_append]
  congr 1
  show [t].filter f = _
  rw [List.filter_cons]
  split <;> rfl
theorem OA.tt {a : Addr} {o : O} (h : OA K H (.ref a) o) : ∃ vs, TT K H a vs ∧ Paired (TmA K H) vs (O.ts o) := by
  obtain ⟨a', vs, e, h1, h2⟩ := h
  cases e
  exact ⟨vs, h1, h2.pair⟩
theorem TmA.un {v : V} {t : O × Int} (h : TmA K H v t) : ∃ p q, v = .ref p ∧ TT K H p [.ref q, .int t.2] ∧ OA K H (.ref q) t.1 := h
theorem Same.tt {H' : Hp} {a : Addr} {xs : List V} (s : Same H H') (h : TT K H a xs) : TT K H' a xs := h.tp (same_tp s)
theorem OA.same {H' : Hp} {v : V} {o : O} (h : OA K H v o) (s : Same H H') : OA K H' v o := h.tp (same_tp s)
theorem TT.same {H' : Hp} {a : Addr} {xs : List V} (h : TT K H a xs) (s : Same H H') : TT K H' a xs := h.tp (same_tp s)
theorem TmA.same {H' : Hp} {v : V} {t : O × Int} (h : TmA K H v t) (s : Same H H') : TmA K H' v t := h.tp (same_tp s)
theorem terms_same {H' : Hp} {xs : List V} {l : List (O × Int)} (h : Paired (TmA K H) xs l) (s : Same H H') : Paired (TmA K H') xs l := paired_mono (fun _ _ a => a.same s) h
end
/-- the program's sum -/
def spPlus (K : PySem.W.Frag) : Sp := fun vs H Q _ => ∃ (x y : V) (a b : O), vs = [x, y] ∧ OA K H x a ∧ OA K H y b ∧ O.ok a = true ∧ O.dp a ≤ 50 ∧ O.dp b ≤ 50 ∧ (O.ts a).length ≤ 1000 ∧ (O.ts b).length ≤ 1000 ∧ ∀ (v : V) (H' : Hp), Same H H' → OA K H' v (O.sum a b) → Q v H'
/-- a function of one ordinal -/
def spO1 (K : PySem.W.Frag) (g : O → O) : Sp := fun vs H Q _ => ∃ (x : V) (a : O), vs = [x] ∧ OA K H x a ∧ O.ok a = true ∧ O.dp a ≤ 50 ∧ (O.ts a).length ≤ 1000 ∧ ∀ (v : V) (H' : Hp), Same H H' → OA K H' v (g a) → Q v H'
def endO (o : O) : O := match (O.ts o).getLast? with
  | some t => t.1
  | none => .z
theorem endO_last {o : O} {t : O × Int} (h : (O.ts o).getLast? = some t) : endO o = t.1 := by
  unfold endO
  rw [h]
theorem last_ex {o : O} (h : o ≠ .z) : ∃ t, (O.ts o).getLast? = some t := by
  cases o with
  | z => exact absurd rfl h
  | add e c r =>
    cases q : (O.ts (.add e c r)).getLast? with
    | some t => exact ⟨t, rfl⟩
    | none => exact absurd (List.getLast?_eq_none_iff.mp q) (by intro z; cases z)
section
variable {K : PySem.W.Frag} {H : Hp} {Q : VK}
/-- the last term -/
theorem last_term {xs : List V} {l : List (O × Int)} {t : O × Int} (h : Paired (TmA K H) xs l) (ht : l.getLast? = some t) : ∃ p q, atI xs (-1) = some (.ref p) ∧ TT K H p [.ref q, .int t.2] ∧ OA K H (.ref q) t.1 ∧ xs ≠ [] := by
  obtain ⟨v, hv, vt⟩ : ∃ v, xs.getLast? = some v ∧ TmA K H v t := by
    rw [List.getLast?_eq_getElem?] at ht
    obtain ⟨v, h1, h2⟩ := paired_get' h ht
    rw [← paired_len h] at h1
    exact ⟨v, by rw [List.getLast?_eq_getElem?]; exact h1, h2⟩
  obtain ⟨p, q, rfl, g1, g2⟩ := vt
  have hn : xs ≠ [] := fun z => by rw [z] at hv; cases hv
  refine ⟨p, q, ?_, g1, g2, hn⟩
  have : xs = xs.dropLast ++ [.ref p] := by
    rw [List.getLast?_eq_some_getLast hn] at hv
    have := Option.some.inj hv
    rw [← this, List.dropLast_concat_getLast]
  rw [this]; exact atI_last _ _
theorem cut_m1 {α : Type} (xs : List V) : cutV xs none (some (-1)) = xs.dropLast := by
  unfold cutV
  rw [HT.sIx_none, List.drop_zero, Nat.sub_zero]
  have : HT.sIx xs.length xs.length (some (-1)) = xs.length - 1 := by
    show (if (-1 : Int) < 0 then ((-1 : Int) + (xs.length : Int)).toNat else min (-1 : Int).toNat xs.length) = _
    rw [if_pos (by decide)]
    omega
  rw [this, List.dropLast_eq_take]
theorem paired_dropLast {α β : Type} {F : α → β → Prop} {xs : List α} {ys : List β} (h : Paired F xs ys) : Paired F xs.dropLast ys.dropLast := by
  rw [List.dropLast_eq_take, List.dropLast_eq_take, paired_len h]
  exact paired_take _ h
end
/-! ### levels, alternatives -/
section
variable {P : Program} {w : World} {K : PySem.W.Frag} {mg : Str → Option Value} {base : Heap} {f : Addr} {fd : FuncData} {ps : List Str} {k k' : Nat} {x : Str} {sp sp' : Sp}
theorem fn_mono (G : FnOk P w K mg base CX0 k f fd ps sp) (h : k ≤ k') : FnOk P w K mg base CX0 k' f fd ps sp :=
  ⟨G.len, fun A outer s H args us vs Q E a b c e h' => G.run A outer s H args us vs Q E (a.mono h) b c e h'⟩
theorem fn_some {ι : Type} {p : ι → Prop} {sps : ι → Sp} (G : ∀ i, p i → FnOk P w K mg base CX0 k f fd ps (sps i)) : FnOk P w K mg base CX0 k f fd ps (fun vs H Q E => ∃ i, p i ∧ sps i vs H Q E) :=
  ⟨fun vs H Q E ⟨i, hi, h⟩ => (G i hi).len vs H Q E h, fun A outer s H args us vs Q E a b c e ⟨i, hi, h⟩ => (G i hi).run A outer s H args us vs Q E a b c e h⟩
/-- drawn ordinals up to m deep -/
def spOrdTo (K : PySem.W.Frag) (m : Nat) : Sp := fun vs H Q E => ∃ d, d ≤ m ∧ spOrd K d vs H Q E
theorem kb_of {qual : Str} {st : Stmt} {ks : List Str} (F : Fun K x qual st f fd) (g : List Value → List Value → List Value) (gV : List V → List V → List V)
    (rel : ∀ {vs : List V} {us : List Value} {zs : List V} {ws : List Value}, Vals vs us → Vals zs ws → Vals (gV vs zs) (g us ws))
    (h : ∀ (kV doc pm : Value) (an : Option Addr) (cdv ct : Value) (us ws : List Value), (g us ws).length = ps.length → bindArgs (PySem.W.fnOf x qual (defArgs st) (defBody st) (defScope st) .none kV doc pm an cdv ct) ⟨us, ks.zip ws⟩ = pure (ps.zip (g us ws))) : KBinds K fd ps ks g gV := by
  obtain ⟨oc, od, kV, doc, pm, an, cdv, ct, osl, rfl, lk, hcd⟩ := F.ex
  exact ⟨fun s us ws _ hl => .of_eq (h kV doc pm an cdv ct us ws hl), rel⟩
/-- f(b=.., a=..) of a def f(a, b) -/
def swapG {α : Type} : List α → List α → List α
  | [], [a, b] => [b, a]
  | _, _ => []
theorem swap_rel {vs : List V} {us : List Value} {zs : List V} {ws : List Value} (h1 : Vals vs us) (h2 : Vals zs ws) : Vals (swapG vs zs) (swapG us ws) := by
  cases h1 with
  | cons _ _ => exact .nil
  | nil =>
    cases h2 with
    | nil => exact .nil
    | cons a t => cases t with
      | nil => exact .nil
      | cons b u => cases u with
        | nil => exact .cons b (.cons a .nil)
        | cons _ _ => exact .nil
end
end Vw

set_option Elab.async false
set_option linter.all false
set_option maxRecDepth 100000
namespace Vw
open PySem PySem.W PyProof.Rows L2
/-- a whole number's global name -/
theorem pe_globI {X : Cx} {x : Str} {n : Int} {pos : Pos} (hg : Gl X x) (hm : ∃ t, X.mg x = some (.int n t)) (hd : (x == ("__debug__" : Str)) = false := by decide) : PE X (.Name x pos) (tC (.int n)) := by
  obtain ⟨t, h⟩ := hm
  exact pe_glob hg h ⟨t, rfl⟩ hd
def resv : List V := [.str "true", .str "false", .str "not", .str "and", .str "or", .str "then", .str "shown"]
def isLow (c : Nat) : Bool := decide (97 ≤ c) && decide (c ≤ 122)
/-- names: 1 to 6 small letters, no reserved word -/
def isNm (z : Str) : Bool := !inV (.str z) resv && (decide (1 ≤ z.length) && (decide (z.length ≤ 6) && z.cps.toList.all isLow))
def spNm : Sp := fun vs H Q _ => ∃ z : Str, vs = [.str z] ∧ z.length ≤ 30 ∧ ∀ H', Same H H' → Q (.bl (isNm z)) H'
theorem lt_one (c d : Nat) : decide ([c] < [d]) = decide (c < d) := by
  by_cases h : c < d
  · rw [decide_eq_true h]; exact decide_eq_true (List.Lex.rel h)
  · rw [decide_eq_false h]
    refine decide_eq_false fun e => ?_
    cases e with
    | rel h' => exact h h'
    | cons h' => cases h'
theorem take_succ_get {α : Type} {xs : List α} {i : Nat} {c : α} (h : xs[i]? = some c) : xs.take (i + 1) = xs.take i ++ [c] := by
  rw [List.take_succ, h]; rfl
theorem cps_get {z : Str} {i : Nat} {c : Nat} (h : z.cps[i]? = some c) : z.cps.toList[i]? = some c := by rw [Array.getElem?_toList]; exact h
theorem mem_letters (c : Nat) : decide (c ∈ ("abcdefghijklmnopqrstuvwxyz" : Str).cps.toList) = isLow c := by
  have e : ("abcdefghijklmnopqrstuvwxyz" : Str).cps.toList = [97, 98, 99, 100, 101, 102, 103, 104, 105, 106, 107, 108, 109, 110, 111, 112, 113, 114, 115, 116, 117, 118, 119, 120, 121, 122] := by decide +kernel
  rw [e]
  unfold isLow
  by_cases h : 97 ≤ c ∧ c ≤ 122
  · obtain ⟨h1, h2⟩ := h
    have : c ∈ [97, 98, 99, 100, 101, 102, 103, 104, 105, 106, 107, 108, 109, 110, 111, 112, 113, 114, 115, 116, 117, 118, 119, 120, 121, 122] := by
      simp only [List.mem_cons, List.not_mem_nil, or_false]; omega
    rw [decide_eq_true this, decide_eq_true h1, decide_eq_true h2]; rfl
  · have : c ∉ [97, 98, 99, 100, 101, 102, 103, 104, 105, 106, 107, 108, 109, 110, 111, 112, 113, 114, 115, 116, 117, 118, 119, 120, 121, 122] := by
      simp only [List.mem_cons, List.not_mem_nil, or_false]; omega
    rw [decide_eq_false this]
    by_cases h1 : 97 ≤ c
    · have h2 : ¬ c ≤ 122 := fun x => h ⟨h1, x⟩
      rw [decide_eq_true h1, decide_eq_false h2]; rfl
    · rw [decide_eq_false h1]; rfl
theorem atI_exG {α : Type} {xs : List α} {i : Int} (h0 : 0 ≤ i) (h : i < (xs.length : Int)) : ∃ v, v ∈ xs ∧ atI xs i = some v := by
  obtain ⟨j, rfl⟩ := Int.eq_ofNat_of_zero_le h0
  have hj : j < xs.length := by omega
  exact ⟨xs[j], List.getElem_mem hj, atI_nat (List.getElem?_eq_getElem hj)⟩
theorem joinL_len : ∀ parts : List (List Nat), (∀ p ∈ parts, p.length ≤ 1) → (TL.joinL [] parts).length ≤ parts.length
  | [], _ => Nat.le_refl _
  | [p], h => h p (List.mem_singleton.mpr rfl)
  | p :: q :: r, h => by
    have ih := joinL_len (q :: r) fun x hx => h x (List.mem_cons_of_mem _ hx)
    have h1 := h p List.mem_cons_self
    show (p ++ ([] ++ TL.joinL [] (q :: r))).length ≤ r.length + 1 + 1
    rw [List.length_append, List.nil_append]
    have : (q :: r).length = r.length + 1 := rfl
    omega
theorem join_len (ys : List Str) (h : ∀ y ∈ ys, y.length = 1) : (Txt.join "" ys).length ≤ ys.length := by
  rw [TL.join_eq, TL.len_tl, TL.tl_join]
  have e : TL.tl ("" : Str) = [] := by decide +kernel
  rw [e]
  have := joinL_len (ys.map TL.tl) fun p hp => by
    obtain ⟨y, hy, rfl⟩ := List.mem_map.mp hp
    rw [← TL.len_tl, h y hy]; exact Nat.le_refl _
  rw [List.length_map] at this
  exact this
theorem sum_ones : ∀ ys : List Str, (∀ y ∈ ys, y.length = 1) → (ys.map (·.length)).sum = ys.length
  | [], _ => rfl
  | y :: ys, h => by
    rw [List.map_cons, List.sum_cons, h y List.mem_cons_self, sum_ones ys fun x hx => h x (List.mem_cons_of_mem _ hx), List.length_cons]; omega
theorem len_app (x y : Str) : (x ++ y).length = x.length + y.length := by
  rw [TL.len_tl, TL.len_tl, TL.len_tl, TL.tl_append, List.length_append]
end Vw

set_option Elab.async false
set_option linter.all false
set_option maxRecDepth 100000
set_option maxHeartbeats 4000000
namespace Vw
open PySem PySem.W PyProof.Rows L2
def top (i : Nat) : Stmt := PySem.Challenge.pw_vowstair_k21_names_recognized.main.body.getD i (.Pass ⟨0, 0, 0, 0⟩)
abbrev s_law_bag : Stmt := top 5
theorem sc_law_bag : FnScope ["_law_script", "_law_salt", "_law_cell"] ["_law_script"] (defScope s_law_bag) := ⟨rfl, rfl, rfl, by decide +kernel, rfl, by decide +kernel, by decide +kernel⟩
abbrev s_law_pull : Stmt := top 6
theorem sc_law_pull : FnScope ["_law_bag_here", "_law_sides", "_law_cell", "_law_got", "_law_seed"] ["_law_bag_here", "_law_sides"] (defScope s_law_pull) := ⟨rfl, rfl, rfl, by decide +kernel, rfl, by decide +kernel, by decide +kernel⟩
abbrev s_law_of : Stmt := top 7
theorem sc_law_of : FnScope ["_law_bag_here", "_law_some"] ["_law_bag_here", "_law_some"] (defScope s_law_of) := ⟨rfl, rfl, rfl, by decide +kernel, rfl, by decide +kernel, by decide +kernel⟩
abbrev s_law_same : Stmt := top 8
theorem sc_law_same : FnScope ["_law_found", "_law_due", "_law_k"] ["_law_found", "_law_due"] (defScope s_law_same) := ⟨rfl, rfl, rfl, by decide +kernel, rfl, by decide +kernel, by decide +kernel⟩
def KO (K : PySem.W.Frag) (a : Addr) (o : O) : Prop := OA K (fun _ => none) (.ref a) o
structure Txt (K : PySem.W.Frag) (mg : Str → Option Value) (a_RESERVED : Addr) : Prop where
  z_len : mg "len" = none
  z_range : mg "range" = none
  z_isinstance : mg "isinstance" = none
  z_int : mg "int" = none
  z_list : mg "list" = none
  z_tuple : mg "tuple" = none
  z_str : mg "str" = none
  z_bool : mg "bool" = none
  z_all : mg "all" = none
  m__RESERVED : mg "_RESERVED" = some (.ref a_RESERVED)
  t__RESERVED : ∀ H, SqT K H a_RESERVED resv
  m__LONGEST_NAME : ∃ t, mg "_LONGEST_NAME" = some (.int 6 t)

section
variable {P : Program} {w : World} {K : PySem.W.Frag} {mg : Str → Option Value} {base : Heap}
theorem ok_bag  {a_RESERVED : Addr} (T : Txt K mg  a_RESERVED) {f : Addr} {fd : FuncData} {k : Nat} (F : Fun K "_law_bag" "_law_bag" s_law_bag f fd) : FnOk P w K mg base CX0 (k + 1) f fd ["_law_script"] (spBag K) := by
  refine F.ok sc_law_bag (fun vs H Q E h => ?_) (fun cdv A outer s H vs Q E hr h => ?_)
  · obtain ⟨a, ns, rfl, _⟩ := h; rfl
  obtain ⟨a, ns, rfl, hS, hl, q⟩ := h
  refine ⟨_, (pss_cons (ps_set (i := 1) sc_law_bag.nd rfl (Or.inl rfl) pe_int)
  (pss_cons (ps_for PassesOwn.never rfl (pi_list (pe_slice sl_list (pv 0) po_none (po_some pe_int))) (pg_name (i := 2) sc_law_bag.nd rfl (Or.inl rfl))
   (pss_one (ps_set (i := 1) sc_law_bag.nd rfl (Or.inl rfl) (pe_op op_mod (pe_op op_add (pe_op op_add (pe_op op_mul (pv 1) pe_int) (pe_op op_mod (pe_callTy call_int1 (by rfl) T.z_int (by decide +kernel) (pa_cons (pv 2) pa_nil)) pe_int)) pe_int) pe_int))))
  (pss_one (ps_ret (pe_lst (pa_cons (pe_callTy call_list_of (by rfl) T.z_list (by decide +kernel) (pa_cons (pe_slice sl_list (pv 0) po_none (po_some pe_int)) pa_nil)) (pa_cons pe_int (pa_cons pe_int (pa_cons (pv 1) (pa_cons pe_int pa_nil)))))))))), ?_⟩
  obtain ⟨ms, e1, e2⟩ := cut_map ns none (some 63)
  refine ⟨_, rfl, 63, rfl, a, _, rfl, hS, fun c nc => ⟨c, rfl, ⟨_, SqL.of upd_same⟩, ?_⟩⟩
  have s1 : Same H (upd H c (.lst (cutV (ns.map V.int) none (some 63)))) := same_new nc
  rw [e1] at s1 ⊢
  refine for_list (xs := ms.map V.int) (fun _ σ H' => H' = upd H c (.lst (ms.map V.int)) ∧ ∃ (z : Int) (u : Option V), σ = [some (.ref a), some (.int z), u] ∧ 0 ≤ z ∧ z < 2147483647) ⟨rfl, 3827, none, rfl, by decide, by decide⟩ (fun i σ H' _ h => ?_) (fun i x σ H' hx h => ?_) (fun σ H' h => ?_)
  · obtain ⟨rfl, _⟩ := h
    exact SqL.of upd_same
  · obtain ⟨rfl, z, u, rfl, z0, z1⟩ := h
    rw [List.getElem?_map] at hx
    cases hm : ms[i]? with
    | none => rw [hm] at hx; cases hx
    | some m =>
      rw [hm] at hx
      obtain rfl : V.int m = x := Option.some.inj hx
      refine ⟨_, rfl, _, _, rfl, rfl, .inl ⟨by omega, by omega⟩, _, rfl, .inl ⟨_, rfl, _, _, rfl, rfl, (by show (0 : Int) < 2147483587; decide), _, _, rfl, rfl, _, _, rfl, rfl, _, _, rfl, rfl, (by show (0 : Int) < 2147483647; decide), ?_⟩⟩
      exact ⟨rfl, _, _, rfl, Int.emod_nonneg _ (by decide), Int.emod_lt_of_pos _ (by decide)⟩
  · obtain ⟨rfl, z, u, rfl, z0, z1⟩ := h
    refine ⟨_, rfl, 63, rfl, a, _, rfl, s1.seq hS, fun d nd => ?_⟩
    rw [e1]
    have s2 := s1.trans (same_new (o := .lst (ms.map V.int)) nd)
    refine ⟨d, _, rfl, .inl (SqL.of upd_same), fun l nl => ?_⟩
    have s3 := s2.trans (same_new (o := .lst (ms.map V.int)) nl)
    refine ⟨_, rfl, (by show 5 ≤ sizeLine; decide), fun b nb => ?_⟩
    have s4 := s3.trans (same_new (o := .lst [.ref l, .int 0, .int 0, .int z, .int 0]) nb)
    have hlb : l ≠ b := fun e => by rw [e, upd_same] at nb; cases nb
    refine q l b _ (s3.free nb) s4 ⟨ms, 0, 0, z, 0, hlb, upd_same, ?_, by omega, by decide, z0, z1⟩
    rw [upd_ne hlb, upd_same]
theorem seed_bounds {s k : Int} : 0 ≤ (s + k * 7103) % 2147483647 ∧ (s + k * 7103) % 2147483647 < 2147483647 := ⟨Int.emod_nonneg _ (by decide), Int.emod_lt_of_pos _ (by decide)⟩
theorem ok_pull  {a_RESERVED : Addr} (T : Txt K mg  a_RESERVED) {f : Addr} {fd : FuncData} {k : Nat} (F : Fun K "_law_pull" "_law_pull" s_law_pull f fd) : FnOk P w K mg base CX0 (k + 1) f fd ["_law_bag_here", "_law_sides"] spPull := by
  refine F.ok sc_law_pull (fun vs H Q E h => ?_) (fun cdv A outer s H vs Q E hr h => ?_)
  · obtain ⟨_, b, n, rfl, _⟩ := h; rfl
  obtain ⟨l, b, n, rfl, n1, n2, ⟨ns, i, g, z, c, hlb, hb, hL, hl, i0, z0, z1⟩, q⟩ := h
  refine ⟨_, (C8.pss_cut (ps_if (PW.pt (pw_and (pt_cmpR op_eq (pe_ix ix_list (pv 0) pe_int (fun _ _ => rfl)) pe_int (nomark _)) (pw_and1 (pt_cmpR op_lt (pe_ix ix_list (pv 0) pe_int (fun _ _ => rfl)) (pe_callB call_len_seq (by rfl) T.z_len (by decide +kernel) (pa_cons (pe_ix ix_list (pv 0) pe_int (fun _ _ => rfl)) pa_nil)) (nomark _))))) (pss_cons (ps_set (i := 2) sc_law_pull.nd rfl (Or.inl rfl) (pe_ix ix_list (pe_ix ix_list (pv 0) pe_int (fun _ _ => rfl)) (pe_ix ix_list (pv 0) pe_int (fun _ _ => rfl)) (fun _ _ => rfl)))
  (pss_cons (ps_asg (pe_op op_add (pe_ix ix_list (pv 0) pe_int (fun _ _ => rfl)) pe_int) (pg_sub (pv 0) pe_int set_list))
  (pss_one (ps_if (pt_cmpR op_ge (pv 2) (pe_op op_pow pe_int pe_int) (nomark _)) (pss_one (ps_asg (pv 2) (pg_sub (pv 0) pe_int set_list))) (pss_one (ps_asg (pe_op op_mod (pe_op op_add (pe_op op_add (pe_op op_mul (pe_ix ix_list (pv 0) pe_int (fun _ _ => rfl)) pe_int) (pe_op op_mod (pe_callTy call_int1 (by rfl) T.z_int (by decide +kernel) (pa_cons (pv 2) pa_nil)) pe_int)) pe_int) pe_int) (pg_sub (pv 0) pe_int set_list))))))) pss_nil)
  (pss_cons (ps_if (pt_cmpR op_gt (pe_ix ix_list (pv 0) pe_int (fun _ _ => rfl)) pe_int (nomark _)) (pss_cons (ps_set (i := 3) sc_law_pull.nd rfl (Or.inl rfl) (pe_op op_mod (pe_callTy call_int1 (by rfl) T.z_int (by decide +kernel) (pa_cons (pe_ix ix_list (pv 0) pe_int (fun _ _ => rfl)) pa_nil)) (pv 1)))
  (pss_cons (ps_asg (pe_op op_fdivW (pe_ix ix_list (pv 0) pe_int (fun _ _ => rfl)) (pv 1)) (pg_sub (pv 0) pe_int set_list))
  (pss_one (ps_ret (pv 3))))) pss_nil)
  (pss_cons (ps_asg (pe_op op_add (pe_ix ix_list (pv 0) pe_int (fun _ _ => rfl)) pe_int) (pg_sub (pv 0) pe_int set_list))
  (pss_cons (ps_set (i := 4) sc_law_pull.nd rfl (Or.inl rfl) (pe_op op_mod (pe_op op_add (pe_ix ix_list (pv 0) pe_int (fun _ _ => rfl)) (pe_op op_mul (pe_ix ix_list (pv 0) pe_int (fun _ _ => rfl)) pe_int)) pe_int))
  (pss_cons (ps_asg (pe_op op_mod (pe_op op_add (pe_op op_add (pe_op op_pow (pv 4) pe_int) (pe_op op_mul pe_int (pv 4))) pe_int) pe_int) (pg_sub (pv 0) pe_int set_list))
  (pss_one (ps_ret (pe_op op_mod (pe_op op_add (pe_op op_fdiv (pe_ix ix_list (pv 0) pe_int (fun _ _ => rfl)) pe_int) (pe_op op_mul (pe_op op_mod (pe_callTy call_int1 (by rfl) T.z_int (by decide +kernel) (pa_cons (pe_ix ix_list (pv 0) pe_int (fun _ _ => rfl)) pa_nil)) pe_int) pe_int)) (pv 1))))))))), ?_⟩
  -- behind the draw of a cell
  let Mid : L2.St → Hp → Prop := fun σ' H' => ∃ (u2 u3 u4 : Option V) (i' g' z' : Int), σ' = [some (.ref b), some (.int n), u2, u3, u4] ∧ Kp b H H' ∧ H' b = some (.lst [.ref l, .int i', .int g', .int z', .int c]) ∧ 0 ≤ i' ∧ 0 ≤ z' ∧ z' < 2147483647
  have k0 : Kp b H H := Kp.refl H
  have hLs : ∀ H', Kp b H H' → SqL K H' l (ns.map V.int) := fun H' x => SqL.of (x _ _ hlb hL)
  refine ⟨Mid, ?_, ?_⟩
  · have m0 : Mid [some (V.ref b), some (V.int n), none, none, none] H := ⟨none, none, none, i, g, z, rfl, k0, hb, i0, z0, z1⟩
    refine ⟨_, rfl, b, _, 2, _, rfl, rfl, SqL.of hb, rfl, rfl, _, rfl, ?_⟩
    refine ite2 (fun e => ?_) (fun e => ?_)
    · refine ⟨_, rfl, b, _, 1, _, rfl, rfl, SqL.of hb, rfl, _, rfl, b, _, 0, _, rfl, rfl, SqL.of hb, rfl, l, _, rfl, .inl (SqL.of hL), _, _, rfl, rfl, _, rfl, ?_⟩
      refine ite2 (fun e2 => ?_) (fun e2 => ?_)
      · have hi : i < (ns.length : Int) := by
          have := of_decide_eq_true e2
          rw [List.length_map] at this
          exact this
        obtain ⟨v, hv, hat⟩ := atI_ex (xs := ns.map V.int) i0 (by rw [List.length_map]; exact hi)
        rw [List.getElem?_map] at hv
        obtain ⟨cell, _, rfl⟩ := Option.map_eq_some_iff.mp hv
        refine ⟨_, rfl, b, _, 0, _, rfl, rfl, SqL.of hb, rfl, _, rfl, b, _, 1, _, rfl, rfl, SqL.of hb, rfl, l, _, i, _, rfl, rfl, SqL.of hL, hat, ?_⟩
        refine ⟨_, rfl, b, _, 1, _, rfl, rfl, SqL.of hb, rfl, _, _, rfl, rfl, _, rfl, b, _, 1, 1, rfl, rfl, hb, rfl, ?_⟩
        refine ⟨_, rfl, _, _, rfl, rfl, ⟨by decide, by decide, by decide⟩, _, _, rfl, rfl, _, rfl, ?_⟩
        have hb1 : (upd H b (.lst (List.set [.ref l, .int i, .int g, .int z, .int c] 1 (.int (i + 1))))) b = some (.lst [.ref l, .int (i + 1), .int g, .int z, .int c]) := upd_same
        have k1 : Kp b H (upd H b (.lst (List.set [.ref l, .int i, .int g, .int z, .int c] 1 (.int (i + 1))))) := Kp.upd
        refine ite2 (fun e3 => ?_) (fun e3 => ?_)
        · refine ⟨_, rfl, _, rfl, b, _, 2, 2, rfl, rfl, hb1, rfl, ?_⟩
          exact ⟨_, _, _, i + 1, cell, z, rfl, k1.trans Kp.upd, upd_same, by omega, z0, z1⟩
        · refine ⟨_, rfl, b, _, 3, _, rfl, rfl, SqL.of hb1, rfl, _, _, rfl, rfl, .inl ⟨by omega, by omega⟩, _, rfl, .inl ⟨_, rfl, _, _, rfl, rfl, (by show (0 : Int) < 2147483579; decide), _, _, rfl, rfl, _, _, rfl, rfl, _, _, rfl, rfl, (by show (0 : Int) < 2147483647; decide), _, rfl, b, _, 3, 3, rfl, rfl, hb1, rfl, ?_⟩⟩
          exact ⟨_, _, _, i + 1, g, _, rfl, k1.trans Kp.upd, upd_same, by omega, Int.emod_nonneg _ (by decide), Int.emod_lt_of_pos _ (by decide)⟩
      · exact m0
    · exact m0
  · intro σ' H' hm
    obtain ⟨u2, u3, u4, i', g', z', rfl, k1, hb1, i1, z2, z3⟩ := hm
    have fin : ∀ (r : Int) (H2 : Hp) (g2 s2 c2 : Int), 0 ≤ r → r < n → Kp b H H2 → H2 b = some (.lst [.ref l, .int i', .int g2, .int s2, .int c2]) → 0 ≤ s2 → s2 < 2147483647 → Q (.int r) H2 := fun r H2 g2 s2 c2 r0 r1 kk hh s0 s1 =>
      q r H2 r0 r1 kk ⟨ns, i', g2, s2, c2, hlb, hh, kk _ _ hlb hL, hl, i1, s0, s1⟩
    refine ⟨_, rfl, b, _, 2, _, rfl, rfl, SqL.of hb1, rfl, _, _, rfl, rfl, _, rfl, ?_⟩
    refine ite2 (fun e => ?_) (fun e => ?_)
    · refine ⟨_, rfl, b, _, 2, _, rfl, rfl, SqL.of hb1, rfl, .inl ⟨_, rfl, _, rfl, _, _, rfl, rfl, (by omega), ?_⟩⟩
      refine ⟨_, rfl, b, _, 2, _, rfl, rfl, SqL.of hb1, rfl, _, rfl, _, _, rfl, rfl, wide_div (b := 100) (by omega) (by omega) (by decide) (by decide), _, rfl, b, _, 2, 2, rfl, rfl, hb1, rfl, ?_⟩
      refine ⟨_, rfl, ?_⟩
      exact fin _ _ _ z' c (Int.emod_nonneg _ (by omega)) (Int.emod_lt_of_pos _ (by omega)) (k1.trans Kp.upd) upd_same z2 z3
    · refine ⟨_, rfl, b, _, 4, _, rfl, rfl, SqL.of hb1, rfl, _, _, rfl, rfl, _, rfl, b, _, 4, 4, rfl, rfl, hb1, rfl, ?_⟩
      have hb2 : (upd H' b (.lst (List.set [.ref l, .int i', .int g', .int z', .int c] 4 (.int (c + 1))))) b = some (.lst [.ref l, .int i', .int g', .int z', .int (c + 1)]) := upd_same
      have k2 : Kp b H (upd H' b (.lst (List.set [.ref l, .int i', .int g', .int z', .int c] 4 (.int (c + 1))))) := k1.trans Kp.upd
      obtain ⟨sb0, sb1⟩ := seed_bounds (s := z') (k := c + 1)
      refine ⟨_, rfl, b, _, 3, _, rfl, rfl, SqL.of hb2, rfl, _, rfl, b, _, 4, _, rfl, rfl, SqL.of hb2, rfl, _, _, rfl, rfl, .inr ⟨by decide, by decide⟩, _, _, rfl, rfl, _, _, rfl, rfl, (by show (0 : Int) < 2147483647; decide), ?_⟩
      refine ⟨_, rfl, _, _, rfl, rfl, ⟨by decide, by decide, by omega⟩, _, rfl, _, _, rfl, rfl, .inl ⟨by decide, by decide⟩, _, _, rfl, rfl, _, _, rfl, rfl, _, _, rfl, rfl, (by show (0 : Int) < 2147483647; decide), _, rfl, b, _, 3, 3, rfl, rfl, hb2, rfl, ?_⟩
      refine ⟨_, rfl, b, _, 3, _, rfl, rfl, SqL.of upd_same, rfl, _, _, rfl, rfl, ⟨by decide, by decide⟩, _, rfl, b, _, 3, _, rfl, rfl, SqL.of upd_same, rfl, .inl ⟨_, rfl, _, _, rfl, rfl, (by show (0 : Int) < 7919; decide), _, _, rfl, rfl, .inr ⟨by decide, by decide⟩, _, _, rfl, rfl, _, rfl, _, _, rfl, rfl, (by omega), ?_⟩⟩
      exact fin _ _ _ _ (c + 1) (Int.emod_nonneg _ (by omega)) (Int.emod_lt_of_pos _ (by omega)) (k2.trans Kp.upd) upd_same (Int.emod_nonneg _ (by decide)) (Int.emod_lt_of_pos _ (by decide))
theorem ok_of  {a_RESERVED : Addr} (T : Txt K mg  a_RESERVED) {f f1 : Addr} {fd fd1 : FuncData} (F : Fun K "_law_of" "_law_of" s_law_of f fd) (C__law_pull : Cal P w K mg base 1 "_law_pull" ["_law_bag_here", "_law_sides"] spPull f1 fd1) : FnOk P w K mg base CX0 2 f fd ["_law_bag_here", "_law_some"] (spOf K) := by
  refine F.ok sc_law_of (fun vs H Q E h => ?_) (fun cdv A outer s H vs Q E hr h => ?_)
  · obtain ⟨_, _, _, _, rfl, _⟩ := h; rfl
  obtain ⟨l, b, a, xs, rfl, hB, hx, hne, q⟩ := h
  refine ⟨_, (pss_one (ps_ret (pe_ix ix_seq (pv 1) (pe_call C__law_pull.G (hr.mono (by omega)) (by rfl) C__law_pull.m C__law_pull.kp C__law_pull.b .nil pass0 (pa_cons (pv 0) (pa_cons (pe_callB call_lenB (by rfl) T.z_len (by decide +kernel) (pa_cons (pv 1) pa_nil)) pa_nil))) (fun _ _ => rfl)))), ?_⟩
  have hpos : 0 < xs.length := List.length_pos_iff.mpr hne
  refine ⟨_, rfl, _, rfl, _, rfl, rd_len (ys := xs) ?_ fun hz => ?_⟩
  · rcases hx with ⟨_, hx⟩ | hx
    · exact .inl (SqL.of hx)
    · exact .inr hx.sq
  have hz2 := line62 hz
  refine ⟨l, b, _, rfl, by omega, by omega, hB, fun r H1 r0 r1 k1 B1 => ?_⟩
  obtain ⟨v, hv, hat⟩ := atI_ex (xs := xs) r0 r1
  have hm : v ∈ xs := List.mem_of_getElem? hv
  rcases hx with ⟨hab, hx⟩ | hx
  · exact .inl ⟨a, xs, r, v, rfl, rfl, SqL.of (k1 _ _ hab hx), hat, q v H1 hm k1 B1⟩
  · exact .inr (.inl ⟨a, xs, r, v, rfl, rfl, (hx.tp (hB.tp k1)).sq, hat, q v H1 hm k1 B1⟩)
theorem ok_same  {a_RESERVED : Addr} (T : Txt K mg  a_RESERVED) {f : Addr} {fd : FuncData} {n : Nat} (F : Fun K "_law_same" "_law_same" s_law_same f fd) (C__law_same : Cal P w K mg base n "_law_same" ["_law_found", "_law_due"] (spSame K n) f fd) : FnOk P w K mg base CX0 (n + 1) f fd ["_law_found", "_law_due"] (spSame K (n + 1)) := by
  refine F.ok sc_law_same (fun vs H Q E h => ?_) (fun cdv A outer s H vs Q E hr h => ?_)
  · obtain ⟨_, _, _, rfl, _⟩ := h; rfl
  obtain ⟨x, y, d, rfl, hx, hy, hd, q⟩ := h
  refine ⟨_, (pss_cons (ps_if (pt_val (pe_callB call_isDT (by rfl) T.z_isinstance (by decide +kernel) (pa_cons (pv 1) (pa_cons (pe_tup (pa_cons (pe_bltn (v := .ty "list") (u := .type "list") (by rfl) T.z_list (by decide +kernel) rfl) (pa_cons (pe_bltn (v := .ty "tuple") (u := .type "tuple") (by rfl) T.z_tuple (by decide +kernel) rfl) pa_nil))) pa_nil)))) (pss_cons (ps_if (PW.pt (pw_or (pt_cmpR op_ne (pe_callB call_isD (by rfl) T.z_isinstance (by decide +kernel) (pa_cons (pv 0) (pa_cons (pe_bltn (v := .ty "list") (u := .type "list") (by rfl) T.z_list (by decide +kernel) rfl) pa_nil))) (pe_callB call_isD (by rfl) T.z_isinstance (by decide +kernel) (pa_cons (pv 1) (pa_cons (pe_bltn (v := .ty "list") (u := .type "list") (by rfl) T.z_list (by decide +kernel) rfl) pa_nil))) (nomark _)) (pw_or1 (pt_cmpR op_ne (pe_callB call_isD (by rfl) T.z_isinstance (by decide +kernel) (pa_cons (pv 0) (pa_cons (pe_bltn (v := .ty "tuple") (u := .type "tuple") (by rfl) T.z_tuple (by decide +kernel) rfl) pa_nil))) (pe_callB call_isD (by rfl) T.z_isinstance (by decide +kernel) (pa_cons (pv 1) (pa_cons (pe_bltn (v := .ty "tuple") (u := .type "tuple") (by rfl) T.z_tuple (by decide +kernel) rfl) pa_nil))) (nomark _))))) (pss_one (ps_ret pe_bl)) pss_nil)
  (pss_one (ps_ret (pe_and (pe_cmpR op_eq (pe_callB call_lenB (by rfl) T.z_len (by decide +kernel) (pa_cons (pv 0) pa_nil)) (pe_callB call_lenB (by rfl) T.z_len (by decide +kernel) (pa_cons (pv 1) pa_nil)) (nomark _)) (pe_one (pe_callB (cr_all rfl) (by rfl) T.z_all (by decide +kernel) (pa_cons (pe_lc (own := [("_law_k", 2)]) (g := gName 2) (tt := tYes) rfl sc_law_same.nd (pi_range1 (by rfl) T.z_range (pa_cons (pe_callB call_lenB (by rfl) T.z_len (by decide +kernel) (pa_cons (pv 1) pa_nil)) pa_nil)) (blkOk_by (own := [("_law_k", 2)]) (N := ["_law_found", "_law_due", "_law_k"]) (sc := defScope s_law_same) (by decide +kernel)) (fun _ _ _ _ _ => (pg_name (i := 2) sc_law_same.nd rfl (Or.inl rfl))) (fun _ _ _ _ _ => pts_nil) (fun _ _ _ _ _ => (pe_call C__law_same.G (hr.mono (by omega)) (by rfl) C__law_same.m C__law_same.kp C__law_same.b .nil pass0 (pa_cons (pe_ix (r := rIx K) ix_seq (pv 0) (pv 2) (fun _ _ => rfl)) (pa_cons (pe_ix (r := rIx K) ix_seq (pv 1) (pv 2) (fun _ _ => rfl)) pa_nil))))) pa_nil))))))) pss_nil)
  (pss_cons (ps_if (PW.pt (pw_or (pt_cmpR op_isN (pv 1) pe_non (nomark _)) (pw_or1 (pt_cmpR op_isN (pv 0) pe_non (nomark _))))) (pss_one (ps_ret (pe_and (pe_cmpR op_isN (pv 0) pe_non (nomark _)) (pe_one (pe_cmpR op_isN (pv 1) pe_non (nomark _)))))) pss_nil)
  (pss_cons (ps_if (PW.pt (pw_or (pt_cmpR op_ne (pe_callB call_isD (by rfl) T.z_isinstance (by decide +kernel) (pa_cons (pv 1) (pa_cons (pe_bltn (v := .ty "bool") (u := .type "bool") (by rfl) T.z_bool (by decide +kernel) rfl) pa_nil))) (pe_callB call_isD (by rfl) T.z_isinstance (by decide +kernel) (pa_cons (pv 0) (pa_cons (pe_bltn (v := .ty "bool") (u := .type "bool") (by rfl) T.z_bool (by decide +kernel) rfl) pa_nil))) (nomark _)) (pw_or1 (pt_cmpR op_ne (pe_callB call_isD (by rfl) T.z_isinstance (by decide +kernel) (pa_cons (pv 1) (pa_cons (pe_bltn (v := .ty "int") (u := .type "int") (by rfl) T.z_int (by decide +kernel) rfl) pa_nil))) (pe_callB call_isD (by rfl) T.z_isinstance (by decide +kernel) (pa_cons (pv 0) (pa_cons (pe_bltn (v := .ty "int") (u := .type "int") (by rfl) T.z_int (by decide +kernel) rfl) pa_nil))) (nomark _))))) (pss_one (ps_ret pe_bl)) pss_nil)
  (pss_one (ps_ret (pe_and (pe_cmpR op_eq (pe_callB call_isD (by rfl) T.z_isinstance (by decide +kernel) (pa_cons (pv 1) (pa_cons (pe_bltn (v := .ty "str") (u := .type "str") (by rfl) T.z_str (by decide +kernel) rfl) pa_nil))) (pe_callB call_isD (by rfl) T.z_isinstance (by decide +kernel) (pa_cons (pv 0) (pa_cons (pe_bltn (v := .ty "str") (u := .type "str") (by rfl) T.z_str (by decide +kernel) rfl) pa_nil))) (nomark _)) (pe_one (pe_cmpR op_eq (pv 0) (pv 1) (nomark _))))))))), ?_⟩
  refine ⟨_, rfl, (by show 2 ≤ sizeLine; decide), fun tp ntp => rd_lt2 (dp_same (same_new ntp) hy) upd_same ⟨_, rfl, ?_⟩⟩
  have s1 : Same H (upd H tp (.tup [.ty "list", .ty "tuple"])) := same_new ntp
  generalize upd H tp (.tup [.ty "list", .ty "tuple"]) = H1 at s1
  have hx1 := dp_same s1 hx
  have hy1 := dp_same s1 hy
  have fin : ∀ H', Same H1 H' → Q (.bl true) H' := fun H' z => q H' (s1.trans z)
  clear q
  refine ite2 (fun e => ?_) (fun e => ?_)
  · refine ⟨_, rfl, rd_list hx1 ⟨_, rfl, rd_list hy1 ⟨rfl, _, rfl, ?_⟩⟩⟩
    rw [decide_eq_true rfl]
    refine iteF ⟨_, rfl, rd_tuple hx1 ⟨_, rfl, rd_tuple hy1 ⟨rfl, _, rfl, ?_⟩⟩⟩
    rw [decide_eq_true rfl]
    refine iteF ?_
    obtain ⟨p1, p2, xs, ys, ds, rfl, rfl, h1, h2, a1, a2, hdep⟩ : ∃ p1 p2 xs ys ds, x = .ref p1 ∧ y = .ref p2 ∧ (SqL K H1 p1 xs ∨ SqT K H1 p1 xs) ∧ (SqL K H1 p2 ys ∨ SqT K H1 p2 ys) ∧ DpAll K H1 xs ds ∧ DpAll K H1 ys ds ∧ PyData.depthAll ds < n := by
      cases d with
      | list ds =>
        cases hx1 with
        | lst h1 a1 => cases hy1 with
          | lst h2 a2 => exact ⟨_, _, _, _, ds, rfl, rfl, .inl h1, .inl h2, a1, a2, by simp only [PyData.depth] at hd; omega⟩
      | tuple ds =>
        cases hx1 with
        | tup h1 a1 => cases hy1 with
          | tup h2 a2 => exact ⟨_, _, _, _, ds, rfl, rfl, .inr h1, .inr h2, a1, a2, by simp only [PyData.depth] at hd; omega⟩
      | _ => cases e
    have hl : xs.length = ys.length := (dpall_len a1).trans (dpall_len a2).symm
    refine ⟨_, rfl, rd_len h1 fun z1 => ⟨_, rfl, rd_len h2 fun z2 => ⟨rfl, _, rfl, ?_⟩⟩⟩
    rw [hl, decide_eq_true rfl]
    refine iteT ⟨_, rfl, rd_len h2 fun z2 => ⟨_, rfl, (line62 z2).1, (line62 z2).2, fun D nD => ?_⟩⟩
    refine lc_range (lo := 0) (n := (ys.length : Int).toNat) (fun i H' => Same H1 H' ∧ H' D = some (.lst (List.replicate i (.bl true)))) ⟨same_new nD, upd_same⟩ (fun i H' hi hp => ?_) (fun H' hp => ?_)
    · obtain ⟨sm, eD⟩ := hp
      refine ⟨rfl, ?_⟩
      have hi2 : i < ys.length := by omega
      have hi1 : i < xs.length := by omega
      have gx := List.getElem?_eq_getElem hi1
      have gy := List.getElem?_eq_getElem hi2
      obtain ⟨dx, e1, f1⟩ := dpall_get a1 gx
      obtain ⟨dy, e2, f2⟩ := dpall_get a2 gy
      have : dx = dy := Option.some.inj (e1.symm.trans e2)
      subst this
      have hk : (0 : Int) + (i : Nat) = ((i : Nat) : Int) := by omega
      have ix : ∀ (p : Addr) (zs : List V) (v : V), (SqL K H1 p zs ∨ SqT K H1 p zs) → zs[i]? = some v → ∀ (Q' : VK), Q' v H' → rIx K (.ref p) (.int (0 + (i : Nat))) H' Q' := fun p zs v hz hv Q' hq => by
        rw [hk]
        rcases hz with hz | hz
        · exact .inl ⟨p, zs, _, v, rfl, rfl, sm.seq hz, atI_nat hv, hq⟩
        · exact .inr (.inl ⟨p, zs, _, v, rfl, rfl, same_sqt sm hz, atI_nat hv, hq⟩)
      refine ⟨_, rfl, _, rfl, ix _ _ _ h1 gx _ ⟨_, rfl, _, rfl, ix _ _ _ h2 gy _ ?_⟩⟩
      refine ⟨_, _, dx, rfl, dp_same sm f1, dp_same sm f2, Nat.lt_of_le_of_lt (depth_get e1) hdep, fun H2 s2 => ?_⟩
      have eD2 := s2 _ _ eD
      refine ⟨_, eD2, by rw [List.length_replicate]; omega, same_mut (sm.trans s2) nD, ?_⟩
      rw [upd_same, ← List.replicate_succ']
    · obtain ⟨sm, eD⟩ := hp
      refine ⟨D, List.replicate ((ys.length : Int).toNat) true, rfl, SqL.of (by rw [List.map_replicate]; exact eD), ?_⟩
      have : (List.replicate ((ys.length : Int).toNat) true).all id = true := by rw [List.all_eq_true]; intro b hb; exact (List.mem_replicate.mp hb).2
      rw [this]
      exact fin H' sm
  · have sc : (∃ i, x = .int i ∧ y = .int i) ∨ (∃ i, x = .bl i ∧ y = .bl i) ∨ (∃ i, x = .str i ∧ y = .str i) ∨ (x = .non ∧ y = .non) := by
      cases d with
      | none => cases hx1; cases hy1; exact .inr (.inr (.inr ⟨rfl, rfl⟩))
      | bool b => cases hx1; cases hy1; exact .inr (.inl ⟨_, rfl, rfl⟩)
      | int b => cases hx1; cases hy1; exact .inl ⟨_, rfl, rfl⟩
      | str b => cases hx1; cases hy1; exact .inr (.inr (.inl ⟨_, rfl, rfl⟩))
      | list _ => exact absurd rfl e
      | tuple _ => exact absurd rfl e
      | dict kv => exact absurd rfl (dp_nodict hx1 kv)
    have hxy : x = y := by rcases sc with ⟨i, rfl, rfl⟩ | ⟨i, rfl, rfl⟩ | ⟨i, rfl, rfl⟩ | ⟨rfl, rfl⟩ <;> rfl
    have hscal : scal x y = true := by rcases sc with ⟨i, rfl, rfl⟩ | ⟨i, rfl, rfl⟩ | ⟨i, rfl, rfl⟩ | ⟨rfl, rfl⟩ <;> rfl
    clear sc
    subst hxy
    refine ⟨_, rfl, rfl, _, rfl, ?_⟩
    refine ite2 (fun e2 => ?_) (fun e2 => ?_)
    · obtain rfl : x = V.non := of_decide_eq_true e2
      exact iteT ⟨_, rfl, rfl, _, rfl, iteT ⟨_, rfl, rfl, fin H1 (Same.refl H1)⟩⟩
    · refine ⟨_, rfl, rfl, _, rfl, ?_⟩
      rw [Bool.eq_false_iff.mpr e2]
      refine iteF ⟨_, rfl, rd_bool hy1 ⟨_, rfl, rd_bool hx1 ⟨rfl, _, rfl, ?_⟩⟩⟩
      rw [decide_eq_true rfl]
      refine iteF ⟨_, rfl, rd_int hy1 ⟨_, rfl, rd_int hx1 ⟨rfl, _, rfl, ?_⟩⟩⟩
      rw [decide_eq_true rfl]
      refine iteF ⟨_, rfl, rd_str hy1 ⟨_, rfl, rd_str hx1 ⟨rfl, _, rfl, ?_⟩⟩⟩
      rw [decide_eq_true rfl]
      refine iteT ⟨_, rfl, _, rfl, hscal, ?_⟩
      rw [decide_eq_true rfl]
      exact fin H1 (Same.refl H1)
end
end Vw

set_option Elab.async false
set_option linter.all false
set_option maxRecDepth 100000
set_option maxHeartbeats 4000000
namespace Vw
open PySem PySem.W PyProof.Rows L2
abbrev sis_name : Stmt := top 3
theorem scis_name : FnScope ["text", "sign"] ["text"] (defScope sis_name) := ⟨rfl, rfl, rfl, by decide +kernel, rfl, by decide +kernel, by decide +kernel⟩
abbrev s_law_is_name : Stmt := top 9
theorem sc_law_is_name : FnScope ["_law_text_z", "_law_sign_z"] ["_law_text_z"] (defScope s_law_is_name) := ⟨rfl, rfl, rfl, by decide +kernel, rfl, by decide +kernel, by decide +kernel⟩
section
variable {P : Program} {w : World} {K : PySem.W.Frag} {mg : Str → Option Value} {base : Heap}
theorem ok_is_name  {a_RESERVED : Addr} (T : Txt K mg  a_RESERVED) {f : Addr} {fd : FuncData} {k : Nat} (F : Fun K "is_name" "is_name" sis_name f fd) : FnOk P w K mg base CX0 (k + 1) f fd ["text"] spNm := by
  refine F.ok scis_name (fun vs H Q E h => ?_) (fun cdv A outer s H vs Q E hr h => ?_)
  · obtain ⟨_, rfl, _⟩ := h; rfl
  obtain ⟨z, rfl, hz, q⟩ := h
  refine ⟨_, (pss_cons (ps_if (PW.pt (pw_or (pt_not (pt_val (pe_callB call_isD (by rfl) T.z_isinstance (by decide +kernel) (pa_cons (pv 0) (pa_cons (pe_bltn (v := .ty "str") (u := .type "str") (by rfl) T.z_str (by decide +kernel) rfl) pa_nil))))) (pw_or1 (pt_cmpR op_in_seq (pv 0) (pe_glob (v := .ref a_RESERVED) (by rfl) T.m__RESERVED rfl) rfl)))) (pss_one (ps_ret pe_bl)) pss_nil)
  (pss_cons (ps_if (PW.pt (pw_or (pt_cmpR op_lt (pe_callB call_len_str (by rfl) T.z_len (by decide +kernel) (pa_cons (pv 0) pa_nil)) pe_int (nomark _)) (pw_or1 (pt_cmpR op_gt (pe_callB call_len_str (by rfl) T.z_len (by decide +kernel) (pa_cons (pv 0) pa_nil)) (pe_globI (by rfl) T.m__LONGEST_NAME) (nomark _))))) (pss_one (ps_ret pe_bl)) pss_nil)
  (pss_one (ps_ret (pe_callB (cr_all rfl) (by rfl) T.z_all (by decide +kernel) (pa_cons (pe_lc (own := [("sign", 1)]) (g := gName 1) (tt := tYes) rfl scis_name.nd (pi_str (pv 0)) (blkOk_by (own := [("sign", 1)]) (N := ["text", "sign"]) (sc := defScope sis_name) (by decide +kernel)) (fun _ _ _ _ _ => (pg_name (i := 1) scis_name.nd rfl (Or.inl rfl))) (fun _ _ _ _ _ => pts_nil) (fun _ _ _ _ _ => (pe_chain op_le_str op_le_str pe_str (pv 1) pe_str))) pa_nil)))))), ?_⟩
  have hsl : (30 : Nat) ≤ sizeLine := by decide
  refine ⟨_, rfl, rd_str (d := .str z) (.str z) ⟨_, rfl, iteF ⟨_, rfl, a_RESERVED, _, rfl, .inr (T.t__RESERVED H), rfl, rfl, _, rfl, ?_⟩⟩⟩
  refine ite2 (fun e => ?_) (fun e => ?_)
  · have e' : inV (.str z) resv = true := e
    have : isNm z = false := by unfold isNm; rw [e']; rfl
    rw [this] at q
    exact q H (Same.refl H)
  · have e' : inV (.str z) resv = false := Bool.eq_false_iff.mpr e
    refine ⟨_, rfl, z, rfl, Nat.le_trans hz hsl, _, _, rfl, rfl, _, rfl, ?_⟩
    refine ite2 (fun e => ?_) (fun e => ?_)
    · have h1 : ¬ 1 ≤ z.length := by have := of_decide_eq_true e; omega
      have : isNm z = false := by unfold isNm; rw [e', decide_eq_false h1]; rfl
      rw [this] at q
      exact q H (Same.refl H)
    · have h1 : 1 ≤ z.length := by have := of_decide_eq_false (Bool.eq_false_iff.mpr e); omega
      refine ⟨_, rfl, z, rfl, Nat.le_trans hz hsl, _, _, rfl, rfl, _, rfl, ?_⟩
      refine ite2 (fun e => ?_) (fun e => ?_)
      · have h2 : ¬ z.length ≤ 6 := by have := of_decide_eq_true e; omega
        have : isNm z = false := by unfold isNm; rw [e', decide_eq_true h1, decide_eq_false h2]; rfl
        rw [this] at q
        exact q H (Same.refl H)
      · have h2 : z.length ≤ 6 := by have := of_decide_eq_false (Bool.eq_false_iff.mpr e); omega
        have : isNm z = z.cps.toList.all isLow := by unfold isNm; rw [e', decide_eq_true h1, decide_eq_true h2]; rfl
        rw [this] at q
        refine ⟨_, rfl, z, rfl, fun D nD => ?_⟩
        refine lc_it walk_str (fun i H' => Same H H' ∧ H' D = some (.lst ((z.cps.toList.take i).map fun c => .bl (isLow c)))) ⟨same_new nD, upd_same⟩ (fun i H' _ _ => trivial) (fun i x H1 H2 hi hp hy => ?_) (fun H' hp => ?_)
        · obtain ⟨sm, eD⟩ := hp
          obtain ⟨rfl, c, hc, rfl⟩ := hy
          have hc' := cps_get hc
          have fin : ∀ b : Bool, b = isLow c → ∃ acc, H2 D = some (.lst acc) ∧ acc.length < sizeLine ∧ Same H (upd H2 D (.lst (acc ++ [.bl b]))) ∧ (upd H2 D (.lst (acc ++ [.bl b]))) D = some (.lst ((z.cps.toList.take (i + 1)).map fun c => .bl (isLow c))) := fun b hb => by
            refine ⟨_, eD, ?_, same_mut sm nD, ?_⟩
            · rw [List.length_map, List.length_take]
              have : z.cps.toList.length = z.length := (TL.len_tl z).symm
              exact Nat.lt_of_le_of_lt (Nat.min_le_right _ _) (by rw [this]; exact Nat.lt_of_le_of_lt hz (by decide))
            · rw [upd_same, take_succ_get hc', List.map_append, hb]; rfl
          refine ⟨rfl, _, rfl, _, _, rfl, rfl, _, rfl, ?_⟩
          have ea : ("a" : Str).cps.toList = [97] := by decide +kernel
          have ez : ("z" : Str).cps.toList = [122] := by decide +kernel
          have lo : decide ([c] < ("a" : Str).cps.toList) = decide (c < 97) := by rw [ea]; exact lt_one c 97
          have hi' : decide (("z" : Str).cps.toList < [c]) = decide (122 < c) := by rw [ez]; exact lt_one 122 c
          refine ite2 (fun e => ?_) (fun e => ?_)
          · have h97 : ¬ c < 97 := by
              have e2 : (!decide ([c] < ("a" : Str).cps.toList)) = true := e
              rw [lo, Bool.not_eq_true', decide_eq_false_iff_not] at e2
              exact e2
            refine ⟨_, _, rfl, rfl, ?_⟩
            refine fin _ ?_
            show (!decide (("z" : Str).cps.toList < [c])) = isLow c
            rw [hi']
            unfold isLow
            rw [decide_eq_true (show 97 ≤ c by omega), Bool.true_and]
            by_cases h : 122 < c
            · rw [decide_eq_true h, decide_eq_false (by omega)]; rfl
            · rw [decide_eq_false h, decide_eq_true (by omega)]; rfl
          · have h97 : c < 97 := by
              have e2 : ¬ (!decide ([c] < ("a" : Str).cps.toList)) = true := e
              rw [lo, Bool.not_eq_true, Bool.not_eq_false', decide_eq_true_iff] at e2
              exact e2
            refine fin _ ?_
            unfold isLow
            rw [decide_eq_false (show ¬ 97 ≤ c by omega)]; rfl
        · obtain ⟨sm, eD⟩ := hp
          have hall : z.cps.toList.take z.cps.size = z.cps.toList := List.take_of_length_le (Nat.le_of_eq (Array.length_toList))
          rw [hall] at eD
          refine ⟨D, z.cps.toList.map isLow, rfl, SqL.of (by rw [List.map_map]; exact eD), ?_⟩
          have : (z.cps.toList.map isLow).all id = z.cps.toList.all isLow := by rw [List.all_map]; rfl
          rw [this]
          exact q H' sm
theorem ok_lis_name  {a_RESERVED : Addr} (T : Txt K mg  a_RESERVED) {f : Addr} {fd : FuncData} {k : Nat} (F : Fun K "_law_is_name" "_law_is_name" s_law_is_name f fd) : FnOk P w K mg base CX0 (k + 1) f fd ["_law_text_z"] spNm := by
  refine F.ok sc_law_is_name (fun vs H Q E h => ?_) (fun cdv A outer s H vs Q E hr h => ?_)
  · obtain ⟨_, rfl, _⟩ := h; rfl
  obtain ⟨z, rfl, hz, q⟩ := h
  refine ⟨_, (pss_cons (ps_if (pt_cmpR op_in_seq (pv 0) (pe_tup (pa_cons pe_str (pa_cons pe_str (pa_cons pe_str (pa_cons pe_str (pa_cons pe_str (pa_cons pe_str (pa_cons pe_str pa_nil)))))))) rfl) (pss_one (ps_ret pe_bl)) pss_nil)
  (pss_one (ps_ret (pe_and (pe_chain op_le op_le pe_int (pe_callB call_len_str (by rfl) T.z_len (by decide +kernel) (pa_cons (pv 0) pa_nil)) pe_int) (pe_one (pe_callB (cr_all rfl) (by rfl) T.z_all (by decide +kernel) (pa_cons (pe_lc (own := [("_law_sign_z", 1)]) (g := gName 1) (tt := tYes) rfl sc_law_is_name.nd (pi_str (pv 0)) (blkOk_by (own := [("_law_sign_z", 1)]) (N := ["_law_text_z", "_law_sign_z"]) (sc := defScope s_law_is_name) (by decide +kernel)) (fun _ _ _ _ _ => (pg_name (i := 1) sc_law_is_name.nd rfl (Or.inl rfl))) (fun _ _ _ _ _ => pts_nil) (fun _ _ _ _ _ => (pe_cmpR op_in_sign (pv 1) pe_str rfl))) pa_nil))))))), ?_⟩
  have hsl : (30 : Nat) ≤ sizeLine := by decide
  refine ⟨_, rfl, (by show 7 ≤ sizeLine; decide), fun p np => ⟨p, resv, rfl, .inr (TT.of upd_same).sq, rfl, rfl, _, rfl, ?_⟩⟩
  have s1 := same_new (o := .tup resv) np
  have q : ∀ H', Same (upd H p (.tup resv)) H' → Q (.bl (isNm z)) H' := fun H' s => q H' (s1.trans s)
  refine ite2 (fun e => ?_) (fun e => ?_)
  · have e' : inV (.str z) resv = true := e
    have : isNm z = false := by unfold isNm; rw [e']; rfl
    rw [this] at q
    exact q _ (Same.refl _)
  · have e' : inV (.str z) resv = false := Bool.eq_false_iff.mpr e
    replace q : ∀ H', Same (upd H p (.tup resv)) H' → Q (.bl (decide (1 ≤ z.length) && (decide (z.length ≤ 6) && z.cps.toList.all isLow))) H' := fun H' s => by
      have : isNm z = (decide (1 ≤ z.length) && (decide (z.length ≤ 6) && z.cps.toList.all isLow)) := by unfold isNm; rw [e']; rfl
      rw [← this]; exact q H' s
    refine ⟨_, rfl, z, rfl, Nat.le_trans hz hsl, _, _, rfl, rfl, _, rfl, ?_⟩
    refine ite2 (fun e => ?_) (fun e => ?_)
    · have h1 : 1 ≤ z.length := by have := of_decide_eq_true e; omega
      rw [decide_eq_true h1, Bool.true_and] at q
      refine ⟨_, _, rfl, rfl, _, rfl, ?_⟩
      refine ite2 (fun e => ?_) (fun e => ?_)
      · have h2 : z.length ≤ 6 := by have := of_decide_eq_true e; omega
        rw [decide_eq_true h2, Bool.true_and] at q
        refine ⟨_, rfl, z, rfl, fun D nD => ?_⟩
        refine lc_it walk_str (fun i H' => Same (upd H p (.tup resv)) H' ∧ H' D = some (.lst ((z.cps.toList.take i).map fun c => .bl (isLow c)))) ⟨same_new nD, upd_same⟩ (fun i H' _ _ => trivial) (fun i x H1 H2 hi hp hy => ?_) (fun H' hp => ?_)
        · obtain ⟨sm, eD⟩ := hp
          obtain ⟨rfl, c, hc, rfl⟩ := hy
          have hc' := cps_get hc
          have fin : ∀ b : Bool, b = isLow c → ∃ acc, H2 D = some (.lst acc) ∧ acc.length < sizeLine ∧ Same (upd H p (.tup resv)) (upd H2 D (.lst (acc ++ [.bl b]))) ∧ (upd H2 D (.lst (acc ++ [.bl b]))) D = some (.lst ((z.cps.toList.take (i + 1)).map fun c => .bl (isLow c))) := fun b hb => by
            refine ⟨_, eD, ?_, same_mut sm nD, ?_⟩
            · rw [List.length_map, List.length_take]
              have : z.cps.toList.length = z.length := (TL.len_tl z).symm
              exact Nat.lt_of_le_of_lt (Nat.min_le_right _ _) (by rw [this]; exact Nat.lt_of_le_of_lt hz (by decide))
            · rw [upd_same, take_succ_get hc', List.map_append, hb]; rfl
          refine ⟨rfl, _, rfl, c, _, rfl, rfl, ?_⟩
          exact fin _ (mem_letters c)
        · obtain ⟨sm, eD⟩ := hp
          have hall : z.cps.toList.take z.cps.size = z.cps.toList := List.take_of_length_le (Nat.le_of_eq (Array.length_toList))
          rw [hall] at eD
          refine ⟨D, z.cps.toList.map isLow, rfl, SqL.of (by rw [List.map_map]; exact eD), ?_⟩
          have : (z.cps.toList.map isLow).all id = z.cps.toList.all isLow := by rw [List.all_map]; rfl
          rw [this]
          exact q H' sm
      · have h2 : ¬ z.length ≤ 6 := by have := of_decide_eq_false (Bool.eq_false_iff.mpr e); omega
        rw [decide_eq_false h2] at q
        exact q _ (Same.refl _)
    · have h1 : ¬ 1 ≤ z.length := by have := of_decide_eq_false (Bool.eq_false_iff.mpr e); omega
      rw [decide_eq_false h1] at q
      exact ⟨_, rfl, q _ (Same.refl _)⟩
end
end Vw

set_option Elab.async false
set_option linter.all false
set_option maxRecDepth 100000
set_option maxHeartbeats 4000000
namespace Vw
open PySem PySem.W PyProof.Rows L2
def spLaw (K : PySem.W.Frag) : Sp := fun vs H Q _ => ∃ (a : Addr) (ns : List Int), vs = [.ref a] ∧ SqL K H a (ns.map V.int) ∧ ns.length ≤ 63 ∧ ∀ H', Q (.bl true) H'
theorem KO.at {K : PySem.W.Frag} {a : Addr} {o : O} (h : KO K a o) (H : Hp) : OA K H (.ref a) o := h.tp (fun a xs h => by cases h)
section
variable {K : PySem.W.Frag}
theorem lst2 {H : Hp} {D : Addr} {x y : V} {a b : O} (h : H D = some (.lst [x, y])) (hx : OA K H x a) (hy : OA K H y b) : Dp K H (.ref D) (.list [O.toD a, O.toD b]) := .lst (SqL.of h) (.cons hx.dp (.cons hy.dp .nil))
theorem depth2 {a b : O} (h1 : O.dp a ≤ 40) (h2 : O.dp b ≤ 40) : (PyData.list [O.toD a, O.toD b]).depth < 60 := by
  simp only [PyData.depth, PyData.depthAll, O.depth_toD]; omega
/-- a drawn ordinal -/
theorem use_ordW {l b : Addr} {r : Int} {H3 : Hp} {Q' : VK} (r0 : 0 ≤ r) (r1 : r < 4) (B : Bag l H3 b) (h : ∀ (o : O) (v : V) (H' : Hp), O.ok o = true → O.dp o ≤ 8 → O.wd o ≤ 3 → OA K H' v o → Kp b H3 H' → Bag l H' b → Q' v H') : spOrdTo K 10 [.ref b, .int r] H3 Q' E0 :=
  ⟨r.toNat, by omega, l, b, by rw [Int.toNat_of_nonneg r0], B, fun o v H' h1 h2 h3 h4 h5 h6 => h o v H' h1 (by omega) h3 h4 h5 h6⟩
theorem use_ord {l b : Addr} {r : Int} {H3 : Hp} {Q' : VK} (r0 : 0 ≤ r) (r1 : r < 4) (B : Bag l H3 b) (h : ∀ (o : O) (v : V) (H' : Hp), O.ok o = true → O.dp o ≤ 8 → (O.ts o).length ≤ 3 → OA K H' v o → Kp b H3 H' → Bag l H' b → Q' v H') : spOrdTo K 10 [.ref b, .int r] H3 Q' E0 :=
  ⟨r.toNat, by omega, l, b, by rw [Int.toNat_of_nonneg r0], B, fun o v H' h1 h2 h3 h4 h5 h6 => h o v H' h1 (by omega) (Nat.le_trans (O.len_wd o) h3) h4 h5 h6⟩
theorem use_plus {x y : O} {H : Hp} {Q' : VK} {u v : V} (h1 : OA K H u x) (h2 : OA K H v y) (h3 : O.ok x = true) (h4 : O.dp x ≤ 40) (h5 : O.dp y ≤ 40) (h6 : (O.ts x).length ≤ 100) (h7 : (O.ts y).length ≤ 100) (h8 : ∀ (v : V) (H' : Hp), Same H H' → OA K H' v (O.sum x y) → Q' v H') : spPlus K [u, v] H Q' E0 :=
  ⟨u, v, x, y, rfl, h1, h2, h3, by omega, by omega, by omega, by omega, h8⟩
end
section
variable {P : Program} {w : World} {K : PySem.W.Frag} {mg : Str → Option Value} {base : Heap}
theorem same_all  {a_RESERVED : Addr} (T : Txt K mg  a_RESERVED) {f : Addr} {fd : FuncData} (F : Fun K "_law_same" "_law_same" s_law_same f fd) (bF : Binds K fd ["_law_found", "_law_due"] []) (mF : mg "_law_same" = some (.ref f)) :
    ∀ n : Nat, FnOk P w K mg base CX0 n f fd ["_law_found", "_law_due"] (spSame K n)
  | 0 => none_left fun vs H Q E h => by
    obtain ⟨_, _, _, _, _, _, h, _⟩ := h
    exact absurd h (Nat.not_lt_zero _)
  | n + 1 => ok_same T F ⟨same_all T F bF mF n, mF, F.kp, bF⟩
theorem one_mk {K : PySem.W.Frag} {aONE p1 q1 : Addr} {tk1 : Tok} {o1 o2 o3 : Option Addr} {n1 n2 n3 : Nat} {sl1 sl2 sl3 : Array (Option Value)} (lo1 : K.lookup aONE = some ⟨.type "tuple", o1, .seq #[.ref p1] n1, sl1⟩) (lo2 : K.lookup p1 = some ⟨.type "tuple", o2, .seq #[.ref q1, .int 1 tk1] n2, sl2⟩) (lo3 : K.lookup q1 = some ⟨.type "tuple", o3, .seq #[] n3, sl3⟩) : KO K aONE O.one :=
  ⟨aONE, [.ref p1], rfl, .inr ⟨_, _, _, lo1, rfl, rfl, by show 1 ≤ sizeLine; decide, .cons rfl .nil⟩, p1, q1, [], [], rfl, .inr ⟨_, _, _, lo2, rfl, rfl, by show 2 ≤ sizeLine; decide, .cons rfl (.cons ⟨_, rfl⟩ .nil)⟩, .inr ⟨_, _, _, lo3, rfl, rfl, by show 0 ≤ sizeLine; decide, .nil⟩, rfl, rfl⟩
end
end Vw

set_option Elab.async false
set_option linter.all false
set_option maxRecDepth 100000
set_option maxHeartbeats 4000000
namespace Vw
open PySem PySem.W PyProof.Rows L2
abbrev slaw : Stmt := top 10
theorem sclaw : FnScope ["_law_script", "_law_bag_here", "_law_letters_z", "_law_turn", "_law_text_z", "_law_at_z", "_law_word_z", "_law_k"] ["_law_script"] (defScope slaw) := ⟨rfl, rfl, rfl, by decide +kernel, rfl, by decide +kernel, by decide +kernel⟩
section
variable {P : Program} {w : World} {K : PySem.W.Frag} {mg : Str → Option Value} {base : Heap}
theorem ok_law  {a_RESERVED : Addr} (T : Txt K mg  a_RESERVED) {f f1 f2 f3 f4 f5 f6 : Addr} {fd fd1 fd2 fd3 fd4 fd5 fd6 : FuncData} (F : Fun K "law" "law" slaw f fd)
    (C__law_bag : Cal P w K mg base 1 "_law_bag" ["_law_script"] (spBag K) f1 fd1) (C__law_pull : Cal P w K mg base 1 "_law_pull" ["_law_bag_here", "_law_sides"] spPull f2 fd2)
    (C__law_of : Cal P w K mg base 2 "_law_of" ["_law_bag_here", "_law_some"] (spOf K) f3 fd3) (C__law_same : Cal P w K mg base 4 "_law_same" ["_law_found", "_law_due"] (spSame K 4) f4 fd4)
    (C_is_name : Cal P w K mg base 1 "is_name" ["text"] spNm f5 fd5) (C__law_is_name : Cal P w K mg base 1 "_law_is_name" ["_law_text_z"] spNm f6 fd6) :
    FnOk P w K mg base CX0 5 f fd ["_law_script"] (spLaw K) := by
  refine F.ok sclaw (fun vs H Q E h => ?_) (fun cdv A outer s H vs Q E hr h => ?_)
  · obtain ⟨_, _, rfl, _⟩ := h; rfl
  obtain ⟨a, ns, rfl, hS, hl, q⟩ := h
  refine ⟨_, (pss_cons (ps_set (i := 1) sclaw.nd rfl (Or.inr rfl) (pe_call C__law_bag.G (hr.mono (by omega)) (by rfl) C__law_bag.m C__law_bag.kp C__law_bag.b .nil pass0 (pa_cons (pv 0) pa_nil)))
  (pss_cons (ps_set (i := 2) sclaw.nd rfl (Or.inr rfl) pe_str)
  (pss_cons (ps_for PassesOwn.never rfl (pi_range1 (by rfl) T.z_range (pa_cons pe_int pa_nil)) (pg_name (i := 3) sclaw.nd rfl (Or.inl rfl))
   (pss_cons (ps_set (i := 4) sclaw.nd rfl (Or.inl rfl) (pe_join pe_str (pe_lc (own := [("_law_k", 7)]) (g := gName 7) (tt := tYes) rfl sclaw.nd (pi_range1 (by rfl) T.z_range (pa_cons (pe_call C__law_pull.G (hr.mono (by omega)) (by rfl) C__law_pull.m C__law_pull.kp C__law_pull.b .nil pass0 (pa_cons (pv 1) (pa_cons pe_int pa_nil))) pa_nil)) (blkOk_by (own := [("_law_k", 7)]) (N := ["_law_script", "_law_bag_here", "_law_letters_z", "_law_turn", "_law_text_z", "_law_at_z", "_law_word_z", "_law_k"]) (sc := defScope slaw) (by decide +kernel)) (fun _ _ _ _ _ => (pg_name (i := 7) sclaw.nd rfl (Or.inl rfl))) (fun _ _ _ _ _ => pts_nil) (fun _ _ _ _ _ => (pe_ix ix_str (pv 2) (pe_call C__law_pull.G (hr.mono (by omega)) (by rfl) C__law_pull.m C__law_pull.kp C__law_pull.b .nil pass0 (pa_cons (pv 1) (pa_cons pe_int pa_nil))) (fun _ _ => rfl))))))
  (C8.pss_cut (ps_if (pt_cmpR op_eq (pe_call C__law_pull.G (hr.mono (by omega)) (by rfl) C__law_pull.m C__law_pull.kp C__law_pull.b .nil pass0 (pa_cons (pv 1) (pa_cons pe_int pa_nil))) pe_int (nomark _)) (pss_cons (ps_set (i := 5) sclaw.nd rfl (Or.inl rfl) (pe_call C__law_pull.G (hr.mono (by omega)) (by rfl) C__law_pull.m C__law_pull.kp C__law_pull.b .nil pass0 (pa_cons (pv 1) (pa_cons (pe_op op_add (pe_callB call_len_str (by rfl) T.z_len (by decide +kernel) (pa_cons (pv 4) pa_nil)) pe_int) pa_nil))))
  (pss_one (ps_set (i := 4) sclaw.nd rfl (Or.inl rfl) (pe_op op_add_str (pe_op op_add_str (pe_slice sl_str (pv 4) po_none (po_some (pv 5))) (pe_ix ix_str pe_str (pe_call C__law_pull.G (hr.mono (by omega)) (by rfl) C__law_pull.m C__law_pull.kp C__law_pull.b .nil pass0 (pa_cons (pv 1) (pa_cons pe_int pa_nil))) (fun _ _ => rfl))) (pe_slice sl_str (pv 4) (po_some (pv 5)) po_none))))) pss_nil)
  (C8.pss_cut (ps_if (pt_cmpR op_eq (pe_call C__law_pull.G (hr.mono (by omega)) (by rfl) C__law_pull.m C__law_pull.kp C__law_pull.b .nil pass0 (pa_cons (pv 1) (pa_cons pe_int pa_nil))) pe_int (nomark _)) (pss_cons (ps_set (i := 6) sclaw.nd rfl (Or.inl rfl) (pe_call C__law_of.G (hr.mono (by omega)) (by rfl) C__law_of.m C__law_of.kp C__law_of.b .nil pass0 (pa_cons (pv 1) (pa_cons (pe_lst (pa_cons pe_str (pa_cons pe_str (pa_cons pe_str (pa_cons pe_str (pa_cons pe_str (pa_cons pe_str (pa_cons pe_str pa_nil)))))))) pa_nil))))
  (pss_one (ps_set (i := 4) sclaw.nd rfl (Or.inl rfl) (pe_call C__law_of.G (hr.mono (by omega)) (by rfl) C__law_of.m C__law_of.kp C__law_of.b .nil pass0 (pa_cons (pv 1) (pa_cons (pe_lst (pa_cons (pv 6) (pa_cons (pv 6) (pa_cons (pe_op op_add_str (pv 6) pe_str) (pa_cons (pe_slice sl_str (pv 6) (po_some pe_int) po_none) (pa_cons (pe_slice sl_str (pv 6) po_none (po_some (pe_un un_neg pe_int))) pa_nil)))))) pa_nil)))))) pss_nil)
  (pss_one (ps_if (pt_not (pt_val (pe_call C__law_same.G (hr.mono (by omega)) (by rfl) C__law_same.m C__law_same.kp C__law_same.b .nil pass0 (pa_cons (pe_call C_is_name.G (hr.mono (by omega)) (by rfl) C_is_name.m C_is_name.kp C_is_name.b .nil pass0 (pa_cons (pv 4) pa_nil)) (pa_cons (pe_call C__law_is_name.G (hr.mono (by omega)) (by rfl) C__law_is_name.m C__law_is_name.kp C__law_is_name.b .nil pass0 (pa_cons (pv 4) pa_nil)) pa_nil))))) (pss_one (ps_ret pe_bl)) pss_nil))))))
  (pss_one (ps_ret (pe_and (pe_not (pe_call C_is_name.G (hr.mono (by omega)) (by rfl) C_is_name.m C_is_name.kp C_is_name.b .nil pass0 (pa_cons pe_str pa_nil))) (pe_and (pe_call C_is_name.G (hr.mono (by omega)) (by rfl) C_is_name.m C_is_name.kp C_is_name.b .nil pass0 (pa_cons pe_str pa_nil)) (pe_and (pe_call C_is_name.G (hr.mono (by omega)) (by rfl) C_is_name.m C_is_name.kp C_is_name.b .nil pass0 (pa_cons pe_str pa_nil)) (pe_one (pe_not (pe_call C_is_name.G (hr.mono (by omega)) (by rfl) C_is_name.m C_is_name.kp C_is_name.b .nil pass0 (pa_cons pe_str pa_nil)))))))))))), ?_⟩
  have sl : (200 : Nat) ≤ sizeLine := by decide
  refine ⟨_, rfl, a, ns, rfl, hS, hl, fun l b H1 nb s1 B1 => ?_⟩
  refine ⟨8, rfl, by decide, by decide, ?_⟩
  refine for_range (lo := 0) (n := 8) (fun i σ H' => ∃ u3 u4 u5 u6 u7, σ = [some (.ref a), some (.ref b), some (.str "abcdefghijklmnopqrstuvwxyz"), u3, u4, u5, u6, u7] ∧ Bag l H' b) ⟨_, _, _, _, _, rfl, B1⟩ (fun i σ H2 hi h => ?_) (fun σ H2 h => ?_)
  · obtain ⟨u3, u4, u5, u6, u7, rfl, B2⟩ := h
    refine ⟨⟨_, rfl⟩, _, rfl, l, b, 9, rfl, by decide, by decide, B2, fun r H3 r0 r1 k3 B3 => ⟨_, rfl, by omega, by omega, fun D nD => ?_⟩⟩
    have hDb := B3.ne nD
    have hDl := B3.nl nD
    refine lc_range (lo := 0) (n := r.toNat) (fun i H' => Bag l H' b ∧ ∃ ys : List Str, H' D = some (.lst (ys.map V.str)) ∧ ys.length = i ∧ ∀ y ∈ ys, y.length = 1) ⟨B3.mut hDb hDl, [], upd_same, rfl, fun y hy => by cases hy⟩ (fun i H' hi hp => ?_) (fun H' hp => ?_)
    · obtain ⟨B4, ys, eD, hl', h1⟩ := hp
      have el : ("abcdefghijklmnopqrstuvwxyz" : Str).cps.toList.length = 26 := by decide +kernel
      refine ⟨rfl, _, rfl, _, rfl, l, b, 26, rfl, by decide, by decide, B4, fun r5 H5 r50 r51 k5 B5 => ?_⟩
      obtain ⟨c, _, hc⟩ := atI_exG (xs := ("abcdefghijklmnopqrstuvwxyz" : Str).cps.toList) r50 (by rw [el]; exact r51)
      have eD5 := k5 _ _ hDb eD
      refine ⟨_, _, c, rfl, rfl, by decide +kernel, hc, _, eD5, by rw [List.length_map, hl']; exact Nat.lt_of_lt_of_le (show i < 200 by omega) sl, B5.mut hDb hDl, ys ++ [⟨#[c]⟩], by rw [upd_same, List.map_append]; rfl, by rw [List.length_append, hl']; rfl, fun y hy => ?_⟩
      rcases List.mem_append.mp hy with h | h
      · exact h1 y h
      · rw [List.mem_singleton.mp h]; rfl
    · obtain ⟨B4, ys, eD, hl', h1⟩ := hp
      have hj := join_len ys h1
      refine ⟨_, D, ys, rfl, rfl, .inl (SqL.of eD), by rw [sum_ones ys h1, hl']; show r.toNat + r.toNat * 0 ≤ _; omega, ?_⟩
      have hz : (Txt.join "" ys).length ≤ 8 := by omega
      generalize Txt.join "" ys = z at hz ⊢
      clear hj hl' h1 eD
      refine ⟨fun σ H' => ∃ u5 u6 z, σ = [some (.ref a), some (.ref b), some (.str "abcdefghijklmnopqrstuvwxyz"), some (.int (0 + (i : Nat))), some (.str z), u5, u6, u7] ∧ Bag l H' b ∧ z.length ≤ 20, ?_, fun σ H5 h => ?_⟩
      · refine ⟨_, rfl, l, b, 3, rfl, by decide, by decide, B4, fun r5 H5 r50 r51 k5 B5 => ⟨rfl, _, rfl, ?_⟩⟩
        refine ite2 (fun e => ?_) (fun e => ?_)
        · refine ⟨_, rfl, _, rfl, z, rfl, by omega, _, _, rfl, rfl, l, b, _, rfl, by omega, by omega, B5, fun r6 H6 r60 r61 k6 B6 => ?_⟩
          have el : (" !0Az_-~{[(\n9" : Str).cps.toList.length = 13 := by decide +kernel
          have c1 := cutS_length z none (some r6)
          have c2 := cutS_length z (some r6) none
          refine ⟨_, rfl, _, rfl, _, rfl, z, rfl, by omega, _, rfl, l, b, 13, rfl, by decide, by decide, B6, fun r7 H7 r70 r71 k7 B7 => ?_⟩
          obtain ⟨c, _, hc⟩ := atI_exG (xs := (" !0Az_-~{[(\n9" : Str).cps.toList) r70 (by rw [el]; exact r71)
          have c3 : (⟨#[c]⟩ : Str).length = 1 := rfl
          refine ⟨_, _, c, rfl, rfl, by decide +kernel, hc, _, _, rfl, rfl, by omega, _, rfl, _, rfl, _, rfl, z, rfl, by omega, _, _, rfl, rfl, by rw [len_app]; omega, ?_⟩
          exact ⟨_, _, _, rfl, B7, by rw [len_app, len_app]; omega⟩
        · exact ⟨_, _, z, rfl, B5, by omega⟩
      · obtain ⟨u5, u6, z, rfl, B5, hz⟩ := h
        refine ⟨fun σ H' => ∃ u5 u6 z, σ = [some (.ref a), some (.ref b), some (.str "abcdefghijklmnopqrstuvwxyz"), some (.int (0 + (i : Nat))), some (.str z), u5, u6, u7] ∧ Bag l H' b ∧ z.length ≤ 20, ?_, fun σ H6 h => ?_⟩
        · refine ⟨_, rfl, l, b, 3, rfl, by decide, by decide, B5, fun r6 H6 r60 r61 k6 B6 => ⟨rfl, _, rfl, ?_⟩⟩
          refine ite2 (fun e => ?_) (fun e => ?_)
          · refine ⟨_, rfl, (by show 7 ≤ sizeLine; decide), fun p np => ?_⟩
            have hpb := B6.ne np
            have B7 := B6.same (same_new (o := .lst resv) np)
            refine ⟨l, b, p, resv, rfl, B7, .inl ⟨hpb, upd_same⟩, by decide, fun x H8 hx k8 B8 => ?_⟩
            obtain ⟨w, rfl, hw⟩ : ∃ w : Str, x = .str w ∧ w.length ≤ 5 := by
              simp only [resv, List.mem_cons, List.not_mem_nil, or_false] at hx
              rcases hx with h | h | h | h | h | h | h <;> exact ⟨_, h, by decide +kernel⟩
            have c1 := cutS_length w (some 1) none
            have c2 := cutS_length w none (some (-1))
            have c3 : ("s" : Str).length = 1 := by decide +kernel
            refine ⟨_, rfl, _, rfl, _, rfl, _, rfl, _, _, rfl, rfl, by omega, _, rfl, _, rfl, w, rfl, by omega, _, rfl, _, rfl, _, rfl, w, rfl, by omega, (by show 5 ≤ sizeLine; decide), fun p2 np2 => ?_⟩
            have hpb2 := B8.ne np2
            have B9 := B8.same (same_new (o := .lst [.str w, .str w, .str (w ++ "s"), .str (cutS w (some 1) none), .str (cutS w none (some (-1)))]) np2)
            refine ⟨l, b, p2, _, rfl, B9, .inl ⟨hpb2, upd_same⟩, (fun z => by cases z), fun x H10 hx k10 B10 => ?_⟩
            obtain ⟨w2, rfl, hw2⟩ : ∃ w2 : Str, x = .str w2 ∧ w2.length ≤ 6 := by
              simp only [List.mem_cons, List.not_mem_nil, or_false] at hx
              rcases hx with h | h | h | h | h
              · exact ⟨_, h, by omega⟩
              · exact ⟨_, h, by omega⟩
              · exact ⟨_, h, by rw [len_app]; omega⟩
              · exact ⟨_, h, by omega⟩
              · exact ⟨_, h, by omega⟩
            exact ⟨_, _, w2, rfl, B10, by omega⟩
          · exact ⟨_, _, z, rfl, B6, hz⟩
        · obtain ⟨u5, u6, z, rfl, B6, hz⟩ := h
          refine ⟨_, rfl, z, rfl, by omega, fun H7 s7 => ⟨_, rfl, z, rfl, by omega, fun H8 s8 => ⟨_, _, .bool (isNm z), rfl, .bl _, .bl _, by simp only [PyData.depth]; decide, fun H9 s9 => ⟨_, rfl, iteF ?_⟩⟩⟩⟩
          exact ⟨_, _, _, _, _, rfl, ((B6.same s7).same s8).same s9⟩
  · obtain ⟨u3, u4, u5, u6, u7, rfl, B2⟩ := h
    have n1 : isNm "" = false := by decide +kernel
    have n2 : isNm "name" = true := by decide +kernel
    have n3 : isNm "abcdef" = true := by decide +kernel
    have n4 : isNm "abcdefg" = false := by decide +kernel
    refine ⟨_, rfl, by decide +kernel, fun H3 s3 => ⟨_, rfl, _, rfl, ?_⟩⟩
    rw [n1]
    refine iteT ⟨_, rfl, by decide +kernel, fun H4 s4 => ⟨_, rfl, ?_⟩⟩
    rw [n2]
    refine iteT ⟨_, rfl, by decide +kernel, fun H5 s5 => ⟨_, rfl, ?_⟩⟩
    rw [n3]
    refine iteT ⟨_, rfl, by decide +kernel, fun H6 s6 => ⟨_, rfl, ?_⟩⟩
    rw [n4]
    exact q H6
theorem main  {a_RESERVED : Addr} (T : Txt K mg  a_RESERVED) {f_is_name : Addr} {fd_is_name : FuncData} (F_is_name : Fun K "is_name" "is_name" sis_name f_is_name fd_is_name) (b_is_name : Binds K fd_is_name ["text"] []) (m_is_name : mg "is_name" = some (.ref f_is_name))
    {f__law_bag : Addr} {fd__law_bag : FuncData} (F__law_bag : Fun K "_law_bag" "_law_bag" s_law_bag f__law_bag fd__law_bag) (b__law_bag : Binds K fd__law_bag ["_law_script"] []) (m__law_bag : mg "_law_bag" = some (.ref f__law_bag))
    {f__law_pull : Addr} {fd__law_pull : FuncData} (F__law_pull : Fun K "_law_pull" "_law_pull" s_law_pull f__law_pull fd__law_pull) (b__law_pull : Binds K fd__law_pull ["_law_bag_here", "_law_sides"] []) (m__law_pull : mg "_law_pull" = some (.ref f__law_pull))
    {f__law_of : Addr} {fd__law_of : FuncData} (F__law_of : Fun K "_law_of" "_law_of" s_law_of f__law_of fd__law_of) (b__law_of : Binds K fd__law_of ["_law_bag_here", "_law_some"] []) (m__law_of : mg "_law_of" = some (.ref f__law_of))
    {f__law_same : Addr} {fd__law_same : FuncData} (F__law_same : Fun K "_law_same" "_law_same" s_law_same f__law_same fd__law_same) (b__law_same : Binds K fd__law_same ["_law_found", "_law_due"] []) (m__law_same : mg "_law_same" = some (.ref f__law_same))
    {f__law_is_name : Addr} {fd__law_is_name : FuncData} (F__law_is_name : Fun K "_law_is_name" "_law_is_name" s_law_is_name f__law_is_name fd__law_is_name) (b__law_is_name : Binds K fd__law_is_name ["_law_text_z"] []) (m__law_is_name : mg "_law_is_name" = some (.ref f__law_is_name))
    {f_law : Addr} {fd_law : FuncData} (F_law : Fun K "law" "law" slaw f_law fd_law) (b_law : Binds K fd_law ["_law_script"] []) (m_law : mg "law" = some (.ref f_law)) : FnOk P w K mg base CX0 5 f_law fd_law ["_law_script"] (spLaw K) := by
  have C1 : Cal P w K mg base 1 "_law_pull" ["_law_bag_here", "_law_sides"] spPull _ _ := ⟨ok_pull T F__law_pull, m__law_pull, F__law_pull.kp, b__law_pull⟩
  exact ok_law T F_law ⟨ok_bag T F__law_bag, m__law_bag, F__law_bag.kp, b__law_bag⟩ C1 ⟨ok_of T F__law_of C1, m__law_of, F__law_of.kp, b__law_of⟩
    ⟨same_all T F__law_same b__law_same m__law_same 4, m__law_same, F__law_same.kp, b__law_same⟩
    ⟨ok_is_name T F_is_name, m_is_name, F_is_name.kp, b_is_name⟩ ⟨ok_lis_name T F__law_is_name, m__law_is_name, F__law_is_name.kp, b__law_is_name⟩
end
end Vw

namespace Vw
open PySem PySem.W PyProof.Rows L2
theorem all_mk {l : PySem.W.OpenLaw} {w : World} {K : PySem.W.Frag} {h : Heap} {mg : Str → Option Value} {fa : Addr} (X : K.In h) (G : h.Ns mainGlobals mg) (hfa : mg "law" = some (.ref fa))
    {f_is_name : Addr} {od_is_name an_is_name : Option Addr} {sl_is_name : Array (Option Value)} {oc_is_name kV_is_name dc_is_name pm_is_name cd_is_name ct_is_name : Value}
    (a_is_name : PySem.W.nsIn K mainGlobals "is_name" = some (some (.ref f_is_name))) (l_is_name : K.lookup f_is_name = some ⟨oc_is_name, od_is_name, .func (PySem.W.fnOf "is_name" "is_name" (defArgs sis_name) (defBody sis_name) (defScope sis_name) .none kV_is_name dc_is_name pm_is_name an_is_name cd_is_name ct_is_name), sl_is_name⟩) (c_is_name : PySem.W.codeIn K cd_is_name "is_name" = true) (k_is_name : PySem.W.keepIn K (.ref f_is_name) = true)
    {f__law_bag : Addr} {od__law_bag an__law_bag : Option Addr} {sl__law_bag : Array (Option Value)} {oc__law_bag kV__law_bag dc__law_bag pm__law_bag cd__law_bag ct__law_bag : Value}
    (a__law_bag : PySem.W.nsIn K mainGlobals "_law_bag" = some (some (.ref f__law_bag))) (l__law_bag : K.lookup f__law_bag = some ⟨oc__law_bag, od__law_bag, .func (PySem.W.fnOf "_law_bag" "_law_bag" (defArgs s_law_bag) (defBody s_law_bag) (defScope s_law_bag) .none kV__law_bag dc__law_bag pm__law_bag an__law_bag cd__law_bag ct__law_bag), sl__law_bag⟩) (c__law_bag : PySem.W.codeIn K cd__law_bag "_law_bag" = true) (k__law_bag : PySem.W.keepIn K (.ref f__law_bag) = true)
    {f__law_pull : Addr} {od__law_pull an__law_pull : Option Addr} {sl__law_pull : Array (Option Value)} {oc__law_pull kV__law_pull dc__law_pull pm__law_pull cd__law_pull ct__law_pull : Value}
    (a__law_pull : PySem.W.nsIn K mainGlobals "_law_pull" = some (some (.ref f__law_pull))) (l__law_pull : K.lookup f__law_pull = some ⟨oc__law_pull, od__law_pull, .func (PySem.W.fnOf "_law_pull" "_law_pull" (defArgs s_law_pull) (defBody s_law_pull) (defScope s_law_pull) .none kV__law_pull dc__law_pull pm__law_pull an__law_pull cd__law_pull ct__law_pull), sl__law_pull⟩) (c__law_pull : PySem.W.codeIn K cd__law_pull "_law_pull" = true) (k__law_pull : PySem.W.keepIn K (.ref f__law_pull) = true)
    {f__law_of : Addr} {od__law_of an__law_of : Option Addr} {sl__law_of : Array (Option Value)} {oc__law_of kV__law_of dc__law_of pm__law_of cd__law_of ct__law_of : Value}
    (a__law_of : PySem.W.nsIn K mainGlobals "_law_of" = some (some (.ref f__law_of))) (l__law_of : K.lookup f__law_of = some ⟨oc__law_of, od__law_of, .func (PySem.W.fnOf "_law_of" "_law_of" (defArgs s_law_of) (defBody s_law_of) (defScope s_law_of) .none kV__law_of dc__law_of pm__law_of an__law_of cd__law_of ct__law_of), sl__law_of⟩) (c__law_of : PySem.W.codeIn K cd__law_of "_law_of" = true) (k__law_of : PySem.W.keepIn K (.ref f__law_of) = true)
    {f__law_same : Addr} {od__law_same an__law_same : Option Addr} {sl__law_same : Array (Option Value)} {oc__law_same kV__law_same dc__law_same pm__law_same cd__law_same ct__law_same : Value}
    (a__law_same : PySem.W.nsIn K mainGlobals "_law_same" = some (some (.ref f__law_same))) (l__law_same : K.lookup f__law_same = some ⟨oc__law_same, od__law_same, .func (PySem.W.fnOf "_law_same" "_law_same" (defArgs s_law_same) (defBody s_law_same) (defScope s_law_same) .none kV__law_same dc__law_same pm__law_same an__law_same cd__law_same ct__law_same), sl__law_same⟩) (c__law_same : PySem.W.codeIn K cd__law_same "_law_same" = true) (k__law_same : PySem.W.keepIn K (.ref f__law_same) = true)
    {f__law_is_name : Addr} {od__law_is_name an__law_is_name : Option Addr} {sl__law_is_name : Array (Option Value)} {oc__law_is_name kV__law_is_name dc__law_is_name pm__law_is_name cd__law_is_name ct__law_is_name : Value}
    (a__law_is_name : PySem.W.nsIn K mainGlobals "_law_is_name" = some (some (.ref f__law_is_name))) (l__law_is_name : K.lookup f__law_is_name = some ⟨oc__law_is_name, od__law_is_name, .func (PySem.W.fnOf "_law_is_name" "_law_is_name" (defArgs s_law_is_name) (defBody s_law_is_name) (defScope s_law_is_name) .none kV__law_is_name dc__law_is_name pm__law_is_name an__law_is_name cd__law_is_name ct__law_is_name), sl__law_is_name⟩) (c__law_is_name : PySem.W.codeIn K cd__law_is_name "_law_is_name" = true) (k__law_is_name : PySem.W.keepIn K (.ref f__law_is_name) = true)
    {f_law : Addr} {od_law an_law : Option Addr} {sl_law : Array (Option Value)} {oc_law kV_law dc_law pm_law cd_law ct_law : Value}
    (a_law : PySem.W.nsIn K mainGlobals "law" = some (some (.ref f_law))) (l_law : K.lookup f_law = some ⟨oc_law, od_law, .func (PySem.W.fnOf "law" "law" (defArgs slaw) (defBody slaw) (defScope slaw) .none kV_law dc_law pm_law an_law cd_law ct_law), sl_law⟩) (c_law : PySem.W.codeIn K cd_law "law" = true) (k_law : PySem.W.keepIn K (.ref f_law) = true)
    (z_len : PySem.W.nsIn K mainGlobals "len" = some none)
    (z_range : PySem.W.nsIn K mainGlobals "range" = some none)
    (z_isinstance : PySem.W.nsIn K mainGlobals "isinstance" = some none)
    (z_int : PySem.W.nsIn K mainGlobals "int" = some none)
    (z_list : PySem.W.nsIn K mainGlobals "list" = some none)
    (z_tuple : PySem.W.nsIn K mainGlobals "tuple" = some none)
    (z_str : PySem.W.nsIn K mainGlobals "str" = some none)
    (z_bool : PySem.W.nsIn K mainGlobals "bool" = some none)
    (z_all : PySem.W.nsIn K mainGlobals "all" = some none)
    {a_RESERVED : Addr} (ac__RESERVED : PySem.W.nsIn K mainGlobals "_RESERVED" = some (some (.ref a_RESERVED)))
    {or1 : Option Addr} {nr1 : Nat} {sr1 : Array (Option Value)} {tr1 tr2 tr3 tr4 tr5 tr6 tr7 : Tok} (lr1 : K.lookup a_RESERVED = some ⟨.type "tuple", or1, .seq #[.str "true" tr1, .str "false" tr2, .str "not" tr3, .str "and" tr4, .str "or" tr5, .str "then" tr6, .str "shown" tr7] nr1, sr1⟩)
    {tk_LONGEST_NAME : Tok} (ac__LONGEST_NAME : PySem.W.nsIn K mainGlobals "_LONGEST_NAME" = some (some (.int 6 tk_LONGEST_NAME))) :
    ∃ fd : FuncData, (∀ (s : Shared) (v : Value), BindsTo s fd ⟨[v], []⟩ [("_law_script", v)]) ∧ ∀ base : Heap, K.In base → base.Ns mainGlobals mg → FnOk l.prog w K mg base CX0 5 fa fd ["_law_script"] (spLaw K) := by
  have e := hfa.symm.trans (PySem.W.mg_of X G a_law)
  cases e
  have F_is_name := fun_mk (st := sis_name) l_is_name c_is_name k_is_name
  have b_is_name := F_is_name.binds (ps := ["text"]) fun _ _ _ _ _ _ us hl => match us, hl with | [_], _ => rfl
  have m_is_name := PySem.W.mg_of X G a_is_name
  have F__law_bag := fun_mk (st := s_law_bag) l__law_bag c__law_bag k__law_bag
  have b__law_bag := F__law_bag.binds (ps := ["_law_script"]) fun _ _ _ _ _ _ us hl => match us, hl with | [_], _ => rfl
  have m__law_bag := PySem.W.mg_of X G a__law_bag
  have F__law_pull := fun_mk (st := s_law_pull) l__law_pull c__law_pull k__law_pull
  have b__law_pull := F__law_pull.binds (ps := ["_law_bag_here", "_law_sides"]) fun _ _ _ _ _ _ us hl => match us, hl with | [_, _], _ => rfl
  have m__law_pull := PySem.W.mg_of X G a__law_pull
  have F__law_of := fun_mk (st := s_law_of) l__law_of c__law_of k__law_of
  have b__law_of := F__law_of.binds (ps := ["_law_bag_here", "_law_some"]) fun _ _ _ _ _ _ us hl => match us, hl with | [_, _], _ => rfl
  have m__law_of := PySem.W.mg_of X G a__law_of
  have F__law_same := fun_mk (st := s_law_same) l__law_same c__law_same k__law_same
  have b__law_same := F__law_same.binds (ps := ["_law_found", "_law_due"]) fun _ _ _ _ _ _ us hl => match us, hl with | [_, _], _ => rfl
  have m__law_same := PySem.W.mg_of X G a__law_same
  have F__law_is_name := fun_mk (st := s_law_is_name) l__law_is_name c__law_is_name k__law_is_name
  have b__law_is_name := F__law_is_name.binds (ps := ["_law_text_z"]) fun _ _ _ _ _ _ us hl => match us, hl with | [_], _ => rfl
  have m__law_is_name := PySem.W.mg_of X G a__law_is_name
  have F_law := fun_mk (st := slaw) l_law c_law k_law
  have b_law := F_law.binds (ps := ["_law_script"]) fun _ _ _ _ _ _ us hl => match us, hl with | [_], _ => rfl
  have m_law := PySem.W.mg_of X G a_law
  have y_len := PySem.W.mg_none_of X G z_len
  have y_range := PySem.W.mg_none_of X G z_range
  have y_isinstance := PySem.W.mg_none_of X G z_isinstance
  have y_int := PySem.W.mg_none_of X G z_int
  have y_list := PySem.W.mg_none_of X G z_list
  have y_tuple := PySem.W.mg_none_of X G z_tuple
  have y_str := PySem.W.mg_none_of X G z_str
  have y_bool := PySem.W.mg_none_of X G z_bool
  have y_all := PySem.W.mg_none_of X G z_all
  have T : Txt K mg a_RESERVED := ⟨y_len, y_range, y_isinstance, y_int, y_list, y_tuple, y_str, y_bool, y_all, PySem.W.mg_of X G ac__RESERVED, fun _ => .inr ⟨_, _, _, lr1, rfl, rfl, by show 7 ≤ sizeLine; decide, .cons ⟨_, rfl⟩ (.cons ⟨_, rfl⟩ (.cons ⟨_, rfl⟩ (.cons ⟨_, rfl⟩ (.cons ⟨_, rfl⟩ (.cons ⟨_, rfl⟩ (.cons ⟨_, rfl⟩ .nil))))))⟩, ⟨_, PySem.W.mg_of X G ac__LONGEST_NAME⟩⟩
  exact ⟨PySem.W.fnOf "law" "law" (defArgs slaw) (defBody slaw) (defScope slaw) .none kV_law dc_law pm_law an_law cd_law ct_law, fun s v => .of_eq rfl, fun base _ _ => main T F_is_name b_is_name m_is_name F__law_bag b__law_bag m__law_bag F__law_pull b__law_pull m__law_pull F__law_of b__law_of m__law_of F__law_same b__law_same m__law_same F__law_is_name b__law_is_name m__law_is_name F_law b_law m_law⟩
end Vw
open PySem PySem.W PyProof.Rows
set_option maxRecDepth 100000 in
set_option maxHeartbeats 0 in
theorem PySem.Challenge.cw_vowstair_k21_names_recognized_holds : PySem.Challenge.rw_vowstair_k21_names_recognized.Holds := by
  w_on; o_law; k_head; (case hw => w_witness2)
  k_fill
  refine L2.walk_of (l := PySem.Challenge.rw_vowstair_k21_names_recognized) (n := 63) (k := 5) (x := "_law_script") (CX := fun _ => L2.CX0) (sp := fun w => Vw.spLaw _) rfl (by decide) rfl ⟨rfl, by decide, by decide⟩ (fun w h Y => PySem.W.kIn_of Y) ?F (fun _ _ a ns hl _ hS => ⟨a, ns, rfl, hS, hl, fun _ => rfl⟩) (fun _ _ _ _ _ h => h)
  case F =>
    intro w mg fa h KX G hmg
    refine' Vw.all_mk KX G hmg ?a_is_name ?l_is_name ?c_is_name ?k_is_name ?a__law_bag ?l__law_bag ?c__law_bag ?k__law_bag ?a__law_pull ?l__law_pull ?c__law_pull ?k__law_pull ?a__law_of ?l__law_of ?c__law_of ?k__law_of ?a__law_same ?l__law_same ?c__law_same ?k__law_same ?a__law_is_name ?l__law_is_name ?c__law_is_name ?k__law_is_name ?a_law ?l_law ?c_law ?k_law ?z_len ?z_range ?z_isinstance ?z_int ?z_list ?z_tuple ?z_str ?z_bool ?z_all ?ac__RESERVED ?lr1 ?ac__LONGEST_NAME
    (case a_is_name => k_is)
    (case l_is_name => k_is)
    (case c_is_name => k_is)
    (case k_is_name => k_is)
    (case a__law_bag => k_is)
    (case l__law_bag => k_is)
    (case c__law_bag => k_is)
    (case k__law_bag => k_is)
    (case a__law_pull => k_is)
    (case l__law_pull => k_is)
    (case c__law_pull => k_is)
    (case k__law_pull => k_is)
    (case a__law_of => k_is)
    (case l__law_of => k_is)
    (case c__law_of => k_is)
    (case k__law_of => k_is)
    (case a__law_same => k_is)
    (case l__law_same => k_is)
    (case c__law_same => k_is)
    (case k__law_same => k_is)
    (case a__law_is_name => k_is)
    (case l__law_is_name => k_is)
    (case c__law_is_name => k_is)
    (case k__law_is_name => k_is)
    (case a_law => k_is)
    (case l_law => k_is)
    (case c_law => k_is)
    (case k_law => k_is)
    (case z_len => k_is)
    (case z_range => k_is)
    (case z_isinstance => k_is)
    (case z_int => k_is)
    (case z_list => k_is)
    (case z_tuple => k_is)
    (case z_str => k_is)
    (case z_bool => k_is)
    (case z_all => k_is)
    (case ac__RESERVED => k_is)
    (case lr1 => k_is)
    (case ac__LONGEST_NAME => k_is)



import PyProof.Rows.All
import Wide.All
import OpenK.AllK
import Wide.FinOn
import KE.DataCmp
import KE.SortCalls
import HandS.ForList
import KE.SortData
import HandS.SortKw
import HandS.ForMost
import HandS.IsInst
import HandS.TupAny
import HandS.EndBits
import HandS.Wide
import HandS.Codes
import KE.GoesEnum
import KE.GoesMore
import PyProof.EnumMake
import PyProof.Draws
import HandS.Defaults
import KE.DataMinMax
import HandS.TupMul
import HandS.Style
import HandS.ExcInit
import HandS.ExcIs
import KE.KTypeName
import HandS.ForExc
import KE.KTryMore
import HandS.ExcField
import HandS.HotCalls
import HandS.Lambda
import HandS.EndTab
import KE.KNest
import HandS.HeadWalk
import HandS.Text
import HandS.Walk
import HandS.More
import HandS.List
import HandS.ClsMeth
import PySem.Challenge.RW_vowstair_k22_sentences_recognized
namespace Vw
inductive O where
  | z
  | add (e : O) (c : Int) (r : O)
  deriving DecidableEq
namespace O
def lt : O → O → Bool
  | z, z => false
  | z, add _ _ _ => true
  | add _ _ _, z => false
  | add e c r, add e' c' r' => if e = e' then (if c = c' then lt r r' else decide (c < c')) else lt e e'
theorem lt_irrefl : ∀ a : O, lt a a = false
  | z => rfl
  | add e c r => by simp [lt, lt_irrefl r]
theorem lt_trans : ∀ (a b c : O), lt a b = true → lt b c = true → lt a c = true
  | a, b, z, _, h2 => by cases b <;> simp [lt] at h2
  | a, z, add _ _ _, h1, _ => by cases a <;> simp [lt] at h1
  | z, add _ _ _, add _ _ _, _, _ => rfl
  | add e c r, add e' c' r', add e2 c2 r2, h1, h2 => by
    simp only [lt] at h1 h2 ⊢
    by_cases he : e = e'
    · subst he
      by_cases he2 : e = e2
      · subst he2
        simp only [if_true] at h1 h2 ⊢
        by_cases hc : c = c'
        · subst hc
          simp only [if_true] at h1
          by_cases hc2 : c = c2
          · subst hc2
            simp only [if_true] at h2 ⊢
            exact lt_trans r r' r2 h1 h2
          · rw [if_neg hc2] at h2 ⊢; exact h2
        · rw [if_neg hc] at h1
          have h1' := of_decide_eq_true h1
          by_cases hc2 : c' = c2
          · subst hc2; rw [if_neg hc]; exact h1
          · rw [if_neg hc2] at h2
            have h2' := of_decide_eq_true h2
            rw [if_neg (by omega)]; exact decide_eq_true (by omega)
      · rw [if_neg he2] at h2 ⊢; exact h2
    · rw [if_neg he] at h1
      by_cases he2 : e' = e2
      · subst he2; rw [if_neg he]; exact h1
      · rw [if_neg he2] at h2
        have h3 := lt_trans e e' e2 h1 h2
        by_cases he3 : e = e2
        · subst he3; rw [lt_irrefl] at h3; cases h3
        · rw [if_neg he3]; exact h3
theorem lt_asymm {a b : O} (h : lt a b = true) : lt b a = false := by
  cases q : lt b a with
  | false => rfl
  | true => have := lt_trans a b a h q; rw [lt_irrefl] at this; cases this
theorem lt_ne {a b : O} (h : lt a b = true) : a ≠ b := fun e => by subst e; rw [lt_irrefl] at h; cases h
theorem lt_total : ∀ (a b : O), a ≠ b → lt a b = true ∨ lt b a = true
  | z, z, h => absurd rfl h
  | z, add _ _ _, _ => .inl rfl
  | add _ _ _, z, _ => .inr rfl
  | add e c r, add e' c' r', h => by
    simp only [lt]
    by_cases he : e = e'
    · subst he
      simp only [if_true]
      by_cases hc : c = c'
      · subst hc
        simp only [if_true]
        exact lt_total r r' fun q => h (by rw [q])
      · rw [if_neg hc, if_neg (fun q => hc q.symm)]
        rcases Int.lt_or_gt_of_ne hc with q | q
        · exact .inl (decide_eq_true q)
        · exact .inr (decide_eq_true q)
    · rw [if_neg he, if_neg (fun q => he q.symm)]
      exact lt_total e e' he
theorem eq_of {a b : O} (h1 : lt a b = false) (h2 : lt b a = false) : a = b := by
  by_cases h : a = b
  · exact h
  · rcases lt_total a b h with q | q
    · rw [h1] at q; cases q
    · rw [h2] at q; cases q
theorem lt_of_ge {a b : O} (h : lt a b = false) (n : a ≠ b) : lt b a = true := by
  rcases lt_total a b n with q | q
  · rw [h] at q; cases q
  · exact q
/-- b ≤ a -/
theorem ge_trans {a b c : O} (h1 : lt a b = false) (h2 : lt b c = false) : lt a c = false := by
  cases q : lt a c with
  | false => rfl
  | true =>
    by_cases e : b = c
    · subst e; rw [h1] at q; cases q
    · have h3 := lt_of_ge h2 e
      have h4 := lt_trans _ _ _ q h3
      rw [h1] at h4; cases h4
theorem lt_ge {a b c : O} (h1 : lt a b = true) (h2 : lt c b = false) : lt a c = true := by
  by_cases e : c = b
  · subst e; exact h1
  · exact lt_trans _ _ _ h1 (lt_of_ge h2 e)
theorem ge_lt {a b c : O} (h1 : lt b a = false) (h2 : lt b c = true) : lt a c = true := by
  by_cases e : b = a
  · subst e; exact h2
  · exact lt_trans _ _ _ (lt_of_ge h1 e) h2

/-- the terms -/
def ts : O → List (O × Int)
  | z => []
  | add e c r => (e, c) :: ts r
def of : List (O × Int) → O
  | [] => z
  | (e, c) :: r => add e c (of r)
theorem of_ts : ∀ o : O, of (ts o) = o
  | z => rfl
  | add e c r => by show add e c (of (ts r)) = _; rw [of_ts r]
theorem ts_of : ∀ l : List (O × Int), ts (of l) = l
  | [] => rfl
  | (e, c) :: r => by show (e, c) :: ts (of r) = _; rw [ts_of r]
theorem ts_inj {a b : O} (h : ts a = ts b) : a = b := by rw [← of_ts a, ← of_ts b, h]

/-- the head's exponent is below e -/
def under (e : O) : O → Bool
  | z => true
  | add e' _ _ => lt e' e
/-- a right ordinal -/
def ok : O → Bool
  | z => true
  | add e c r => ok e && decide (1 ≤ c) && ok r && under e r
theorem ok_add {e : O} {c : Int} {r : O} : ok (add e c r) = true ↔ ok e = true ∧ 1 ≤ c ∧ ok r = true ∧ under e r = true := by
  simp [ok, Bool.and_eq_true, and_assoc]
/-- all exponents of an ordinal under e are below e -/
theorem under_all : ∀ {r : O} {e : O}, ok r = true → under e r = true → ∀ p ∈ ts r, lt p.1 e = true
  | z, _, _, _, p, hp => by cases hp
  | add e' c' r', e, h, hu, p, hp => by
    have h' := ok_add.mp h
    rcases List.mem_cons.mp hp with q | q
    · subst q; exact hu
    · exact lt_trans _ _ _ (under_all h'.2.2.1 h'.2.2.2 p q) hu

/-- the sum -/
def sum : O → O → O
  | a, z => a
  | z, b => b
  | add e c r, add e' c' r' => if lt e e' = true then add e' c' r' else if e = e' then add e (c + c') r' else add e c (sum r (add e' c' r'))
@[simp] theorem sum_z (a : O) : sum a z = a := by cases a <;> rfl
@[simp] theorem z_sum (b : O) : sum z b = b := by cases b <;> rfl
theorem sum_lt {e : O} {c : Int} {r : O} {e' : O} {c' : Int} {r' : O} (h : lt e e' = true) : sum (add e c r) (add e' c' r') = add e' c' r' := by
  show (if lt e e' = true then _ else _) = _; rw [if_pos h]
theorem sum_eq {e : O} {c : Int} {r : O} {c' : Int} {r' : O} : sum (add e c r) (add e c' r') = add e (c + c') r' := by
  show (if lt e e = true then _ else _) = _
  rw [lt_irrefl, if_neg Bool.false_ne_true, if_pos rfl]
theorem sum_gt {e : O} {c : Int} {r : O} {e' : O} {c' : Int} {r' : O} (h : lt e' e = true) : sum (add e c r) (add e' c' r') = add e c (sum r (add e' c' r')) := by
  show (if lt e e' = true then _ else _) = _
  rw [lt_asymm h, if_neg Bool.false_ne_true, if_neg (lt_ne h).symm]

/-- what the program's plus does -/
def plusP : O → O → O
  | a, z => a
  | a, add e c r => of ((ts a).filter (fun t => lt e t.1) ++ (e, (((ts a).filter fun t => decide (t.1 = e)).map fun t => t.2).sum + c) :: ts r)
/-- what the law's own sum does -/
def sumL : O → O → O
  | a, z => a
  | a, add e c r =>
    let left := (ts a).filter fun t => !lt t.1 e
    match left.getLast? with
    | some (e1, c1) => if e1 = e then of (left.dropLast ++ (e, c1 + c) :: ts r) else of (left ++ (e, c) :: ts r)
    | none => of (left ++ (e, c) :: ts r)
theorem filter_none {α : Type} {p : α → Bool} : ∀ {l : List α}, (∀ x ∈ l, p x = false) → l.filter p = []
  | [], _ => rfl
  | x :: r, h => by
    rw [List.filter_cons, h x List.mem_cons_self, if_neg Bool.false_ne_true]
    exact filter_none fun y hy => h y (List.mem_cons_of_mem _ hy)
theorem plusP_sum : ∀ (a b : O), ok a = true → plusP a b = sum a b
  | a, z, _ => by cases a <;> rfl
  | z, add e c r, _ => by show of ([] ++ (e, 0 + c) :: ts r) = _; simp [of, of_ts]
  | add e1 c1 r1, add e c r, h => by
    have h' := ok_add.mp h
    have ih := plusP_sum r1 (add e c r) h'.2.2.1
    have hall := under_all h'.2.2.1 h'.2.2.2
    by_cases q : e1 = e
    · subst q
      rw [sum_eq]
      have f1 : (ts r1).filter (fun t => lt e1 t.1) = [] := filter_none fun x hx => lt_asymm (hall x hx)
      have f2 : (ts r1).filter (fun t => decide (t.1 = e1)) = [] := filter_none fun x hx => decide_eq_false (lt_ne (hall x hx))
      show of ((ts (add e1 c1 r1)).filter _ ++ _) = _
      simp only [ts, List.filter_cons, lt_irrefl, f1, f2, decide_true, if_true]
      simp [of, of_ts]
    · rcases lt_total e1 e q with k | k
      · rw [sum_lt k]
        have f1 : (ts (add e1 c1 r1)).filter (fun t => lt e t.1) = [] := filter_none fun x hx => by
          rcases List.mem_cons.mp hx with y | y
          · subst y; exact lt_asymm k
          · exact lt_asymm (lt_trans _ _ _ (hall x y) k)
        have f2 : (ts (add e1 c1 r1)).filter (fun t => decide (t.1 = e)) = [] := filter_none fun x hx => by
          rcases List.mem_cons.mp hx with y | y
          · subst y; exact decide_eq_false q
          · exact decide_eq_false (lt_ne (lt_trans _ _ _ (hall x y) k))
        show of ((ts (add e1 c1 r1)).filter _ ++ _) = _
        rw [f1, f2]
        simp [of, of_ts]
      · rw [sum_gt k, ← ih]
        show of ((ts (add e1 c1 r1)).filter _ ++ _) = add e1 c1 (of ((ts r1).filter _ ++ _))
        have d : decide (e1 = e) = false := decide_eq_false q
        simp only [ts, List.filter_cons, k, d, if_true]
        simp [of]
theorem sumL_sum : ∀ (a b : O), ok a = true → sumL a b = sum a b
  | a, z, _ => by cases a <;> rfl
  | z, add e c r, _ => by show of ([] ++ (e, c) :: ts r) = _; simp [of, of_ts]
  | add e1 c1 r1, add e c r, h => by
    have h' := ok_add.mp h
    have ih := sumL_sum r1 (add e c r) h'.2.2.1
    have hall := under_all h'.2.2.1 h'.2.2.2
    by_cases q : e1 = e
    · subst q
      rw [sum_eq]
      have f1 : (ts r1).filter (fun t => !lt t.1 e1) = [] := filter_none fun x hx => by rw [hall x hx]; rfl
      simp only [sumL, ts, List.filter_cons, lt_irrefl, f1, Bool.not_false, if_true]
      simp [of, of_ts]
    · rcases lt_total e1 e q with k | k
      · rw [sum_lt k]
        have f1 : (ts r1).filter (fun t => !lt t.1 e) = [] := filter_none fun x hx => by rw [lt_trans _ _ _ (hall x hx) k]; rfl
        simp only [sumL, ts, List.filter_cons, k, f1]
        simp [of, of_ts]
      · rw [sum_gt k, ← ih]
        have k2 := lt_asymm k
        simp only [sumL, ts, List.filter_cons, k2, Bool.not_false, if_true]
        cases hl : (ts r1).filter (fun t => !lt t.1 e) with
        | nil => simp [of, q]
        | cons x l =>
          rw [List.getLast?_cons_cons]
          cases hg : (x :: l).getLast? with
          | none => simp at hg
          | some p =>
            obtain ⟨e2, c2⟩ := p
            simp only
            by_cases q2 : e2 = e
            · rw [if_pos q2, if_pos q2, List.dropLast_cons_cons]; rfl
            · rw [if_neg q2, if_neg q2]; rfl
theorem ok_under_sum : ∀ (a b e : O), under e a = true → under e b = true → under e (sum a b) = true
  | a, z, e, h, _ => by rw [sum_z]; exact h
  | z, b, e, _, h => by rw [z_sum]; exact h
  | add e1 c1 r1, add e2 c2 r2, e, h1, h2 => by
    by_cases q : e1 = e2
    · subst q; rw [sum_eq]; exact h1
    · rcases lt_total e1 e2 q with k | k
      · rw [sum_lt k]; exact h2
      · rw [sum_gt k]; exact h1
theorem ok_sum : ∀ (a b : O), ok a = true → ok b = true → ok (sum a b) = true
  | a, z, h, _ => by rw [sum_z]; exact h
  | z, b, _, h => by rw [z_sum]; exact h
  | add e1 c1 r1, add e2 c2 r2, h1, h2 => by
    have g1 := ok_add.mp h1
    have g2 := ok_add.mp h2
    by_cases q : e1 = e2
    · subst q; rw [sum_eq]; exact ok_add.mpr ⟨g1.1, by omega, g2.2.2.1, g2.2.2.2⟩
    · rcases lt_total e1 e2 q with k | k
      · rw [sum_lt k]; exact h2
      · rw [sum_gt k]; exact ok_add.mpr ⟨g1.1, g1.2.1, ok_sum r1 _ g1.2.2.1 h2, ok_under_sum _ _ _ g1.2.2.2 k⟩
theorem lt_head {e : O} {c : Int} {r e' : O} {c' : Int} {r' : O} (h : lt e e' = true) : lt (add e c r) (add e' c' r') = true := by
  show (if e = e' then _ else _) = _; rw [if_neg (lt_ne h)]; exact h
theorem lt_cnt {e : O} {c : Int} {r : O} {c' : Int} {r' : O} (h : c < c') : lt (add e c r) (add e c' r') = true := by
  show (if e = e then (if c = c' then _ else _) else _) = _
  rw [if_pos rfl, if_neg (by omega)]; exact decide_eq_true h
theorem lt_rest {e : O} {c : Int} {r r' : O} : lt (add e c r) (add e c r') = lt r r' := by
  show (if e = e then (if c = c then _ else _) else _) = _
  rw [if_pos rfl, if_pos rfl]
theorem nil_lt {a : O} (h : a ≠ z) : lt z a = true := by cases a <;> first | rfl | exact absurd rfl h
theorem not_lt_nil (a : O) : lt a z = false := by cases a <;> rfl
theorem sum_add_ne (a e : O) (c : Int) (r : O) : sum a (add e c r) ≠ z := by
  cases a with
  | z => rw [z_sum]; intro h; cases h
  | add e1 c1 r1 =>
    show (if _ then _ else if _ then _ else _) ≠ _
    split
    · intro h; cases h
    · split <;> (intro h; cases h)
/-- strictly ascending in the second part -/
theorem sum_mono : ∀ (a b c : O), ok a = true → ok b = true → ok c = true → lt b c = true → lt (sum a b) (sum a c) = true
  | z, b, c, _, _, _, h => by rw [z_sum, z_sum]; exact h
  | a, b, z, _, _, _, h => by rw [not_lt_nil] at h; cases h
  | add e1 c1 r1, z, add e3 c3 r3, ha, _, hc, _ => by
    have g1 := ok_add.mp ha
    have g3 := ok_add.mp hc
    rw [sum_z]
    by_cases q : e1 = e3
    · subst q; rw [sum_eq]; exact lt_cnt (by omega)
    · rcases lt_total e1 e3 q with k | k
      · rw [sum_lt k]; exact lt_head k
      · rw [sum_gt k, lt_rest]
        have := sum_mono r1 z (add e3 c3 r3) g1.2.2.1 rfl hc rfl
        rw [sum_z] at this
        exact this
  | add e1 c1 r1, add e2 c2 r2, add e3 c3 r3, ha, hb, hc, h => by
    have g1 := ok_add.mp ha
    have g2 := ok_add.mp hb
    have g3 := ok_add.mp hc
    by_cases q : e1 = e2
    · subst q
      rw [sum_eq]
      by_cases q3 : e1 = e3
      · subst q3
        rw [sum_eq]
        simp only [lt, if_true] at h ⊢
        by_cases x : c2 = c3
        · subst x; simpa using h
        · rw [if_neg x] at h
          rw [if_neg (by omega)]
          exact decide_eq_true (by have := of_decide_eq_true h; omega)
      · have k : lt e1 e3 = true := by simpa [lt, q3] using h
        rw [sum_lt k]; exact lt_head k
    · rcases lt_total e1 e2 q with k | k
      · rw [sum_lt k]
        have k3 : lt e1 e3 = true := by
          by_cases q3 : e2 = e3
          · subst q3; exact k
          · exact lt_trans _ _ _ k (by simpa [lt, q3] using h)
        rw [sum_lt k3]; exact h
      · rw [sum_gt k]
        by_cases q3 : e1 = e3
        · subst q3; rw [sum_eq]; exact lt_cnt (by omega)
        · rcases lt_total e1 e3 q3 with k3 | k3
          · rw [sum_lt k3]; exact lt_head k3
          · rw [sum_gt k3, lt_rest]
            exact sum_mono r1 _ _ g1.2.2.1 hb hc h
theorem sum_mono_iff {a b c : O} (ha : ok a = true) (hb : ok b = true) (hc : ok c = true) : lt (sum a b) (sum a c) = lt b c := by
  cases q : lt b c with
  | true => exact sum_mono a b c ha hb hc q
  | false =>
    by_cases e : c = b
    · subst e; exact lt_irrefl _
    · have k := lt_of_ge q (fun x => e x.symm)
      exact lt_asymm (sum_mono a c b ha hc hb k)
/-- at least the first part -/
theorem sum_ge_left {a b : O} (ha : ok a = true) (hb : ok b = true) : lt (sum a b) a = false := by
  by_cases e : b = z
  · subst e; rw [sum_z]; exact lt_irrefl _
  · have := sum_mono a z b ha rfl hb (nil_lt e)
    rw [sum_z] at this
    exact lt_asymm this
/-- at least the second part -/
theorem sum_ge_right : ∀ (a b : O), ok a = true → ok b = true → lt (sum a b) b = false
  | a, z, _, _ => not_lt_nil _
  | z, b, _, _ => by rw [z_sum]; exact lt_irrefl _
  | add e1 c1 r1, add e2 c2 r2, ha, hb => by
    have g1 := ok_add.mp ha
    by_cases q : e1 = e2
    · subst q; rw [sum_eq]; exact lt_asymm (lt_cnt (by omega))
    · rcases lt_total e1 e2 q with k | k
      · rw [sum_lt k]; exact lt_irrefl _
      · rw [sum_gt k]; exact lt_asymm (lt_head k)
theorem sum_assoc : ∀ (a b c : O), ok a = true → ok b = true → ok c = true → sum (sum a b) c = sum a (sum b c)
  | a, b, z, _, _, _ => by rw [sum_z, sum_z]
  | a, z, add _ _ _, _, _, _ => by rw [sum_z, z_sum]
  | z, add _ _ _, add _ _ _, _, _, _ => by rw [z_sum, z_sum]
  | add e1 c1 r1, add e2 c2 r2, add e3 c3 r3, ha, hb, hc => by
    have g1 := ok_add.mp ha
    have g2 := ok_add.mp hb
    by_cases q23 : e2 = e3
    · subst q23
      rw [sum_eq]
      by_cases q : e1 = e2
      · subst q; rw [sum_eq, sum_eq, sum_eq, Int.add_assoc]
      · rcases lt_total e1 e2 q with k | k
        · rw [sum_lt k, sum_lt k, sum_eq]
        · rw [sum_gt k, sum_gt k, sum_gt k, sum_assoc r1 _ _ g1.2.2.1 hb hc, sum_eq]
    · rcases lt_total e2 e3 q23 with k23 | k23
      · rw [sum_lt k23]
        by_cases q : e1 = e2
        · subst q; rw [sum_eq, sum_lt k23, sum_lt k23]
        · rcases lt_total e1 e2 q with k | k
          · rw [sum_lt k, sum_lt k23, sum_lt (lt_trans _ _ _ k k23)]
          · rw [sum_gt k]
            by_cases q3 : e1 = e3
            · subst q3; rw [sum_eq, sum_eq]
            · rcases lt_total e1 e3 q3 with k3 | k3
              · rw [sum_lt k3, sum_lt k3]
              · rw [sum_gt k3, sum_gt k3, sum_assoc r1 _ _ g1.2.2.1 hb hc, sum_lt k23]
      · rw [sum_gt k23]
        by_cases q : e1 = e2
        · subst q; rw [sum_eq, sum_gt k23, sum_eq]
        · rcases lt_total e1 e2 q with k | k
          · rw [sum_lt k, sum_lt k, sum_gt k23]
          · rw [sum_gt k, sum_gt (lt_trans _ _ _ k23 k), sum_gt k, sum_assoc r1 _ _ g1.2.2.1 hb hc, sum_gt k23]
def one : O := add z 1 z
/-- nothing between an ordinal and the next one -/
theorem lt_succ_iff : ∀ (a b : O), ok a = true → ok b = true → lt a b = true → lt b (sum a one) = false
  | z, b, _, hb, h => by
    rw [z_sum]
    cases b with
    | z => cases h
    | add e c r =>
      have g := ok_add.mp hb
      show (if e = z then (if c = 1 then lt r z else decide (c < 1)) else lt e z) = false
      rw [not_lt_nil, not_lt_nil]
      split
      · split
        · rfl
        · exact decide_eq_false (by omega)
      · rfl
  | add e c r, z, _, _, h => by cases h
  | add e c r, add e' c' r', ha, hb, h => by
    have g := ok_add.mp ha
    have g' := ok_add.mp hb
    by_cases qz : e = z
    · subst qz
      show lt _ (sum (add z c r) (add z 1 z)) = false
      rw [sum_eq]
      have hr : r = z := by
        cases r with
        | z => rfl
        | add x y w => have := g.2.2.2; rw [show under z (add x y w) = lt x z from rfl, not_lt_nil] at this; cases this
      subst hr
      by_cases q : z = e'
      · subst q
        have hc : c < c' ∨ (c = c' ∧ lt z r' = true) := by
          simp only [lt, if_true] at h
          by_cases x : c = c'
          · rw [if_pos x] at h; exact .inr ⟨x, h⟩
          · rw [if_neg x] at h; exact .inl (of_decide_eq_true h)
        rcases hc with x | ⟨x, y⟩
        · by_cases x2 : c + 1 = c'
          · rw [x2, lt_rest, not_lt_nil]
          · exact lt_asymm (lt_cnt (by omega))
        · have hr' : r' = z := by
            cases r' with
            | z => rfl
            | add x2 y2 w2 => have := g'.2.2.2; rw [show under z (add x2 y2 w2) = lt x2 z from rfl, not_lt_nil] at this; cases this
          rw [hr'] at y; cases y
      · exact lt_asymm (lt_head (nil_lt (fun x => q x.symm)))
    · have k : lt z e = true := nil_lt qz
      show lt _ (sum (add e c r) (add z 1 z)) = false
      rw [sum_gt k]
      by_cases q : e = e'
      · subst q
        by_cases x : c = c'
        · subst x
          rw [lt_rest] at h ⊢
          exact lt_succ_iff r r' g.2.2.1 g'.2.2.1 h
        · simp only [lt, if_true] at h
          rw [if_neg x] at h
          exact lt_asymm (lt_cnt (of_decide_eq_true h))
      · have : lt e e' = true := by simpa [lt, q] using h
        exact lt_asymm (lt_head this)
theorem ok_one : ok one = true := by decide
theorem lt_succ {a : O} (h : ok a = true) : lt a (sum a one) = true := by
  have := sum_mono a z one h rfl ok_one rfl
  rw [sum_z] at this
  exact this
end O
end Vw

set_option Elab.async false
set_option linter.all false
set_option maxRecDepth 100000
namespace Vw
open PySem PySem.W PyProof.Rows L2
namespace O
def toDs : O → List PyData
  | z => []
  | add e c r => .tuple [.tuple (toDs e), .int c] :: toDs r
def toD (o : O) : PyData := .tuple (toDs o)
def dp : O → Nat
  | z => 0
  | add e _ r => max (dp e + 2) (dp r)
theorem depth_toDs : ∀ o : O, PyData.depthAll (toDs o) = dp o
  | z => by simp [toDs, dp, PyData.depthAll]
  | add e c r => by
    have h1 := depth_toDs e
    have h2 := depth_toDs r
    simp only [toDs, dp, PyData.depthAll, PyData.depth, h1, h2]
    omega
theorem depth_toD (o : O) : (toD o).depth = dp o + 1 := by simp only [toD, PyData.depth, depth_toDs]
theorem lay_toDs : ∀ o : O, PyData.canLayAll0 (toDs o) = true
  | z => by simp [toDs, PyData.canLayAll0]
  | add e c r => by simp [toDs, PyData.canLayAll0, PyData.canLay0, lay_toDs e, lay_toDs r]
theorem lay_toD (o : O) : (toD o).canLay0 = true := by simp only [toD, PyData.canLay0, lay_toDs]
theorem shaped_toD {o : O} (h : dp o ≤ 60) : SeqAt.shaped (toD o) = true := by
  unfold SeqAt.shaped
  rw [lay_toD, depth_toD]
  simp; omega
theorem alike_toDs : ∀ a b : O, alikeAll (toDs a) (toDs b) = true
  | z, _ => by simp [toDs, alikeAll]
  | add _ _ _, z => by simp [toDs, alikeAll]
  | add e c r, add e' c' r' => by simp [toDs, alikeAll, alike, alike_toDs e e', alike_toDs r r']
theorem alike_toD (a b : O) : alike (toD a) (toD b) = true := by simp only [toD, alike, alike_toDs]
theorem eqv_toDs : ∀ a b : O, PyData.eqvAll (toDs a) (toDs b) = decide (a = b)
  | z, z => by simp [toDs, PyData.eqvAll]
  | z, add _ _ _ => by simp [toDs, PyData.eqvAll]
  | add _ _ _, z => by simp [toDs, PyData.eqvAll]
  | add e c r, add e' c' r' => by
    simp only [toDs, PyData.eqvAll, PyData.eqv, eqv_toDs e e', eqv_toDs r r']
    by_cases h1 : e = e' <;> by_cases h2 : c = c' <;> by_cases h3 : r = r' <;> simp [h1, h2, h3]
theorem eqv_toD (a b : O) : PyData.eqv (toD a) (toD b) = decide (a = b) := by simp only [toD, PyData.eqv, eqv_toDs]
/-- a term -/
def tD (p : O × Int) : PyData := .tuple [toD p.1, .int p.2]
theorem toDs_ts : ∀ o : O, toDs o = (ts o).map tD
  | z => rfl
  | add e c r => by show _ :: toDs r = _ :: _; rw [toDs_ts r]; rfl
theorem lt_toDs : ∀ a b : O, PyProof.Rows.lexLt itemOrd (keyToksAll (toDs a)) (keyToksAll (toDs b)) = lt a b
  | z, z => lex_irrefl _
  | z, add e c r => by
    simp only [toDs, toks_all_cons]
    simp only [keyToksAll]
    rw [lex_diff (O := itemOrd) (by simp)]
    rfl
  | add e c r, z => by
    simp only [toDs, toks_all_cons]
    simp only [keyToksAll]
    rw [lex_diff (O := itemOrd) (by simp)]
    rfl
  | add e c r, add e' c' r' => by
    have al : alike (.tuple [.tuple (toDs e), .int c]) (.tuple [.tuple (toDs e'), .int c']) = true := by simp [alikeAll, alike, alike_toDs e e']
    have ev : PyData.eqv (.tuple [.tuple (toDs e), .int c]) (.tuple [.tuple (toDs e'), .int c']) = decide (e = e' ∧ c = c') := by
      simp only [PyData.eqvAll, PyData.eqv, eqv_toDs e e']
      by_cases h1 : e = e' <;> by_cases h2 : c = c' <;> simp [h1, h2]
    simp only [toDs, lt]
    by_cases h1 : e = e'
    · by_cases h2 : c = c'
      · rw [dataLt_all_yes al (by rw [ev]; simp [h1, h2]), lt_toDs r r', if_pos h1, if_pos h2]
      · rw [dataLt_all_no al (by rw [ev]; simp [h1, h2]), if_pos h1, if_neg h2, dataLt_tuple, dataLt_all_yes (by simp [alike, alike_toDs e e']) (by subst h1; simp [PyData.eqv, eqv_toDs]), dataLt_all_no (by simp [alike]) (by simp [PyData.eqv, h2]), dataLt_int]
    · rw [dataLt_all_no al (by rw [ev]; simp [h1]), if_neg h1, dataLt_tuple, dataLt_all_no (by simp [alike, alike_toDs e e']) (by simp only [PyData.eqv, eqv_toDs e e']; simp [h1]), dataLt_tuple, lt_toDs e e']
theorem lt_toD (a b : O) : dataLt (toD a) (toD b) = lt a b := by rw [toD, toD, dataLt_tuple, lt_toDs]
end O
/-! ### < > <= >= of data -/
section
variable {X : Cx}
@[irreducible] def rCmp (g : PyData → PyData → Bool) (K : PySem.W.Frag) : R2 := fun x y H Q => ∃ d e, Dp K H x d ∧ Dp K H y e ∧ alike d e = true ∧ d ≠ .none ∧ d.depth ≤ 64 ∧ Q (.bl (g d e)) H
theorem op_ltD (hu : X.A.units + 64 < cLine) : OpR X (compareOp .Lt) (rCmp (fun d e => dataLt d e) X.K) := by
  intro pins s σ H x y v u Q I rx ry h
  unfold rCmp at h
  obtain ⟨d, e, hd, he, al, hn, hz, q⟩ := h
  obtain ⟨as, r1⟩ := Dp.reads I d x v hd rx
  obtain ⟨bs, r2⟩ := Dp.reads I e y u he ry
  exact lt_data r1 r2 al hn (by have := Nat.min_le_left d.depth e.depth; omega) ⟨.bl _, H, I, rfl, q⟩
theorem op_gtD (hu : X.A.units + 64 < cLine) : OpR X (compareOp .Gt) (rCmp (fun d e => dataLt e d) X.K) := by
  intro pins s σ H x y v u Q I rx ry h
  unfold rCmp at h
  obtain ⟨d, e, hd, he, al, hn, hz, q⟩ := h
  obtain ⟨as, r1⟩ := Dp.reads I d x v hd rx
  obtain ⟨bs, r2⟩ := Dp.reads I e y u he ry
  exact gt_data r1 r2 al hn (by have := Nat.min_le_left d.depth e.depth; omega) ⟨.bl _, H, I, rfl, q⟩
theorem op_leD (hu : X.A.units + 64 < cLine) : OpR X (compareOp .LtE) (rCmp (fun d e => !dataLt e d) X.K) := by
  intro pins s σ H x y v u Q I rx ry h
  unfold rCmp at h
  obtain ⟨d, e, hd, he, al, hn, hz, q⟩ := h
  obtain ⟨as, r1⟩ := Dp.reads I d x v hd rx
  obtain ⟨bs, r2⟩ := Dp.reads I e y u he ry
  exact le_data r1 r2 al hn (by have := Nat.min_le_left d.depth e.depth; omega) ⟨.bl _, H, I, rfl, q⟩
theorem op_geD (hu : X.A.units + 64 < cLine) : OpR X (compareOp .GtE) (rCmp (fun d e => !dataLt d e) X.K) := by
  intro pins s σ H x y v u Q I rx ry h
  unfold rCmp at h
  obtain ⟨d, e, hd, he, al, hn, hz, q⟩ := h
  obtain ⟨as, r1⟩ := Dp.reads I d x v hd rx
  obtain ⟨bs, r2⟩ := Dp.reads I e y u he ry
  exact ge_data r1 r2 al hn (by have := Nat.min_le_left d.depth e.depth; omega) ⟨.bl _, H, I, rfl, q⟩
end
end Vw

set_option Elab.async false
set_option linter.all false
set_option maxRecDepth 100000
namespace Vw
open PySem PySem.W PySem.SeqAt PyProof.Rows
section
variable {prog : Program} {w : World} {A : Around} {E : Value → Shared → Prop} {s : Shared}
theorem call_tuple_lt {Q : Value → Shared → Prop} {l b : Addr} {items items2 : Array Value} {e r : Nat → Bool} (hl : s.heap.IsTuple l items) (hb : s.heap.IsTuple b items2)
    (he : ∀ j (h1 : j < items.size) (h2 : j < items2.size), EqAt A.in1 s items[j] items2[j] (e j)) (hr : ∀ j (h1 : j < items.size) (h2 : j < items2.size), e j = false → RcLt A.in1 s items[j] items2[j] (r j))
    (h : Q (.bool (firstLt e r (decide (items.size < items2.size)) (List.range (min items.size items2.size)))) s) : wpAny (model prog w) A (call (.builtin "tuple.__lt__") [.ref l, .ref b]) Q E s := by
  obtain ⟨⟨cls, dd, data, sl⟩, ho, hc, n, hd⟩ := id hl
  obtain ⟨⟨cls2, dd2, data2, sl2⟩, ho2, hc2, n2, hd2⟩ := id hb
  simp only at hc hd hc2 hd2
  subst hc hd hc2 hd2
  exact call_meets F.slot_tuple_lt ⟨_, ho, rfl⟩ F.entry_tuple_lt (F.args_tuple_lt_2 _ _) (SeqAt.tuple_ltAt l b items items2 n n2 dd dd2 sl sl2 e r) ⟨ho, ho2, he, hr, h⟩
/-- two tuples by tuple's own less-than -/
theorem oneLt_tups {xs ys : List PyData} {a b : Value} {as bs : List Addr} {Q : Bool → Shared → Prop} (ra : Reads s.heap a (.tuple xs) as) (rb : Reads s.heap b (.tuple ys) bs) (h : alike (.tuple xs) (.tuple ys) = true)
    (hu : A.units + min (PyData.tuple xs).depth (PyData.tuple ys).depth < cLine) (hq : Q (dataLt (.tuple xs) (.tuple ys)) s) : wpAny (model prog w) A (oneLt' true a b) Q E s := by
  have hal : alikeAll xs ys = true := by simpa [alike] using h
  cases ra with
  | @tuple l o vs n _ as₁ h1 h2 h3 h4 =>
    cases rb with
    | @tuple l' o' vs' n' _ bs₁ k1 k2 k3 k4 =>
      have n1 : vs.size = xs.length := by simpa using ReadsAll.length _ _ _ h4
      have n2 : vs'.size = ys.length := by simpa using ReadsAll.length _ _ _ k4
      rw [dataLt_tuple, ← firstLt_toks xs ys hal, ← n1, ← n2] at hq
      rw [oneLt'_eq]
      simp only [if_true]
      refine wpAny_bind (wpAny_cRoomFor (room_here hu) ?_)
      refine wpAny_bind (wpAny_callSpecialIfBound?_slot (T := "tuple") ⟨_, h1, h2⟩ F.slot_tuple_lt (call_tuple_lt (e := pairEq xs ys) (r := fun j => dataLt (xs.getD j .none) (ys.getD j .none)) ⟨_, h1, h2, _, h3⟩ ⟨_, k1, k2, _, k3⟩ (fun j j1 j2 => ?_) (fun j j1 j2 hj => ?_) ?_))
      · have := eqAt_alikeAll xs ys A.in1 s vs.toList vs'.toList _ _ h4 k4 hal (room_in hu) j (by simpa using j1) (by simpa using j2)
        simpa using this
      · have := rcLt_alikeAll xs ys A.in1 s vs.toList vs'.toList _ _ h4 k4 hal (room_in hu) j (by simpa using j1) (by simpa using j2) hj
        simpa using this
      · exact wpAny_truthy_bool hq
theorem keyLt'_general (x y : Value) : keyLt' general' x y = oneLt' false x y := rfl
/-- a tuple with an item -/
def fullT : PyData → Bool
  | .tuple (_ :: _) => true
  | _ => false
theorem fullT_no {d : PyData} (h : d = .tuple []) : fullT d = false := by subst h; rfl
theorem fullT_yes {xs : List PyData} (h : ¬ PyData.tuple xs = .tuple []) : fullT (.tuple xs) = true := by
  cases xs with
  | nil => exact absurd rfl h
  | cons _ _ => rfl
/-- the first items -/
theorem firsts_any : ∀ {vs : List Value} {ds : List PyData}, EachIs (fun v d => ∃ as, Reads s.heap v d as) vs ds → (∀ d ∈ ds, ∃ xs, d = .tuple xs) →
    ∃ fs : List (Option Value), fs.map (·.isSome) = ds.map fullT ∧ ∀ (Q : List (Option Value) → Shared → Prop), Q fs s → wpAny (model prog w) A (vs.mapM firstOfTuple') Q E s
  | _, _, .nil, _ => ⟨[], rfl, fun Q q => by rw [List.mapM_nil]; exact wpAny_pure q⟩
  | _, _, .cons (a := v) (b := d) ⟨as, r⟩ t, ht => by
    obtain ⟨fs, h1, h2⟩ := firsts_any t fun d hd => ht d (List.mem_cons_of_mem _ hd)
    obtain ⟨xs, rfl⟩ := ht d (List.mem_cons_self ..)
    cases r with
    | @tuple a o vs n _ _ ho hc hd hr =>
      have hn : vs.size = xs.length := by simpa using ReadsAll.length _ _ _ hr
      refine ⟨vs[0]? :: fs, ?_, fun Q q => ?_⟩
      · rw [List.map_cons, List.map_cons, h1]
        congr 1
        cases xs with
        | nil =>
          have : vs.size = 0 := by simpa using hn
          simp [this, fullT]
        | cons x r =>
          have : 0 < vs.size := by simp at hn; omega
          simp [this, fullT]
      · rw [List.mapM_cons]
        refine wpAny_bind ?_
        rw [kas_first_eq]
        refine wpAny_bind (Looks.here (show Looks (model prog w) s.heap (typeOf (.ref a)) o.cls from (Looks.ld ho).andThen .now) ?_)
        rw [hc, if_neg (by first | decide | simp)]
        refine wpAny_bind (listItems_at ho hd (wpAny_pure ?_))
        exact wpAny_bind (h2 _ (wpAny_pure q))
/-- the kind of tuples of which some are empty -/
theorem kind_tups {vs : List Value} {ds : List PyData} (e : EachIs (fun v d => ∃ as, Reads s.heap v d as) vs ds) (ht : ∀ d ∈ ds, ∃ xs, d = .tuple xs) (hx : .tuple [] ∈ ds) :
    ∃ kd, (kd = oneType' ∨ kd = general') ∧ ∀ (E : Value → Shared → Prop) (Q : SortKind → Shared → Prop), Q kd s → wpAny (model prog w) A (keyKind' vs.toArray) Q E s := by
  have hall : ∀ fs : List (Option Value), fs.map (·.isSome) = ds.map fullT → ¬ (fs.toArray.all (·.isSome)) = true := fun fs hf hh => by
    simp only [List.all_toArray] at hh
    have h2 : (fs.map (·.isSome)).all id = true := by rw [List.all_map]; exact hh
    rw [hf, List.all_map, List.all_eq_true] at h2
    have := h2 _ hx
    simp [fullT] at this
  cases ds with
  | nil => cases hx
  | cons d₀ ds₀ =>
    have hsp : ∀ fs : List (Option Value), fs.map (·.isSome) = (d₀ :: ds₀).map fullT → (fs.toArray[0]?.bind id).isSome = fullT d₀ := fun fs hf => by
      cases fs with
      | nil => simp at hf
      | cons f r =>
        rw [List.map_cons, List.map_cons] at hf
        have := (List.cons.inj hf).1
        simpa using this
    by_cases h0 : d₀ = .tuple []
    · refine ⟨oneType', .inl rfl, fun E Q q => ?_⟩
      obtain ⟨fs, h1, h2⟩ := firsts_any (prog := prog) (w := w) (A := A) (E := E) (s := s) e ht
      rw [keyKind'_eq, List.mapM_toArray, map_eq_pure_bind]
      refine wpAny_bind (wpAny_bind (h2 _ (wpAny_pure ?_)))
      rw [if_neg (hall fs h1), if_neg (by rw [hsp fs h1, fullT_no h0]; exact Bool.false_ne_true)]
      rw [oneTypeOnly'_eq, List.mapM_toArray, map_eq_pure_bind]
      refine wpAny_bind (wpAny_bind (wpAny_bind (kas_mapM (r := Value.type "tuple") _ (fun v hv Q' hq => ?_) (wpAny_pure ?_))))
      · obtain ⟨d, hd, as, r⟩ := e.left v hv
        obtain ⟨xs, rfl⟩ := ht d hd
        exact (looks_reads r).here hq
      · have hne : vs ≠ [] := by rintro rfl; cases e
        obtain ⟨v0, vr, rfl⟩ : ∃ v0 vr, vs = v0 :: vr := by
          cases vs with
          | nil => exact absurd rfl hne
          | cons v0 vr => exact ⟨v0, vr, rfl⟩
        have hall3 : ((List.map (fun _ => Value.type "tuple") (v0 :: vr)).toArray.all fun x => x == Value.type "tuple") = true := by
          simp only [List.all_toArray, List.all_map, List.all_eq_true]
          intro _ _
          exact beq_self_eq_true _
        have h00 : (List.map (fun _ => Value.type "tuple") (v0 :: vr)).toArray[0]? = some (Value.type "tuple") := by simp
        rw [h00]
        simp only [hall3, if_true]
        exact wpAny_pure (wpAny_pure q)
    · refine ⟨general', .inr rfl, fun E Q q => ?_⟩
      obtain ⟨fs, h1, h2⟩ := firsts_any (prog := prog) (w := w) (A := A) (E := E) (s := s) e ht
      rw [keyKind'_eq, List.mapM_toArray, map_eq_pure_bind]
      refine wpAny_bind (wpAny_bind (h2 _ (wpAny_pure ?_)))
      rw [if_neg (hall fs h1), if_pos (by rw [hsp fs h1]; obtain ⟨xs, rfl⟩ := ht d₀ (List.mem_cons_self ..); exact fullT_yes h0)]
      exact wpAny_pure q
/-- tuples that are alike can be sorted, also where some are empty -/
theorem SortsAt.tups {vs : List Value} {ds : List PyData} (e : EachIs (fun v d => ∃ as, Reads s.heap v d as) vs ds) (hal : AllAlike ds) (ht : ∀ d ∈ ds, ∃ xs, d = .tuple xs) (hu : ∀ d, d ∈ ds → A.units + d.depth < cLine) : SortsAt prog w A s (dataKind s.heap ds) vs := by
  by_cases hx : .tuple [] ∈ ds
  · have room : ∀ {d d' : PyData}, d ∈ ds → A.units + min d.depth d'.depth < cLine := fun {d d'} hd => Nat.lt_of_le_of_lt (Nat.add_le_add_left (Nat.min_le_left _ _) _) (hu d hd)
    refine ⟨fun v hv => ?_, ?_⟩
    · obtain ⟨d, hd, as, r⟩ := e.left v hv
      exact ⟨_, dataKind_some hal hd r⟩
    · obtain ⟨kd, hk, h2⟩ := kind_tups (prog := prog) (w := w) (A := A) (s := s) e ht hx
      refine ⟨kd, ?_, fun _ E Q q => h2 E Q q⟩
      intro E x y a b Q ha hb hq
      obtain ⟨d, as, hd, ra, rfl⟩ := dataKind_inv ha
      obtain ⟨d', as', hd', rb, rfl⟩ := dataKind_inv hb
      have hdd := hal d hd d' hd'
      have hroom := room (d' := d') hd
      obtain ⟨x1, rfl⟩ := ht d hd
      obtain ⟨x2, rfl⟩ := ht d' hd'
      rcases hk with rfl | rfl
      · rw [keyLt'_oneType]
        exact oneLt_tups ra rb hdd hroom hq
      · rw [keyLt'_general]
        exact oneLt_alike (fun z => absurd z Bool.false_ne_true) ra rb hdd (fun z => by cases z) hroom hq
  · exact SortsAt.data e hal (.inl fun d hd => by
      obtain ⟨xs, rfl⟩ := ht d hd
      cases xs with
      | nil => exact absurd hd hx
      | cons x r => exact ⟨x, r, rfl⟩) hu
end
end Vw

set_option Elab.async false
set_option linter.all false
set_option maxRecDepth 100000
namespace Vw
open PySem PySem.W PyProof.Rows L2
/-! ### heaps -/
/-- all but the object at b stay -/
def Kp (b : Addr) (H H' : Hp) : Prop := ∀ a o, a ≠ b → H a = some o → H' a = some o
theorem Kp.refl {b : Addr} (H : Hp) : Kp b H H := fun _ _ _ h => h
theorem Kp.trans {b : Addr} {H H1 H2 : Hp} (x : Kp b H H1) (y : Kp b H1 H2) : Kp b H H2 := fun a o n h => y a o n (x a o n h)
theorem same_kp {b : Addr} {H H' : Hp} (x : Same H H') : Kp b H H' := fun a o _ h => x a o h
theorem Kp.upd {b : Addr} {H : Hp} {o : HO} : Kp b H (upd H b o) := fun a u n h => by rw [upd_ne n]; exact h
theorem same_new {H : Hp} {p : Addr} {o : HO} (h : H p = none) : Same H (upd H p o) := fun b u q => by rw [upd_ne (ne_of_none q h)]; exact q
/-- an object that H did not know may change -/
theorem same_mut {H H' : Hp} {p : Addr} {o : HO} (x : Same H H') (h : H p = none) : Same H (upd H' p o) := fun b u q => by rw [upd_ne (ne_of_none q h)]; exact x b u q
theorem kp_mut {b : Addr} {H H' : Hp} {p : Addr} {o : HO} (x : Kp b H H') (h : H p = none) : Kp b H (upd H' p o) := fun a u n q => by rw [upd_ne (ne_of_none q h)]; exact x a u n q
/-- all tuples stay -/
def Tp (H H' : Hp) : Prop := ∀ a xs, H a = some (.tup xs) → H' a = some (.tup xs)
theorem Tp.refl (H : Hp) : Tp H H := fun _ _ h => h
theorem Tp.trans {H H1 H2 : Hp} (x : Tp H H1) (y : Tp H1 H2) : Tp H H2 := fun a o h => y a o (x a o h)
theorem same_tp {H H' : Hp} (x : Same H H') : Tp H H' := fun a xs h => x a _ h
theorem Kp.tp {b : Addr} {H H' : Hp} {ys : List V} (x : Kp b H H') (hb : H b = some (.lst ys)) : Tp H H' := fun a xs h => x a _ (ne_of h hb (fun z => by cases z)) h
theorem tp_new {H : Hp} {p : Addr} {o : HO} (h : H p = none) : Tp H (upd H p o) := same_tp (same_new h)
theorem tp_lst {H : Hp} {p : Addr} {ys : List V} {o : HO} (h : H p = some (.lst ys)) : Tp H (upd H p o) := fun a xs q => by rw [upd_ne (ne_of q h (fun z => by cases z))]; exact q

/-! ### ordinals in the heap -/
def KT (K : PySem.W.Frag) (a : Addr) (xs : List V) : Prop := ∃ (o : Obj) (its : Array Value) (n : Nat), K.lookup a = some o ∧ o.cls = .type "tuple" ∧ o.data = .seq its n ∧ its.size ≤ sizeLine ∧ Vals xs its.toList
def TT (K : PySem.W.Frag) (H : Hp) (a : Addr) (xs : List V) : Prop := H a = some (.tup xs) ∨ KT K a xs
section
variable {K : PySem.W.Frag} {H H' : Hp}
theorem TT.tp {a : Addr} {xs : List V} (t : Tp H H') (h : TT K H a xs) : TT K H' a xs := h.imp (t a xs) id
theorem TT.sq {a : Addr} {xs : List V} (h : TT K H a xs) : SqT K H a xs := by
  rcases h with h | h
  · exact .inl (.inl h)
  · exact .inr h
theorem TT.of {a : Addr} {xs : List V} (h : H a = some (.tup xs)) : TT K H a xs := .inl h
theorem TT.ty {a : Addr} {xs : List V} (h : TT K H a xs) : TyX K H (.ref a) (.type "tuple") := by
  rcases h with h | ⟨o, its, n, h1, h2, _⟩
  · exact .base (.tup h)
  · exact .kTuple h1 h2
def TsA (K : PySem.W.Frag) (H : Hp) : List V → O → Prop
  | vs, .z => vs = []
  | vs, .add e c r => ∃ p q ws vr, vs = .ref p :: vr ∧ TT K H p [.ref q, .int c] ∧ TT K H q ws ∧ TsA K H ws e ∧ TsA K H vr r
def OA (K : PySem.W.Frag) (H : Hp) (v : V) (o : O) : Prop := ∃ a vs, v = .ref a ∧ TT K H a vs ∧ TsA K H vs o
/-- a term -/
def TmA (K : PySem.W.Frag) (H : Hp) (v : V) (t : O × Int) : Prop := ∃ p q, v = .ref p ∧ TT K H p [.ref q, .int t.2] ∧ OA K H (.ref q) t.1
theorem TsA.tp (t : Tp H H') : ∀ {o : O} {vs : List V}, TsA K H vs o → TsA K H' vs o
  | .z, _, h => h
  | .add e c r, _, h => by
    obtain ⟨p, q, ws, vr, rfl, h1, h2, h3, h4⟩ := h
    exact ⟨p, q, ws, vr, rfl, h1.tp t, h2.tp t, TsA.tp t h3, TsA.tp t h4⟩
theorem OA.tp {v : V} {o : O} (t : Tp H H') (h : OA K H v o) : OA K H' v o := by
  obtain ⟨a, vs, rfl, h1, h2⟩ := h
  exact ⟨a, vs, rfl, h1.tp t, h2.tp t⟩
theorem TmA.tp {v : V} {x : O × Int} (t : Tp H H') (h : TmA K H v x) : TmA K H' v x := by
  obtain ⟨p, q, rfl, h1, h2⟩ := h
  exact ⟨p, q, rfl, h1.tp t, h2.tp t⟩
theorem TsA.pair : ∀ {o : O} {vs : List V}, TsA K H vs o → Paired (TmA K H) vs (O.ts o)
  | .z, _, h => by cases h; exact .nil
  | .add e c r, _, h => by
    obtain ⟨p, q, ws, vr, rfl, h1, h2, h3, h4⟩ := h
    exact .cons ⟨p, q, rfl, h1, q, ws, rfl, h2, h3⟩ (TsA.pair h4)
theorem TsA.of : ∀ {l : List (O × Int)} {vs : List V}, Paired (TmA K H) vs l → TsA K H vs (O.of l)
  | _, _, .nil => rfl
  | _, _, .cons (b := (e, c)) ⟨p, q, h0, h1, q', ws, h2, h3, h4⟩ t => by
    cases h0
    cases h2
    exact ⟨p, q, ws, _, rfl, h1, h3, h4, TsA.of t⟩
theorem OA.of {a : Addr} {vs : List V} {l : List (O × Int)} (h : TT K H a vs) (p : Paired (TmA K H) vs l) : OA K H (.ref a) (O.of l) := ⟨a, vs, rfl, h, .of p⟩
theorem paired_mono {α β : Type} {F G : α → β → Prop} (h : ∀ a b, F a b → G a b) : ∀ {xs : List α} {ys : List β}, Paired F xs ys → Paired G xs ys
  | _, _, .nil => .nil
  | _, _, .cons a t => .cons (h _ _ a) (paired_mono h t)
theorem paired_app {α β : Type} {F : α → β → Prop} : ∀ {xs xs2 : List α} {ys ys2 : List β}, Paired F xs ys → Paired F xs2 ys2 → Paired F (xs ++ xs2) (ys ++ ys2)
  | _, _, _, _, .nil, t => t
  | _, _, _, _, .cons a t, u => .cons a (paired_app t u)
theorem paired_get {α β : Type} {F : α → β → Prop} : ∀ {xs : List α} {ys : List β} {i : Nat} {x : α}, Paired F xs ys → xs[i]? = some x → ∃ y, ys[i]? = some y ∧ F x y
  | _, _, _, _, .nil, h => by simp at h
  | _, _, 0, _, .cons a t, h => by
    simp at h; subst h
    exact ⟨_, rfl, a⟩
  | _, _, i + 1, _, .cons a t, h => by
    obtain ⟨y, h1, h2⟩ := paired_get (i := i) t (by simpa using h)
    exact ⟨y, by simpa using h1, h2⟩
theorem paired_get' {α β : Type} {F : α → β → Prop} : ∀ {xs : List α} {ys : List β} {i : Nat} {y : β}, Paired F xs ys → ys[i]? = some y → ∃ x, xs[i]? = some x ∧ F x y
  | _, _, _, _, .nil, h => by simp at h
  | _, _, 0, _, .cons a t, h => by
    simp at h; subst h
    exact ⟨_, rfl, a⟩
  | _, _, i + 1, _, .cons a t, h => by
    obtain ⟨y, h1, h2⟩ := paired_get' (i := i) t (by simpa using h)
    exact ⟨y, by simpa using h1, h2⟩
theorem paired_len {α β : Type} {F : α → β → Prop} : ∀ {xs : List α} {ys : List β}, Paired F xs ys → xs.length = ys.length
  | _, _, .nil => rfl
  | _, _, .cons _ t => congrArg Nat.succ (paired_len t)
theorem paired_take {α β : Type} {F : α → β → Prop} : ∀ {xs : List α} {ys : List β} (n : Nat), Paired F xs ys → Paired F (xs.take n) (ys.take n)
  | _, _, 0, _ => .nil
  | _, _, _ + 1, .nil => .nil
  | _, _, n + 1, .cons a t => .cons a (paired_take n t)
theorem paired_drop {α β : Type} {F : α → β → Prop} : ∀ {xs : List α} {ys : List β} (n : Nat), Paired F xs ys → Paired F (xs.drop n) (ys.drop n)
  | _, _, 0, h => h
  | _, _, _ + 1, .nil => .nil
  | _, _, n + 1, .cons a t => paired_drop n t
theorem paired_filter {α β : Type} {F : α → β → Prop} (f : α → Bool) (g : β → Bool) (h : ∀ a b, F a b → f a = g b) : ∀ {xs : List α} {ys : List β}, Paired F xs ys → Paired F (xs.filter f) (ys.filter g)
  | _, _, .nil => .nil
  | _, _, .cons (a := a) (b := b) x t => by
    rw [List.filter_cons, List.filter_cons, h a b x]
    cases g b with
    | true => exact .cons x (paired_filter f g h t)
    | false => exact paired_filter f g h t
mutual
theorem TsA.dp : ∀ {o : O} {vs : List V}, TsA K H vs o → DpAll K H vs (O.toDs o)
  | .z, _, h => by cases h; exact .nil
  | .add e c r, _, h => by
    obtain ⟨p, q, ws, vr, rfl, h1, h2, h3, h4⟩ := h
    exact .cons (.tup h1.sq (.cons (.tup h2.sq (TsA.dp h3)) (.cons (.int c) .nil))) (TsA.dp h4)
end
theorem OA.dp {v : V} {o : O} (h : OA K H v o) : Dp K H v (O.toD o) := by
  obtain ⟨a, vs, rfl, h1, h2⟩ := h
  exact .tup h1.sq h2.dp
theorem OA.ref {v : V} {o : O} (h : OA K H v o) : ∃ a, v = .ref a := by
  obtain ⟨a, vs, rfl, _⟩ := h
  exact ⟨a, rfl⟩
theorem OA.nil {a : Addr} (h : TT K H a []) : OA K H (.ref a) .z := ⟨a, [], rfl, h, rfl⟩
/-! ### what the comparisons ask -/
variable {x y : V} {a b : O} {Q : VK}
theorem rd_lt (ha : OA K H x a) (hb : OA K H y b) (h : O.dp a ≤ 60) (q : Q (.bl (O.lt a b)) H) : rCmp (fun d e => dataLt d e) K x y H Q := by
  unfold rCmp
  exact ⟨_, _, ha.dp, hb.dp, O.alike_toD a b, (fun z => by cases z), by rw [O.depth_toD]; omega, by show Q (.bl (dataLt _ _)) H; rw [O.lt_toD]; exact q⟩
theorem rd_gt (ha : OA K H x a) (hb : OA K H y b) (h : O.dp a ≤ 60) (q : Q (.bl (O.lt b a)) H) : rCmp (fun d e => dataLt e d) K x y H Q := by
  unfold rCmp
  exact ⟨_, _, ha.dp, hb.dp, O.alike_toD a b, (fun z => by cases z), by rw [O.depth_toD]; omega, by show Q (.bl (dataLt _ _)) H; rw [O.lt_toD]; exact q⟩
theorem rd_le (ha : OA K H x a) (hb : OA K H y b) (h : O.dp a ≤ 60) (q : Q (.bl (!O.lt b a)) H) : rCmp (fun d e => !dataLt e d) K x y H Q := by
  unfold rCmp
  exact ⟨_, _, ha.dp, hb.dp, O.alike_toD a b, (fun z => by cases z), by rw [O.depth_toD]; omega, by show Q (.bl (!dataLt _ _)) H; rw [O.lt_toD]; exact q⟩
theorem rd_ge (ha : OA K H x a) (hb : OA K H y b) (h : O.dp a ≤ 60) (q : Q (.bl (!O.lt a b)) H) : rCmp (fun d e => !dataLt d e) K x y H Q := by
  unfold rCmp
  exact ⟨_, _, ha.dp, hb.dp, O.alike_toD a b, (fun z => by cases z), by rw [O.depth_toD]; omega, by show Q (.bl (!dataLt _ _)) H; rw [O.lt_toD]; exact q⟩
@[irreducible] def rEqO (K : PySem.W.Frag) : R2 := rEqD K
@[irreducible] def rNeO (K : PySem.W.Frag) : R2 := rNeD K
theorem rd_eq (ha : OA K H x a) (hb : OA K H y b) (h : O.dp a ≤ 60) (h2 : O.dp b ≤ 60) (q : Q (.bl (decide (a = b))) H) : rEqO K x y H Q := by
  unfold rEqO
  exact ⟨_, _, ha.dp, hb.dp, O.shaped_toD h, O.shaped_toD h2, by rw [O.eqv_toD]; exact q⟩
theorem rd_ne (ha : OA K H x a) (hb : OA K H y b) (h : O.dp a ≤ 60) (h2 : O.dp b ≤ 60) (q : Q (.bl (!decide (a = b))) H) : rNeO K x y H Q := by
  unfold rNeO
  exact ⟨_, _, ha.dp, hb.dp, O.shaped_toD h, O.shaped_toD h2, by rw [O.eqv_toD]; exact q⟩
end
theorem op_eqO {X : Cx} (hu : X.A.units + 64 < cLine) : OpR X (compareOp .Eq) (rEqO X.K) := by unfold rEqO; exact op_eqD hu
theorem op_neO {X : Cx} (hu : X.A.units + 64 < cLine) : OpR X (compareOp .NotEq) (rNeO X.K) := by unfold rNeO; exact op_neD hu
/-! ### sorted(.., reverse=True) of ordinals -/
def rSortedO (K : PySem.W.Frag) : List V → List V → Hp → VK → Prop := fun vs zs H Q => ∃ (a : Addr) (xs : List V) (os : List O), vs = [V.ref a] ∧ zs = [.bl true] ∧ SqL K H a xs ∧ Paired (OA K H) xs os ∧ (∀ o ∈ os, O.dp o ≤ 60) ∧
  ∀ (ys : List V) (os' : List O) (p : Addr), Paired (OA K H) ys os' → os'.Perm os → os'.Pairwise (fun a b => O.lt a b = false) → H p = none → Q (.ref p) (upd H p (.lst ys))
theorem dataLe_toD (a b : O) : dataLe true O.toD a b = !O.lt a b := by
  show sortLe (listOrd itemOrd) true (fun b => keyToks (O.toD b)) a b = _
  rw [← O.lt_toD]
  rfl
section
variable {X : Cx}
theorem each_of {R : Value → O → Prop} {F : V → O → Prop} (h : ∀ x u o, F x o → RelV x u → R u o) : ∀ {xs : List V} {os : List O} {us : List Value}, Paired F xs os → Vals xs us → EachIs R us os
  | _, _, _, .nil, .nil => .nil
  | _, _, _, .cons a t, .cons b u => .cons (h _ _ _ a b) (each_of h t u)
theorem each_back {F : V → O → Prop} : ∀ {us : List Value} {os : List O}, EachIs (fun u o => ∃ x, RelV x u ∧ F x o) us os → ∃ ys, Vals ys us ∧ Paired F ys os
  | _, _, .nil => ⟨[], .nil, .nil⟩
  | _, _, .cons ⟨x, a, b⟩ t => by
    obtain ⟨ys, h1, h2⟩ := each_back t
    exact ⟨x :: ys, .cons a h1, .cons b h2⟩
theorem cr_sortedO (hu : X.A.units + 64 < cLine) : CallRK X (.builtin "sorted") [Str.ofString "reverse"] (rSortedO X.K) := by
  intro pins s σ H vs zs us ws Q I r rz h
  obtain ⟨a, xs, os, rfl, rfl, hs, hp, hd, q⟩ := h
  obtain rfl := Vals.ref1 r
  obtain ⟨w1, rfl, e1⟩ := vals1 rz
  obtain rfl : w1 = Value.bool true := e1
  obtain ⟨its, rv, hl, hz⟩ := I.list hs
  have e0 : EachIs (fun u o => ∃ x, RelV x u ∧ OA X.K H x o) its os := each_of (fun x u o a b => ⟨x, b, a⟩) hp rv
  have er : EachIs (fun v o => ∃ as, Reads s.heap v (O.toD o) as) its os := e0.mono fun u o ⟨x, rx, ox⟩ => Dp.reads I _ _ _ ox.dp rx
  have er' : EachIs (fun v o => ∃ as, Reads (sortingHeap (copyHeap s.heap its) (s.heap.objs.size + 1) its) v (O.toD o) as) its os := er.mono fun _ _ ⟨as, r⟩ => ⟨as, PyProof.Rows.Reads.keeps (fun _ _ => sorting_copy_old) r⟩
  have hal : AllAlike (os.map O.toD) := AllAlike.of O.alike_toD
  refine sorted_rev_vals (b := true) hl.isList (SortsAt.tups (s := { s with heap := sortingHeap (copyHeap s.heap its) (s.heap.objs.size + 1) its }) (each_map (R := fun v d => ∃ as, Reads (sortingHeap (copyHeap s.heap its) (s.heap.objs.size + 1) its) v d as) O.toD er') hal (fun d hd => ?_) (fun d hm => ?_)) (by rw [← rv.length]; exact hz) ?_
  · obtain ⟨o, _, rfl⟩ := List.mem_map.mp hd
    exact ⟨_, rfl⟩
  · obtain ⟨o, ho, rfl⟩ := List.mem_map.mp hm
    rw [O.depth_toD]
    have := hd o ho
    show X.A.units + 1 + 1 + _ < _
    omega
  · have e2 := sortVals_data (h' := sortingHeap (copyHeap s.heap its) (s.heap.objs.size + 1) its) (enc := O.toD) true e0 er' hal
    obtain ⟨ys, v1, v2⟩ := each_back e2
    obtain ⟨ep, he'⟩ := PyProof.Rows.sortedAll_at s.heap its (sortVals (dataKind (sortingHeap (copyHeap s.heap its) (s.heap.objs.size + 1) its) (os.map O.toD)) true its its).toArray
    have hlen : ys.length ≤ sizeLine := by
      rw [paired_len v2, (List.mergeSort_perm os _).length_eq, ← paired_len hp]
      exact hz
    refine ⟨.ref _, upd H (s.heap.objs.size + 1) (.lst ys), I.laid (t' := s.toks) (fun _ _ => PyProof.Rows.sortedAll_old) (Nat.le_succ _) ⟨hlen, _, ep, v1, he'⟩, rfl, q _ _ _ v2 (List.mergeSort_perm os _) ?_ (I.hok.fresh (Nat.le_succ _))⟩
    refine (List.pairwise_mergeSort (le := dataLe true O.toD) (fun a b c h1 h2 => ?_) (fun a b => ?_) os).imp fun {a b} h => ?_
    · rw [dataLe_toD] at h1 h2 ⊢
      simp only [Bool.not_eq_true'] at h1 h2 ⊢
      exact O.ge_trans h1 h2
    · rw [dataLe_toD, dataLe_toD]
      by_cases e : a = b
      · subst e; rw [O.lt_irrefl]; rfl
      · rcases O.lt_total a b e with k | k
        · rw [k, O.lt_asymm k]; rfl
        · rw [k, O.lt_asymm k]; rfl
    · rw [dataLe_toD] at h
      simpa using h
end
/-! ### f(k = v, ..) -/
section
variable {X : Cx} {CX : CXT} {k : Nat} {f : Addr} {fd : FuncData} {ps ks : List Str} {sp : Sp} {E : XK} {x : Str} {p pos : Pos} {kws : List Keyword} {tk : TA} {g : List Value → List Value → List Value} {gV : List V → List V → List V}
theorem pe_callK0 (F : FnOk X.prog X.w X.K X.mg X.base CX k f fd ps sp) (hr : Room k X.A) (hg : Gl X x) (hm : X.mg x = some (.ref f)) (hk : PySem.W.keepIn X.K (.ref f) = true) (hb : KBinds X.K fd ps ks g gV) (hx : Passes CX X E)
    (hkw : PK X kws tk) (hall : (backToKw pos (keywordEach kws X.env)).all (·.1.isSome) = true := by rfl) (hks : (backToKw pos (keywordEach kws X.env)).filterMap (·.1) = ks := by rfl)
    (hdb : (x == ("__debug__" : Str)) = false := by decide)
    (hpl : ((backTo pos (starEach [] X.env)).any (·.1) || (backToKw pos (keywordEach kws X.env)).any (·.1.isNone)) = false := by rfl) :
    PE X (.Call (.Name x p) [] kws pos) (tCallK sp gV E tNil tk) := by
  refine ⟨fun pins s σ H Q I h => ?_⟩
  refine wpAny_Call_Name_kw (ld_glob I hg hm ?_ hdb)
  refine PySem.W.callWith_KW0 (h₀ := X.base) I.ok.mod.kin hk hall ?_ hpl
  refine thn (hkw.run pos pins s σ H _ I h) fun ws s2 ⟨zs, H2, I2, rz, q2⟩ => ⟨I2.kIn, ?_⟩
  rw [hks]
  exact run_fnk (us := []) (vs := []) F hr hb hx I2 .nil rz q2
end
/-! ### a def that keeps its promise, as it is called -/
structure Cal (P : Program) (w : World) (K : PySem.W.Frag) (mg : Str → Option Value) (base : Heap) (k : Nat) (x : Str) (ps : List Str) (sp : Sp) (f : Addr) (fd : FuncData) : Prop where
  G : FnOk P w K mg base CX0 k f fd ps sp
  m : mg x = some (.ref f)
  kp : PySem.W.keepIn K (.ref f) = true
  b : Binds K fd ps []
end Vw

set_option Elab.async false
set_option linter.all false
set_option maxRecDepth 100000
namespace Vw
open PySem PySem.W PyProof.Rows L2
namespace O
def num (n : Int) : O := if 0 < n then add z n z else z
theorem ok_num (n : Int) : ok (num n) = true := by
  unfold num
  split
  · exact ok_add.mpr ⟨rfl, by omega, rfl, rfl⟩
  · rfl
theorem dp_num (n : Int) : dp (num n) ≤ 2 := by
  unfold num
  split
  · show max (0 + 2) 0 ≤ 2; omega
  · show 0 ≤ 2; omega
theorem len_num (n : Int) : (ts (num n)).length ≤ 1 := by
  unfold num
  split
  · exact Nat.le_refl _
  · exact Nat.zero_le _
def lastE (l : List (O × Int)) : Option O := l.getLast?.map (·.1)
theorem under_of {e : O} : ∀ {l : List (O × Int)}, l ≠ [] → under e (of l) = (match l with | [] => true | t :: _ => lt t.1 e)
  | [], h => absurd rfl h
  | t :: _, _ => rfl
theorem ok_snoc : ∀ (l : List (O × Int)) (p : O) (c : Int), ok (of l) = true → ok p = true → 1 ≤ c → (∀ t, l.getLast? = some t → lt p t.1 = true) → ok (of (l ++ [(p, c)])) = true
  | [], p, c, _, hp, hc, _ => ok_add.mpr ⟨hp, hc, rfl, rfl⟩
  | [t], p, c, h, hp, hc, hl => by
    have g := ok_add.mp h
    exact ok_add.mpr ⟨g.1, g.2.1, ok_add.mpr ⟨hp, hc, rfl, rfl⟩, hl t rfl⟩
  | t :: u :: r, p, c, h, hp, hc, hl => by
    have g := ok_add.mp h
    refine ok_add.mpr ⟨g.1, g.2.1, ok_snoc (u :: r) p c g.2.2.1 hp hc (fun x hx => hl x (by rw [List.getLast?_cons_cons]; exact hx)), g.2.2.2⟩
theorem dp_of : ∀ (l : List (O × Int)) (n : Nat), (∀ t ∈ l, dp t.1 + 2 ≤ n) → dp (of l) ≤ n
  | [], n, _ => Nat.zero_le _
  | t :: r, n, h => by
    have h1 := h t List.mem_cons_self
    have h2 := dp_of r n fun x hx => h x (List.mem_cons_of_mem _ hx)
    show max (dp t.1 + 2) (dp (of r)) ≤ n
    omega
/-- the greatest number of terms, however deep -/
def wd : O → Nat
  | z => 0
  | add e c r => max (wd e) (max ((ts r).length + 1) (wd r))
theorem len_wd : ∀ a : O, (ts a).length ≤ wd a
  | z => Nat.le_refl _
  | add e c r => by show (ts r).length + 1 ≤ max (wd e) (max ((ts r).length + 1) (wd r)); omega
theorem wd_mem : ∀ {o : O} {t : O × Int}, t ∈ ts o → wd t.1 ≤ wd o
  | z, t, h => by cases h
  | add e c r, t, h => by
    rcases List.mem_cons.mp h with q | q
    · subst q; show wd e ≤ max (wd e) (max _ (wd r)); omega
    · have := wd_mem q; show _ ≤ max (wd e) (max _ (wd r)); omega
theorem wd_of : ∀ (l : List (O × Int)) (n : Nat), l.length ≤ n → (∀ t ∈ l, wd t.1 ≤ n) → wd (of l) ≤ n
  | [], n, _, _ => Nat.zero_le _
  | t :: r, n, hl, h => by
    have h1 := h t List.mem_cons_self
    have hl : r.length + 1 ≤ n := hl
    have h2 := wd_of r n (by omega) fun x hx => h x (List.mem_cons_of_mem _ hx)
    show max (wd t.1) (max ((ts (of r)).length + 1) (wd (of r))) ≤ n
    rw [ts_of]
    omega
theorem wd_num (n : Int) : wd (num n) ≤ 1 := by
  unfold num
  split
  · exact Nat.le_refl _
  · exact Nat.zero_le _
theorem dp_mem : ∀ {o : O} {t : O × Int}, t ∈ ts o → dp t.1 + 2 ≤ dp o
  | z, t, h => by cases h
  | add e c r, t, h => by
    rcases List.mem_cons.mp h with q | q
    · subst q; show dp e + 2 ≤ max (dp e + 2) (dp r); omega
    · have := dp_mem q; show _ ≤ max (dp e + 2) (dp r); omega
theorem ok_mem : ∀ {o : O} {t : O × Int}, ok o = true → t ∈ ts o → ok t.1 = true ∧ 1 ≤ t.2
  | z, t, _, h => by cases h
  | add e c r, t, hk, h => by
    have g := ok_add.mp hk
    rcases List.mem_cons.mp h with q | q
    · subst q; exact ⟨g.1, g.2.1⟩
    · exact ok_mem g.2.2.1 q
theorem dp_sum : ∀ (a b : O), dp (sum a b) ≤ max (dp a) (dp b)
  | a, z => by rw [sum_z]; omega
  | z, b => by rw [z_sum]; omega
  | add e1 c1 r1, add e2 c2 r2 => by
    by_cases q : e1 = e2
    · subst q; rw [sum_eq]; show max (dp e1 + 2) (dp r2) ≤ max (max _ _) (max _ _); omega
    · rcases lt_total e1 e2 q with k | k
      · rw [sum_lt k]; omega
      · rw [sum_gt k]
        have := dp_sum r1 (add e2 c2 r2)
        show max (dp e1 + 2) (dp (sum r1 (add e2 c2 r2))) ≤ max (max (dp e1 + 2) (dp r1)) _
        omega
theorem len_sum : ∀ (a b : O), (ts (sum a b)).length ≤ (ts a).length + (ts b).length
  | a, z => by rw [sum_z]; omega
  | z, b => by rw [z_sum]; omega
  | add e1 c1 r1, add e2 c2 r2 => by
    by_cases q : e1 = e2
    · subst q; rw [sum_eq]; simp only [ts, List.length_cons]; omega
    · rcases lt_total e1 e2 q with k | k
      · rw [sum_lt k]; omega
      · rw [sum_gt k]
        have := len_sum r1 (add e2 c2 r2)
        simp only [ts, List.length_cons] at this ⊢
        omega
end O
/-! ### data by kind -/
def tyN : PyData → String
  | .none => "NoneType"
  | .bool _ => "bool"
  | .int _ => "int"
  | .str _ => "str"
  | .list _ => "list"
  | .tuple _ => "tuple"
  | .dict _ => "dict"
section
variable {K : PySem.W.Frag} {H H' : Hp}
theorem dp_ty {x : V} {d : PyData} (h : Dp K H x d) : TyX K H x (.type (tyN d)) := by
  cases h with
  | non => exact .base .non
  | bl b => exact .base (.bl b)
  | int i => exact .base (.int i)
  | str s => exact .base (.str s)
  | lst hs _ =>
    rcases hs with (h | ⟨o, h⟩) | ⟨o, its, n, h1, h2, _⟩
    · exact .base (.lst h)
    · exact .base (.frz h)
    · exact .kList h1 h2
  | tup hs _ =>
    rcases hs with (h | ⟨o, h⟩) | ⟨o, its, n, h1, h2, _⟩
    · exact .base (.tup h)
    · exact .fTuple h
    · exact .kTuple h1 h2
def isinN (n T : String) : Bool := n == T || (n == "bool" && T == "int")
def isin (d : PyData) (T : String) : Bool := isinN (tyN d) T
theorem kits {T : String} (h0 : kitB "NoneType" T = some (isinN "NoneType" T)) (h1 : kitB "bool" T = some (isinN "bool" T)) (h2 : kitB "int" T = some (isinN "int" T)) (h3 : kitB "str" T = some (isinN "str" T)) (h4 : kitB "list" T = some (isinN "list" T)) (h5 : kitB "tuple" T = some (isinN "tuple" T)) :
    ∀ d : PyData, (∀ kv, d ≠ .dict kv) → kitOne K (.type (tyN d)) (.type T) = some (isin d T)
  | .none, _ => kit_ty h0
  | .bool _, _ => kit_ty h1
  | .int _, _ => kit_ty h2
  | .str _, _ => kit_ty h3
  | .list _, _ => kit_ty h4
  | .tuple _, _ => kit_ty h5
  | .dict kv, h => absurd rfl (h kv)
theorem kit_list (d : PyData) (hd : ∀ kv, d ≠ .dict kv) : kitOne K (.type (tyN d)) (.type "list") = some (isin d "list") := kits (by decide +kernel) (by decide +kernel) (by decide +kernel) (by decide +kernel) (by decide +kernel) (by decide +kernel) d hd
theorem kit_tuple (d : PyData) (hd : ∀ kv, d ≠ .dict kv) : kitOne K (.type (tyN d)) (.type "tuple") = some (isin d "tuple") := kits (by decide +kernel) (by decide +kernel) (by decide +kernel) (by decide +kernel) (by decide +kernel) (by decide +kernel) d hd
theorem kit_bool (d : PyData) (hd : ∀ kv, d ≠ .dict kv) : kitOne K (.type (tyN d)) (.type "bool") = some (isin d "bool") := kits (by decide +kernel) (by decide +kernel) (by decide +kernel) (by decide +kernel) (by decide +kernel) (by decide +kernel) d hd
theorem kit_int (d : PyData) (hd : ∀ kv, d ≠ .dict kv) : kitOne K (.type (tyN d)) (.type "int") = some (isin d "int") := kits (by decide +kernel) (by decide +kernel) (by decide +kernel) (by decide +kernel) (by decide +kernel) (by decide +kernel) d hd
theorem kit_str (d : PyData) (hd : ∀ kv, d ≠ .dict kv) : kitOne K (.type (tyN d)) (.type "str") = some (isin d "str") := kits (by decide +kernel) (by decide +kernel) (by decide +kernel) (by decide +kernel) (by decide +kernel) (by decide +kernel) d hd
theorem dp_nodict {x : V} {d : PyData} (h : Dp K H x d) : ∀ kv, d ≠ .dict kv := fun kv e => by subst e; cases h
@[irreducible] def rIsD (K : PySem.W.Frag) : List V → Hp → VK → Prop := rIsi K
@[irreducible] def rIsDT (K : PySem.W.Frag) : List V → Hp → VK → Prop := rIsiT K
theorem call_isD {X : Cx} : CallR X (.builtin "isinstance") (rIsD X.K) := by unfold rIsD; exact call_isi
theorem call_isDT {X : Cx} : CallR X (.builtin "isinstance") (rIsDT X.K) := by unfold rIsDT; exact call_isiT
variable {Q : VK} {x : V} {d : PyData}
theorem rd_list (h : Dp K H x d) (q : Q (.bl (isin d "list")) H) : rIsD K [x, .ty "list"] H Q := by unfold rIsD; exact ⟨x, _, _, _, _, rfl, .ty _, dp_ty h, kit_list d (dp_nodict h), q⟩
theorem rd_tuple (h : Dp K H x d) (q : Q (.bl (isin d "tuple")) H) : rIsD K [x, .ty "tuple"] H Q := by unfold rIsD; exact ⟨x, _, _, _, _, rfl, .ty _, dp_ty h, kit_tuple d (dp_nodict h), q⟩
theorem rd_bool (h : Dp K H x d) (q : Q (.bl (isin d "bool")) H) : rIsD K [x, .ty "bool"] H Q := by unfold rIsD; exact ⟨x, _, _, _, _, rfl, .ty _, dp_ty h, kit_bool d (dp_nodict h), q⟩
theorem rd_int (h : Dp K H x d) (q : Q (.bl (isin d "int")) H) : rIsD K [x, .ty "int"] H Q := by unfold rIsD; exact ⟨x, _, _, _, _, rfl, .ty _, dp_ty h, kit_int d (dp_nodict h), q⟩
theorem rd_str (h : Dp K H x d) (q : Q (.bl (isin d "str")) H) : rIsD K [x, .ty "str"] H Q := by unfold rIsD; exact ⟨x, _, _, _, _, rfl, .ty _, dp_ty h, kit_str d (dp_nodict h), q⟩
def isLT : PyData → Bool
  | .list _ => true
  | .tuple _ => true
  | _ => false
theorem rd_lt2 {tp : Addr} (h : Dp K H x d) (ht : H tp = some (.tup [.ty "list", .ty "tuple"])) (q : Q (.bl (isLT d)) H) : rIsDT K [x, .ref tp] H Q := by
  unfold rIsDT
  refine ⟨x, tp, _, _, [.type "list", .type "tuple"], isLT d, rfl, ht, .cons (.ty _) (.cons (.ty _) .nil), dp_ty h, ?_, q⟩
  refine kitAny_cons (kit_list d (dp_nodict h)) (fun e => kitAny_cons (kit_tuple d (dp_nodict h)) (fun e2 => ?_) fun e2 => ?_) fun e => ?_
  · rw [kitAny_nil]
    cases d <;> first | rfl | (revert e e2; show _ = false → _ = false → _; decide +revert) | exact absurd e (by show ¬ (isinN "list" "list" = false); decide) | exact absurd e2 (by show ¬ (isinN "tuple" "tuple" = false); decide)
  · cases d <;> first | rfl | exact absurd e2 (by show ¬ (isinN "NoneType" "tuple" = true); decide) | exact absurd e2 (by show ¬ (isinN "bool" "tuple" = true); decide) | exact absurd e2 (by show ¬ (isinN "int" "tuple" = true); decide) | exact absurd e2 (by show ¬ (isinN "str" "tuple" = true); decide) | exact absurd e2 (by show ¬ (isinN "dict" "tuple" = true); decide)
  · cases d <;> first | rfl | exact absurd e (by show ¬ (isinN "NoneType" "list" = true); decide) | exact absurd e (by show ¬ (isinN "bool" "list" = true); decide) | exact absurd e (by show ¬ (isinN "int" "list" = true); decide) | exact absurd e (by show ¬ (isinN "str" "list" = true); decide) | exact absurd e (by show ¬ (isinN "dict" "list" = true); decide)
theorem same_sqt {a : Addr} {xs : List V} (e : Same H H') (h : SqT K H a xs) : SqT K H' a xs := by
  rcases h with (h | ⟨o, h⟩) | h
  · exact .inl (.inl (e _ _ h))
  · exact .inl (.inr ⟨o, e _ _ h⟩)
  · exact .inr h
mutual
theorem dp_same (e : Same H H') : ∀ {d : PyData} {v : V}, Dp K H v d → Dp K H' v d
  | _, _, .non => .non
  | _, _, .bl b => .bl b
  | _, _, .int i => .int i
  | _, _, .str x => .str x
  | _, _, .lst h t => .lst (e.seq h) (dpall_same e t)
  | _, _, .tup h t => .tup (same_sqt e h) (dpall_same e t)
theorem dpall_same (e : Same H H') : ∀ {ds : List PyData} {vs : List V}, DpAll K H vs ds → DpAll K H' vs ds
  | _, _, .nil => .nil
  | _, _, .cons h t => .cons (dp_same e h) (dpall_same e t)
end
theorem dpall_len : ∀ {ds : List PyData} {vs : List V}, DpAll K H vs ds → vs.length = ds.length
  | _, _, .nil => rfl
  | _, _, .cons h t => congrArg Nat.succ (dpall_len t)
theorem dpall_get : ∀ {ds : List PyData} {vs : List V} {i : Nat} {v : V}, DpAll K H vs ds → vs[i]? = some v → ∃ d, ds[i]? = some d ∧ Dp K H v d
  | _, _, _, _, .nil, h => by simp at h
  | _, _, 0, _, .cons a t, h => by
    simp at h; subst h
    exact ⟨_, rfl, a⟩
  | _, _, i + 1, _, .cons a t, h => by
    obtain ⟨y, h1, h2⟩ := dpall_get (i := i) t (by simpa using h)
    exact ⟨y, by simpa using h1, h2⟩
theorem depth_get : ∀ {ds : List PyData} {i : Nat} {d : PyData}, ds[i]? = some d → d.depth ≤ PyData.depthAll ds
  | [], _, _, h => by simp at h
  | x :: r, 0, d, h => by
    simp at h; subst h
    simp only [PyData.depthAll]; omega
  | x :: r, i + 1, d, h => by
    have := depth_get (ds := r) (i := i) (by simpa using h)
    simp only [PyData.depthAll]; omega
theorem atI_ex {xs : List V} {i : Int} (h0 : 0 ≤ i) (h : i < (xs.length : Int)) : ∃ v, xs[i.toNat]? = some v ∧ atI xs i = some v := by
  obtain ⟨j, rfl⟩ := Int.eq_ofNat_of_zero_le h0
  have hj : j < xs.length := by omega
  exact ⟨xs[j], List.getElem?_eq_getElem hj, atI_nat (List.getElem?_eq_getElem hj)⟩
end
/-! ### len, with the bound that the model keeps -/
@[irreducible] def rLenB (K : PySem.W.Frag) : List V → Hp → VK → Prop := fun vs H Q => ∃ p ys, vs = [.ref p] ∧ (SqL K H p ys ∨ SqT K H p ys) ∧ (ys.length ≤ sizeLine → Q (.int (ys.length : Nat)) H)
theorem call_lenB {X : Cx} : CallR X (.builtin "len") (rLenB X.K) := by
  intro pins s σ H xs us Q I r h
  unfold rLenB at h
  obtain ⟨p, ys, rfl, hs, q⟩ := h
  have hz : ys.length ≤ sizeLine := by
    rcases hs with hs | hs
    · obtain ⟨_, _, _, z⟩ := I.list hs; exact z
    · obtain ⟨_, _, _, z⟩ := I.tuple hs; exact z
  exact call_len_seq pins s σ H _ us Q I r ⟨p, ys, rfl, hs, q hz⟩
theorem rd_len {K : PySem.W.Frag} {H : Hp} {Q : VK} {p : Addr} {ys : List V} (h : SqL K H p ys ∨ SqT K H p ys) (q : ys.length ≤ sizeLine → Q (.int (ys.length : Nat)) H) : rLenB K [.ref p] H Q := by
  unfold rLenB
  exact ⟨p, ys, rfl, h, q⟩
theorem line62 {n : Nat} (h : n ≤ sizeLine) : -(2 ^ 62) ≤ (n : Int) ∧ (n : Int) < 2 ^ 62 := by
  have : sizeLine ≤ 2 ^ 40 := by decide
  omega
/-! ### the bag of numbers -/
def Bag (l : Addr) (H : Hp) (b : Addr) : Prop := ∃ (ns : List Int) (i g s k : Int), l ≠ b ∧ H b = some (.lst [.ref l, .int i, .int g, .int s, .int k]) ∧ H l = some (.lst (ns.map V.int)) ∧ ns.length ≤ 63 ∧ 0 ≤ i ∧ 0 ≤ s ∧ s < 2147483647
theorem Bag.same {l : Addr} {H H' : Hp} {b : Addr} (x : Same H H') (h : Bag l H b) : Bag l H' b := by
  obtain ⟨ns, i, g, s, k, h1, h2, h3, h4⟩ := h
  exact ⟨ns, i, g, s, k, h1, x _ _ h2, x _ _ h3, h4⟩
theorem Bag.tp {l : Addr} {H H' : Hp} {b : Addr} (h : Bag l H b) (x : Kp b H H') : Tp H H' := by
  obtain ⟨ns, i, g, s, k, h1, h2, h3, h4⟩ := h
  exact x.tp h2
theorem Bag.ne {l : Addr} {H : Hp} {b p : Addr} (h : Bag l H b) (hp : H p = none) : p ≠ b := by
  obtain ⟨ns, i, g, s, k, h1, h2, h3, h4⟩ := h
  exact (ne_of_none h2 hp).symm
theorem Bag.nl {l : Addr} {H : Hp} {b p : Addr} (h : Bag l H b) (hp : H p = none) : p ≠ l := by
  obtain ⟨ns, i, g, s, k, h1, h2, h3, h4⟩ := h
  exact (ne_of_none h3 hp).symm
theorem Bag.mut {l : Addr} {H : Hp} {b p : Addr} {o : HO} (h : Bag l H b) (h1 : p ≠ b) (h2 : p ≠ l) : Bag l (upd H p o) b := by
  obtain ⟨ns, i, g, s, k, e1, e2, e3, e4⟩ := h
  exact ⟨ns, i, g, s, k, e1, by rw [upd_ne h1.symm]; exact e2, by rw [upd_ne h2.symm]; exact e3, e4⟩
def spBag (K : PySem.W.Frag) : Sp := fun vs H Q _ => ∃ (a : Addr) (ns : List Int), vs = [.ref a] ∧ SqL K H a (ns.map V.int) ∧ ns.length ≤ 63 ∧ ∀ (l b : Addr) (H' : Hp), H b = none → Same H H' → Bag l H' b → Q (.ref b) H'
/-- one number of the bag, below n -/
def spPull : Sp := fun vs H Q _ => ∃ (l b : Addr) (n : Int), vs = [.ref b, .int n] ∧ 1 ≤ n ∧ n < 2 ^ 100 ∧ Bag l H b ∧ ∀ (r : Int) (H' : Hp), 0 ≤ r → r < n → Kp b H H' → Bag l H' b → Q (.int r) H'
/-- one of some -/
def spOf (K : PySem.W.Frag) : Sp := fun vs H Q _ => ∃ (l b a : Addr) (xs : List V), vs = [.ref b, .ref a] ∧ Bag l H b ∧ ((a ≠ b ∧ H a = some (.lst xs)) ∨ TT K H a xs) ∧ xs ≠ [] ∧ ∀ (x : V) (H' : Hp), x ∈ xs → Kp b H H' → Bag l H' b → Q x H'
def spNum (K : PySem.W.Frag) : Sp := fun vs H Q _ => ∃ n : Int, vs = [.int n] ∧ ∀ (v : V) (H' : Hp), Same H H' → OA K H' v (O.num n) → Q v H'
/-- equal data are the same -/
def spSame (K : PySem.W.Frag) (n : Nat) : Sp := fun vs H Q _ => ∃ (x y : V) (d : PyData), vs = [x, y] ∧ Dp K H x d ∧ Dp K H y d ∧ d.depth < n ∧ ∀ H', Same H H' → Q (.bl true) H'
/-- a drawn ordinal -/
def spOrd (K : PySem.W.Frag) (d : Nat) : Sp := fun vs H Q _ => ∃ (l b : Addr), vs = [.ref b, .int (d : Int)] ∧ Bag l H b ∧ ∀ (o : O) (v : V) (H' : Hp), O.ok o = true → O.dp o ≤ 2 * d + 2 → O.wd o ≤ 3 → OA K H' v o → Kp b H H' → Bag l H' b → Q v H'
theorem cut_map (ns : List Int) (lo hi : Option Int) : ∃ ms : List Int, cutV (ns.map V.int) lo hi = ms.map V.int ∧ ms.length ≤ ns.length := by
  refine ⟨(ns.drop (HT.sIx (ns.map V.int).length 0 lo)).take (HT.sIx (ns.map V.int).length (ns.map V.int).length hi - HT.sIx (ns.map V.int).length 0 lo), ?_, ?_⟩
  · unfold cutV
    rw [List.map_take, List.map_drop]
  · rw [List.length_take, List.length_drop]; omega
/-- a def that keeps its promise, as it is called -/
theorem none_left {P : Program} {w : World} {K : PySem.W.Frag} {mg : Str → Option Value} {base : Heap} {f : Addr} {fd : FuncData} {ps : List Str} {sp : Sp} (no : ∀ vs H Q E, ¬ sp vs H Q E) : FnOk P w K mg base CX0 0 f fd ps sp :=
  ⟨fun vs H Q E h => absurd h (no vs H Q E), fun A outer s H args us vs Q E _ _ _ _ h => absurd h (no vs H Q E)⟩
/-- if, what holds behind the test said once -/
def tIfBy (c : L2.TT) (t u : TS) : TS := fun D σ H => ∃ A B : Hp → Prop, (c σ H fun b H1 => if b = true then A H1 else B H1) ∧ (∀ H1, A H1 → t D σ H1) ∧ ∀ H1, B H1 → u D σ H1
theorem ps_ifBy {X : Cx} {c : Expr} {a b : List Stmt} {tc : L2.TT} {t u : TS} {pos : Pos} (hc : PT X c tc) (ha : PSs X a t) (hb : PSs X b u) : PS X (.If c a b pos) (tIfBy tc t u) := by
  refine ⟨fun pins s σ H D I h => ?_⟩
  obtain ⟨A, B, h, h1, h2⟩ := h
  refine wpAny_If (thn (hc.run pins s σ H _ I h) fun d s1 ⟨H1, I1, q1⟩ => ?_)
  cases d with
  | true =>
    rw [if_pos rfl] at q1
    exact ha.run pins s1 σ H1 D I1 (h1 _ q1)
  | false =>
    rw [if_neg Bool.false_ne_true] at q1
    exact hb.run pins s1 σ H1 D I1 (h2 _ q1)
theorem eqv_nil (l : List PyData) : PyData.eqv (.list l) (.list []) = l.isEmpty := by
  cases l <;> simp [PyData.eqv, PyData.eqvAll]
theorem lay_terms : ∀ l : List (O × Int), PyData.canLayAll0 (l.map O.tD) = true
  | [] => by simp [PyData.canLayAll0]
  | t :: r => by simp [PyData.canLayAll0, O.tD, PyData.canLay0, O.lay_toD, lay_terms r]
theorem depth_terms (n : Nat) : ∀ l : List (O × Int), (∀ t ∈ l, O.dp t.1 + 2 ≤ n) → PyData.depthAll (l.map O.tD) ≤ n
  | [], _ => by simp [PyData.depthAll]
  | t :: r, h => by
    have h1 := h t List.mem_cons_self
    have h2 := depth_terms n r fun x hx => h x (List.mem_cons_of_mem _ hx)
    simp only [List.map_cons, PyData.depthAll, O.tD, PyData.depth, O.depth_toD]
    omega
theorem shaped_terms {l : List (O × Int)} (h : ∀ t ∈ l, O.dp t.1 ≤ 50) : SeqAt.shaped (.list (l.map O.tD)) = true := by
  have := depth_terms 52 l fun t ht => by have := h t ht; omega
  unfold SeqAt.shaped
  rw [show (PyData.list (l.map O.tD)).canLay0 = true by simp [PyData.canLay0, lay_terms], show (PyData.list (l.map O.tD)).depth = PyData.depthAll (l.map O.tD) + 1 by simp [PyData.depth], Bool.true_and, decide_eq_true_eq]
  omega
theorem shaped_nil : SeqAt.shaped (.list []) = true := by unfold SeqAt.shaped; simp [PyData.canLay0, PyData.canLayAll0, PyData.depth, PyData.depthAll]
section
variable {K : PySem.W.Frag} {H : Hp}
theorem TmA.dp {v : V} {t : O × Int} (h : TmA K H v t) : Dp K H v (O.tD t) := by
  obtain ⟨p, q, rfl, h1, h2⟩ := h
  exact .tup h1.sq (.cons h2.dp (.cons (.int _) .nil))
theorem terms_dp : ∀ {xs : List V} {l : List (O × Int)}, Paired (TmA K H) xs l → DpAll K H xs (l.map O.tD)
  | _, _, .nil => .nil
  | _, _, .cons a t => .cons a.dp (terms_dp t)
/-- a list of terms against the empty one -/
theorem rd_eqNil {x y : V} {p p2 : Addr} {xs : List V} {l : List (O × Int)} {Q : VK} (h1 : SqL K H p xs) (h2 : Paired (TmA K H) xs l) (h3 : SqL K H p2 []) (hd : ∀ t ∈ l, O.dp t.1 ≤ 50) (q : Q (.bl l.isEmpty) H) : rEqO K (.ref p) (.ref p2) H Q := by
  unfold rEqO
  refine ⟨_, _, .lst h1 (terms_dp h2), .lst h3 .nil, shaped_terms hd, shaped_nil, ?_⟩
  rw [eqv_nil]
  cases l <;> exact q
theorem rd_neNil {x y : V} {p p2 : Addr} {xs : List V} {l : List (O × Int)} {Q : VK} (h1 : SqL K H p xs) (h2 : Paired (TmA K H) xs l) (h3 : SqL K H p2 []) (hd : ∀ t ∈ l, O.dp t.1 ≤ 50) (q : Q (.bl (!l.isEmpty)) H) : rNeO K (.ref p) (.ref p2) H Q := by
  unfold rNeO
  refine ⟨_, _, .lst h1 (terms_dp h2), .lst h3 .nil, shaped_terms hd, shaped_nil, ?_⟩
  rw [eqv_nil]
  cases l <;> exact q
theorem paired_tp {H' : Hp} (t : Tp H H') {xs : List V} {os : List O} (h : Paired (OA K H) xs os) : Paired (OA K H') xs os := paired_mono (fun _ _ a => a.tp t) h
theorem terms_tp {H' : Hp} (t : Tp H H') {xs : List V} {l : List (O × Int)} (h : Paired (TmA K H) xs l) : Paired (TmA K H') xs l := paired_mono (fun _ _ a => a.tp t) h
theorem TmA.new {p q : Addr} {c : Int} {e : O} (h : OA K H (.ref q) e) (hp : H p = some (.tup [.ref q, .int c])) : TmA K H (.ref p) (e, c) := ⟨p, q, rfl, .of hp, h⟩
end
/-! ### tuples joined, cut -/
section
variable {K : PySem.W.Frag} {H : Hp} {Q : VK}
@[irreducible] def rCatO (K : PySem.W.Frag) : R2 := rCatA K
theorem op_catO {X : Cx} : OpR X (binaryOp .Add) (rCatO X.K) := by unfold rCatO; exact op_catA
theorem rd_cat {a b : Addr} {xs ys : List V} (ha : TT K H a xs) (hb : TT K H b ys) (hz : xs.length + ys.length ≤ 100000) (q : ∀ (p : Addr) (H' : Hp), Same H H' → TT K H' p (xs ++ ys) → Q (.ref p) H') : rCatO K (.ref a) (.ref b) H Q := by
  unfold rCatO
  refine ⟨a, b, xs, ys, rfl, rfl, ha.sq, hb.sq, Nat.le_trans hz (by decide), fun e => q b H (Same.refl H) (by rw [e]; exact hb), fun _ e => q a H (Same.refl H) (by rw [e, List.append_nil]; exact ha), fun _ _ p np => q p _ (same_new np) (.of upd_same)⟩
@[irreducible] def rSlO (K : PySem.W.Frag) : V → Option Int → Option Int → Hp → VK → Prop := rSlA K
theorem sl_tupO {X : Cx} : SlR X (rSlO X.K) := by unfold rSlO; exact sl_tupA
theorem cut_from {α : Type} (xs : List V) (k : Nat) : cutV xs (some (k : Int)) none = xs.drop k := by
  unfold cutV
  rw [HT.sIx_nat, HT.sIx_none]
  rcases Nat.le_total k xs.length with h | h
  · rw [Nat.min_eq_left h, List.take_of_length_le (by rw [List.length_drop]; omega)]
  · rw [Nat.min_eq_right h, List.drop_of_length_le (Nat.le_refl _), List.drop_of_length_le h]; simp
theorem cut_to {α : Type} (xs : List V) (k : Nat) : cutV xs none (some (k : Int)) = xs.take k := by
  unfold cutV
  rw [HT.sIx_nat, HT.sIx_none, List.drop_zero, Nat.sub_zero]
  rcases Nat.le_total k xs.length with h | h
  · rw [Nat.min_eq_left h]
  · rw [Nat.min_eq_right h, List.take_of_length_le h, List.take_of_length_le (Nat.le_refl _)]
theorem rd_sl {a : Addr} {xs : List V} {lo hi : Option Int} (ha : TT K H a xs) (q : ∀ (p : Addr) (H' : Hp), Same H H' → TT K H' p (cutV xs lo hi) → Q (.ref p) H') : rSlO K (.ref a) lo hi H Q := by
  unfold rSlO
  refine ⟨a, xs, rfl, ha.sq, fun e => q a H (Same.refl H) ?_, fun _ p np => q p _ (same_new np) (.of upd_same)⟩
  have : cutV xs lo hi = xs := by
    unfold cutV
    rw [e.1, e.2, List.drop_zero, Nat.sub_zero, List.take_length]
  rw [this]; exact ha
theorem rd_from {a : Addr} {xs : List V} (k : Nat) (ha : TT K H a xs) (q : ∀ (p : Addr) (H' : Hp), Same H H' → TT K H' p (xs.drop k) → Q (.ref p) H') : rSlO K (.ref a) (some (k : Int)) none H Q := rd_sl ha fun p H' s t => q p H' s (by rw [cut_from (α := Nat)] at t; exact t)
theorem rd_to {a : Addr} {xs : List V} (k : Nat) (ha : TT K H a xs) (q : ∀ (p : Addr) (H' : Hp), Same H H' → TT K H' p (xs.take k) → Q (.ref p) H') : rSlO K (.ref a) none (some (k : Int)) H Q := rd_sl ha fun p H' s t => q p H' s (by rw [cut_to (α := Nat)] at t; exact t)
theorem take_filter {α : Type} (l : List α) (f : α → Bool) (i : Nat) (t : α) (h : l[i]? = some t) : (l.take (i + 1)).filter f = (l.take i).filter f ++ (if f t = true then [t] else []) := by
  rw [List.take_add_one, h, List.filter_append]
  congr 1
  show [t].filter f = _
  rw [List.filter_cons]
  split <;> rfl
theorem OA.tt {a : Addr} {o : O} (h : OA K H (.ref a) o) : ∃ vs, TT K H a vs ∧ Paired (TmA K H) vs (O.ts o) := by
  obtain ⟨a', vs, e, h1, h2⟩ := h
  cases e
  exact ⟨vs, h1, h2.pair⟩
theorem TmA.un {v : V} {t : O × Int} (h : TmA K H v t) : ∃ p q, v = .ref p ∧ TT K H p [.ref q, .int t.2] ∧ OA K H (.ref q) t.1 := h
theorem Same.tt {H' : Hp} {a : Addr} {xs : List V} (s : Same H H') (h : TT K H a xs) : TT K H' a xs := h.tp (same_tp s)
theorem OA.same {H' : Hp} {v : V} {o : O} (h : OA K H v o) (s : Same H H') : OA K H' v o := h.tp (same_tp s)
theorem TT.same {H' : Hp} {a : Addr} {xs : List V} (h : TT K H a xs) (s : Same H H') : TT K H' a xs := h.tp (same_tp s)
theorem TmA.same {H' : Hp} {v : V} {t : O × Int} (h : TmA K H v t) (s : Same H H') : TmA K H' v t := h.tp (same_tp s)
theorem terms_same {H' : Hp} {xs : List V} {l : List (O × Int)} (h : Paired (TmA K H) xs l) (s : Same H H') : Paired (TmA K H') xs l := paired_mono (fun _ _ a => a.same s) h
end
/-- the program's sum -/
def spPlus (K : PySem.W.Frag) : Sp := fun vs H Q _ => ∃ (x y : V) (a b : O), vs = [x, y] ∧ OA K H x a ∧ OA K H y b ∧ O.ok a = true ∧ O.dp a ≤ 50 ∧ O.dp b ≤ 50 ∧ (O.ts a).length ≤ 1000 ∧ (O.ts b).length ≤ 1000 ∧ ∀ (v : V) (H' : Hp), Same H H' → OA K H' v (O.sum a b) → Q v H'
/-- a function of one ordinal -/
def spO1 (K : PySem.W.Frag) (g : O → O) : Sp := fun vs H Q _ => ∃ (x : V) (a : O), vs = [x] ∧ OA K H x a ∧ O.ok a = true ∧ O.dp a ≤ 50 ∧ (O.ts a).length ≤ 1000 ∧ ∀ (v : V) (H' : Hp), Same H H' → OA K H' v (g a) → Q v H'
def endO (o : O) : O := match (O.ts o).getLast? with
  | some t => t.1
  | none => .z
theorem endO_last {o : O} {t : O × Int} (h : (O.ts o).getLast? = some t) : endO o = t.1 := by
  unfold endO
  rw [h]
theorem last_ex {o : O} (h : o ≠ .z) : ∃ t, (O.ts o).getLast? = some t := by
  cases o with
  | z => exact absurd rfl h
  | add e c r =>
    cases q : (O.ts (.add e c r)).getLast? with
    | some t => exact ⟨t, rfl⟩
    | none => exact absurd (List.getLast?_eq_none_iff.mp q) (by intro z; cases z)
section
variable {K : PySem.W.Frag} {H : Hp} {Q : VK}
/-- the last term -/
theorem last_term {xs : List V} {l : List (O × Int)} {t : O × Int} (h : Paired (TmA K H) xs l) (ht : l.getLast? = some t) : ∃ p q, atI xs (-1) = some (.ref p) ∧ TT K H p [.ref q, .int t.2] ∧ OA K H (.ref q) t.1 ∧ xs ≠ [] := by
  obtain ⟨v, hv, vt⟩ : ∃ v, xs.getLast? = some v ∧ TmA K H v t := by
    rw [List.getLast?_eq_getElem?] at ht
    obtain ⟨v, h1, h2⟩ := paired_get' h ht
    rw [← paired_len h] at h1
    exact ⟨v, by rw [List.getLast?_eq_getElem?]; exact h1, h2⟩
  obtain ⟨p, q, rfl, g1, g2⟩ := vt
  have hn : xs ≠ [] := fun z => by rw [z] at hv; cases hv
  refine ⟨p, q, ?_, g1, g2, hn⟩
  have : xs = xs.dropLast ++ [.ref p] := by
    rw [List.getLast?_eq_some_getLast hn] at hv
    have := Option.some.inj hv
    rw [← this, List.dropLast_concat_getLast]
  rw [this]; exact atI_last _ _
theorem cut_m1 {α : Type} (xs : List V) : cutV xs none (some (-1)) = xs.dropLast := by
  unfold cutV
  rw [HT.sIx_none, List.drop_zero, Nat.sub_zero]
  have : HT.sIx xs.length xs.length (some (-1)) = xs.length - 1 := by
    show (if (-1 : Int) < 0 then ((-1 : Int) + (xs.length : Int)).toNat else min (-1 : Int).toNat xs.length) = _
    rw [if_pos (by decide)]
    omega
  rw [this, List.dropLast_eq_take]
theorem paired_dropLast {α β : Type} {F : α → β → Prop} {xs : List α} {ys : List β} (h : Paired F xs ys) : Paired F xs.dropLast ys.dropLast := by
  rw [List.dropLast_eq_take, List.dropLast_eq_take, paired_len h]
  exact paired_take _ h
end
/-! ### levels, alternatives -/
section
variable {P : Program} {w : World} {K : PySem.W.Frag} {mg : Str → Option Value} {base : Heap} {f : Addr} {fd : FuncData} {ps : List Str} {k k' : Nat} {x : Str} {sp sp' : Sp}
theorem fn_mono (G : FnOk P w K mg base CX0 k f fd ps sp) (h : k ≤ k') : FnOk P w K mg base CX0 k' f fd ps sp :=
  ⟨G.len, fun A outer s H args us vs Q E a b c e h' => G.run A outer s H args us vs Q E (a.mono h) b c e h'⟩
theorem fn_some {ι : Type} {p : ι → Prop} {sps : ι → Sp} (G : ∀ i, p i → FnOk P w K mg base CX0 k f fd ps (sps i)) : FnOk P w K mg base CX0 k f fd ps (fun vs H Q E => ∃ i, p i ∧ sps i vs H Q E) :=
  ⟨fun vs H Q E ⟨i, hi, h⟩ => (G i hi).len vs H Q E h, fun A outer s H args us vs Q E a b c e ⟨i, hi, h⟩ => (G i hi).run A outer s H args us vs Q E a b c e h⟩
/-- drawn ordinals up to m deep -/
def spOrdTo (K : PySem.W.Frag) (m : Nat) : Sp := fun vs H Q E => ∃ d, d ≤ m ∧ spOrd K d vs H Q E
theorem kb_of {qual : Str} {st : Stmt} {ks : List Str} (F : Fun K x qual st f fd) (g : List Value → List Value → List Value) (gV : List V → List V → List V)
    (rel : ∀ {vs : List V} {us : List Value} {zs : List V} {ws : List Value}, Vals vs us → Vals zs ws → Vals (gV vs zs) (g us ws))
    (h : ∀ (kV doc pm : Value) (an : Option Addr) (cdv ct : Value) (us ws : List Value), (g us ws).length = ps.length → bindArgs (PySem.W.fnOf x qual (defArgs st) (defBody st) (defScope st) .none kV doc pm an cdv ct) ⟨us, ks.zip ws⟩ = pure (ps.zip (g us ws))) : KBinds K fd ps ks g gV := by
  obtain ⟨oc, od, kV, doc, pm, an, cdv, ct, osl, rfl, lk, hcd⟩ := F.ex
  exact ⟨fun s us ws _ hl => .of_eq (h kV doc pm an cdv ct us ws hl), rel⟩
/-- f(b=.., a=..) of a def f(a, b) -/
def swapG {α : Type} : List α → List α → List α
  | [], [a, b] => [b, a]
  | _, _ => []
theorem swap_rel {vs : List V} {us : List Value} {zs : List V} {ws : List Value} (h1 : Vals vs us) (h2 : Vals zs ws) : Vals (swapG vs zs) (swapG us ws) := by
  cases h1 with
  | cons _ _ => exact .nil
  | nil =>
    cases h2 with
    | nil => exact .nil
    | cons a t => cases t with
      | nil => exact .nil
      | cons b u => cases u with
        | nil => exact .cons b (.cons a .nil)
        | cons _ _ => exact .nil
end
end Vw

set_option Elab.async false
set_option linter.all false
set_option maxRecDepth 100000
/-! for i, x in enumerate(t), t a tuple: the layer's own enumerate is for lists -/
namespace PySem
open Sem (wp)
open AutoSeq1 (wpAny_loadPart')
theorem enumT_new (t : Addr) (its : Array Value) (n : Nat) (dd : Option Addr) (sl : Array (Option Value)) :
    Meets (Builtin.«enumerate.__new__» ⟨[.type "enumerate", .ref t], []⟩) (fun _ R s => s.heap.get? t = some { cls := .type "tuple", dict := dd, data := .seq its n, slots := sl } ∧
      R (.ok (.ret (.ref (s.heap.push { cls := .type "tuple_iterator", data := .fields #[.ref t, .int 0 0] }).objs.size)))
        { s with heap := (s.heap.push { cls := .type "tuple_iterator", data := .fields #[.ref t, .int 0 0] }).push { cls := .type "enumerate", data := .fields #[.none, .bool false, .ref s.heap.objs.size, rawInt 0, .none, .none] } }) :=
  .of_wp fun prog w A R s h => by
    obtain ⟨hp, g, d, tk, os⟩ := s
    obtain ⟨ht, h⟩ := h
    have hs1 := sub_enumerate
    have hT : Heap.IsTuple (Shared.heap ⟨hp, g, d, tk, os⟩) t its := ⟨_, ht, rfl, n, rfl⟩
    wp_walk using wpAny_loadPart' ht
    refine wpAny_stack_any fun st => wpAny_pure ?_
    split
    · rename_i c _ _ _ _ _
      cases (c == Value.type "enumerate") <;> (wp_walk using wpAny_loadPart' ht, wpAny_pyIter_tuple hT; exact ⟨_, rfl, h⟩)
    · wp_walk using wpAny_loadPart' ht, wpAny_pyIter_tuple hT
      exact ⟨_, rfl, h⟩
theorem enumT_call {prog : Program} {w : World} {A : Around} {E : Value → Shared → Prop} {s : Shared} {t : Addr} {its : Array Value} {Q : Value → Shared → Prop} (ht : s.heap.IsTuple t its)
    (h : ∀ h', IsEnum h' (s.heap.objs.size + 1) s.heap.objs.size 0 .none → h'.IsTupleIter s.heap.objs.size t 0 → (∀ b o, s.heap.get? b = some o → h'.get? b = some o) → Q (.ref (s.heap.objs.size + 1)) { s with heap := h' }) :
    wpAny (model prog w) A (call (.type "enumerate") [.ref t]) Q E s := by
  obtain ⟨⟨c, dct, dt, sl⟩, hl, hc, n, hd⟩ := ht
  obtain rfl : c = .type "tuple" := hc
  obtain rfl : dt = .seq its n := hd
  refine callType_new F.called_enumerate (by decide) (F.typeCall_enumerate_1 _) (F.newCall_enumerate_1 _) (fun obj => F.args_object_init_2 obj _) F.entry_enumerate_new (enumT_new t its n dct sl) ⟨hl, ?_⟩
  have hz : (s.heap.push { cls := .type "tuple_iterator", data := .fields #[.ref t, .int 0 0] }).objs.size = s.heap.objs.size + 1 := Heap.size_push ..
  have he : IsEnum ((s.heap.push { cls := .type "tuple_iterator", data := .fields #[.ref t, .int 0 0] }).push { cls := .type "enumerate", data := .fields #[.none, .bool false, .ref s.heap.objs.size, rawInt 0, .none, .none] }) (s.heap.objs.size + 1) s.heap.objs.size 0 .none := by
    have q := Heap.get?_push_size (s.heap.push { cls := .type "tuple_iterator", data := .fields #[.ref t, .int 0 0] }) (o := { cls := .type "enumerate", data := .fields #[.none, .bool false, .ref s.heap.objs.size, rawInt 0, .none, .none] }) rfl
    rw [hz] at q
    exact q
  show _ ∧ _
  rw [hz]
  exact ⟨⟨_, he, rfl⟩, h _ he ⟨_, Heap.get?_push_of_some _ (Heap.get?_push_size _ rfl), rfl, rfl⟩ fun b o x => Heap.get?_push_of_some _ (Heap.get?_push_of_some _ x)⟩
end PySem
namespace Vw
open PySem PySem.W PyProof.Rows L2
/-- the tuple at a, each item in a new pair -/
def IteT (K : PySem.W.Frag) (a : Addr) : It :=
  ⟨fun i H => ∃ (xs : List V) (x : V), SqT K H a xs ∧ xs[i]? = some x, fun i H v H' => ∃ T x, v = .ref T ∧ H T = none ∧ H' = upd H T (.tup [.int (i : Nat), x]) ∧ ∀ xs, SqT K H a xs → xs[i]? = some x, fun i H => ∃ xs : List V, SqT K H a xs ∧ xs.length ≤ i⟩
theorem turn_enumT {P : Program} {w : World} {K : PySem.W.Frag} {elts : List Expr} {kk : Nat} {tpos : Pos} (a e it : Addr) (hea : e ≠ a) (hia : a ≠ it) (hei : e ≠ it) :
    Turn P w K (.Tuple elts kk tpos) (IteT K a) [e, it] e (fun i h => (∃ old, IsEnum h e it ((i : Nat) : Int) old) ∧ h.IsTupleIter it a i) where
  mem := List.mem_cons_self
  obj := fun i h st b hb => by
    obtain ⟨⟨old, he⟩, o, ho, hc, hd⟩ := st
    rcases List.mem_cons.mp hb with rfl | hb
    · exact ⟨_, he, fun v q => nomatch q⟩
    · rw [List.mem_singleton.mp hb]
      exact ⟨o, ho, fun v q => by rw [hd] at q; cases q⟩
  keep := fun i h h' st k => ⟨st.1.imp fun old he => k e List.mem_cons_self _ he, st.2.at fun o q => k it (List.mem_cons_of_mem _ (List.mem_singleton.mpr rfl)) o q⟩
  item := by
    intro X hP hw hK hc i pins s σ H E I hf st hg
    subst hP hw hK
    obtain ⟨⟨old, he⟩, hit⟩ := st
    obtain ⟨xs, x, hq, hx⟩ := hg
    obtain ⟨its, rv, p, hz⟩ := I.tuple hq
    have pT : s.heap.IsTuple a its.toArray := p
    have hel : e < s.heap.objs.size := Heap.lt_size he
    have hil : it < s.heap.objs.size := by obtain ⟨_, q, _⟩ := hit; exact Heap.lt_size q
    have hi : i < its.toArray.size := by
      have h1 := (List.getElem?_eq_some_iff.mp hx).1
      have h2 := rv.length
      rw [List.size_toArray]; omega
    refine wpAny_pyNext_enum_itemD (Draws.tuple (prog := X.prog) (w := X.w) (A := X.A.in1) (I.ok.hd hc) it a hia its.toArray) he ⟨hit, pT⟩ hi hei (by simp [hei, hea]) fun u h' tk hu ho hst hT hsz hk => ?_
    have hu' : its[i]? = some u := by simpa using hu
    obtain ⟨u2, hu2, ru⟩ := rv.get hx
    rw [hu'] at hu2
    obtain rfl : u = u2 := Option.some.inj hu2
    refine ⟨_, rfl, wpAny_letOwnedTupleGo_enum (s := { s with heap := h', toks := tk + 1 }) ho fun h'' he' sb => ?_⟩
    have hT2 : h''.get? s.heap.objs.size = some { cls := .type "tuple", data := .seq #[.int i tk, u] } := (sb.2 _ (Nat.ne_of_gt hel)).trans hT
    have new : ObjOk X.prog X.w (upd H s.heap.objs.size (.tup [.int (i : Nat), x])) h'' s.heap.objs.size (.tup [.int (i : Nat), x]) :=
      ⟨by show 2 ≤ sizeLine; decide, [.int i tk, u], .cons ⟨_, rfl⟩ (.cons ru .nil), ⟨_, hT2, rfl, _, rfl⟩⟩
    have I1 : Inv X pins σ (upd H s.heap.objs.size (.tup [.int (i : Nat), x])) { s with heap := h'', toks := tk + 1 } :=
      I.turnedNew (ch := [e, it]) (fun b ob hb q => (sb.2 b (fun z => hb (by simp [z]))).trans (hk b ob (fun z => hb (by simp [z])) (fun z => hb (by simp [z])) q)) hf (Nat.le_refl _) new
    refine ⟨.ref s.heap.objs.size, _, I1, rfl, ⟨_, x, rfl, I.hok.fresh (Nat.le_refl _), rfl, fun ys hy => by rw [I.tuple_inj hy hq]; exact hx⟩, ⟨⟨u, ?_⟩, hst.1.at fun o q => (sb.2 it (Ne.symm hei)).trans q⟩, fun b hb => ?_⟩
    · have e1 : ((i + 1 : Nat) : Int) = (i : Int) + 1 := by omega
      rw [e1]; exact he'
    · have hb' : b < s.heap.objs.size := by
        rcases List.mem_cons.mp hb with rfl | hb
        · exact hel
        · rw [List.mem_singleton.mp hb]; exact hil
      rw [upd_ne (Nat.ne_of_lt hb')]
      exact (hf b hb).1
  done := by
    intro X hP hw hK hc i pins s σ H E I hf st hg
    subst hP hw hK
    obtain ⟨⟨old, he⟩, hit⟩ := st
    obtain ⟨xs, hq, hx⟩ := hg
    obtain ⟨its, rv, p, hz⟩ := I.tuple hq
    have pT : s.heap.IsTuple a its.toArray := p
    obtain ⟨f0, f1, f2, f3, f4, f5⟩ := hf it (List.mem_cons_of_mem _ (List.mem_singleton.mpr rfl))
    have hT : s.TypeIs (.ref e) "enumerate" := ⟨_, he, rfl⟩
    have hl : its.toArray.size ≤ i := by rw [List.size_toArray]; have := rv.length; omega
    -- past the end as at the end
    have D : Draws X.prog X.w X.A.in1 it [it, a] i (fun _ _ => False) (fun j h => j = i ∧ h.IsTupleIter it a i ∧ h.IsTuple a its.toArray) :=
      { live := fun _ _ st => let ⟨o, ho, _⟩ := st.2.1; ⟨o, ho⟩
        frame := fun _ _ _ st hk => ⟨st.1, st.2.1.at fun o e => hk it (by simp) o e, st.2.2.at fun o e => hk a (by simp) o e⟩
        item := fun j s Q E hj st _ => absurd st.1 (Nat.ne_of_lt hj)
        done := fun s Q E st hE => wpAny_nextOf_tuple_end (I.ok.hd hc) st.2.1 st.2.2 (by simpa using hl) hE }
    exact wpAny_pyNext_enum_endD D he ⟨rfl, hit, pT⟩ fun h' eb => ⟨rfl, I.turned (t' := s.toks) (fun b o hb q => eb b o hb q) f0 f1 f3 f4 f5⟩
  self := fun A i s Q E st h => let ⟨⟨_, he⟩, _⟩ := st; wpAny_pyIter_enum he h
def iEnumT (K : PySem.W.Frag) (ta : L2.TA) : TI := fun σ H R => ta σ H fun vs H1 => ∃ a xs, vs = [.ref a] ∧ SqT K H1 a xs ∧ R (IteT K a) H1
theorem pi_enumT {X : Cx} {e : Expr} {ta : L2.TA} {p pos tpos : Pos} {elts : List Expr} {kk : Nat} (hg : Gl X "enumerate") (hm : X.mg "enumerate" = none) (ha : PA X [e] ta) (hs : starEach [e] X.env = [(false, eval e X.env)] := by rfl) :
    PI X (.Tuple elts kk tpos) (.Call (.Name "enumerate" p) [e] [] pos) (iEnumT X.K ta) := by
  refine ⟨fun pins s σ H R I h => ?_⟩
  refine Call_ (ld_blt I hg hm boot_enumerate (PyProof.Rows.callWith_type1 (thn (ha.run pos pins s σ H _ I h) fun us s1 ⟨vs, H1, I1, r1, q1⟩ => ?_) hs rfl))
  obtain ⟨a, xs, rfl, hq, q⟩ := q1
  obtain rfl := Vals.ref1 r1
  obtain ⟨its, rv, p', hz⟩ := I1.tuple hq
  have pT : s1.heap.IsTuple a its.toArray := p'
  have hal : a < s1.heap.objs.size := by obtain ⟨_, q, _⟩ := pT; exact Heap.lt_size q
  refine enumT_call pT fun h' he hit hk => wpAny_pyIter_enum he ?_
  have I2 : Inv X pins σ H1 { s1 with heap := h' } := I1.kept (t' := s1.toks) hk
  refine ⟨s1.heap.objs.size + 1, [s1.heap.objs.size + 1, s1.heap.objs.size], _, _, H1, rfl, I2, turn_enumT a (s1.heap.objs.size + 1) s1.heap.objs.size (fun z => by rw [← z] at hal; exact absurd hal (Nat.not_lt.mpr (Nat.le_succ _))) (Nat.ne_of_lt hal) (Nat.succ_ne_self _), ⟨⟨.none, he⟩, hit⟩, fun b hb => ?_, q⟩
  have hle : s1.heap.objs.size ≤ b := by
    rcases List.mem_cons.mp hb with z | z
    · rw [z]; exact Nat.le_add_right _ _
    · rw [List.mem_singleton.mp z]; exact Nat.le_refl _
  exact I1.fpOk hle (I1.hok.fresh hle)
theorem for_enumT {K : PySem.W.Frag} {a : Addr} {xs : List V} {g : L2.TG} {tb : L2.TS} {D : Ends} {σ : L2.St} {H : Hp} (Pv : Nat → L2.St → Hp → Prop) (h0 : Pv 0 σ H) (hl : ∀ i σ H, i ≤ xs.length → Pv i σ H → SqT K H a xs)
    (hs : ∀ i x T σ H, xs[i]? = some x → Pv i σ H → H T = none → g (.ref T) σ (upd H T (.tup [.int (i : Nat), x])) fun σ2 H2 => tb { D with nx := Pv (i + 1), ct := Pv (i + 1), bk := D.nx } σ2 H2) (hd : ∀ σ H, Pv xs.length σ H → D.nx σ H) :
    ∃ W : Nat → Nat → L2.St → Hp → Prop, (∃ m, W 0 m σ H) ∧ ∀ i m σ H, W i m σ H →
      ((IteT K a).stop i H ∧ D.nx σ H) ∨ ((IteT K a).go i H ∧ ∃ N : L2.St → Hp → Prop, (∀ σ' H', N σ' H' → ∃ m', m' < m ∧ W (i + 1) m' σ' H') ∧ ∀ x H', (IteT K a).yld i H x H' → g x σ H' fun σ2 H2 => tb { D with nx := N, ct := N, bk := D.nx } σ2 H2) := by
  refine ⟨fun i m σ H => m = xs.length - i ∧ i ≤ xs.length ∧ Pv i σ H, ⟨xs.length, by simp, Nat.zero_le _, h0⟩, ?_⟩
  rintro i m σ H ⟨rfl, hi, p⟩
  have q := hl i σ H hi p
  by_cases hlt : i < xs.length
  · refine .inr ⟨⟨xs, xs[i], q, List.getElem?_eq_getElem hlt⟩, Pv (i + 1), fun σ' H' p' => ⟨xs.length - (i + 1), by omega, rfl, hlt, p'⟩, fun v H' y => ?_⟩
    obtain ⟨T, x, rfl, nT, rfl, hx⟩ := y
    exact hs i x T σ H (hx xs q) p nT
  · obtain rfl : i = xs.length := by omega
    exact .inl ⟨⟨xs, q, Nat.le_refl _⟩, hd σ H p⟩
end Vw

set_option Elab.async false
set_option linter.all false
set_option maxRecDepth 100000
namespace Vw
open PySem PySem.W PyProof.Rows L2
namespace O
theorem toDs_inj : ∀ {a b : O}, toDs a = toDs b → a = b
  | z, z, _ => rfl
  | z, add _ _ _, h => by cases h
  | add _ _ _, z, h => by cases h
  | add e c r, add e' c' r', h => by
    simp only [toDs, List.cons.injEq, PyData.tuple.injEq, PyData.int.injEq, and_true] at h
    rw [toDs_inj h.1.1, h.1.2, toDs_inj h.2]
theorem toD_inj {a b : O} (h : toD a = toD b) : a = b := by
  unfold toD at h
  exact toDs_inj (PyData.tuple.inj h)
/-- neighbours descend -/
theorem ok_desc : ∀ {o : O} {i : Nat} {t u : O × Int}, ok o = true → (ts o)[i]? = some t → (ts o)[i + 1]? = some u → lt u.1 t.1 = true
  | z, i, t, u, _, h, _ => by simp [ts] at h
  | add e c r, 0, t, u, hk, h1, h2 => by
    have g := ok_add.mp hk
    have e1 : (e, c) = t := by simpa [ts] using h1
    subst e1
    cases r with
    | z => simp [ts] at h2
    | add e' c' r' =>
      have e2 : (e', c') = u := by simpa [ts] using h2
      subst e2
      exact g.2.2.2
  | add e c r, i + 1, t, u, hk, h1, h2 => ok_desc (o := r) (i := i) (ok_add.mp hk).2.2.1 (by simpa [ts] using h1) (by simpa [ts] using h2)
end O
def IsOrd (d : PyData) : Prop := ∃ o : O, O.toD o = d ∧ O.ok o = true
def IsTerm (d : PyData) : Prop := ∃ (e : O) (c : Int), d = O.tD (e, c) ∧ O.ok e = true ∧ 1 ≤ c
noncomputable def isOrdB (d : PyData) : Bool := open Classical in decide (IsOrd d)
noncomputable def isTermB (d : PyData) : Bool := open Classical in decide (IsTerm d)
def isCntB : PyData → Bool
  | .int n => decide (1 ≤ n)
  | _ => false
open Classical in
theorem isOrd_t {d : PyData} (h : IsOrd d) : isOrdB d = true := by unfold isOrdB; exact decide_eq_true h
open Classical in
theorem isOrd_f {d : PyData} (h : ¬ IsOrd d) : isOrdB d = false := by unfold isOrdB; exact decide_eq_false h
open Classical in
theorem isOrd_of {d : PyData} (h : isOrdB d = true) : IsOrd d := by unfold isOrdB at h; exact of_decide_eq_true h
open Classical in
theorem isTerm_t {d : PyData} (h : IsTerm d) : isTermB d = true := by unfold isTermB; exact decide_eq_true h
open Classical in
theorem isTerm_f {d : PyData} (h : ¬ IsTerm d) : isTermB d = false := by unfold isTermB; exact decide_eq_false h
open Classical in
theorem isTerm_of {d : PyData} (h : isTermB d = true) : IsTerm d := by unfold isTermB at h; exact of_decide_eq_true h
theorem isTerm_no {d : PyData} (h : isTermB d = false) : ¬ IsTerm d := fun z => by rw [isTerm_t z] at h; cases h
theorem isOrd_toD {o : O} (h : O.ok o = true) : isOrdB (O.toD o) = true := isOrd_t ⟨o, rfl, h⟩
theorem isTerm_two (a b : PyData) : isTermB (.tuple [a, b]) = (isCntB b && isOrdB a) := by
  cases h : isCntB b && isOrdB a with
  | true =>
    rw [Bool.and_eq_true] at h
    obtain ⟨o, rfl, ho⟩ := isOrd_of h.2
    cases b with
    | int n => exact isTerm_t ⟨o, n, rfl, ho, of_decide_eq_true h.1⟩
    | _ => cases h.1
  | false =>
    refine isTerm_f fun ⟨e, c, h1, h2, h3⟩ => ?_
    have h4 : a = O.toD e ∧ b = .int c := by simpa [O.tD] using h1
    rw [h4.1, h4.2, isOrd_toD h2, show isCntB (.int c) = true from decide_eq_true h3] at h
    cases h
theorem isTerm_other {d : PyData} (h : ∀ a b, d ≠ .tuple [a, b]) : isTermB d = false := isTerm_f fun ⟨e, c, h1, _⟩ => h _ _ h1
theorem isOrd_other {d : PyData} (h : ∀ ds, d ≠ .tuple ds) : isOrdB d = false := isOrd_f fun ⟨o, h1, _⟩ => h _ h1.symm
/-- the first i terms are right -/
def Pref (ds : List PyData) (l : List (O × Int)) (i : Nat) : Prop := ds.take i = l.map O.tD ∧ O.ok (O.of l) = true ∧ l.length = i
theorem pref_nil (ds : List PyData) : Pref ds [] 0 := ⟨rfl, rfl, rfl⟩
theorem pref_at {ds : List PyData} {l : List (O × Int)} {i j : Nat} (h : Pref ds l i) (hj : j < i) : ∃ t, l[j]? = some t ∧ ds[j]? = some (O.tD t) := by
  obtain ⟨h1, _, h3⟩ := h
  have hl : j < l.length := by omega
  refine ⟨l[j], List.getElem?_eq_getElem hl, ?_⟩
  have : (ds.take i)[j]? = some (O.tD l[j]) := by rw [h1, List.getElem?_map, List.getElem?_eq_getElem hl]; rfl
  rw [List.getElem?_take] at this
  rw [if_pos hj] at this
  exact this
theorem pref_last {ds : List PyData} {l : List (O × Int)} {i : Nat} (h : Pref ds l (i + 1)) : ∃ t, l.getLast? = some t ∧ ds[i]? = some (O.tD t) := by
  obtain ⟨t, h1, h2⟩ := pref_at h (Nat.lt_succ_self i)
  refine ⟨t, ?_, h2⟩
  rw [List.getLast?_eq_getElem?, h.2.2]
  exact h1
theorem pref_step {ds : List PyData} {l : List (O × Int)} {i : Nat} {e : O} {c : Int} (h : Pref ds l i) (hd : ds[i]? = some (O.tD (e, c))) (he : O.ok e = true) (hc : 1 ≤ c) (hl : ∀ t, l.getLast? = some t → O.lt e t.1 = true) : Pref ds (l ++ [(e, c)]) (i + 1) := by
  obtain ⟨h1, h2, h3⟩ := h
  refine ⟨?_, O.ok_snoc l e c h2 he hc hl, by rw [List.length_append, h3]; rfl⟩
  rw [List.take_add_one, hd, h1, List.map_append]
  rfl
theorem ord_term {ds : List PyData} (h : IsOrd (.tuple ds)) {i : Nat} {d : PyData} (hd : ds[i]? = some d) : IsTerm d := by
  obtain ⟨o, h1, h2⟩ := h
  have h3 : O.toDs o = ds := PyData.tuple.inj h1
  rw [← h3, O.toDs_ts, List.getElem?_map] at hd
  obtain ⟨t, ht, rfl⟩ := Option.map_eq_some_iff.mp hd
  have := O.ok_mem h2 (List.mem_of_getElem? ht)
  exact ⟨t.1, t.2, rfl, this.1, this.2⟩
theorem bad_term {ds : List PyData} {i : Nat} {d : PyData} (hd : ds[i]? = some d) (h : ¬ IsTerm d) : isOrdB (.tuple ds) = false := isOrd_f fun z => h (ord_term z hd)
theorem tD_inj {a b : O × Int} (h : O.tD a = O.tD b) : a = b := by
  obtain ⟨e, c⟩ := a
  obtain ⟨e', c'⟩ := b
  have : O.toD e = O.toD e' ∧ c = c' := by simpa [O.tD] using h
  rw [O.toD_inj this.1, this.2]
theorem bad_order {ds : List PyData} {i : Nat} {t u : O × Int} (h1 : ds[i]? = some (O.tD t)) (h2 : ds[i + 1]? = some (O.tD u)) (h : O.lt u.1 t.1 = false) : isOrdB (.tuple ds) = false := isOrd_f fun ⟨o, e1, e2⟩ => by
  have h3 : O.toDs o = ds := PyData.tuple.inj e1
  rw [← h3, O.toDs_ts, List.getElem?_map] at h1 h2
  obtain ⟨t', ht, a1⟩ := Option.map_eq_some_iff.mp h1
  obtain ⟨u', hu, a2⟩ := Option.map_eq_some_iff.mp h2
  have := O.ok_desc e2 ht hu
  rw [tD_inj a1, tD_inj a2, h] at this
  cases this
theorem pref_end {ds : List PyData} {l : List (O × Int)} (h : Pref ds l ds.length) : isOrdB (.tuple ds) = true := by
  obtain ⟨h1, h2, h3⟩ := h
  rw [List.take_length] at h1
  refine isOrd_t ⟨O.of l, ?_, h2⟩
  unfold O.toD
  rw [O.toDs_ts, O.ts_of, h1]
/-! ### comparisons of data that are ordinals -/
section
variable {K : PySem.W.Frag} {H : Hp} {x y : V} {a b : O} {Q : VK}
theorem rd_ltD (ha : Dp K H x (O.toD a)) (hb : Dp K H y (O.toD b)) (h : O.dp a ≤ 60) (q : Q (.bl (O.lt a b)) H) : rCmp (fun d e => dataLt d e) K x y H Q := by
  unfold rCmp
  exact ⟨_, _, ha, hb, O.alike_toD a b, (fun z => by cases z), by rw [O.depth_toD]; omega, by show Q (.bl (dataLt _ _)) H; rw [O.lt_toD]; exact q⟩
theorem rd_gtD (ha : Dp K H x (O.toD a)) (hb : Dp K H y (O.toD b)) (h : O.dp a ≤ 60) (q : Q (.bl (O.lt b a)) H) : rCmp (fun d e => dataLt e d) K x y H Q := by
  unfold rCmp
  exact ⟨_, _, ha, hb, O.alike_toD a b, (fun z => by cases z), by rw [O.depth_toD]; omega, by show Q (.bl (dataLt _ _)) H; rw [O.lt_toD]; exact q⟩
theorem rd_leD (ha : Dp K H x (O.toD a)) (hb : Dp K H y (O.toD b)) (h : O.dp a ≤ 60) (q : Q (.bl (!O.lt b a)) H) : rCmp (fun d e => !dataLt e d) K x y H Q := by
  unfold rCmp
  exact ⟨_, _, ha, hb, O.alike_toD a b, (fun z => by cases z), by rw [O.depth_toD]; omega, by show Q (.bl (!dataLt _ _)) H; rw [O.lt_toD]; exact q⟩
theorem rd_geD (ha : Dp K H x (O.toD a)) (hb : Dp K H y (O.toD b)) (h : O.dp a ≤ 60) (q : Q (.bl (!O.lt a b)) H) : rCmp (fun d e => !dataLt d e) K x y H Q := by
  unfold rCmp
  exact ⟨_, _, ha, hb, O.alike_toD a b, (fun z => by cases z), by rw [O.depth_toD]; omega, by show Q (.bl (!dataLt _ _)) H; rw [O.lt_toD]; exact q⟩
/-- a tuple of data -/
theorem dp_tup {ds : List PyData} (h : Dp K H x (.tuple ds)) : ∃ p xs, x = .ref p ∧ SqT K H p xs ∧ DpAll K H xs ds := by
  cases h with
  | tup h1 h2 => exact ⟨_, _, rfl, h1, h2⟩
theorem dp_list {ds : List PyData} (h : Dp K H x (.list ds)) : ∃ p xs, x = .ref p ∧ SqL K H p xs ∧ DpAll K H xs ds := by
  cases h with
  | lst h1 h2 => exact ⟨_, _, rfl, h1, h2⟩
/-- a pair -/
theorem dp_two {a b : PyData} (h : Dp K H x (.tuple [a, b])) : ∃ p u v, x = .ref p ∧ SqT K H p [u, v] ∧ Dp K H u a ∧ Dp K H v b := by
  obtain ⟨p, xs, rfl, h1, h2⟩ := dp_tup h
  cases h2 with
  | cons g1 t => cases t with
    | cons g2 t2 =>
      cases t2
      exact ⟨p, _, _, rfl, h1, g1, g2⟩
end
theorem depth_tD (t : O × Int) : (O.tD t).depth = O.dp t.1 + 2 := by
  unfold O.tD
  simp only [PyData.depth, PyData.depthAll, O.depth_toD]; omega
def spCnt (K : PySem.W.Frag) : Sp := fun vs H Q _ => ∃ (x : V) (d : PyData), vs = [x] ∧ Dp K H x d ∧ ∀ H', Same H H' → Q (.bl (isCntB d)) H'
def spIsOrd (K : PySem.W.Frag) (n : Nat) : Sp := fun vs H Q _ => ∃ (x : V) (d : PyData), vs = [x] ∧ Dp K H x d ∧ d.depth < n ∧ ∀ H', Same H H' → Q (.bl (isOrdB d)) H'
def spIsTerm (K : PySem.W.Frag) (n : Nat) : Sp := fun vs H Q _ => ∃ (x : V) (d : PyData), vs = [x] ∧ Dp K H x d ∧ d.depth < n ∧ ∀ H', Same H H' → Q (.bl (isTermB d)) H'
end Vw

set_option Elab.async false
set_option linter.all false
set_option maxRecDepth 100000
namespace Vw
open PySem PySem.W PyProof.Rows L2
namespace O
theorem endO_z : endO z = z := rfl
theorem endO_one (e : O) (c : Int) : endO (add e c z) = e := rfl
theorem endO_add (e : O) (c : Int) {r : O} (h : r ≠ z) : endO (add e c r) = endO r := by
  cases r with
  | z => exact absurd rfl h
  | add e2 c2 r2 =>
    unfold endO
    show (match ((e, c) :: (e2, c2) :: ts r2).getLast? with | some t => t.1 | none => z) = _
    rw [List.getLast?_cons_cons]
    rfl
/-- the power e, once -/
def pw (e : O) : O := add e 1 z
theorem ok_pw {e : O} (h : ok e = true) : ok (pw e) = true := ok_add.mpr ⟨h, Int.le_refl _, rfl, rfl⟩
theorem end_sum (e : O) (c : Int) : ∀ a : O, endO (sum a (add e c z)) = e
  | z => by rw [z_sum]; rfl
  | add e1 c1 r1 => by
    by_cases q : e1 = e
    · subst q; rw [sum_eq]; rfl
    · rcases lt_total e1 e q with k | k
      · rw [sum_lt k]; rfl
      · rw [sum_gt k, endO_add _ _ (sum_add_ne r1 e c z)]
        exact end_sum e c r1
/-- all exponents are at least the end -/
theorem end_le : ∀ {a : O} {t : O × Int}, ok a = true → t ∈ ts a → lt t.1 (endO a) = false
  | z, t, _, h => by cases h
  | add e c z, t, _, h => by
    rcases List.mem_cons.mp h with q | q
    · subst q; exact lt_irrefl _
    · cases q
  | add e c (add e2 c2 r2), t, hk, h => by
    have g := ok_add.mp hk
    rw [endO_add _ _ (by intro q; cases q)]
    rcases List.mem_cons.mp h with q | q
    · subst q
      have h1 := end_le (a := add e2 c2 r2) (t := (e2, c2)) g.2.2.1 List.mem_cons_self
      exact ge_trans (b := e2) (lt_asymm g.2.2.2) h1
    · exact end_le g.2.2.1 q
theorem end_mem : ∀ {a : O}, a ≠ z → ∃ c, (endO a, c) ∈ ts a
  | z, h => absurd rfl h
  | add e c z, _ => ⟨c, List.mem_cons_self⟩
  | add e c (add e2 c2 r2), _ => by
    obtain ⟨c', h⟩ := end_mem (a := add e2 c2 r2) (by intro q; cases q)
    rw [endO_add _ _ (by intro q; cases q)]
    exact ⟨c', List.mem_cons_of_mem _ h⟩
theorem ok_end : ∀ {a : O}, ok a = true → ok (endO a) = true := fun {a} h => by
  by_cases q : a = z
  · subst q; rfl
  · obtain ⟨c, hc⟩ := end_mem q
    exact (ok_mem h hc).1
theorem dp_end (a : O) : dp (endO a) ≤ dp a := by
  by_cases q : a = z
  · subst q; exact Nat.le_refl _
  · obtain ⟨c, hc⟩ := end_mem q
    have := dp_mem hc
    show dp (endO a, c).1 ≤ _
    omega
/-- the least ordinal at least a whose end is at least e -/
def raisedO (a e : O) : O := if lt (endO a) e = true then sum a (pw e) else a
theorem ok_raised {a e : O} (h : ok a = true) (h2 : ok e = true) : ok (raisedO a e) = true := by
  unfold raisedO
  split
  · exact ok_sum _ _ h (ok_pw h2)
  · exact h
theorem dp_raised (a e : O) : dp (raisedO a e) ≤ max (dp a) (dp e + 2) := by
  unfold raisedO
  split
  · have := dp_sum a (pw e)
    have h2 : dp (pw e) = max (dp e + 2) 0 := rfl
    omega
  · omega
theorem len_raised (a e : O) : (ts (raisedO a e)).length ≤ (ts a).length + 1 := by
  unfold raisedO
  split
  · exact len_sum a (pw e)
  · omega
theorem end_raised (a e : O) : lt (endO (raisedO a e)) e = false := by
  unfold raisedO
  split
  · rw [pw, end_sum]; exact lt_irrefl _
  · rename_i h; exact Bool.eq_false_iff.mpr h
theorem raised_ge {a e : O} (h : ok a = true) (h2 : ok e = true) : lt (raisedO a e) a = false := by
  unfold raisedO
  split
  · exact sum_ge_left h (ok_pw h2)
  · exact lt_irrefl _
/-- what has an end of at least e and something before it is at least the power -/
theorem pw_le {x e : O} (hx : ok x = true) (he : lt z e = true) (h : lt (endO x) e = false) : lt x (pw e) = false := by
  cases x with
  | z => rw [endO_z, he] at h; cases h
  | add e2 c2 r2 =>
    have g := ok_add.mp hx
    have h1 := end_le hx (t := (e2, c2)) List.mem_cons_self
    have h2 : lt e2 e = false := ge_trans h1 h
    show (if e2 = e then (if c2 = 1 then lt r2 z else decide (c2 < 1)) else lt e2 e) = false
    split
    · split
      · exact not_lt_nil _
      · exact decide_eq_false (by omega)
    · exact h2
/-- no ordinal between would do -/
theorem raised_least : ∀ {a x e : O}, ok a = true → ok x = true → lt (endO a) e = true → lt x a = false → lt (endO x) e = false → lt x (sum a (pw e)) = false
  | z, x, e, _, hx, h1, _, h3 => by rw [z_sum]; exact pw_le hx h1 h3
  | add e1 c1 r1, x, e, ha, hx, h1, h2, h3 => by
    have ga := ok_add.mp ha
    have ez : lt z e = true := by
      by_cases q : e = z
      · subst q; rw [not_lt_nil] at h1; cases h1
      · exact nil_lt q
    cases x with
    | z => cases h2
    | add e2 c2 r2 =>
      have gx := ok_add.mp hx
      have e2e : lt e2 e = false := ge_trans (end_le hx (t := (e2, c2)) List.mem_cons_self) h3
      by_cases q : e1 = e
      · subst q
        have hr1 : r1 ≠ z := fun z1 => by subst z1; rw [endO_one, lt_irrefl] at h1; cases h1
        show lt _ (sum (add e1 c1 r1) (add e1 1 z)) = false
        rw [sum_eq]
        by_cases q2 : e2 = e1
        · subst q2
          have hr2 : r2 = z := by
            cases r2 with
            | z => rfl
            | add e5 c5 r5 =>
              have h5 := end_le hx (t := (e5, c5)) (List.mem_cons_of_mem _ List.mem_cons_self)
              have := ge_trans h5 h3
              rw [show lt e5 e2 = true from gx.2.2.2] at this
              cases this
          subst hr2
          have hc : ¬ c2 ≤ c1 := fun hc => by
            have : lt (add e2 c2 z) (add e2 c1 r1) = true := by
              by_cases hcc : c2 = c1
              · subst hcc; rw [lt_rest]; exact nil_lt hr1
              · exact lt_cnt (by omega)
            rw [h2] at this; cases this
          by_cases hcc : c2 = c1 + 1
          · subst hcc; rw [lt_irrefl]
          · exact lt_asymm (lt_cnt (by omega))
        · exact lt_asymm (lt_head (lt_of_ge e2e q2))
      · rcases lt_total e1 e q with k | k
        · show lt _ (sum (add e1 c1 r1) (add e 1 z)) = false
          rw [sum_lt k]
          exact pw_le hx ez h3
        · have hr1 : r1 ≠ z := fun z1 => by subst z1; rw [endO_one, lt_asymm k] at h1; cases h1
          rw [endO_add _ _ hr1] at h1
          show lt _ (sum (add e1 c1 r1) (add e 1 z)) = false
          rw [sum_gt k]
          by_cases q2 : e2 = e1
          · subst q2
            by_cases hcc : c2 = c1
            · subst hcc
              rw [lt_rest] at h2 ⊢
              have hr2 : r2 ≠ z := fun z2 => by
                subst z2
                rw [nil_lt hr1] at h2; cases h2
              rw [endO_add _ _ hr2] at h3
              exact raised_least ga.2.2.1 gx.2.2.1 h1 h2 h3
            · by_cases hc : c2 < c1
              · rw [lt_cnt hc] at h2; cases h2
              · exact lt_asymm (lt_cnt (by omega))
          · have h5 : lt e2 e1 = false := by
              cases h6 : lt e2 e1 with
              | false => rfl
              | true => rw [lt_head h6] at h2; cases h2
            exact lt_asymm (lt_head (lt_of_ge h5 q2))
/-- the terms at least e -/
def keep (e a : O) : O := of ((ts a).filter fun t => !lt t.1 e)
theorem keep_add (e e1 : O) (c1 : Int) (r1 : O) : keep e (add e1 c1 r1) = if lt e1 e = true then keep e r1 else add e1 c1 (keep e r1) := by
  unfold keep
  show of (((e1, c1) :: ts r1).filter _) = _
  rw [List.filter_cons]
  cases lt e1 e <;> rfl
theorem keep_none {e : O} : ∀ {r : O}, (∀ t ∈ ts r, lt t.1 e = true) → keep e r = z
  | r, h => by
    unfold keep
    rw [filter_none fun x hx => by rw [h x hx]; rfl]
    rfl
theorem ts_keep (e a : O) : ts (keep e a) = (ts a).filter fun t => !lt t.1 e := ts_of _
theorem under_keep {x e : O} : ∀ {a : O}, ok a = true → under x a = true → under x (keep e a) = true
  | z, _, _ => rfl
  | add e1 c1 r1, h, hu => by
    have g := ok_add.mp h
    rw [keep_add]
    split
    · refine under_keep g.2.2.1 ?_
      cases r1 with
      | z => rfl
      | add e2 c2 r2 => exact lt_trans _ _ _ g.2.2.2 hu
    · exact hu
theorem ok_keep {e : O} : ∀ {a : O}, ok a = true → ok (keep e a) = true
  | z, _ => rfl
  | add e1 c1 r1, h => by
    have g := ok_add.mp h
    rw [keep_add]
    split
    · exact ok_keep g.2.2.1
    · exact ok_add.mpr ⟨g.1, g.2.1, ok_keep g.2.2.1, under_keep g.2.2.1 g.2.2.2⟩
theorem dp_keep (e : O) : ∀ a : O, dp (keep e a) ≤ dp a
  | z => Nat.le_refl _
  | add e1 c1 r1 => by
    have := dp_keep e r1
    rw [keep_add]
    split
    · show _ ≤ max _ _; omega
    · show max _ _ ≤ max _ _; omega
theorem len_keep (e a : O) : (ts (keep e a)).length ≤ (ts a).length := by
  rw [ts_keep]; exact List.length_filter_le _ _
/-- the sum forgets the terms below -/
theorem sum_keep {e : O} {c : Int} {r : O} : ∀ {a : O}, ok a = true → sum (keep e a) (add e c r) = sum a (add e c r)
  | z, _ => rfl
  | add e1 c1 r1, h => by
    have g := ok_add.mp h
    rw [keep_add]
    by_cases k : lt e1 e = true
    · rw [if_pos k, sum_lt k, sum_keep g.2.2.1]
      have : ∀ t ∈ ts r1, lt t.1 e = true := fun t ht => lt_trans _ _ _ (under_all g.2.2.1 g.2.2.2 t ht) k
      rw [← sum_keep g.2.2.1, keep_none this, z_sum]
    · rw [if_neg k]
      by_cases q : e1 = e
      · subst q; rw [sum_eq, sum_eq]
      · have k2 : lt e e1 = true := lt_of_ge (Bool.eq_false_iff.mpr k) q
        rw [sum_gt k2, sum_gt k2, sum_keep g.2.2.1]
theorem keep_all {e : O} : ∀ {a : O}, (∀ t ∈ ts a, lt t.1 e = false) → keep e a = a
  | z, _ => rfl
  | add e1 c1 r1, h => by
    rw [keep_add, h (e1, c1) List.mem_cons_self, if_neg Bool.false_ne_true, keep_all fun t ht => h t (List.mem_cons_of_mem _ ht)]
/-- what the law's own raising does -/
theorem raised_law {a e : O} (ha : ok a = true) : (if e = z ∨ (keep e a = a ∧ a ≠ z) then a else sum (keep e a) (pw e)) = raisedO a e := by
  unfold raisedO
  by_cases he : e = z
  · rw [if_pos (.inl he)]
    subst he
    rw [not_lt_nil, if_neg Bool.false_ne_true]
  · by_cases hz : a = z
    · subst hz
      rw [if_neg (fun h => h.elim he fun h => h.2 rfl), endO_z, if_pos (nil_lt he)]
      rfl
    · cases k : lt (endO a) e with
      | false =>
        have : keep e a = a := keep_all fun t ht => ge_trans (end_le ha ht) k
        rw [if_pos (.inr ⟨this, hz⟩), if_neg Bool.false_ne_true]
      | true =>
        have : keep e a ≠ a := fun h => by
          obtain ⟨c, hc⟩ := end_mem hz
          have hc2 : (endO a, c) ∈ (ts a).filter fun t => !lt t.1 e := by rw [← ts_keep, h]; exact hc
          have := (List.mem_filter.mp hc2).2
          rw [show lt (endO a, c).1 e = true from k] at this
          cases this
        rw [if_neg (fun h => h.elim he fun h => this h.1), if_pos rfl]
        exact sum_keep ha
/-- the first terms -/
theorem ok_take : ∀ (a : O) (k : Nat), ok a = true → ok (of ((ts a).take k)) = true
  | _, 0, _ => rfl
  | z, _ + 1, _ => rfl
  | add e c r, k + 1, h => by
    have g := ok_add.mp h
    refine ok_add.mpr ⟨g.1, g.2.1, ok_take r k g.2.2.1, ?_⟩
    cases r with
    | z => cases k <;> rfl
    | add e2 c2 r2 => cases k with
      | zero => rfl
      | succ k => exact g.2.2.2
theorem dp_take (a : O) (k : Nat) : dp (of ((ts a).take k)) ≤ dp a := dp_of _ _ fun t ht => dp_mem (List.mem_of_mem_take ht)
theorem len_take (a : O) (k : Nat) : (ts (of ((ts a).take k))).length ≤ (ts a).length := by
  rw [ts_of, List.length_take]; omega
/-- so many times the power -/
def pwN (e : O) (n : Int) : O := if n = 0 then z else add e n z
end O
def spPow (K : PySem.W.Frag) : Sp := fun vs H Q _ => ∃ (x : V) (e : O) (n : Int), vs = [x, .int n] ∧ OA K H x e ∧ ∀ (v : V) (H' : Hp), Same H H' → OA K H' v (O.pwN e n) → Q v H'
/-- a function of two ordinals -/
def spO2 (K : PySem.W.Frag) (g : O → O → O) : Sp := fun vs H Q _ => ∃ (x y : V) (a b : O), vs = [x, y] ∧ OA K H x a ∧ OA K H y b ∧ O.ok a = true ∧ O.ok b = true ∧ O.dp a ≤ 46 ∧ O.dp b ≤ 46 ∧ (O.ts a).length ≤ 900 ∧ (O.ts b).length ≤ 900 ∧ ∀ (v : V) (H' : Hp), Same H H' → OA K H' v (g a b) → Q v H'
end Vw

set_option Elab.async false
set_option linter.all false
set_option maxRecDepth 100000
namespace Vw
open PySem PySem.W PyProof.Rows L2
namespace O
/-- what makes b when it is added to a -/
def gap : O → O → O
  | z, b => b
  | add _ _ _, z => z
  | add e c r, add e' c' r' => if e = e' then (if c = c' then gap r r' else add e' (c' - c) r') else add e' c' r'
theorem ok_gap : ∀ {a b : O}, ok a = true → ok b = true → lt a b = true → ok (gap a b) = true
  | z, b, _, hb, _ => by cases b <;> exact hb
  | add _ _ _, z, _, _, _ => rfl
  | add e c r, add e' c' r', ha, hb, h => by
    have ga := ok_add.mp ha
    have gb := ok_add.mp hb
    unfold gap
    simp only [lt] at h
    split
    · rename_i he; rw [if_pos he] at h
      split
      · rename_i hc; rw [if_pos hc] at h
        exact ok_gap ga.2.2.1 gb.2.2.1 h
      · rename_i hc; rw [if_neg hc] at h
        have := of_decide_eq_true h
        exact ok_add.mpr ⟨gb.1, by omega, gb.2.2.1, gb.2.2.2⟩
    · exact hb
theorem gap_ne : ∀ {a b : O}, lt a b = true → gap a b ≠ z
  | z, b, h => by cases b <;> first | (cases h; done) | (intro q; cases q)
  | add e c r, z, h => by cases h
  | add e c r, add e' c' r', h => by
    unfold gap
    simp only [lt] at h
    split
    · rename_i he; rw [if_pos he] at h
      split
      · rename_i hc; rw [if_pos hc] at h
        exact gap_ne h
      · intro q; cases q
    · intro q; cases q
/-- the exponents of the gap are exponents of b -/
theorem gap_exp : ∀ {a b : O} {t : O × Int}, t ∈ ts (gap a b) → ∃ c, (t.1, c) ∈ ts b
  | z, b, t, h => ⟨t.2, by cases b <;> exact h⟩
  | add e c r, z, t, h => by cases h
  | add e c r, add e' c' r', t, h => by
    unfold gap at h
    split at h
    · split at h
      · obtain ⟨c2, h2⟩ := gap_exp h
        exact ⟨c2, List.mem_cons_of_mem _ h2⟩
      · rcases List.mem_cons.mp h with q | q
        · subst q; exact ⟨c', List.mem_cons_self⟩
        · exact ⟨t.2, List.mem_cons_of_mem _ q⟩
    · exact ⟨t.2, h⟩
theorem sum_gap : ∀ {a b : O}, ok a = true → ok b = true → lt a b = true → sum a (gap a b) = b
  | z, b, _, _, _ => by cases b <;> (unfold gap; rw [z_sum])
  | add _ _ _, z, _, _, h => by cases h
  | add e c r, add e' c' r', ha, hb, h => by
    have ga := ok_add.mp ha
    have gb := ok_add.mp hb
    unfold gap
    simp only [lt] at h
    split
    · rename_i he; rw [if_pos he] at h
      subst he
      split
      · rename_i hc; rw [if_pos hc] at h
        subst hc
        have ih := sum_gap ga.2.2.1 gb.2.2.1 h
        have hne := gap_ne h
        cases hg : gap r r' with
        | z => exact absurd hg hne
        | add e2 c2 r2 =>
          rw [hg] at ih
          obtain ⟨c5, h5⟩ := gap_exp (a := r) (b := r') (t := (e2, c2)) (by rw [hg]; exact List.mem_cons_self)
          have := under_all gb.2.2.1 gb.2.2.2 _ h5
          rw [sum_gt this, ih]
      · rename_i hc; rw [if_neg hc] at h
        rw [sum_eq]
        congr 1
        omega
    · rename_i he; rw [if_neg he] at h
      rw [sum_lt h]
theorem dp_gap (a b : O) : dp (gap a b) ≤ dp b := by
  rw [← of_ts (gap a b)]
  refine dp_of _ _ fun t ht => ?_
  obtain ⟨c, h⟩ := gap_exp ht
  exact dp_mem (t := (t.1, c)) h
theorem len_gap : ∀ a b : O, (ts (gap a b)).length ≤ (ts b).length
  | z, b => by cases b <;> exact Nat.le_refl _
  | add _ _ _, z => Nat.zero_le _
  | add e c r, add e' c' r' => by
    unfold gap
    split
    · split
      · have := len_gap r r'; show _ ≤ (ts r').length + 1; omega
      · exact Nat.le_refl _
    · exact Nat.le_refl _
/-- the exponent of the first term -/
def headE : O → O
  | z => z
  | add e _ _ => e
theorem dp_headE (a : O) : dp (headE a) ≤ dp a := by
  cases a with
  | z => exact Nat.le_refl _
  | add e c r => show dp e ≤ max (dp e + 2) (dp r); omega
theorem ok_headE {a : O} (h : ok a = true) : ok (headE a) = true := by
  cases a with
  | z => rfl
  | add e c r => exact (ok_add.mp h).1
theorem len_headE {a : O} : (ts (headE a)).length ≤ wd a := by
  cases a with
  | z => exact Nat.zero_le _
  | add e c r =>
    have := len_wd e
    show (ts e).length ≤ max (wd e) (max ((ts r).length + 1) (wd r)); omega
def maxO (a b : O) : O := if lt a b = true then b else a
theorem maxO_ge1 (a b : O) : lt (maxO a b) a = false := by
  unfold maxO; split
  · rename_i h; exact lt_asymm h
  · exact lt_irrefl _
theorem maxO_ge2 (a b : O) : lt (maxO a b) b = false := by
  unfold maxO; split
  · exact lt_irrefl _
  · rename_i h; exact Bool.eq_false_iff.mpr h
theorem maxO_or (a b : O) : maxO a b = a ∨ maxO a b = b := by unfold maxO; split <;> simp
theorem maxO_le {a b c : O} (h1 : lt c a = false) (h2 : lt c b = false) : lt c (maxO a b) = false := by
  rcases maxO_or a b with h | h <;> rw [h] <;> assumption
/-- the least ordinal above the ends of all from a on, before b -/
def endLim (a b : O) : O := maxO (sum (endO a) one) (if gap a b = pw (headE (gap a b)) then headE (gap a b) else sum (headE (gap a b)) one)
theorem succ_ne (a : O) : sum a one ≠ z := sum_add_ne _ _ _ _
theorem succ_le {a b : O} (ha : ok a = true) (hb : ok b = true) (h : lt a b = true) : lt b (sum a one) = false := lt_succ_iff a b ha hb h
theorem lt_of_succ {a b : O} (ha : ok a = true) (h : lt b (sum a one) = false) : lt a b = true := lt_ge (lt_succ ha) h
theorem pw_lt {e x : O} (h : lt e (headE x) = true) : lt (pw e) x = true := by
  cases x with
  | z => rw [show headE z = z from rfl, not_lt_nil] at h; cases h
  | add e2 c2 r2 => exact lt_head h
theorem lt_pw {e x : O} (hx : x ≠ z) (h : lt (headE x) e = true) : lt x (pw e) = true := by
  cases x with
  | z => exact absurd rfl hx
  | add e2 c2 r2 => exact lt_head h
theorem pw_head {x : O} (hx : ok x = true) (hz : x ≠ z) : lt x (pw (headE x)) = false := by
  cases x with
  | z => exact absurd rfl hz
  | add e c r =>
    have g := ok_add.mp hx
    show lt (add e c r) (add e 1 z) = false
    by_cases hc : c = 1
    · subst hc; rw [lt_rest]; exact not_lt_nil _
    · exact lt_asymm (lt_cnt (by omega))
section
variable {a b : O} (ha : ok a = true) (hb : ok b = true) (h : lt a b = true)
include ha hb h
theorem lim_gt : lt (endO a) (endLim a b) = true := lt_of_succ (ok_end ha) (maxO_ge1 _ _)
theorem lim_ne : endLim a b ≠ z := fun q => by
  have := lim_gt ha hb h
  rw [q, not_lt_nil] at this; cases this
/-- the raised one is not before b -/
theorem lim_raised : lt (raisedO a (endLim a b)) b = false := by
  unfold raisedO
  rw [if_pos (lim_gt ha hb h)]
  have hg := ok_gap ha hb h
  have e := sum_gap ha hb h
  have hF : ok (endLim a b) = true := by
    unfold endLim
    rcases maxO_or (sum (endO a) one) (if gap a b = pw (headE (gap a b)) then headE (gap a b) else sum (headE (gap a b)) one) with q | q <;> rw [q]
    · exact ok_sum _ _ (ok_end ha) ok_one
    · split
      · exact ok_headE hg
      · exact ok_sum _ _ (ok_headE hg) ok_one
  have key : lt (pw (endLim a b)) (gap a b) = false := by
    have h2 := maxO_ge2 (sum (endO a) one) (if gap a b = pw (headE (gap a b)) then headE (gap a b) else sum (headE (gap a b)) one)
    have h2 : lt (endLim a b) (if gap a b = pw (headE (gap a b)) then headE (gap a b) else sum (headE (gap a b)) one) = false := h2
    split at h2
    · rename_i hp
      rw [hp]
      have hh : headE (pw (headE (gap a b))) = headE (gap a b) := rfl
      by_cases q : endLim a b = headE (gap a b)
      · rw [q]; exact lt_irrefl _
      · exact lt_asymm (lt_head (lt_of_ge h2 q))
    · exact lt_asymm (lt_pw (gap_ne h) (lt_of_succ (ok_headE hg) h2))
  have m := sum_mono_iff ha (ok_pw hF) hg
  rw [e] at m
  rw [m]; exact key
/-- the least such -/
theorem lim_least {e : O} (he : ok e = true) (hz : e ≠ z) (hr : lt (raisedO a e) b = false) : lt e (endLim a b) = false := by
  have hg := ok_gap ha hb h
  have es := sum_gap ha hb h
  unfold raisedO at hr
  split at hr
  · rename_i h1
    have m := sum_mono_iff ha (ok_pw he) hg
    rw [es, hr] at m
    have m : lt (pw e) (gap a b) = false := m.symm
    refine maxO_le (succ_le (ok_end ha) he h1) ?_
    have h3 : lt e (headE (gap a b)) = false := by
      cases q : lt e (headE (gap a b)) with
      | false => rfl
      | true => rw [pw_lt q] at m; cases m
    split
    · exact h3
    · rename_i hp
      refine succ_le (ok_headE hg) he (lt_of_ge h3 fun q => hp ?_)
      subst q
      exact eq_of (pw_head hg (gap_ne h)) m
  · rw [h] at hr; cases hr
/-- it is among the exponents of b, their successors, and 1 -/
theorem lim_some : endLim a b = one ∨ (∃ c, (endLim a b, c) ∈ ts b) ∨ ∃ e c, (e, c) ∈ ts b ∧ endLim a b = sum e one := by
  have hg := ok_gap ha hb h
  have hne := gap_ne h
  obtain ⟨c0, h0⟩ : ∃ c, (headE (gap a b), c) ∈ ts b := by
    cases q : gap a b with
    | z => exact absurd q hne
    | add e c r => exact gap_exp (a := a) (t := (e, c)) (by rw [q]; exact List.mem_cons_self)
  rcases maxO_or (sum (endO a) one) (if gap a b = pw (headE (gap a b)) then headE (gap a b) else sum (headE (gap a b)) one) with q | q
  · have q : endLim a b = sum (endO a) one := q
    by_cases hz : a = z
    · subst hz; left; rw [q]; rfl
    · right
      by_cases h5 : lt (endO a) (headE (gap a b)) = true
      · -- then the successor of the end is at most the head
        have h6 := succ_le (ok_end ha) (ok_headE hg) h5
        have h7 := maxO_ge2 (sum (endO a) one) (if gap a b = pw (headE (gap a b)) then headE (gap a b) else sum (headE (gap a b)) one)
        have h7 : lt (endLim a b) (if gap a b = pw (headE (gap a b)) then headE (gap a b) else sum (headE (gap a b)) one) = false := h7
        rw [q] at h7
        split at h7
        · have := eq_of h6 h7
          left
          refine ⟨c0, ?_⟩
          rw [q, ← this]; exact h0
        · have := lt_of_succ (ok_headE hg) h7
          rw [h6] at this; cases this
      · right
        have h5 := Bool.eq_false_iff.mpr h5
        -- the end of a stays an exponent of b
        obtain ⟨c, hc⟩ : ∃ c, (endO a, c) ∈ ts b := by
          rw [← sum_gap ha hb h]
          cases q2 : gap a b with
          | z => exact absurd q2 hne
          | add e2 c2 r2 =>
            rw [q2] at h5
            obtain ⟨c1, m1⟩ := end_mem hz
            by_cases q3 : endO a = e2
            · clear q h5 hg hne h0 q2
              have : ∀ x : O, ∃ c, (e2, c) ∈ ts (sum x (add e2 c2 r2)) := fun x => by
                induction x with
                | z => exact ⟨c2, by rw [z_sum]; exact List.mem_cons_self⟩
                | add e c r _ ih =>
                  by_cases k : e = e2
                  · subst k; rw [sum_eq]; exact ⟨_, List.mem_cons_self⟩
                  · rcases lt_total e e2 k with k | k
                    · rw [sum_lt k]; exact ⟨_, List.mem_cons_self⟩
                    · rw [sum_gt k]
                      obtain ⟨c', h'⟩ := ih
                      exact ⟨c', List.mem_cons_of_mem _ h'⟩
              rw [q3]; exact this a
            · have k : lt e2 (endO a) = true := lt_of_ge h5 q3
              have : ∀ x : O, ok x = true → (endO a, c1) ∈ ts x → (endO a, c1) ∈ ts (sum x (add e2 c2 r2)) := fun x hx hm => by
                induction x with
                | z => cases hm
                | add e c r _ ih =>
                  have gx := ok_add.mp hx
                  have k2 : lt e2 e = true := by
                    rcases List.mem_cons.mp hm with k3 | k3
                    · cases k3; exact k
                    · exact lt_trans _ _ _ k (under_all gx.2.2.1 gx.2.2.2 _ k3)
                  rw [sum_gt k2]
                  rcases List.mem_cons.mp hm with k3 | k3
                  · rw [k3]; exact List.mem_cons_self
                  · exact List.mem_cons_of_mem _ (ih gx.2.2.1 k3)
              exact ⟨c1, this a ha m1⟩
        exact ⟨_, _, hc, q⟩
  · have q : endLim a b = (if gap a b = pw (headE (gap a b)) then headE (gap a b) else sum (headE (gap a b)) one) := q
    right
    split at q
    · left; exact ⟨c0, by rw [q]; exact h0⟩
    · right; exact ⟨_, _, h0, q⟩
/-- none from a on before b ends so -/
theorem lim_above {x : O} (hx : ok x = true) (h1 : lt x a = false) (h2 : lt x b = true) : lt (endO x) (endLim a b) = true := by
  cases q : lt (endO x) (endLim a b) with
  | true => rfl
  | false =>
    have h3 := raised_least ha hx (lim_gt ha hb h) h1 q
    have h4 := lim_raised ha hb h
    unfold raisedO at h4
    rw [if_pos (lim_gt ha hb h)] at h4
    rw [ge_trans h3 h4] at h2; cases h2
end
end O
end Vw

set_option Elab.async false
set_option linter.all false
set_option maxRecDepth 100000
namespace Vw
open PySem PySem.W PyProof.Rows L2
/-! ### max(a, b), min(list) of ordinals -/
theorem O.alikeAll (os : List O) : AlikeAll (os.map O.toD) :=
  ⟨fun x hx y hy => by
    obtain ⟨a, _, rfl⟩ := List.mem_map.mp hx
    obtain ⟨b, _, rfl⟩ := List.mem_map.mp hy
    exact O.alike_toD a b, fun x hx e => by
    obtain ⟨a, _, rfl⟩ := List.mem_map.mp hx
    cases e⟩
theorem O.depthAll {n : Nat} : ∀ {os : List O}, (∀ o ∈ os, O.dp o ≤ n) → PyData.depthAll (os.map O.toD) ≤ n + 1
  | [], _ => Nat.zero_le _
  | o :: r, h => by
    have h1 := h o List.mem_cons_self
    have h2 := O.depthAll (os := r) fun x hx => h x (List.mem_cons_of_mem _ hx)
    show max (O.toD o).depth (PyData.depthAll (r.map O.toD)) ≤ n + 1
    rw [O.depth_toD]
    omega
section
variable {prog : Program} {w : World} {A : Around} {E : Value → Shared → Prop} {s : Shared}
theorem max_two_data {u v : Value} {d e : PyData} {as bs : List Addr} {Q : Value → Shared → Prop} (hh : A.handled = none) (r1 : Reads s.heap u d as) (r2 : Reads s.heap v e bs) (ha : AlikeAll [d, e]) (hu : A.units + 1 + PyData.depthAll [d, e] < cLine)
    (h : ∀ h' tk, (∀ b o, s.heap.get? b = some o → h'.get? b = some o) → Q (if dataLt d e = true then v else u) { s with heap := h', toks := tk }) : wpAny (model prog w) A (call (.builtin "max") [u, v]) Q E s := by
  have hname : (toString "max" ++ toString ".loop" : String) = "max.loop" := by decide
  refine call_function_tree F.kind_max F.plain_max F.entry_max (F.args_max2 _ _) ?_
  show wpAny _ A.in1 (Builtin.Builtins.bindParams "max" ["key", "default"] 0 ⟨[], []⟩ >>= _) _ _ s
  refine wpAny_bind (wpAny_of_eq (show Builtin.Builtins.bindParams "max" ["key", "default"] 0 ⟨[], []⟩ = pure [none, none] from rfl) ?_)
  show wpAny _ A.in1 (newTuple [u, v] >>= _) _ _ s
  refine wpAny_bind (wpAny_newObj_type ?_)
  have hT : (s.heap.push { cls := .type "tuple", data := .seq #[u, v] }).IsTuple s.heap.objs.size #[u, v] := ⟨_, Heap.get?_push_size _ rfl, rfl, 0, rfl⟩
  have hold : ∀ b o, s.heap.get? b = some o → (s.heap.push { cls := .type "tuple", data := .seq #[u, v] }).get? b = some o := fun b o e => Heap.get?_push_of_some _ e
  have hr : ReadsAll (s.heap.push { cls := .type "tuple", data := .seq #[u, v] }) (#[u, v] : Array Value).toList [d, e] (as ++ (bs ++ [])) := .cons (reads_keeps hold r1) (.cons (reads_keeps hold r2) .nil)
  refine wpAny_bind (iter_tupleW (A := A.in1) (s := { s with heap := s.heap.push { cls := .type "tuple", data := .seq #[u, v] } }) hh hT fun s₂ es W st hfp hw hk => ?_)
  refine wpAny_bind (wpAny_newObj_type ?_)
  have hSf : s₂.heap.objs.size ∉ [(s.heap.push { cls := .type "tuple", data := .seq #[u, v] }).objs.size, s.heap.objs.size] := fun hm => Nat.lt_irrefl _ (hfp _ hm)
  have hcmp := cmpIn_gt (prog := prog) (w := w) (A := A.in1) (s := { s with heap := s.heap.push { cls := .type "tuple", data := .seq #[u, v] } }) (vs := #[u, v]) hr ha (by show A.units + 1 + _ < _; exact hu)
  rw [hname]
  refine wpAny_pure ⟨plainId_quiet F.plain_max_loop _, codeAny_max_loop_firstH W (s.heap.push { cls := .type "tuple", data := .seq #[u, v] }) hw _ hcmp s₂.heap.objs.size hSf (fresh_in hk) _ (show 0 < 2 by decide) (fun b o e => Heap.get?_push_of_some _ (hk b o e)) (W.frame 0 s₂ _ s₂.toks st (Nat.le_refl _) fun b _ o e => Heap.get?_push_of_some _ e) (Heap.get?_push_size _ rfl) fun x s' hP hm => ?_⟩
  have hm := Moved.drop_new (tk := s₂.toks) hm (Nat.le_refl _)
  obtain ⟨h', tk, rfl, hk'⟩ := moved_old es rfl hm
  have q := h h' tk fun b o e => hk' b o (hold b o e)
  have hv : x = if dataLt d e = true then v else u := by
    have hP' : (#[u, v] : Array Value)[argBest (fun i j => dataLt ([d, e].getD j .none) ([d, e].getD i .none)) 1]? = some x := hP
    have hb : argBest (fun i j => dataLt ([d, e].getD j .none) ([d, e].getD i .none)) 1 = if dataLt d e = true then 1 else 0 := rfl
    rw [hb] at hP'
    by_cases g : dataLt d e = true
    · rw [if_pos g] at hP' ⊢; exact (Option.some.inj hP').symm
    · rw [if_neg g] at hP' ⊢; exact (Option.some.inj hP').symm
  rw [hv]; exact q
theorem min_list_at {l : Addr} {vs : Array Value} {x : PyData} {xs : List PyData} {as : List Addr} {Q : Value → Shared → Prop} (hh : A.handled = none) (hl : s.heap.IsList l vs) (hr : ReadsAll s.heap vs.toList (x :: xs) as) (ha : AlikeAll (x :: xs)) (hu : A.units + 1 + PyData.depthAll (x :: xs) < cLine)
    (h : ∀ (i : Nat) v h' tk, vs[i]? = some v → (x :: xs).getD i .none = minD x xs → (∀ b o, s.heap.get? b = some o → h'.get? b = some o) → Q v { s with heap := h', toks := tk }) :
    wpAny (model prog w) A (call (.builtin "min") [.ref l]) Q E s := by
  have hn : vs.size = xs.length + 1 := readsAll_len hr
  refine call_min_walkH (iter_listW (A := A.in1) hh hl fun s₂ e W st hfp hw hk => ?_)
  refine ⟨_, _, _, _, _, _, _, s.heap, _, rfl, W, st, hfp, by omega, hw, hk, cmpIn_lt (A := A.in1) hr ha (by show A.units + 1 + _ < _; exact hu), fun v s' hP m => ?_⟩
  obtain ⟨h', tk, rfl, hk'⟩ := moved_old e rfl m
  have e1 : vs.size - 1 = xs.length := by omega
  have e2 := (argBest_fold dataLt PyData.none x xs xs.length (Nat.le_refl _)).2
  rw [List.take_length] at e2
  refine h _ v h' tk hP ?_ hk'
  rw [e1]
  exact e2
end
def minO (x : O) (xs : List O) : O := xs.foldl (fun a y => if O.lt y a = true then y else a) x
theorem minD_toD (x : O) : ∀ xs : List O, minD (O.toD x) (xs.map O.toD) = O.toD (minO x xs) := fun xs => by
  unfold minD minO
  induction xs generalizing x with
  | nil => rfl
  | cons y ys ih =>
    rw [List.map_cons, List.foldl_cons, List.foldl_cons, O.lt_toD, ← ih]
    congr 1
    split <;> rfl
theorem minO_le : ∀ (xs : List O) (x : O), O.lt x (minO x xs) = false ∧ ∀ y ∈ xs, O.lt y (minO x xs) = false
  | [], x => ⟨O.lt_irrefl _, fun y h => by cases h⟩
  | y :: ys, x => by
    have ih := minO_le ys (if O.lt y x = true then y else x)
    have e : minO x (y :: ys) = minO (if O.lt y x = true then y else x) ys := rfl
    rw [e]
    by_cases g : O.lt y x = true
    · rw [if_pos g] at ih ⊢
      refine ⟨O.ge_trans (O.lt_asymm g) ih.1, fun z hz => ?_⟩
      rcases List.mem_cons.mp hz with h | h
      · subst h; exact ih.1
      · exact ih.2 z h
    · rw [if_neg g] at ih ⊢
      refine ⟨ih.1, fun z hz => ?_⟩
      rcases List.mem_cons.mp hz with h | h
      · subst h; exact O.ge_trans (Bool.eq_false_iff.mpr g) ih.1
      · exact ih.2 z h
theorem vals_at : ∀ {xs : List V} {us : List Value} {i : Nat} {u : Value}, Vals xs us → us[i]? = some u → ∃ x, xs[i]? = some x ∧ RelV x u
  | _, _, _, _, .nil, h => by simp at h
  | _, _, 0, _, .cons a t, h => by
    simp at h; subst h
    exact ⟨_, rfl, a⟩
  | _, _, i + 1, _, .cons a t, h => by
    obtain ⟨x, h1, h2⟩ := vals_at (i := i) t (by simpa using h)
    exact ⟨x, by simpa using h1, h2⟩
theorem dpAll_of {K : PySem.W.Frag} {H : Hp} : ∀ {xs : List V} {os : List O}, Paired (OA K H) xs os → DpAll K H xs (os.map O.toD)
  | _, _, .nil => .nil
  | _, _, .cons a t => .cons a.dp (dpAll_of t)
@[irreducible] def rMaxO (K : PySem.W.Frag) : List V → Hp → VK → Prop := fun vs H Q => ∃ (x y : V) (a b : O), vs = [x, y] ∧ OA K H x a ∧ OA K H y b ∧ O.dp a ≤ 60 ∧ O.dp b ≤ 60 ∧ Q (if O.lt a b = true then y else x) H
@[irreducible] def rMinO (K : PySem.W.Frag) : List V → Hp → VK → Prop := fun vs H Q => ∃ (l : Addr) (xs : List V) (os : List O), vs = [.ref l] ∧ SqL K H l xs ∧ Paired (OA K H) xs os ∧ os ≠ [] ∧ (∀ o ∈ os, O.dp o ≤ 60) ∧ ∀ (v : V) (m : O), m ∈ os → OA K H v m → (∀ o ∈ os, O.lt o m = false) → Q v H
section
variable {X : Cx}
theorem cr_maxO (hc : X.calm = true) (hu : X.A.units + 64 < cLine) : CallR X (.builtin "max") (rMaxO X.K) := by
  intro pins s σ H vs us Q I r h
  unfold rMaxO at h
  obtain ⟨x, y, a, b, rfl, hx, hy, da, db, q⟩ := h
  obtain ⟨u, v, rfl, rx, ry⟩ := vals2 r
  obtain ⟨as, r1⟩ := Dp.reads I _ x u hx.dp rx
  obtain ⟨bs, r2⟩ := Dp.reads I _ y v hy.dp ry
  have hd := O.depthAll (n := 60) (os := [a, b]) fun o ho => by
    simp only [List.mem_cons, List.not_mem_nil, or_false] at ho
    rcases ho with h | h <;> subst h <;> assumption
  have hd : PyData.depthAll [O.toD a, O.toD b] ≤ 61 := hd
  refine max_two_data (I.ok.hd hc) r1 r2 (O.alikeAll [a, b]) (by omega) fun h' tk hk => ⟨_, H, I.kept hk, ?_, q⟩
  rw [O.lt_toD]
  split <;> assumption
theorem cr_minO (hc : X.calm = true) (hu : X.A.units + 64 < cLine) : CallR X (.builtin "min") (rMinO X.K) := by
  intro pins s σ H vs us Q I r h
  unfold rMinO at h
  obtain ⟨l, xs, os, rfl, hs, hp, hne, hd, q⟩ := h
  obtain rfl := Vals.ref1 r
  obtain ⟨its, rv, hl, hz⟩ := I.list hs
  obtain ⟨as, ra⟩ := Dp.readsAll I _ _ _ (dpAll_of hp) rv
  have hdd := O.depthAll hd
  cases os with
  | nil => exact absurd rfl hne
  | cons o os =>
    refine min_list_at (I.ok.hd hc) hl.isList ra (O.alikeAll (o :: os)) (by show X.A.units + 1 + PyData.depthAll ((o :: os).map O.toD) < cLine; omega) fun i v h' tk hv hm hk => ?_
    rw [minD_toD] at hm
    have hv : its[i]? = some v := by simpa using hv
    obtain ⟨y, hy, ry⟩ := vals_at rv hv
    obtain ⟨m, hm2, om⟩ := paired_get hp hy
    have e : ((o :: os).map O.toD).getD i .none = O.toD m := by
      rw [List.getD_eq_getElem?_getD, List.getElem?_map, hm2]; rfl
    have e : O.toD o :: os.map O.toD = (o :: os).map O.toD := rfl
    rw [e, List.getD_eq_getElem?_getD, List.getElem?_map, hm2] at hm
    have hm : m = minO o os := O.toD_inj hm
    have hle := minO_le os o
    refine ⟨y, H, I.kept hk, ry, q y m (List.mem_of_getElem? hm2) om fun z hz => ?_⟩
    rw [hm]
    rcases List.mem_cons.mp hz with h | h
    · subst h; exact hle.1
    · exact hle.2 z h
end
section
variable {K : PySem.W.Frag} {H : Hp} {Q : VK}
theorem rd_max {x y : V} {a b : O} (hx : OA K H x a) (hy : OA K H y b) (da : O.dp a ≤ 60) (db : O.dp b ≤ 60) (q : ∀ v, OA K H v (O.maxO a b) → Q v H) : rMaxO K [x, y] H Q := by
  unfold rMaxO
  refine ⟨x, y, a, b, rfl, hx, hy, da, db, q _ ?_⟩
  unfold O.maxO
  split <;> assumption
theorem rd_min {l : Addr} {xs : List V} {os : List O} (hs : SqL K H l xs) (hp : Paired (OA K H) xs os) (hd : ∀ o ∈ os, O.dp o ≤ 60) (hn : os ≠ []) (q : ∀ v m, m ∈ os → OA K H v m → (∀ o ∈ os, O.lt o m = false) → Q v H) : rMinO K [.ref l] H Q := by
  unfold rMinO
  exact ⟨l, xs, os, rfl, hs, hp, hn, hd, q⟩
end
end Vw

set_option Elab.async false
set_option linter.all false
set_option maxRecDepth 100000
namespace Vw
open PySem PySem.W PyProof.Rows L2
namespace O
theorem drop_cons {a : O} {i : Nat} {t : O × Int} (h : (ts a)[i]? = some t) : of ((ts a).drop i) = add t.1 t.2 (of ((ts a).drop (i + 1))) := by
  obtain ⟨hi, e⟩ := List.getElem?_eq_some_iff.mp h
  rw [List.drop_eq_getElem_cons hi, e]
  rfl
theorem drop_nil {a : O} {i : Nat} (h : (ts a)[i]? = none) : of ((ts a).drop i) = z := by
  rw [List.drop_eq_nil_iff.mpr (List.getElem?_eq_none_iff.mp h)]
  rfl
/-- what the walk over equal terms keeps -/
def GapAt (a b : O) (i : Nat) : Prop := gap a b = gap (of ((ts a).drop i)) (of ((ts b).drop i)) ∧ lt (of ((ts a).drop i)) (of ((ts b).drop i)) = true
theorem GapAt.zero {a b : O} (h : lt a b = true) : GapAt a b 0 := by
  unfold GapAt
  rw [List.drop_zero, List.drop_zero, of_ts, of_ts]
  exact ⟨rfl, h⟩
theorem GapAt.other {a b : O} {i : Nat} {t : O × Int} (g : GapAt a b i) (h : (ts a)[i]? = some t) : ∃ t', (ts b)[i]? = some t' := by
  cases q : (ts b)[i]? with
  | some t' => exact ⟨t', rfl⟩
  | none =>
    have := g.2
    rw [drop_nil q, not_lt_nil] at this
    cases this
theorem GapAt.next {a b : O} {i : Nat} {t : O × Int} (g : GapAt a b i) (h : (ts a)[i]? = some t) (h2 : (ts b)[i]? = some t) : GapAt a b (i + 1) := by
  obtain ⟨g1, g2⟩ := g
  rw [drop_cons h, drop_cons h2] at g1 g2
  rw [lt_rest] at g2
  refine ⟨g1.trans ?_, g2⟩
  show (if t.1 = t.1 then (if t.2 = t.2 then _ else _) else _) = _
  rw [if_pos rfl, if_pos rfl]
theorem GapAt.short {a b : O} {i : Nat} (g : GapAt a b i) (h : (ts a)[i]? = none) : gap a b = of ((ts b).drop i) := by
  obtain ⟨g1, _⟩ := g
  rw [g1, drop_nil h]
  cases of ((ts b).drop i) <;> rfl
theorem GapAt.count {a b : O} {i : Nat} {t t' : O × Int} (g : GapAt a b i) (h : (ts a)[i]? = some t) (h2 : (ts b)[i]? = some t') (n : t ≠ t') (e : t.1 = t'.1) : gap a b = of ((t'.1, t'.2 - t.2) :: (ts b).drop (i + 1)) := by
  obtain ⟨g1, _⟩ := g
  rw [g1, drop_cons h, drop_cons h2]
  show (if t.1 = t'.1 then (if t.2 = t'.2 then _ else _) else _) = _
  rw [if_pos e, if_neg fun e2 => n (Prod.ext e e2)]
  rfl
theorem GapAt.exp {a b : O} {i : Nat} {t t' : O × Int} (g : GapAt a b i) (h : (ts a)[i]? = some t) (h2 : (ts b)[i]? = some t') (e : t.1 ≠ t'.1) : gap a b = of ((ts b).drop i) := by
  obtain ⟨g1, _⟩ := g
  rw [g1, drop_cons h, drop_cons h2]
  show (if t.1 = t'.1 then (if t.2 = t'.2 then _ else _) else _) = _
  rw [if_neg e]
theorem sum_exp : ∀ {a b : O} {t : O × Int}, t ∈ ts (sum a b) → (∃ c, (t.1, c) ∈ ts a) ∨ ∃ c, (t.1, c) ∈ ts b
  | a, z, t, h => by rw [sum_z] at h; exact .inl ⟨t.2, h⟩
  | z, b, t, h => by rw [z_sum] at h; exact .inr ⟨t.2, h⟩
  | add e c r, add e' c' r', t, h => by
    by_cases q : e = e'
    · subst q
      rw [sum_eq] at h
      rcases List.mem_cons.mp h with k | k
      · subst k; exact .inl ⟨c, List.mem_cons_self⟩
      · exact .inr ⟨t.2, List.mem_cons_of_mem _ k⟩
    · rcases lt_total e e' q with k | k
      · rw [sum_lt k] at h; exact .inr ⟨t.2, h⟩
      · rw [sum_gt k] at h
        rcases List.mem_cons.mp h with k2 | k2
        · subst k2; exact .inl ⟨c, List.mem_cons_self⟩
        · rcases sum_exp k2 with ⟨c2, h2⟩ | h2
          · exact .inl ⟨c2, List.mem_cons_of_mem _ h2⟩
          · exact .inr h2
theorem wd_sum (a b : O) : wd (sum a b) ≤ wd a + wd b := by
  rw [← of_ts (sum a b)]
  refine wd_of _ _ ?_ fun t ht => ?_
  · have := len_sum a b
    have := len_wd a
    have := len_wd b
    omega
  · rcases sum_exp ht with ⟨c, h⟩ | ⟨c, h⟩
    · have : wd t.1 ≤ wd a := wd_mem (t := (t.1, c)) h
      omega
    · have : wd t.1 ≤ wd b := wd_mem (t := (t.1, c)) h
      omega
theorem wd_pw (e : O) : wd (pw e) ≤ wd e + 1 := by
  show max (wd e) (max (0 + 1) 0) ≤ _
  omega
theorem wd_raised (a e : O) : wd (raisedO a e) ≤ wd a + wd e + 1 := by
  unfold raisedO
  split
  · have := wd_sum a (pw e)
    have := wd_pw e
    omega
  · omega
theorem wd_take (a : O) (k : Nat) : wd (of ((ts a).take k)) ≤ wd a := by
  refine wd_of _ _ ?_ fun t ht => wd_mem (List.mem_of_mem_take ht)
  have := len_wd a
  rw [List.length_take]; omega
theorem wd_end (a : O) : wd (endO a) ≤ wd a := by
  by_cases q : a = z
  · subst q; exact Nat.le_refl _
  · obtain ⟨c, hc⟩ := end_mem q
    exact wd_mem hc
theorem dp_max (a b : O) : dp (maxO a b) ≤ max (dp a) (dp b) := by
  rcases maxO_or a b with h | h <;> rw [h] <;> omega
theorem wd_max (a b : O) : wd (maxO a b) ≤ max (wd a) (wd b) := by
  rcases maxO_or a b with h | h <;> rw [h] <;> omega
theorem wd_headE (a : O) : wd (headE a) ≤ wd a := by
  cases a with
  | z => exact Nat.le_refl _
  | add e c r => show wd e ≤ max (wd e) _; omega
theorem wd_gap (a b : O) : wd (gap a b) ≤ wd b := by
  rw [← of_ts (gap a b)]
  refine wd_of _ _ ?_ fun t ht => ?_
  · have := len_gap a b
    have := len_wd b
    omega
  · obtain ⟨c, h⟩ := gap_exp ht
    exact wd_mem (t := (t.1, c)) h
theorem dp_lim (a b : O) : dp (endLim a b) ≤ max (max (dp a) (dp b)) 2 := by
  unfold endLim
  have h1 := dp_max (sum (endO a) one) (if gap a b = pw (headE (gap a b)) then headE (gap a b) else sum (headE (gap a b)) one)
  have h2 := dp_sum (endO a) one
  have h3 := dp_end a
  have h4 : dp one = 2 := by decide
  have h5 := dp_headE (gap a b)
  have h6 := dp_gap a b
  have h7 := dp_sum (headE (gap a b)) one
  by_cases hp : gap a b = pw (headE (gap a b))
  · rw [if_pos hp] at h1 ⊢; omega
  · rw [if_neg hp] at h1 ⊢; omega
theorem wd_lim (a b : O) : wd (endLim a b) ≤ wd a + wd b + 1 := by
  unfold endLim
  have h1 := wd_max (sum (endO a) one) (if gap a b = pw (headE (gap a b)) then headE (gap a b) else sum (headE (gap a b)) one)
  have h2 := wd_sum (endO a) one
  have h3 := wd_end a
  have h4 : wd one = 1 := by decide
  have h5 := wd_headE (gap a b)
  have h6 := wd_gap a b
  have h7 := wd_sum (headE (gap a b)) one
  by_cases hp : gap a b = pw (headE (gap a b))
  · rw [if_pos hp] at h1 ⊢; omega
  · rw [if_neg hp] at h1 ⊢; omega
end O
theorem eqv_tD (s t : O × Int) : PyData.eqv (O.tD s) (O.tD t) = decide (s = t) := by
  obtain ⟨a, c⟩ := s
  obtain ⟨b, d⟩ := t
  unfold O.tD
  simp only [PyData.eqv, PyData.eqvAll, O.eqv_toD, Bool.and_true, Prod.mk.injEq, Bool.decide_and]
  rfl
theorem shaped_tD {t : O × Int} (h : O.dp t.1 ≤ 50) : SeqAt.shaped (O.tD t) = true := by
  have h1 := O.lay_toD t.1
  have h2 := O.depth_toD t.1
  unfold SeqAt.shaped O.tD
  simp only [PyData.canLay0, PyData.canLayAll0, PyData.depth, PyData.depthAll, h1, h2, Bool.and_true, Bool.true_and, decide_eq_true_eq]
  omega
theorem rd_eqT {K : PySem.W.Frag} {H : Hp} {x y : V} {s t : O × Int} {Q : VK} (ha : TmA K H x s) (hb : TmA K H y t) (h : O.dp s.1 ≤ 50) (h2 : O.dp t.1 ≤ 50) (q : Q (.bl (decide (s = t))) H) : rEqO K x y H Q := by
  unfold rEqO
  exact ⟨_, _, ha.dp, hb.dp, shaped_tD h, shaped_tD h2, by rw [eqv_tD]; exact q⟩
/-- a function of one ordinal and a greater one -/
def spLim (K : PySem.W.Frag) (g : O → O → O) : Sp := fun vs H Q _ => ∃ (x y : V) (a b : O), vs = [x, y] ∧ OA K H x a ∧ OA K H y b ∧ O.ok a = true ∧ O.ok b = true ∧ O.lt a b = true ∧ O.dp a ≤ 40 ∧ O.dp b ≤ 40 ∧ O.wd a ≤ 400 ∧ O.wd b ≤ 400 ∧ ∀ (v : V) (H' : Hp), Same H H' → OA K H' v (g a b) → Q v H'
end Vw

set_option Elab.async false
set_option linter.all false
set_option maxRecDepth 100000
namespace Vw
open PySem PySem.W PyProof.Rows L2
/-! ### rows -/
def RowA (K : PySem.W.Frag) (H : Hp) (v : V) (os : List O) : Prop := ∃ a xs, v = .ref a ∧ TT K H a xs ∧ Paired (OA K H) xs os
def rowD (os : List O) : PyData := .tuple (os.map O.toD)
theorem eqvAll_toD : ∀ os ps : List O, PyData.eqvAll (os.map O.toD) (ps.map O.toD) = decide (os = ps)
  | [], [] => by simp [PyData.eqvAll]
  | [], p :: ps => by simp [PyData.eqvAll]
  | o :: os, [] => by simp [PyData.eqvAll]
  | o :: os, p :: ps => by
    simp only [List.map_cons, PyData.eqvAll, eqvAll_toD os ps, O.eqv_toD, List.cons.injEq, Bool.decide_and]
theorem eqv_rowD (os ps : List O) : PyData.eqv (rowD os) (rowD ps) = decide (os = ps) := by
  unfold rowD
  simp only [PyData.eqv, eqvAll_toD]
theorem lay_all : ∀ os : List O, PyData.canLayAll0 (os.map O.toD) = true
  | [] => rfl
  | o :: os => by simp only [List.map_cons, PyData.canLayAll0, O.lay_toD, lay_all os, Bool.and_self]
theorem shaped_rowD {os : List O} (h : ∀ o ∈ os, O.dp o ≤ 50) : SeqAt.shaped (rowD os) = true := by
  have h1 := lay_all os
  have h2 := O.depthAll h
  unfold SeqAt.shaped rowD
  rw [Bool.and_eq_true, decide_eq_true_eq]
  refine ⟨by simp only [PyData.canLay0, h1], ?_⟩
  have : (PyData.tuple (os.map O.toD)).depth = PyData.depthAll (os.map O.toD) + 1 := by simp only [PyData.depth]
  omega
/-- what the ordinals of a drawn row are -/
def Good (os : List O) : Prop := ∀ o ∈ os, O.ok o = true ∧ O.dp o ≤ 14 ∧ O.wd o ≤ 12
theorem Good.dp {os : List O} (h : Good os) : ∀ o ∈ os, O.dp o ≤ 50 := fun o ho => by have := (h o ho).2.1; omega
theorem Good.take {os : List O} (h : Good os) (k : Nat) : Good (os.take k) := fun o ho => h o (List.mem_of_mem_take ho)
theorem Good.app {os ps : List O} (h : Good os) (h2 : Good ps) : Good (os ++ ps) := fun o ho => (List.mem_append.mp ho).elim (h o) (h2 o)
section
variable {K : PySem.W.Frag} {H H' : Hp} {v x y : V} {os ps : List O} {Q : VK}
theorem RowA.tp (t : Tp H H') (h : RowA K H v os) : RowA K H' v os := by
  obtain ⟨a, xs, rfl, h1, h2⟩ := h
  exact ⟨a, xs, rfl, h1.tp t, paired_tp t h2⟩
theorem RowA.same (h : RowA K H v os) (s : Same H H') : RowA K H' v os := h.tp (same_tp s)
theorem RowA.dp (h : RowA K H v os) : Dp K H v (rowD os) := by
  obtain ⟨a, xs, rfl, h1, h2⟩ := h
  exact .tup h1.sq (dpAll_of h2)
theorem RowA.of {a : Addr} {xs : List V} (h : TT K H a xs) (p : Paired (OA K H) xs os) : RowA K H (.ref a) os := ⟨a, xs, rfl, h, p⟩
theorem rd_eqRow (hx : RowA K H x os) (hy : RowA K H y ps) (g : Good os) (g2 : Good ps) (q : Q (.bl (decide (os = ps))) H) : rEqO K x y H Q := by
  unfold rEqO
  exact ⟨_, _, hx.dp, hy.dp, shaped_rowD g.dp, shaped_rowD g2.dp, by rw [eqv_rowD]; exact q⟩
theorem rd_eqNilO {p p2 : Addr} {xs : List V} (h1 : SqL K H p xs) (h2 : Paired (OA K H) xs os) (h3 : SqL K H p2 []) (g : Good os) (q : Q (.bl os.isEmpty) H) : rEqO K (.ref p) (.ref p2) H Q := by
  unfold rEqO
  refine ⟨_, _, .lst h1 (dpAll_of h2), .lst h3 .nil, ?_, shaped_nil, ?_⟩
  · have e1 := lay_all os
    have e2 := O.depthAll g.dp
    unfold SeqAt.shaped
    rw [Bool.and_eq_true, decide_eq_true_eq]
    refine ⟨by simp only [PyData.canLay0, e1], ?_⟩
    have : (PyData.list (os.map O.toD)).depth = PyData.depthAll (os.map O.toD) + 1 := by simp only [PyData.depth]
    omega
  · rw [eqv_nil]
    cases os <;> exact q
end
/-- what is_below says -/
def below (k : Nat) (os ps : List O) : Bool := decide (os.take k = ps.take k) && O.lt (ps.getD k .z) (os.getD k .z)
theorem below_trans {k : Nat} {os ps qs : List O} (h1 : below k os ps = true) (h2 : below k ps qs = true) : below k os qs = true := by
  unfold below at *
  rw [Bool.and_eq_true, decide_eq_true_eq] at *
  exact ⟨h1.1.trans h2.1, O.lt_trans _ _ _ h2.2 h1.2⟩
theorem below_low {k j : Nat} {os ps qs : List O} (h1 : below k os ps = true) (hj : j < k) : below j os qs = below j ps qs := by
  unfold below at *
  rw [Bool.and_eq_true, decide_eq_true_eq] at h1
  have e1 : os.take j = ps.take j := by
    have := congrArg (List.take j) h1.1
    rw [List.take_take, List.take_take, Nat.min_eq_left (by omega)] at this
    exact this
  have e2 : os.getD j .z = ps.getD j .z := by
    have := congrArg (fun l => l[j]?) h1.1
    simp only [List.getElem?_take, if_pos hj] at this
    rw [List.getD_eq_getElem?_getD, List.getD_eq_getElem?_getD, this]
  rw [e1, e2]
@[irreducible] def spBelow (K : PySem.W.Frag) : Sp := fun vs H Q _ => ∃ (x y : V) (os ps : List O) (k m : Nat), vs = [.int (k : Nat), x, y] ∧ RowA K H x os ∧ RowA K H y ps ∧ Good os ∧ Good ps ∧ os.length = m ∧ ps.length = m ∧ k < m ∧ ∀ H', Same H H' → Q (.bl (below k os ps)) H'
/-- each ordinal but the first is at most the end of the one before -/
def Steps (os : List O) : Prop := ∀ i o p, os[i]? = some o → os[i + 1]? = some p → O.lt (endO o) p = false
theorem steps_nil : Steps [] := fun i o p h => by cases h
theorem steps_one (o : O) : Steps [o] := fun i o p h h2 => by
  cases i <;> cases h2
theorem steps_cons {o p : O} {os : List O} (h : O.lt (endO o) p = false) (hs : Steps (p :: os)) : Steps (o :: p :: os) := fun i a b h1 h2 => by
  cases i with
  | zero =>
    cases h1
    cases h2
    exact h
  | succ i => exact hs i a b h1 h2
/-- a row of m ordinals is drawn -/
def spRow (K : PySem.W.Frag) : Sp := fun vs H Q _ => ∃ (l b : Addr) (m : Nat), vs = [.ref b, .int (m : Nat)] ∧ m ≤ 3 ∧ Bag l H b ∧ ∀ (v : V) (os : List O) (H' : Hp), RowA K H' v os → os.length = m → Good os → Steps os → Kp b H H' → Bag l H' b → Q v H'
/-- some answer: yes or no -/
def spSome (K : PySem.W.Frag) : Sp := fun vs H Q _ => ∃ (x : V) (os : List O) (m : Nat), vs = [.int (m : Nat), x] ∧ RowA K H x os ∧ Good os ∧ os.length = m ∧ m ≤ 3 ∧ ∀ (r : Bool) (H' : Hp), Same H H' → Q (.bl r) H'
end Vw

set_option Elab.async false
set_option linter.all false
set_option maxRecDepth 100000
namespace Vw
open PySem PySem.W PyProof.Rows L2
/-! ### sorted(..) of ordinals, ascending -/
def rSortedA (K : PySem.W.Frag) : List V → Hp → VK → Prop := fun vs H Q => ∃ (a : Addr) (xs : List V) (os : List O), vs = [V.ref a] ∧ SqL K H a xs ∧ Paired (OA K H) xs os ∧ (∀ o ∈ os, O.dp o ≤ 60) ∧
  ∀ (ys : List V) (os' : List O) (p : Addr), Paired (OA K H) ys os' → os'.Perm os → os'.Pairwise (fun a b => O.lt b a = false) → H p = none → Q (.ref p) (upd H p (.lst ys))
theorem dataLe_toDA (a b : O) : dataLe false O.toD a b = !O.lt b a := by
  show sortLe (listOrd itemOrd) false (fun b => keyToks (O.toD b)) a b = _
  rw [← O.lt_toD]
  rfl
theorem cr_sortedA {X : Cx} (hu : X.A.units + 64 < cLine) : CallR X (.builtin "sorted") (rSortedA X.K) := by
  intro pins s σ H vs us Q I r h
  obtain ⟨a, xs, os, rfl, hs, hp, hd, q⟩ := h
  obtain rfl := Vals.ref1 r
  obtain ⟨its, rv, hl, hz⟩ := I.list hs
  have e0 : EachIs (fun u o => ∃ x, RelV x u ∧ OA X.K H x o) its os := each_of (fun x u o a b => ⟨x, b, a⟩) hp rv
  have er : EachIs (fun v o => ∃ as, Reads s.heap v (O.toD o) as) its os := e0.mono fun u o ⟨x, rx, ox⟩ => Dp.reads I _ _ _ ox.dp rx
  have er' : EachIs (fun v o => ∃ as, Reads (sortingHeap (copyHeap s.heap its) (s.heap.objs.size + 1) its) v (O.toD o) as) its os := er.mono fun _ _ ⟨as, r⟩ => ⟨as, PyProof.Rows.Reads.keeps (fun _ _ => sorting_copy_old) r⟩
  have hal : AllAlike (os.map O.toD) := AllAlike.of O.alike_toD
  refine sorted_vals hl.isList (SortsAt.tups (s := { s with heap := sortingHeap (copyHeap s.heap its) (s.heap.objs.size + 1) its }) (each_map (R := fun v d => ∃ as, Reads (sortingHeap (copyHeap s.heap its) (s.heap.objs.size + 1) its) v d as) O.toD er') hal (fun d hd => ?_) (fun d hm => ?_)) (by rw [← rv.length]; exact hz) ?_
  · obtain ⟨o, _, rfl⟩ := List.mem_map.mp hd
    exact ⟨_, rfl⟩
  · obtain ⟨o, ho, rfl⟩ := List.mem_map.mp hm
    rw [O.depth_toD]
    have := hd o ho
    show X.A.units + 1 + 1 + _ < _
    omega
  · have e2 := sortVals_data (h' := sortingHeap (copyHeap s.heap its) (s.heap.objs.size + 1) its) (enc := O.toD) false e0 er' hal
    obtain ⟨ys, v1, v2⟩ := each_back e2
    obtain ⟨ep, he'⟩ := PyProof.Rows.sortedAll_at s.heap its (sortVals (dataKind (sortingHeap (copyHeap s.heap its) (s.heap.objs.size + 1) its) (os.map O.toD)) false its its).toArray
    have hlen : ys.length ≤ sizeLine := by
      rw [paired_len v2, (List.mergeSort_perm os _).length_eq, ← paired_len hp]
      exact hz
    refine ⟨.ref _, upd H (s.heap.objs.size + 1) (.lst ys), I.laid (t' := s.toks) (fun _ _ => PyProof.Rows.sortedAll_old) (Nat.le_succ _) ⟨hlen, _, ep, v1, he'⟩, rfl, q _ _ _ v2 (List.mergeSort_perm os _) ?_ (I.hok.fresh (Nat.le_succ _))⟩
    refine (List.pairwise_mergeSort (le := dataLe false O.toD) (fun a b c h1 h2 => ?_) (fun a b => ?_) os).imp fun {a b} h => ?_
    · rw [dataLe_toDA] at h1 h2 ⊢
      simp only [Bool.not_eq_true'] at h1 h2 ⊢
      exact O.ge_trans h2 h1
    · rw [dataLe_toDA, dataLe_toDA]
      by_cases e : a = b
      · subst e; rw [O.lt_irrefl]; rfl
      · rcases O.lt_total a b e with k | k
        · rw [k, O.lt_asymm k]; rfl
        · rw [k, O.lt_asymm k]; rfl
    · rw [dataLe_toDA] at h
      simpa using h
/-! ### stairs of n levels -/
def SD : Nat → Type
  | 0 => Bool
  | n + 1 => List (O × SD n)
def SD.dflt : (n : Nat) → SD n
  | 0 => false
  | _ + 1 => ([] : List _)
/-- the last inner stair whose begin is at most o: as the law walks -/
def pickGo {α : Type} (o : O) : α → List (O × α) → α
  | d, [] => d
  | d, t :: r => pickGo o (if O.lt o t.1 = true then d else t.2) r
/-- as the program walks -/
def pickBr {α : Type} (o : O) : α → List (O × α) → α
  | d, [] => d
  | d, t :: r => if O.lt o t.1 = true then d else pickBr o t.2 r
def firstS {n : Nat} : List (O × SD n) → SD n
  | [] => SD.dflt n
  | t :: _ => t.2
def pickS {n : Nat} (l : List (O × SD n)) (o : O) : SD n := pickGo o (firstS l) l
def Asc {α : Type} (l : List (O × α)) : Prop := l.Pairwise fun a b => O.lt a.1 b.1 = true
theorem pickGo_above {α : Type} {o : O} : ∀ {l : List (O × α)} {d : α}, (∀ t ∈ l, O.lt o t.1 = true) → pickGo o d l = d
  | [], _, _ => rfl
  | t :: r, d, h => by
    show pickGo o (if O.lt o t.1 = true then d else t.2) r = d
    rw [if_pos (h t List.mem_cons_self)]
    exact pickGo_above fun x hx => h x (List.mem_cons_of_mem _ hx)
theorem pick_eq {α : Type} {o : O} : ∀ {l : List (O × α)} {d : α}, Asc l → pickBr o d l = pickGo o d l
  | [], _, _ => rfl
  | t :: r, d, h => by
    have h' := List.pairwise_cons.mp h
    show (if O.lt o t.1 = true then d else pickBr o t.2 r) = pickGo o (if O.lt o t.1 = true then d else t.2) r
    by_cases e : O.lt o t.1 = true
    · rw [if_pos e, if_pos e]
      exact (pickGo_above fun x hx => O.lt_trans _ _ _ e (h'.1 x hx)).symm
    · rw [if_neg e, if_neg e]
      exact pick_eq h'.2
def okS : (n : Nat) → SD n → Prop
  | 0, _ => True
  | n + 1, (l : List (O × SD n)) => l ≠ [] ∧ Asc l ∧ (∀ t ∈ l, O.ok t.1 = true ∧ O.dp t.1 ≤ 8 ∧ O.wd t.1 ≤ 3) ∧ (∀ t ∈ l, okS n t.2) ∧ l.length ≤ 4 ∧ l.head?.map (·.1) = some O.z
def valS : (n : Nat) → SD n → List O → Bool
  | 0, (b : Bool), _ => b
  | n + 1, (l : List (O × SD n)), os => valS n (pickS l (os.headD .z)) os.tail
def oppS : (n : Nat) → SD n → SD n
  | 0, (b : Bool) => !b
  | n + 1, (l : List (O × SD n)) => l.map fun t => (t.1, oppS n t.2)
theorem pickGo_map {α : Type} (f : α → α) {o : O} : ∀ {l : List (O × α)} {d : α}, pickGo o (f d) (l.map fun t => (t.1, f t.2)) = f (pickGo o d l)
  | [], _ => rfl
  | t :: r, d => by
    show pickGo o (if O.lt o t.1 = true then f d else f t.2) _ = f (pickGo o (if O.lt o t.1 = true then d else t.2) r)
    by_cases e : O.lt o t.1 = true
    · rw [if_pos e, if_pos e]; exact pickGo_map f
    · rw [if_neg e, if_neg e]; exact pickGo_map f
theorem pickGo_mem {α : Type} {o : O} : ∀ {l : List (O × α)} {d : α}, pickGo o d l = d ∨ ∃ t ∈ l, pickGo o d l = t.2
  | [], _ => .inl rfl
  | t :: r, d => by
    show pickGo o (if O.lt o t.1 = true then d else t.2) r = d ∨ ∃ x ∈ t :: r, pickGo o (if O.lt o t.1 = true then d else t.2) r = x.2
    by_cases e : O.lt o t.1 = true
    · rw [if_pos e]
      rcases pickGo_mem (l := r) (d := d) with h | ⟨x, hx, h⟩
      · exact .inl h
      · exact .inr ⟨x, List.mem_cons_of_mem _ hx, h⟩
    · rw [if_neg e]
      rcases pickGo_mem (l := r) (d := t.2) with h | ⟨x, hx, h⟩
      · exact .inr ⟨t, List.mem_cons_self, h⟩
      · exact .inr ⟨x, List.mem_cons_of_mem _ hx, h⟩
theorem okS_pick {n : Nat} {l : List (O × SD n)} {o : O} (h : okS (n + 1) l) : okS n (pickS l o) := by
  have h4 : ∀ t ∈ l, okS n t.2 := h.2.2.2.1
  rcases pickGo_mem (o := o) (l := l) (d := firstS l) with e | ⟨t, ht, e⟩
  · have e' : pickS l o = firstS l := e
    rw [e']
    match l, h, h4 with
    | [], h, _ => exact absurd rfl h.1
    | t :: r, _, h4 => exact h4 t List.mem_cons_self
  · have e' : pickS l o = t.2 := e
    rw [e']; exact h4 t ht
theorem firstS_opp {n : Nat} {l : List (O × SD n)} (h : l ≠ []) : firstS (l.map fun t => (t.1, oppS n t.2)) = oppS n (firstS l) := by
  match l, h with
  | [], h => exact absurd rfl h
  | t :: r, _ => rfl
theorem okS_opp : ∀ (n : Nat) (s : SD n), okS n s → okS n (oppS n s)
  | 0, _, _ => trivial
  | n + 1, (l : List (O × SD n)), h => by
    obtain ⟨h1, h2, h3, h4, h5, h6⟩ := (h : l ≠ [] ∧ Asc l ∧ (∀ t ∈ l, O.ok t.1 = true ∧ O.dp t.1 ≤ 8 ∧ O.wd t.1 ≤ 3) ∧ (∀ t ∈ l, okS n t.2) ∧ l.length ≤ 4 ∧ l.head?.map (·.1) = some O.z)
    show (l.map fun t => (t.1, oppS n t.2)) ≠ [] ∧ Asc (l.map fun t => (t.1, oppS n t.2)) ∧ (∀ t ∈ (l.map fun t => (t.1, oppS n t.2)), O.ok t.1 = true ∧ O.dp t.1 ≤ 8 ∧ O.wd t.1 ≤ 3) ∧ (∀ t ∈ (l.map fun t => (t.1, oppS n t.2)), okS n t.2) ∧ (l.map fun t => (t.1, oppS n t.2)).length ≤ 4 ∧ (l.map fun t => (t.1, oppS n t.2)).head?.map (·.1) = some O.z
    refine ⟨fun z => h1 (List.map_eq_nil_iff.mp z), List.pairwise_map.mpr (h2.imp fun h => h), fun t ht => ?_, fun t ht => ?_, by rw [List.length_map]; exact h5, by rw [List.head?_map, Option.map_map]; exact h6⟩
    · obtain ⟨x, hx, rfl⟩ := List.mem_map.mp ht
      exact h3 x hx
    · obtain ⟨x, hx, rfl⟩ := List.mem_map.mp ht
      exact okS_opp n _ (h4 x hx)
theorem valS_opp : ∀ (n : Nat) (s : SD n) (os : List O), okS n s → valS n (oppS n s) os = !valS n s os
  | 0, _, _, _ => rfl
  | n + 1, (l : List (O × SD n)), os, h => by
    have e : pickS (l.map fun t => (t.1, oppS n t.2)) (os.headD .z) = oppS n (pickS l (os.headD .z)) := by
      unfold pickS
      rw [firstS_opp h.1]
      exact pickGo_map (oppS n)
    show valS n (pickS (l.map fun t => (t.1, oppS n t.2)) (os.headD .z)) os.tail = !valS n (pickS l (os.headD .z)) os.tail
    rw [e]
    exact valS_opp n _ _ (okS_pick h)
/-! ### as they stand in a heap: tuples alone -/
def SA (K : PySem.W.Frag) (H : Hp) : (n : Nat) → V → SD n → Prop
  | 0, v, (b : Bool) => v = .bl b
  | n + 1, v, (l : List (O × SD n)) => ∃ a xs, v = .ref a ∧ TT K H a xs ∧ Paired (fun x (t : O × SD n) => ∃ p u w, x = .ref p ∧ TT K H p [u, w] ∧ OA K H u t.1 ∧ SA K H n w t.2) xs l
def StA (K : PySem.W.Frag) (H : Hp) (n : Nat) (x : V) (t : O × SD n) : Prop := ∃ p u w, x = .ref p ∧ TT K H p [u, w] ∧ OA K H u t.1 ∧ SA K H n w t.2
section
variable {K : PySem.W.Frag} {H H' : Hp}
theorem SA.tp (t : Tp H H') : ∀ {n : Nat} {v : V} {s : SD n}, SA K H n v s → SA K H' n v s
  | 0, _, _, h => h
  | n + 1, _, _, ⟨a, xs, e, h1, h2⟩ => ⟨a, xs, e, h1.tp t, paired_mono (fun x y ⟨p, u, w, e1, e2, e3, e4⟩ => ⟨p, u, w, e1, e2.tp t, e3.tp t, SA.tp t e4⟩) h2⟩
theorem StA.tp {n : Nat} {x : V} {y : O × SD n} (t : Tp H H') (h : StA K H n x y) : StA K H' n x y := by
  obtain ⟨p, u, w, e1, e2, e3, e4⟩ := h
  exact ⟨p, u, w, e1, e2.tp t, e3.tp t, e4.tp t⟩
theorem steps_tp {n : Nat} {xs : List V} {l : List (O × SD n)} (t : Tp H H') (h : Paired (StA K H n) xs l) : Paired (StA K H' n) xs l := paired_mono (fun _ _ h => StA.tp t h) h
theorem SA.same {n : Nat} {v : V} {s : SD n} (h : SA K H n v s) (x : Same H H') : SA K H' n v s := h.tp (same_tp x)
theorem SA.un {n : Nat} {v : V} {l : List (O × SD n)} (h : SA K H (n + 1) v l) : ∃ a xs, v = .ref a ∧ TT K H a xs ∧ Paired (StA K H n) xs l := h
theorem SA.mk {n : Nat} {a : Addr} {xs : List V} {l : List (O × SD n)} (h : TT K H a xs) (p : Paired (StA K H n) xs l) : SA K H (n + 1) (.ref a) l := ⟨a, xs, rfl, h, p⟩
def stD : (n : Nat) → SD n → PyData
  | 0, (b : Bool) => .bool b
  | n + 1, (l : List (O × SD n)) => .tuple (l.map fun t => .tuple [O.toD t.1, stD n t.2])
theorem steps_dp {n : Nat} (ih : ∀ (v : V) (s : SD n), SA K H n v s → Dp K H v (stD n s)) : ∀ {xs : List V} {l : List (O × SD n)}, Paired (StA K H n) xs l → DpAll K H xs (l.map fun t => .tuple [O.toD t.1, stD n t.2])
  | _, _, .nil => .nil
  | _, _, .cons ⟨p, u, w, e1, e2, e3, e4⟩ t => by
    subst e1
    exact .cons (.tup e2.sq (.cons e3.dp (.cons (ih _ _ e4) .nil))) (steps_dp ih t)
theorem SA.dp : ∀ {n : Nat} {v : V} {s : SD n}, SA K H n v s → Dp K H v (stD n s)
  | 0, _, _, h => by
    have h : _ = V.bl _ := h
    rw [h]; exact .bl _
  | n + 1, _, _, ⟨a, xs, e, h1, h2⟩ => by
    subst e
    exact .tup h1.sq (steps_dp (fun _ _ h => SA.dp h) h2)
end
theorem rd_eqNilD {K : PySem.W.Frag} {H : Hp} {Q : VK} {os : List O} {p p2 : Addr} {xs : List V} (h1 : SqL K H p xs) (h2 : Paired (OA K H) xs os) (h3 : SqL K H p2 []) (g : ∀ o ∈ os, O.dp o ≤ 50) (q : Q (.bl os.isEmpty) H) : rEqO K (.ref p) (.ref p2) H Q := by
  unfold rEqO
  refine ⟨_, _, .lst h1 (dpAll_of h2), .lst h3 .nil, ?_, shaped_nil, ?_⟩
  · have e1 := lay_all os
    have e2 := O.depthAll g
    unfold SeqAt.shaped
    rw [Bool.and_eq_true, decide_eq_true_eq]
    refine ⟨by simp only [PyData.canLay0, e1], ?_⟩
    have : (PyData.list (os.map O.toD)).depth = PyData.depthAll (os.map O.toD) + 1 := by simp only [PyData.depth]
    omega
  · rw [eqv_nil]
    cases os <;> exact q
/-- a row near the begins of a stair -/
def spNear (K : PySem.W.Frag) : Sp := fun vs H Q _ => ∃ (l b L : Addr) (m : Nat) (v : V) (s : SD m), vs = [.ref b, .int (m : Nat), .ref L] ∧ H L = some (.lst [v]) ∧ L ≠ b ∧ SA K H m v s ∧ okS m s ∧ m ≤ 3 ∧ Bag l H b ∧ ∀ (w : V) (os : List O) (H' : Hp), RowA K H' w os → os.length = m → (∀ o ∈ os, O.ok o = true ∧ O.dp o ≤ 14) → Kp b H H' → Bag l H' b → Q w H'
/-- a drawn stair -/
def spStair (K : PySem.W.Frag) (j : Nat) : Sp := fun vs H Q _ => ∃ (l b : Addr) (n : Nat), vs = [.ref b, .int (n : Nat)] ∧ n < j ∧ j ≤ 10 ∧ Bag l H b ∧ ∀ (v : V) (s : SD n) (H' : Hp), SA K H' n v s → okS n s → Kp b H H' → Bag l H' b → Q v H'
/-- drawn begins: 0, then ascending -/
def spSteps (K : PySem.W.Frag) : Sp := fun vs H Q _ => ∃ (l b : Addr) (d : Nat), vs = [.ref b, .int (d : Nat)] ∧ d ≤ 3 ∧ Bag l H b ∧ ∀ (D : Addr) (xs : List V) (os : List O) (H' : Hp), H D = none → D ≠ b → D ≠ l → H' D = some (.lst xs) → Paired (OA K H') xs os → os.head? = some .z → os.length ≤ 4 → os.Pairwise (fun a b => O.lt a b = true) → (∀ o ∈ os, O.ok o = true ∧ O.dp o ≤ 8 ∧ O.wd o ≤ 3) → Kp b H H' → Bag l H' b → Q (.ref D) H'
/-- the inner stair at an ordinal -/
def spPick (K : PySem.W.Frag) : Sp := fun vs H Q _ => ∃ (v x : V) (n : Nat) (l : List (O × SD n)) (o : O), vs = [v, x] ∧ SA K H (n + 1) v l ∧ okS (n + 1) l ∧ OA K H x o ∧ O.dp o ≤ 50 ∧ ∀ (w : V) (H' : Hp), Same H H' → SA K H' n w (pickS l o) → Q w H'
/-- whether a row is in a stair's set -/
def spVal (K : PySem.W.Frag) : Sp := fun vs H Q _ => ∃ (v x : V) (n : Nat) (s : SD n) (os : List O), vs = [v, x] ∧ SA K H n v s ∧ okS n s ∧ RowA K H x os ∧ os.length = n ∧ (∀ o ∈ os, O.dp o ≤ 50) ∧ ∀ H', Same H H' → Q (.bl (valS n s os)) H'
def spOpp (K : PySem.W.Frag) (j : Nat) : Sp := fun vs H Q _ => ∃ (v : V) (n : Nat) (s : SD n), vs = [v] ∧ SA K H n v s ∧ okS n s ∧ n < j ∧ ∀ (w : V) (H' : Hp), Same H H' → SA K H' n w (oppS n s) → Q w H'
/-- some of the begins -/
def spBegins (K : PySem.W.Frag) (j : Nat) : Sp := fun vs H Q _ => ∃ (v : V) (n d : Nat) (s : SD n), vs = [v, .int (d : Nat)] ∧ SA K H n v s ∧ okS n s ∧ d < n ∧ n < j ∧ j ≤ 10 ∧ ∀ (D : Addr) (xs : List V) (os : List O) (H' : Hp), Same H H' → H' D = some (.lst xs) → H D = none → Paired (OA K H') xs os → os.length ≤ 4 ^ (d + 1) → (∀ o ∈ os, O.ok o = true ∧ O.dp o ≤ 8 ∧ O.wd o ≤ 3) → Q (.ref D) H'
end Vw

set_option Elab.async false
set_option linter.all false
set_option maxRecDepth 100000
set_option maxHeartbeats 4000000
namespace Vw
open PySem PySem.Spec PySem.W PyProof.Rows L2
/-! ### tuple * int, once or oftener -/
theorem tuple_mulW1 (l : Addr) (items : Array Value) (n : Nat) (dd : Option Addr) (sl : Array (Option Value)) (u : Tok) :
    Meets (Builtin.«tuple.__mul__» ⟨[.ref l, .int 1 u], []⟩) (fun _ R s => s.heap.get? l = some { cls := .type "tuple", dict := dd, data := .seq items n, slots := sl } ∧ R (.ok (.ret (Value.ref l))) s) :=
  .of_wp fun prog w A R s h => by
    obtain ⟨hp, g, d, tk, os⟩ := s
    obtain ⟨hl, h⟩ := h
    have f1 := AutoSeq1.idx_int
    have c0 : (decide ((1 : Int) < -(2 ^ 63)) || decide ((1 : Int) ≥ 2 ^ 63)) = false := by decide
    have c1 : (items.isEmpty || (1 : Int) == 1) = true := by simp
    wp_walk using wpAny_loadPart' hl
    repeat (first
      | (refine wpAny_ite_false (decide_eq_false (by rw [c0]; exact Bool.false_ne_true)) ?_; wp_walk using wpAny_loadPart' hl)
      | (refine wpAny_ite_true (decide_eq_true (by rw [c1])) ?_; wp_walk using wpAny_loadPart' hl))
    exact ⟨_, rfl, h⟩
@[irreducible] def rRepO (K : PySem.W.Frag) : R2 := fun x y H Q => ∃ l k xs, x = .ref l ∧ y = .int k ∧ TT K H l xs ∧ xs ≠ [] ∧ 1 ≤ k ∧ k ≤ 1000 ∧ xs.length ≤ 1000 ∧ ∀ p H', Same H H' → TT K H' p (List.replicate k.toNat xs).flatten → Q (.ref p) H'
theorem op_repO {X : Cx} : OpR X (binaryOp .Mult) (rRepO X.K) := by
  intro pins s σ H x y v u Q I rx ry h
  unfold rRepO at h
  obtain ⟨l, k, xs, rfl, rfl, hT, hne, h1, h2, hz, q⟩ := h
  by_cases h3 : k = 1
  · subst h3
    cases rx
    obtain ⟨t, rfl⟩ := ry
    obtain ⟨its, r, ⟨⟨cls, dd, data, sl⟩, ho, hc, n, hd⟩, hs⟩ := I.tuple hT.sq
    simp only at hc hd
    subst hc hd
    refine wpAny_binaryOp_repeat_ref (T := "tuple") (U := "int") (by decide) ⟨_, ho, rfl⟩ (fun s' => typeIs_int s' 1 t) noFill_tuple_mul F.fills_int_mul F.slot_int_rmul repeat_tuple F.slot_int_index.lookup
      (call_meets F.slot_int_rmul (typeIs_int s 1 t) F.entry_int_rmul (F.args_int_rmul_2 _ _) (int_rmul_tuple 1 t l its.toArray n dd sl)
        ⟨ho, rfl, ⟨_, ho, rfl⟩, call_meets F.slot_tuple_mul ⟨_, ho, rfl⟩ F.entry_tuple_mul (F.args_tuple_mul_2 _ _) (tuple_mulW1 l its.toArray n dd sl t) ⟨ho, ?_⟩⟩)
    have e : (List.replicate (1 : Int).toNat xs).flatten = xs := by simp
    rw [e] at q
    exact ⟨.ref l, H, I, rfl, q l H (Same.refl H) hT⟩
  · exact op_repT pins s σ H _ _ v u Q I rx ry ⟨l, k, xs, rfl, rfl, hT.sq, hne, by omega, h2, hz, fun p np => q p _ (same_new np) (.of upd_same)⟩
theorem rd_rep {K : PySem.W.Frag} {H : Hp} {Q : VK} {l : Addr} {x : V} {k : Int} (h : TT K H l [x]) (h1 : 1 ≤ k) (h2 : k ≤ 1000) (q : ∀ p H', Same H H' → TT K H' p (List.replicate k.toNat x) → Q (.ref p) H') : rRepO K (.ref l) (.int k) H Q := by
  unfold rRepO
  refine ⟨l, k, [x], rfl, rfl, h, by simp, h1, h2, (show 1 ≤ 1000 by decide), fun p H' s t => q p H' s ?_⟩
  have : (List.replicate k.toNat [x]).flatten = List.replicate k.toNat x := by simp
  rw [this] at t
  exact t
end Vw
namespace Vw
open PySem PySem.Spec PySem.W PyProof.Rows L2
def turnG {α : Type} : List α → List α → List α
  | [], [o, r, l] => [l, r, o]
  | _, _ => []
theorem turn_rel {vs : List V} {us : List Value} {zs : List V} {ws : List Value} (h1 : Vals vs us) (h2 : Vals zs ws) : Vals (turnG vs zs) (turnG us ws) := by
  cases h1 with
  | cons a t => exact .nil
  | nil =>
    cases h2 with
    | nil => exact .nil
    | cons a t => cases t with
      | nil => exact .nil
      | cons b t => cases t with
        | nil => exact .nil
        | cons c t => cases t with
          | nil => exact .cons c (.cons b (.cons a .nil))
          | cons d t => exact .nil
end Vw

set_option Elab.async false
set_option linter.all false
set_option maxRecDepth 100000
set_option maxHeartbeats 4000000
namespace Vw
open PySem PySem.Spec PySem.W PyProof.Rows L2
/-! ### tuple[::-1] -/
theorem adjust_rev (n : Nat) : Builtin.Slice.sliceAdjust none none (-1) (n : Int) = ((n : Int) - 1, -1) := by
  unfold Builtin.Slice.sliceAdjust
  simp
theorem places_rev (n : Nat) : Builtin.Slice.slicePlaces ((n : Int) - 1) (-1) (-1) = n := by
  unfold Builtin.Slice.slicePlaces
  have h1 : ¬ ((-1 : Int) > 0) := by omega
  simp only [h1, if_false]
  split <;> (try simp) <;> omega
theorem pick_rev (xs : List Value) : ((List.range xs.length).filterMap fun (m : Nat) => xs.toArray[(((xs.length : Nat) : Int) - 1 + (m : Int) * (-1)).toNat]?) = xs.reverse := by
  have e : ∀ k, k ≤ xs.length → ((List.range k).filterMap fun (m : Nat) => xs.toArray[(((xs.length : Nat) : Int) - 1 + (m : Int) * (-1)).toNat]?) = xs.reverse.take k := by
    intro k
    induction k with
    | zero => intro _; rfl
    | succ k ih =>
      intro hk
      rw [List.range_succ, List.filterMap_append, ih (by omega), List.take_add_one]
      congr 1
      have h1 : (((xs.length : Nat) : Int) - 1 + (k : Int) * (-1)).toNat = xs.length - 1 - k := by omega
      simp only [List.filterMap_cons, List.filterMap_nil]
      rw [h1, List.getElem?_reverse (by omega)]
      rw [List.getElem?_toArray]
      cases xs[xs.length - 1 - k]? <;> rfl
  have := e xs.length (Nat.le_refl _)
  rw [this, List.take_of_length_le (by rw [List.length_reverse]; exact Nat.le_refl _)]
section
variable {prog : Program} {w : World} {A : Around} {E : Value → Shared → Prop} {s : Shared}
theorem sliceApplied_rev {sl : Addr} {u : Tok} {n : Nat} {Q : Int × Int × Nat → Shared → Prop} (hs : s.heap.IsSliceOf sl .none .none (.int (-1) u))
    (h : Q ((n : Int) - 1, -1, n) s) : wpAny (model prog w) A (Builtin.Slice.sliceApplied (.ref sl) (pure (n : Int))) Q E s := by
  obtain ⟨os, hos, hcs, hds⟩ := id hs
  unfold Builtin.Slice.sliceApplied Builtin.Slice.sliceFields
  refine wpAny_bind (wpAny_bind (wpAny_field hos hds (x := .none) rfl (wpAny_bind (wpAny_field hos hds (x := .none) rfl (wpAny_bind (wpAny_field hos hds (x := .int (-1) u) rfl (wpAny_pure ?_)))))))
  refine wpAny_bind (PyProof.Rows.slicePart_int ?_)
  show wpAny _ _ (if ((-1 : Int) == 0) = true then _ else _) _ _ s
  rw [if_neg (by decide)]
  refine wpAny_bind (PyProof.Rows.slicePart_none (wpAny_bind (PyProof.Rows.slicePart_none (wpAny_bind (wpAny_pure ?_)))))
  show wpAny _ _ (match Builtin.Slice.sliceAdjust none none (-1) (n : Int) with | (lo, hi) => pure (lo, (-1 : Int), Builtin.Slice.slicePlaces lo hi (-1))) _ _ s
  rw [adjust_rev n]
  show wpAny _ _ (pure ((n : Int) - 1, (-1 : Int), Builtin.Slice.slicePlaces ((n : Int) - 1) (-1) (-1))) _ _ s
  rw [places_rev]
  exact wpAny_pure h
theorem getItem_tuple_rev {t sl : Addr} {items : List Value} {u : Tok} {Q : Value → Shared → Prop} (ht : IsTup s.heap t items.toArray) (hs : s.heap.IsSliceOf sl .none .none (.int (-1) u))
    (h : Q (.ref s.heap.objs.size) { s with heap := s.heap.push { cls := .type "tuple", data := .seq items.reverse.toArray } }) (hsz : items.length ≤ sizeLine) : wpAny (model prog w) A (getItem (.ref t) (.ref sl)) Q E s := by
  have htake : sizeOk (.seq items.reverse.toArray) := by
    show items.reverse.toArray.size ≤ sizeLine
    rw [List.size_toArray, List.length_reverse]; exact hsz
  obtain ⟨os, hos, hcs, hds⟩ := id hs
  have hTs : s.TypeIs (.ref sl) "slice" := ⟨os, hos, hcs⟩
  unfold getItem
  try with_reducible refine wpAny_holding ?_
  first | refine wpAny_bind (wpAny_pure ?_) | skip
  refine wpAny_bind (wpAny_sequenceKey ht.typeIs (by decide) ?_)
  refine wpAny_bind (wpAny_callSpecial?_slot (name := Str.ofString "__getitem__") ht.typeIs PyProof.Rows.slot_tuple_getitem
    (wpAny_call_entry PyProof.Rows.slot_tuple_getitem ht.typeIs PyProof.Rows.entry_tuple_getitem ?_ (PyProof.Rows.args_tuple_getitem _ _)))
  show wpAny _ _ (Builtin.Tuple.tupleItemsOf (.ref t) >>= _) _ _ s
  refine wpAny_bind (PyProof.Rows.tupleItemsOf_ ht ?_)
  refine wpAny_bind (wpAny_typeOf hTs ?_)
  rw [if_pos (by decide)]
  refine wpAny_bind (sliceApplied_rev (n := items.toArray.size) hs ?_)
  have hno : ¬ ((((items.toArray.size : Nat) : Int) - 1 == 0 && (-1 : Int) == 1 && items.toArray.size == items.toArray.size) = true) := by simp
  show wpAny _ _ (if ((((items.toArray.size : Nat) : Int) - 1 == 0 && (-1 : Int) == 1 && items.toArray.size == items.toArray.size) = true) then _ else _) _ _ s
  rw [if_neg hno]
  have hp : ((List.range items.toArray.size).filterMap fun (k : Nat) => items.toArray[(((items.toArray.size : Nat) : Int) - 1 + (k : Int) * (-1)).toNat]?).toArray = items.reverse.toArray := by
    rw [List.size_toArray]
    exact congrArg List.toArray (pick_rev items)
  rw [hp]
  first
    | exact wpAny_bind (m := Builtin.Tuple.tupleExact _) (wpAny_newObj_type (wpAny_pure ⟨_, rfl, wpAny_pure h⟩) htake)
    | exact wpAny_bind (m := Builtin.Tuple.tupleExact _) (wpAny_newObj_type (wpAny_bind (wpAny_pure (wpAny_pure ⟨_, rfl, wpAny_pure h⟩))) htake)
    | exact wpAny_bind (wpAny_bind (m := Builtin.Tuple.tupleExact _) (wpAny_newObj_type (wpAny_pure (wpAny_pure ⟨_, rfl, wpAny_pure h⟩)) htake))
    | exact wpAny_bind (wpAny_bind (m := Builtin.Tuple.tupleExact _) (wpAny_newObj_type (wpAny_pure ⟨_, rfl, wpAny_pure h⟩) htake))
end
section
variable {X : Cx}
def tRevT (K : PySem.W.Frag) (te : TE) : TE := fun σ H Q => te σ H fun x H1 => ∃ a xs, x = .ref a ∧ TT K H1 a xs ∧ ∀ p H', Same H1 H' → TT K H' p xs.reverse → Q (.ref p) H'
theorem pe_revT {e : Expr} {te : TE} {k : Nat} {p1 p2 p3 pos : Pos} (he : PE X e te) : PE X (.Subscript e (.Slice none none (some (.UnaryOp .USub (.Constant (.int 1) k p1) p2)) p3) pos) (tRevT X.K te) := by
  refine ⟨fun pins s σ H Q I h => ?_⟩
  refine Subscript_ (thn (he.run pins s σ H _ I h) fun v s1 ⟨x, H1, I1, r1, q1⟩ => ?_)
  obtain ⟨a, xs, ex, hx, q⟩ := q1
  subst ex
  cases r1
  have hst : PO X (some (.UnaryOp .USub (.Constant (.int 1) k p1) p2)) (tPart (tUn (rU fun i => .int (-i)) (tC (.int 1)))) := po_some (pe_un un_neg pe_int)
  refine wpAny_Slice (thn (po_none.run pins s1 σ H1 (fun o H2 => o = none ∧ H2 = H1) I1 ⟨rfl, rfl⟩) fun vl s2 ⟨l, H2, I2, pl, el, e2⟩ => ?_)
  subst el e2
  refine thn (po_none.run pins s2 σ H2 (fun o H3 => o = none ∧ H3 = H2) I2 ⟨rfl, rfl⟩) fun vu s3 ⟨u, H3, I3, pu, eu, e3⟩ => ?_
  subst eu e3
  refine thn (hst.run pins s3 σ H3 (fun o H4 => o = some (-1) ∧ H4 = H3) I3 ⟨1, rfl, -1, rfl, rfl, rfl⟩) fun vs s4 ⟨o, H4, I4, ps, eo, e4⟩ => ?_
  subst eo e4
  have I5 : Inv X pins σ H4 { s4 with heap := s4.heap.push { cls := .type "slice", data := .fields #[vl, vu, vs] } } := I4.kept (t' := s4.toks) fun b ob q => Heap.get?_push_of_some _ q
  obtain ⟨its, r, ht, hz⟩ := I5.tuple hx.sq
  cases pl
  cases pu
  cases ps
  show wpAny (model X.prog X.w) X.A (subscriptTail e (.Slice none none (some (.UnaryOp .USub (.Constant (.int 1) k p1) p2)) p3) (.ref a) (.ref s4.heap.objs.size)) (EP X pins σ Q) X.xe _
  refine tail_any (ops := [.ref a, .ref s4.heap.objs.size]) ht.typeIs (PyProof.Rows.slot_tuple_getitem.lookup) ?_ (by with_unfolding_all rfl)
  refine getItem_tuple_rev ht (Heap.IsSliceOf.new _ _ _ _) ?_ (by rw [← r.length]; exact hz)
  have np := I5.hok.fresh (Nat.le_refl (({ s4 with heap := s4.heap.push { cls := .type "slice", data := .fields #[.none, .none, .int (-1) _] } } : Shared).heap.objs.size))
  refine ⟨.ref _, _, I5.laid (t' := s4.toks) (o := .tup xs.reverse) (fun b ob q => Heap.get?_push_of_some _ q) (Nat.le_refl _) ?_, rfl, q _ _ (same_new np) (.of upd_same)⟩
  exact ⟨by rw [List.length_reverse]; exact hz, _, r.reverse, IsTup.new _ _⟩
end
end Vw

set_option Elab.async false
set_option linter.all false
set_option maxRecDepth 100000
namespace Vw
open PySem PySem.W PyProof.Rows L2
/-! ### data of bounded depth -/
def EltD (K : PySem.W.Frag) (H : Hp) (n : Nat) (v : V) : Prop := ∃ d, Dp K H v d ∧ d.depth ≤ n
section
variable {K : PySem.W.Frag} {H H' : Hp} {n m : Nat} {v : V}
theorem EltD.same (s : Same H H') (h : EltD K H n v) : EltD K H' n v := by
  obtain ⟨d, h1, h2⟩ := h
  exact ⟨d, dp_same s h1, h2⟩
theorem EltD.mono (h : EltD K H n v) (l : n ≤ m) : EltD K H m v := by
  obtain ⟨d, h1, h2⟩ := h
  exact ⟨d, h1, Nat.le_trans h2 l⟩
theorem EltD.int (i : Int) : EltD K H n (.int i) := ⟨_, .int i, by simp only [PyData.depth]; omega⟩
theorem EltD.bl (b : Bool) : EltD K H n (.bl b) := ⟨_, .bl b, by simp only [PyData.depth]; omega⟩
theorem EltD.str (x : Str) : EltD K H n (.str x) := ⟨_, .str x, by simp only [PyData.depth]; omega⟩
theorem EltD.non : EltD K H n .non := ⟨_, .non, by simp only [PyData.depth]; omega⟩
theorem EltD.ord {o : O} (h : OA K H v o) (l : O.dp o + 1 ≤ n) : EltD K H n v := ⟨_, h.dp, by rw [O.depth_toD]; exact l⟩
theorem EltD.term {t : O × Int} (h : TmA K H v t) (l : O.dp t.1 + 2 ≤ n) : EltD K H n v := ⟨_, h.dp, by rw [depth_tD]; exact l⟩
theorem elts_all : ∀ {xs : List V}, (∀ v ∈ xs, EltD K H n v) → ∃ ds, DpAll K H xs ds ∧ PyData.depthAll ds ≤ n
  | [], _ => ⟨[], .nil, Nat.zero_le _⟩
  | x :: xs, h => by
    obtain ⟨d, h1, h2⟩ := h x List.mem_cons_self
    obtain ⟨ds, h3, h4⟩ := elts_all (xs := xs) fun v hv => h v (List.mem_cons_of_mem _ hv)
    exact ⟨d :: ds, .cons h1 h3, by show max d.depth (PyData.depthAll ds) ≤ n; omega⟩
theorem EltD.tup {p : Addr} {xs : List V} (h : TT K H p xs) (hx : ∀ v ∈ xs, EltD K H n v) : EltD K H (n + 1) (.ref p) := by
  obtain ⟨ds, h1, h2⟩ := elts_all hx
  exact ⟨.tuple ds, .tup h.sq h1, by simp only [PyData.depth]; omega⟩
theorem EltD.lst {p : Addr} {xs : List V} (h : SqL K H p xs) (hx : ∀ v ∈ xs, EltD K H n v) : EltD K H (n + 1) (.ref p) := by
  obtain ⟨ds, h1, h2⟩ := elts_all hx
  exact ⟨.list ds, .lst h h1, by simp only [PyData.depth]; omega⟩
theorem elts_terms {xs : List V} {l : List (O × Int)} (h : Paired (TmA K H) xs l) (hl : ∀ t ∈ l, O.dp t.1 + 2 ≤ n) : ∀ v ∈ xs, EltD K H n v := fun v hv => by
  obtain ⟨i, hi, e⟩ := List.getElem_of_mem hv
  obtain ⟨t, ht, tv⟩ := paired_get h (List.getElem?_eq_some_iff.mpr ⟨hi, e⟩)
  exact .term tv (hl t (List.mem_of_getElem? ht))
end
/-- data of tuples alone: it stands as long as tuples do -/
def EltT (K : PySem.W.Frag) (H : Hp) (n : Nat) (v : V) : Prop := ∃ d, d.depth ≤ n ∧ ∀ H', Tp H H' → Dp K H' v d
/-- data that stands as long as all but b stays -/
def EltB (K : PySem.W.Frag) (H : Hp) (b : Addr) (n : Nat) (v : V) : Prop := ∃ d, d.depth ≤ n ∧ ∀ H', Kp b H H' → Dp K H' v d
section
variable {K : PySem.W.Frag} {H H' : Hp} {n m : Nat} {v : V} {b l : Addr}
theorem EltT.tp (h : EltT K H n v) (t : Tp H H') : EltT K H' n v := by
  obtain ⟨d, h1, h2⟩ := h
  exact ⟨d, h1, fun H2 t2 => h2 H2 (t.trans t2)⟩
theorem EltT.same (s : Same H H') (h : EltT K H n v) : EltT K H' n v := h.tp (same_tp s)
theorem EltT.mono (h : EltT K H n v) (l : n ≤ m) : EltT K H m v := by
  obtain ⟨d, h1, h2⟩ := h
  exact ⟨d, Nat.le_trans h1 l, h2⟩
theorem EltT.int (i : Int) : EltT K H n (.int i) := ⟨.int i, by simp only [PyData.depth]; omega, fun _ _ => .int i⟩
theorem EltT.bl (b : Bool) : EltT K H n (.bl b) := ⟨.bool b, by simp only [PyData.depth]; omega, fun _ _ => .bl b⟩
theorem EltT.str (x : Str) : EltT K H n (.str x) := ⟨.str x, by simp only [PyData.depth]; omega, fun _ _ => .str x⟩
theorem EltT.non : EltT K H n .non := ⟨.none, by simp only [PyData.depth]; omega, fun _ _ => .non⟩
theorem EltT.ord {o : O} (h : OA K H v o) (l : O.dp o + 1 ≤ n) : EltT K H n v := ⟨_, by rw [O.depth_toD]; exact l, fun _ t => (h.tp t).dp⟩
theorem EltT.term {t : O × Int} (h : TmA K H v t) (l : O.dp t.1 + 2 ≤ n) : EltT K H n v := ⟨_, by rw [depth_tD]; exact l, fun _ x => (h.tp x).dp⟩
theorem eltT_all : ∀ {xs : List V}, (∀ v ∈ xs, EltT K H n v) → ∃ ds, PyData.depthAll ds ≤ n ∧ ∀ H', Tp H H' → DpAll K H' xs ds
  | [], _ => ⟨[], Nat.zero_le _, fun _ _ => .nil⟩
  | x :: xs, h => by
    obtain ⟨d, h1, h2⟩ := h x List.mem_cons_self
    obtain ⟨ds, h3, h4⟩ := eltT_all (xs := xs) fun v hv => h v (List.mem_cons_of_mem _ hv)
    exact ⟨d :: ds, by show max d.depth (PyData.depthAll ds) ≤ n; omega, fun H' t => .cons (h2 H' t) (h4 H' t)⟩
theorem eltB_all : ∀ {xs : List V}, (∀ v ∈ xs, EltB K H b n v) → ∃ ds, PyData.depthAll ds ≤ n ∧ ∀ H', Kp b H H' → DpAll K H' xs ds
  | [], _ => ⟨[], Nat.zero_le _, fun _ _ => .nil⟩
  | x :: xs, h => by
    obtain ⟨d, h1, h2⟩ := h x List.mem_cons_self
    obtain ⟨ds, h3, h4⟩ := eltB_all (xs := xs) fun v hv => h v (List.mem_cons_of_mem _ hv)
    exact ⟨d :: ds, by show max d.depth (PyData.depthAll ds) ≤ n; omega, fun H' t => .cons (h2 H' t) (h4 H' t)⟩
theorem EltT.tup {p : Addr} {xs : List V} (h : TT K H p xs) (hx : ∀ v ∈ xs, EltT K H n v) : EltT K H (n + 1) (.ref p) := by
  obtain ⟨ds, h1, h2⟩ := eltT_all hx
  exact ⟨.tuple ds, by simp only [PyData.depth]; omega, fun H' t => .tup (h.tp t).sq (h2 H' t)⟩
theorem eltT_terms {xs : List V} {l : List (O × Int)} (h : Paired (TmA K H) xs l) (hl : ∀ t ∈ l, O.dp t.1 + 2 ≤ n) : ∀ v ∈ xs, EltT K H n v := fun v hv => by
  obtain ⟨i, hi, e⟩ := List.getElem_of_mem hv
  obtain ⟨t, ht, tv⟩ := paired_get h (List.getElem?_eq_some_iff.mpr ⟨hi, e⟩)
  exact .term tv (hl t (List.mem_of_getElem? ht))
theorem Bag.tpK (B : Bag l H b) (k : Kp b H H') : Tp H H' := B.tp k
theorem EltT.toB (h : EltT K H n v) (B : Bag l H b) : EltB K H b n v := by
  obtain ⟨d, h1, h2⟩ := h
  exact ⟨d, h1, fun H' k => h2 H' (B.tp k)⟩
theorem EltB.kp {H' : Hp} (h : EltB K H b n v) (k : Kp b H H') : EltB K H' b n v := by
  obtain ⟨d, h1, h2⟩ := h
  exact ⟨d, h1, fun H2 k2 => h2 H2 (k.trans k2)⟩
theorem EltB.same (s : Same H H') (h : EltB K H b n v) : EltB K H' b n v := h.kp (same_kp s)
theorem EltB.mono (h : EltB K H b n v) (l : n ≤ m) : EltB K H b m v := by
  obtain ⟨d, h1, h2⟩ := h
  exact ⟨d, Nat.le_trans h1 l, h2⟩
theorem EltB.elt (h : EltB K H b n v) : EltD K H n v := by
  obtain ⟨d, h1, h2⟩ := h
  exact ⟨d, h2 H (Kp.refl H), h1⟩
theorem EltT.elt (h : EltT K H n v) : EltD K H n v := by
  obtain ⟨d, h1, h2⟩ := h
  exact ⟨d, h2 H (Tp.refl H), h1⟩
theorem EltB.tup {p : Addr} {xs : List V} (B : Bag l H b) (h : TT K H p xs) (hx : ∀ v ∈ xs, EltB K H b n v) : EltB K H b (n + 1) (.ref p) := by
  obtain ⟨ds, h1, h2⟩ := eltB_all hx
  exact ⟨.tuple ds, by simp only [PyData.depth]; omega, fun H' k => .tup (h.tp (B.tp k)).sq (h2 H' k)⟩
theorem EltB.lst {p : Addr} {xs : List V} (hb : p ≠ b) (h : H p = some (.lst xs)) (hx : ∀ v ∈ xs, EltB K H b n v) : EltB K H b (n + 1) (.ref p) := by
  obtain ⟨ds, h1, h2⟩ := eltB_all hx
  exact ⟨.list ds, by simp only [PyData.depth]; omega, fun H' k => .lst (SqL.of (k _ _ hb h)) (h2 H' k)⟩
end
/-- a bent ordinal: any data, not deep -/
def spBent (K : PySem.W.Frag) (n : Nat) : Sp := fun vs H Q _ => ∃ (l b : Addr) (x : V) (o : O), vs = [.ref b, x] ∧ Bag l H b ∧ OA K H x o ∧ O.dp o < n ∧ O.dp o ≤ 20 ∧ O.wd o ≤ 100 ∧ ∀ (v : V) (H' : Hp), EltB K H' b (O.dp o + 5) v → Kp b H H' → Bag l H' b → Q v H'
/-- a number from 0 on, as an ordinal -/
def spNat (K : PySem.W.Frag) : Sp := fun vs H Q _ => ∃ n : Int, vs = [.int n] ∧ 0 ≤ n ∧ ∀ (v : V) (H' : Hp), Same H H' → OA K H' v (O.num n) → Q v H'
theorem O.pwN_num {n : Int} (h : 0 ≤ n) : O.pwN .z n = O.num n := by
  unfold O.pwN O.num
  by_cases e : n = 0
  · subst e; rfl
  · rw [if_neg e, if_pos (by omega)]
/-- a def with keyword-only defaults, as it is called -/
structure CalK (P : Program) (w : World) (K : PySem.W.Frag) (mg : Str → Option Value) (base : Heap) (k : Nat) (x : Str) (ps : List Str) (sp : Sp) (f : Addr) (fd : FuncData) : Prop where
  G : FnOk P w K mg base CX0 k f fd ps sp
  m : mg x = some (.ref f)
  kp : PySem.W.keepIn K (.ref f) = true
theorem kb_ofD {K : PySem.W.Frag} {x qual : Str} {st : Stmt} {kws : List (Str × V)} {f : Addr} {fd : FuncData} {ps ks : List Str} (F : FunD K x qual (defArgs st) (defBody st) (defScope st) [] kws f fd) (g : List Value → List Value → List Value) (gV : List V → List V → List V)
    (rel : ∀ {vs : List V} {us : List Value} {zs : List V} {ws : List Value}, Vals vs us → Vals zs ws → Vals (gV vs zs) (g us ws)) (hk : kws ≠ [])
    (h : ∀ (D : Addr) (doc pm : Value) (an : Option Addr) (cdv ct : Value) (us ws : List Value), (g us ws).length = ps.length → bindArgs (PySem.W.fnOf x qual (defArgs st) (defBody st) (defScope st) .none (.ref D) doc pm an cdv ct) ⟨us, ks.zip ws⟩ = pure (ps.zip (g us ws))) : KBinds K fd ps ks g gV := by
  obtain ⟨oc, od, dV, kV, doc, pm, an, cdv, ct, osl, rfl, lk, hcd, hD, hK⟩ := F.ex
  rcases hD with ⟨_, rfl⟩ | ⟨e, _⟩
  · rcases hK with e | ⟨D, rfl, hq⟩
    · exact absurd e hk
    · exact ⟨fun s us ws _ hl => .of_eq (h D doc pm an cdv ct us ws hl), rel⟩
  · exact absurd rfl e
def oneG {α : Type} : List α → List α → List α
  | [a], [b] => [a, b]
  | _, _ => []
theorem one_rel {vs : List V} {us : List Value} {zs : List V} {ws : List Value} (h1 : Vals vs us) (h2 : Vals zs ws) : Vals (oneG vs zs) (oneG us ws) := by
  cases h1 with
  | nil => exact .nil
  | cons a t => cases t with
    | cons b t => exact .nil
    | nil => cases h2 with
      | nil => exact .nil
      | cons b t => cases t with
        | nil => exact .cons a (.cons b .nil)
        | cons c t => exact .nil
/-- the power one, once -/
def O.omega : O := O.add O.one 1 .z
/-! ### the great ordinals -/
def wideO : O := O.of ((List.range 12).map fun k => (O.num (11 - (k : Nat)), 1 + (k : Nat)))
def deepO : Nat → O
  | 0 => O.num 2
  | k + 1 => O.of [(deepO k, 2), (.z, 1)]
def spGreat (K : PySem.W.Frag) : Sp := fun vs H Q _ => vs = [] ∧ ∀ (D : Addr) (x y : V) (H' : Hp), Same H H' → H' D = some (.lst [x, y]) → OA K H' x wideO → OA K H' y (deepO 5) → Q (.ref D) H'
theorem ok_wide : O.ok wideO = true := by decide
theorem ok_deep : O.ok (deepO 5) = true := by decide
/-- the last term twice is no ordinal -/
theorem twice_no {o : O} {t : O × Int} (h : (O.ts o).getLast? = some t) : isOrdB (.tuple (O.toDs o ++ [O.tD t])) = false := by
  have hl : 0 < (O.ts o).length := by
    cases e : O.ts o with
    | nil => rw [e] at h; cases h
    | cons a b => exact Nat.succ_pos _
  have h1 : (O.toDs o ++ [O.tD t])[(O.ts o).length - 1]? = some (O.tD t) := by
    rw [List.getElem?_append_left (by rw [O.toDs_ts, List.length_map]; omega), O.toDs_ts, List.getElem?_map]
    rw [List.getLast?_eq_getElem?] at h
    rw [h]; rfl
  have h2 : (O.toDs o ++ [O.tD t])[(O.ts o).length - 1 + 1]? = some (O.tD t) := by
    rw [show (O.ts o).length - 1 + 1 = (O.toDs o).length from by rw [O.toDs_ts, List.length_map]; omega]
    simp
  exact bad_order h1 h2 (O.lt_irrefl _)
/-- turned round, it is none -/
theorem rev_no {ds : List PyData} {t u : O × Int} {r : List PyData} (h : ds = O.tD t :: O.tD u :: r) (hl : O.lt u.1 t.1 = false) : isOrdB (.tuple ds) = false := by
  subst h
  exact bad_order (i := 0) rfl rfl hl
end Vw

set_option Elab.async false
set_option linter.all false
set_option maxRecDepth 100000
namespace Vw
open PySem PySem.W PyProof.Rows L2
/-! ### which data are rows -/
/-- each ordinal is at most the end of the one ahead of it -/
def IsRow (m : Int) (d : PyData) : Prop := ∃ os : List O, rowD os = d ∧ (os.length : Int) = m ∧ (∀ o ∈ os, O.ok o = true) ∧ Steps os
noncomputable def isRowB (m : Int) (d : PyData) : Bool := open Classical in decide (IsRow m d)
open Classical in
theorem isRow_t {m : Int} {d : PyData} (h : IsRow m d) : isRowB m d = true := by unfold isRowB; exact decide_eq_true h
open Classical in
theorem isRow_f {m : Int} {d : PyData} (h : ¬ IsRow m d) : isRowB m d = false := by unfold isRowB; exact decide_eq_false h
theorem isRow_other {m : Int} {d : PyData} (h : ∀ ds, d ≠ .tuple ds) : isRowB m d = false := isRow_f fun ⟨os, h1, _⟩ => h _ h1.symm
theorem isRow_len {m : Int} {ds : List PyData} (h : (ds.length : Int) ≠ m) : isRowB m (.tuple ds) = false := isRow_f fun ⟨os, h1, h2, _⟩ => h (by
  have : os.map O.toD = ds := PyData.tuple.inj h1
  rw [← this, List.length_map]; exact h2)
/-- the first i ordinals are right -/
def RPref (ds : List PyData) (os : List O) (i : Nat) : Prop := ds.take i = os.map O.toD ∧ (∀ o ∈ os, O.ok o = true) ∧ Steps os ∧ os.length = i
theorem rpref_nil (ds : List PyData) : RPref ds [] 0 := by
  refine ⟨rfl, ?_, ?_, rfl⟩
  · intro o h; cases h
  · intro i o p h; simp at h
theorem rpref_at {ds : List PyData} {os : List O} {i j : Nat} (h : RPref ds os i) (hj : j < i) : ∃ o, os[j]? = some o ∧ ds[j]? = some (O.toD o) := by
  obtain ⟨h1, _, _, h3⟩ := h
  have hl : j < os.length := by omega
  refine ⟨os[j], List.getElem?_eq_getElem hl, ?_⟩
  have : (ds.take i)[j]? = some (O.toD os[j]) := by rw [h1, List.getElem?_map, List.getElem?_eq_getElem hl]; rfl
  rw [List.getElem?_take, if_pos hj] at this
  exact this
theorem rpref_step {ds : List PyData} {os : List O} {i : Nat} {p : O} (h : RPref ds os i) (hd : ds[i]? = some (O.toD p)) (hp : O.ok p = true) (hl : ∀ o, os[i - 1]? = some o → 0 < i → O.lt (endO o) p = false) : RPref ds (os ++ [p]) (i + 1) := by
  obtain ⟨h1, h2, h3, h4⟩ := h
  refine ⟨by rw [List.take_add_one, hd, h1, List.map_append]; rfl, fun o ho => ?_, fun j o q ho hq => ?_, by rw [List.length_append, h4]; rfl⟩
  · rcases List.mem_append.mp ho with h | h
    · exact h2 o h
    · rw [List.mem_singleton.mp h]; exact hp
  · have hj : j + 1 < i + 1 := by
      have := (List.getElem?_eq_some_iff.mp hq).1
      rw [List.length_append, h4] at this
      exact this
    rw [List.getElem?_append_left (by omega)] at ho
    by_cases e : j + 1 = i
    · have hi : i - 1 = j := by omega
      rw [List.getElem?_append_right (by omega), h4, e, Nat.sub_self] at hq
      have hq : p = q := by simpa using hq
      subst hq
      exact hl o (by rw [hi]; exact ho) (by omega)
    · rw [List.getElem?_append_left (by omega)] at hq
      exact h3 j o q ho hq
theorem rpref_end {ds : List PyData} {os : List O} (h : RPref ds os ds.length) : isRowB (ds.length : Nat) (.tuple ds) = true := by
  obtain ⟨h1, h2, h3, h4⟩ := h
  rw [List.take_length] at h1
  exact isRow_t ⟨os, by unfold rowD; rw [h1], by rw [h4], h2, h3⟩
theorem row_ord {m : Int} {ds : List PyData} {i : Nat} {d : PyData} (hd : ds[i]? = some d) (h : isOrdB d = false) : isRowB m (.tuple ds) = false := isRow_f fun ⟨os, h1, _, h2, _⟩ => by
  have h3 : os.map O.toD = ds := PyData.tuple.inj h1
  rw [← h3, List.getElem?_map] at hd
  obtain ⟨o, ho, rfl⟩ := Option.map_eq_some_iff.mp hd
  rw [isOrd_toD (h2 o (List.mem_of_getElem? ho))] at h
  cases h
theorem row_step {m : Int} {ds : List PyData} {i : Nat} {o p : O} (h1 : ds[i]? = some (O.toD o)) (h2 : ds[i + 1]? = some (O.toD p)) (h : O.lt (endO o) p = true) : isRowB m (.tuple ds) = false := isRow_f fun ⟨os, e1, _, _, e2⟩ => by
  have h3 : os.map O.toD = ds := PyData.tuple.inj e1
  rw [← h3, List.getElem?_map] at h1 h2
  obtain ⟨o', ho, a1⟩ := Option.map_eq_some_iff.mp h1
  obtain ⟨p', hp, a2⟩ := Option.map_eq_some_iff.mp h2
  have := e2 i o' p' ho hp
  rw [O.toD_inj a1, O.toD_inj a2, h] at this
  cases this
/-- an ordinal as data: its end asked of data -/
def spEndD (K : PySem.W.Frag) : Sp := fun vs H Q _ => ∃ (x : V) (a : O), vs = [x] ∧ Dp K H x (O.toD a) ∧ O.dp a ≤ 50 ∧ ∀ (v : V) (H' : Hp), Same H H' → Dp K H' v (O.toD (endO a)) → Q v H'
theorem rd_eqD {K : PySem.W.Frag} {H : Hp} {x y : V} {a b : O} {Q : VK} (ha : Dp K H x (O.toD a)) (hb : Dp K H y (O.toD b)) (h : O.dp a ≤ 60) (h2 : O.dp b ≤ 60) (q : Q (.bl (decide (a = b))) H) : rEqO K x y H Q := by
  unfold rEqO
  exact ⟨_, _, ha, hb, O.shaped_toD h, O.shaped_toD h2, by rw [O.eqv_toD]; exact q⟩
def spIsRow (K : PySem.W.Frag) : Sp := fun vs H Q _ => ∃ (m : Int) (x : V) (d : PyData), vs = [.int m, x] ∧ Dp K H x d ∧ d.depth ≤ 50 ∧ ∀ H', Same H H' → Q (.bl (isRowB m d)) H'
end Vw

set_option Elab.async false
set_option linter.all false
set_option maxRecDepth 100000
set_option maxHeartbeats 4000000
namespace Vw
open PySem PySem.W PySem.Calls PyProof.Rows Builtin Builtin.ObjectAttr Builtin.Getset_descriptor
theorem nameC_dga (d tp : Value) (C : Addr) : descrGetArgs ⟨[d, .ref C, tp], []⟩ = pure (d, some (.ref C), given tp) := by kernel_rfl
section
variable {prog : Program} {w : World} {A : Around} {E : Value → Shared → Prop} {s : Shared} {K : Frag} {R : Result → Shared → Prop} {C : Addr}
theorem nameC_get {tp v : Value} {o : Obj} (hC : s.heap.get? C = some o) (ho : o.cls = .type "type") (h2 : (o.slots[2]?).join = some v) (h : R (.ok (.ret v)) s) :
    codeAny (model prog w) A (.call (.builtin "getset_descriptor.__get__") ⟨[.builtin "type.__name__", .ref C, tp], []⟩) R s := by
  obtain ⟨hh, g, dr, t, os⟩ := s
  have L0 : Looks (model prog w) hh (typeOf (.ref C)) (.type "type") := by
    have z : Looks (model prog w) hh (typeOf (.ref C)) o.cls := (Looks.ld hC).andThen .now
    rw [ho] at z
    exact z
  have L1 : Looks (model prog w) hh (isSubtype (.type "type") (.type "type")) true := Looks.of_pure (by rw [isSubtype_type]; kernel_rfl)
  refine codeAny_call_builtin KF.slot_gs.plain KF.entry_gs (KF.slot_gs.check _ _ _ _ _ _ _ _ ktyn_type (KF.args_gs _ _ _) ?_)
  unfold Builtin.«getset_descriptor.__get__» descrGet
  rw [nameC_dga]
  refine wpAny_bind (wpAny_pure ?_)
  unfold descrGetter descrCheckInstance descrNameAndClass isInstance
  simp only [ktyn_owner]
  repeat lk
  refine ⟨Code.quiet_builtin _ (by decide +kernel), codeAny_builtin ktyn_entry ?_⟩
  unfold Builtin.«type.__name__» keptObject
  dsimp only
  refine wpAny_bind ?_
  unfold slotAt
  refine wpAny_bind (wpAny_loadPart_at hC (wpAny_pure ?_))
  rw [h2]
  exact wpAny_pure h
theorem nameC_attr {expr : Bool} {v : Value} {o : Obj} {Q : Value → Shared → Prop} (X : K.In s.heap) (hC : K.lookup C = some o) (ho : o.cls = .type "type") (h2 : (o.slots[2]?).join = some v) (hv : handedOut v = pure v) (hop : nsIn K cStatics "thirdparty.any" = some none)
    (e : findCls K (.ref C) (.type "type") "__name__" = some (.get (.builtin "getset_descriptor.__get__") (.builtin "type.__name__") (.ref C) (.type "type")))
    (h : Q v { s with toks := s.toks + 1 }) : wpAny (model prog w) A (getAttr (.ref C) "__name__" expr) Q E s := by
  have LO : Looks (model prog w) s.heap (opaqueClassAbove (.ref C)) none := looks_opaque X hop
  have L0 : Looks (model prog w) s.heap (typeOf (.ref C)) (.type "type") := by
    have z : Looks (model prog w) s.heap (typeOf (.ref C)) o.cls := (Looks.ld (X _ _ hC)).andThen .now
    rw [ho] at z
    exact z
  have hg : findIn K (.type "type") "__getattribute__" = some (some (.builtin "type.__getattribute__")) := type_tga
  refine cls_open X LO L0 hg (looks_hook X (r := none) (by rfl)) (by show subIn K _ _ = _; rfl) e ?_
  show wpAny _ _ (do ret (← holding [Value.builtin "type.__name__"] (call (.builtin "getset_descriptor.__get__") [.builtin "type.__name__", .ref C, .type "type"]))) _ _ _
  refine wpAny_bind (wpAny_holding (wpAny_call (nameC_get (s := { s with toks := s.toks + 1 }) (X _ _ hC) ho h2 ?_)))
  refine wpAny_pure ?_
  show wpAny _ _ (handedOut v) _ _ _
  rw [hv]
  exact wpAny_pure h
theorem classE_attr {x D : Addr} {ox : Obj} {expr : Bool} {Q : Value → Shared → Prop} (hga : findIn K (.ref D) "__getattribute__" = some (some (.builtin "BaseException.__getattribute__"))) (hgt : findIn K (.ref D) "__getattr__" = some none) (hsub : subIn K (.ref D) (.type "BaseException") = some true)
    (hdct : hasDictIn K D = true) (ha : findIn K (.ref D) "__class__" = some (some (.builtin "object.__class__")))
    (hn : specialIn K (.builtin "object.__class__") "__get__" = some (some (.builtin "getset_descriptor.__get__"))) (htk : takesIn K (.builtin "object.__class__") = some true) (hm : mroIn K D (.type "object") = some true)
    (X : K.In s.heap) (I : InstAt s.heap x ox D none) (h : Q (.ref D) { s with toks := s.toks + 1 }) : wpAny (model prog w) A (getAttr (.ref x) "__class__" expr) Q E s := by
  have hf : findObj K D none "__class__" = some (.bind (.builtin "getset_descriptor.__get__") (.builtin "object.__class__")) := findObj_dataN (by obtain ⟨cd, hc, _⟩ := any_some hdct; rw [hc]; rfl) ha hn htk
  obtain ⟨hp, g, d, t, os⟩ := s
  have L0 := I.type (M := model prog w)
  have L1 := looks_findIn (M := model prog w) X hga
  have L2 := looks_findIn (M := model prog w) X hgt
  have L3 := looks_find (M := model prog w) X I hf
  have sub : Looks (model prog w) hp (isInstance (.ref x) (.type "BaseException")) true := L0.andThen (looks_subIn X hsub)
  have hx0 : (expr && onTheHeap (Value.builtin "BaseException.__getattribute__")) = false := Bool.and_false _
  have hx2 : (Value.builtin "BaseException.__getattribute__" == Value.builtin "object.__getattribute__") = false := by decide +kernel
  have hx1 : (onTheHeap (Value.ref D) && Value.builtin "BaseException.__getattribute__" == Value.builtin "object.__getattribute__") = false := by rw [hx2]; rfl
  refine wpAny_bind (wpAny_mkText (wpAny_holding (wpAny_bind (L0.at (wpAny_bind (L1.at ?_))))))
  dsimp only
  rw [hx1, if_neg (by decide)]
  refine wpAny_bind ?_
  unfold hookBefore
  rw [if_pos (show onTheHeap (Value.ref D) = true from rfl)]
  refine L2.at ?_
  refine wpAny_bind (wpAny_attempt (wpAny_holding ?_))
  unfold callGetattribute
  rw [hx0, if_neg Bool.false_ne_true]
  unfold boundAndCalled
  rw [PySem.F.excAttr_ValueError.ga.bind (.ref x)]
  refine wpAny_bind (wpAny_pure ?_)
  show wpAny _ _ (call (.builtin "BaseException.__getattribute__") [.ref x, .str "__class__" t]) _ _ _
  refine wpAny_call (codeAny_call_builtin PySem.F.excAttr_ValueError.ga.plain PySem.F.entry_bexc_ga ?_)
  refine @check_slot (model prog w) _ _ ⟨hp, g, d, t + 1, os⟩ "BaseException.__getattribute__" "BaseException" "__getattribute__" (.ref x) [.str "__class__" t] [] _ (by decide +kernel) (by decide +kernel) sub (PySem.F.args_bexc_ga (.ref x) (.str "__class__" t)) ?_
  unfold Builtin.«object.__getattribute__»
  refine wpAny_bind (wpAny_of_eq (a := ((Value.ref x : Value), [Value.str "__class__" t])) (by first | rfl | (simp only [slotArgs]; rfl)) ?_)
  refine wpAny_bind (wpAny_pure (wpAny_bind (L0.at (wpAny_bind (L3.at ?_)))))
  show wpAny _ _ (holding [Value.builtin "object.__class__"] (call (.builtin "getset_descriptor.__get__") [.builtin "object.__class__", .ref x, .ref D]) >>= ret) _ _ _
  refine wpAny_bind (wpAny_holding (wpAny_call (class_get (s := ⟨hp, g, d, t + 1, os⟩) (ox := ox) (od := none) X I hm ?_)))
  refine wpAny_pure ?_
  show wpAny _ _ (handedOut (.ref D)) _ _ _
  rw [handedOut_of (v := .ref D) rfl]
  exact wpAny_pure h
end
end Vw

set_option Elab.async false
set_option linter.all false
set_option maxRecDepth 100000
set_option maxHeartbeats 4000000
namespace Vw
open PySem PySem.Spec PySem.W PyProof.Rows L2
/-- what the written part says of the name of the class at C -/
structure NmC (K : PySem.W.Frag) (C : Addr) (nm : Str) : Prop where
  o : ∃ (o : Obj) (t : Tok), K.lookup C = some o ∧ o.cls = .type "type" ∧ (o.slots[2]?).join = some (.str nm t)
  op : nsIn K cStatics "thirdparty.any" = some none
  e : findCls K (.ref C) (.type "type") "__name__" = some (.get (.builtin "getset_descriptor.__get__") (.builtin "type.__name__") (.ref C) (.type "type"))
/-- x.__class__.__name__, x an exception that is being made -/
def tClsN (K : PySem.W.Frag) (to : TE) : TE := fun σ H Q => to σ H fun x H1 => ∃ (a C : Addr) (nm : Str), x = .ref a ∧ H1 a = some (exo a C none) ∧ ExcC K C ∧ NmC K C nm ∧ Q (.str nm) H1
section
variable {X : Cx} {e : Expr} {es : List Expr} {te : TE} {p p1 p2 pos : Pos}
theorem pe_clsN (he : PE X e te) (hb1 : attributeBase e "__class__" X.env (eval e X.env) = eval e X.env := by rfl) (hb2 : attributeBase (.Attribute e "__class__" p1) "__name__" X.env (eval (.Attribute e "__class__" p1) X.env) = eval (.Attribute e "__class__" p1) X.env := by rfl) :
    PE X (.Attribute (.Attribute e "__class__" p1) "__name__" p2) (tClsN X.K te) := by
  refine ⟨fun pins s σ H Q I h => ?_⟩
  refine attr_of hb2 (attr_of hb1 (thn (he.run pins s σ H _ I h) fun u s1 ⟨x, H1, I1, rx, a, C, nm, ex, ea, c, n, q⟩ => ?_))
  subst ex
  obtain rfl : u = Value.ref a := rx
  obtain ⟨t1, ho⟩ := exo_at I1.hok ea
  refine classE_attr c.hg c.hk c.hs c.hd c.ha c.hn c.ht c.hm I1.kIn (ox := _) ⟨ho, rfl, rfl, trivial⟩ ?_
  obtain ⟨o, t, n1, n2, n3⟩ := n.o
  refine nameC_attr (I1.tok _).kIn n1 n2 n3 rfl n.op n.e ?_
  exact ⟨.str nm, H1, (I1.tok _).tok _, ⟨t, rfl⟩, q⟩
/-- C(), C's own __init__ keeping sp -/
theorem pmk_oex0 {CX : CXT} {x : Str} {C fI : Addr} {k : Nat} {fd : FuncData} {ps : List Str} {sp : Sp} (T : OexC X.K C) (iC : PySem.W.findIn X.K (.ref C) "__init__" = some (some (.ref fI))) (tI : PySem.W.typeIn X.K (.ref fI) = some (.type "function"))
    (F1 : FnOk X.prog X.w X.K X.mg X.base CX k fI fd ps sp) (hr : Room (k + 1) X.A) (hb : Binds X.K fd ps []) (hx : Passes CX X (fun _ _ _ => False)) (hg : Gl X x) (hm : X.mg x = some (.ref C))
    (hdb : (x == ("__debug__" : Str)) = false := by decide) :
    PMk X (.Call (.Name x p) [] [] pos) (tMkO C sp [] tNil) := by
  intro pins s σ H Q I h
  obtain ⟨nm, q, N, bs, bm, sn, sub, ab, col, dd, k0, k1, k2, k3, k5, hC, hbm⟩ := T.cls
  refine wpAny_Call_Name_kw (ld_glob I hg hm ?_ hdb)
  refine PySem.W.callWith_K0 I.kIn T.kC ?_
  show wpAny _ _ (call (.ref C) []) _ _ _
  obtain ⟨hp, g, dr, tk, os⟩ := s
  obtain ⟨hz, q1⟩ := h
  have hsz : hp.objs.size ≤ hp.objs.size + 1 := Nat.le_succ _
  have hn : H (hp.objs.size + 1) = none := I.hok.fresh hsz
  have hq := q1 (hp.objs.size + 1) hn
  have kk : ∀ b o, hp.get? b = some o → ((hp.push (PySem.W.kdv_tup [])).push (PySem.HandSPX.excO C hp.objs.size)).get? b = some o := fun b o e => Heap.get?_push_of_some _ (Heap.get?_push_of_some _ e)
  have hget : ((hp.push (PySem.W.kdv_tup [])).push (PySem.HandSPX.excO C hp.objs.size)).get? (hp.objs.size + 1) = some (PySem.HandSPX.excO C hp.objs.size) := by heap_get
  have I2 : Inv X pins σ (upd H (hp.objs.size + 1) (exo (hp.objs.size + 1) C none)) ⟨(hp.push (PySem.W.kdv_tup [])).push (PySem.HandSPX.excO C hp.objs.size), g, dr, tk, os⟩ :=
    I.laid (t' := tk) (a := hp.objs.size + 1) (o := exo (hp.objs.size + 1) C none) (h' := (hp.push (PySem.W.kdv_tup [])).push (PySem.HandSPX.excO C hp.objs.size)) kk hsz (exo_ok hget)
  have r2 : Vals [V.ref (hp.objs.size + 1)] [Value.ref (hp.objs.size + 1)] := .cons rfl .nil
  have hl : ([Value.ref (hp.objs.size + 1)] : List Value).length = ps.length := F1.len _ _ _ _ hq
  refine wpAny_call (PySem.HandSPX.call_own F.excBase_ValueError (fun Y => PySem.HandSPX.refsVE_contains Y bm hbm) (I.kIn _ _ hC) (PySem.W.looks_findIn I.kIn iC) (fun self => PySem.W.bind_fn I.kIn self tI) (by show 0 ≤ sizeLine; decide)
    (codeAny_mono (F1.run _ X.stack _ _ ⟨[Value.ref (hp.objs.size + 1)], []⟩ [Value.ref (hp.objs.size + 1)] _ _ (fun _ _ _ => False) (hr.make C [] []) (I2.env0.make C [] []) (hb _ [Value.ref (hp.objs.size + 1)] I2.kIn hl) r2 hq) fun r s' hq' => ?_))
  cases r with
  | error er => exact hx pins σ _ _ er s' I2 hq'
  | ok fl =>
    cases fl with
    | ret u =>
      obtain ⟨v, H2, os2, bare2, un2, hok2, rv, ev, d, fs, ea, ed, hd1, q2⟩ := hq'
      subst ev
      obtain ⟨h2, g2, d2, t2, os'⟩ := s'
      exact ⟨rv, mk_end (raises_own T.exC T.tyC) I hsz kk un2 hok2 os2 bare2 ea ed hd1 q2⟩
    | next => exact False.elim hq'
    | brk => exact False.elim hq'
    | cont => exact False.elim hq'
end
end Vw

set_option Elab.async false
set_option linter.all false
set_option maxRecDepth 100000
set_option maxHeartbeats 4000000
/-! except (x1, x2, x3) as n: after the library's rule for one name -/
namespace Vw
open PySem PySem.Spec PyProof.Rows L2
theorem flying_more {B h h' : Heap} {l : List Env} {a : Addr} {Z : Obj → Prop} (k : ∀ b o, h.get? b = some o → h'.get? b = some o) (x : HandSPX.FlyingZ B l a Z h) : HandSPX.FlyingZ B l a Z h' := by
  obtain ⟨f1, f2, f3, oe, vs, T, oT, ts, he, hz, hd, h1, hnT, hTe, hT, hdT, h3⟩ := x
  exact ⟨fun b ob q => k _ _ (f1 b ob q), f2, f3.of_keeps fun b o q _ => ⟨o, k b o q, rfl⟩, oe, vs, T, oT, ts, k _ _ he, hz, hd, h1, hnT, hTe, k _ _ hT, hdT, h3⟩
/-- what the clause wishes of an exception of the body -/
def wAs3 (K : PySem.W.Frag) (cs : List Value) (i : Nat) (ts : Addr → Value → Option Addr → TS) (Wout : WX) (D : Ends) : WX := fun cls d σ H =>
  ∃ b, PySem.W.exmAny K cls cs = some b ∧ (b = true → ∀ a, H a = none → ts a cls d { nx := fun σ' H' => D.nx (σ'.set i none) H', rt := D.rt, bk := fun σ' H' => D.bk (σ'.set i none) H', ct := fun σ' H' => D.ct (σ'.set i none) H' } (σ.set i (some (.ref a))) H) ∧
    (b = false → Wout cls d σ H)
section
variable {X : Cx} {x1 x2 x3 n : Str} {c1 c2 c3 : Value} {i kk : Nat} {body suite : List Stmt} {b₀ : Stmt} {p1 p2 p3 tpos pos pos' : Pos} {tb : WX → TS} {ts : Addr → Value → Option Addr → TS} {Wout : WX}
theorem ps_try_as3 (hs : X.stack = X.env :: X.outer) (hf : X.env.frame = some X.env.locals) (hN : X.N.Nodup) (hi : X.N[i]? = some n) (hln : X.env.kindOf n = some .local) (n1 : Names X x1 c1) (n2 : Names X x2 c2) (n3 : Names X x3 c3) (tk : Takes X Wout)
    (hb : ∀ (W : WX) (pn : List (Addr × Obj)) (xe : Value → Shared → Prop), Takes (X.tr pn xe) W → PassesOwn (model X.prog X.w) X.A X.env xe → PSs (X.tr pn xe) body (tb W))
    (hsu : ∀ (a : Addr) (oe : Obj) (cls : Value) (d : Option Addr) (pn : List (Addr × Obj)), Zc cls d oe → (∃ vs, oe.data = .fields vs) → PSs (X.suite a ((a, oe) :: pn)) (b₀ :: suite) (ts a cls d)) :
    PS X (.Try body [.ExceptHandler (some (.Tuple [.Name x1 p1, .Name x2 p2, .Name x3 p3] kk tpos)) (some n) (b₀ :: suite) pos'] [] [] pos) (fun D σ H => tb (wAs3 X.K [c1, c2, c3] i ts Wout D) D σ H) := by
  refine ⟨fun pins s σ H D I h => ?_⟩
  have ok := I.ok
  have hfr : X.A.frames = some (X.env :: X.outer) := by rw [ok.frames, hs]
  have hloc : Loc X.env.scope n := .inl hln
  refine wpAny_Try_except ?_
  refine wpAny_mono ((hb (wAs3 X.K [c1, c2, c3] i ts Wout D) (X.pn ++ pins) (fun e s₁ => wpAny (model X.prog X.w) X.A (noteFrame e X.env) (fun _ s₂ => wpAny (model X.prog X.w) X.A (setFlight e none) (fun _ s₃ =>
    wpAny (model X.prog X.w) X.A (handleBy e X.env [.ExceptHandler (some (.Tuple [.Name x1 p1, .Name x2 p2, .Name x3 p3] kk tpos)) (some n) (b₀ :: suite) pos']) (SP X pins D) X.xe s₃) X.xe s₂) X.xe s₁) (fun u s' xx => ?_) PassesOwn.looking).run [] s σ H D (I.toTry _) h) (fun f s1 hsp => ?_) (fun e s1 he => he)
  · obtain ⟨a, B, sI, pins', σ', H', cls, d, rfl, J', nb, up, sky, na, os, ag, b, hb1, hyes, hno⟩ := xx
    have J : Inv X pins σ' H' sI := J'.ofTry ok
    have sky' : Sky B (X.env :: X.outer) a (Zc cls d) X.env.locals s'.heap := by rw [← hs]; exact sky
    show wpAny (model X.prog X.w) X.A (noteFrame (.ref a) X.env) _ _ _
    refine Sky.land Zc.steady hfr hf sky' fun h3 fl3 up3 => ?_
    have J3 : Inv X pins σ' H' { s' with heap := h3 } := J.landed nb fl3.1 (up.trans up3) os ag
    obtain ⟨oe3, vs3, he3, hz3, hd3⟩ := fl3.there
    have nfr : a ∉ frs (X.env :: X.outer) := fun hm => by
      obtain ⟨_, o', e', hnf⟩ := fl3.2.2.1.mem hm
      rw [he3] at e'; cases e'
      exact hnf _ hd3
    have nL : a ≠ X.env.locals := fun z => nfr (List.mem_filterMap.mpr ⟨X.env, List.mem_cons_self, by rw [hf, z]⟩)
    have nF : a ∉ X.fs := fun hm => by
      obtain ⟨e, he, q⟩ := List.mem_filterMap.mp hm
      exact nfr (List.mem_filterMap.mpr ⟨e, List.mem_cons_of_mem _ he, q⟩)
    have S3 := J3.suite he3 hd3 na nL nF
    refine wpAny_handleBy_cons (codeAny_handlers_test ?_) (by intro q; cases q)
    have kp : ∀ b o, h3.get? b = some o → (h3.push { cls := .type "tuple", data := .seq [c1, c2, c3].toArray }).get? b = some o := fun _ _ z => Heap.get?_push_of_some _ z
    have LT : PySem.W.Looks (model X.prog X.w) h3 (typeOf (.ref a)) cls := fun A Q E s k q => wpAny_typeOf_ref (k _ _ he3) (by rw [hz3.1]; exact q)
    have LM := PySem.W.exm_tup3 (M := model X.prog X.w) (J3.kIn.keeps kp) (LT.keeps kp) (Heap.get?_push_size h3 rfl) hb1
    have test : ∀ {x : Str} {c : Value} {np : Pos} {Q : Value → Shared → Prop} {E : Value → Shared → Prop}, Names X x c → Q c { s' with heap := h3 } → wpAny (model X.prog X.w) (X.A.mark (some (.ref a))) (eval (.Name x np) X.env) Q E { s' with heap := h3 } := fun {x c np Q E} hc q => by
      obtain ⟨hg, hdbg, hm | ⟨hm, hv, hnn⟩⟩ := hc
      · exact ld_glob (X := X.suite a ((a, oe3) :: (X.pn ++ pins))) S3 hg hm q hdbg
      · exact ld_blt (X := X.suite a ((a, oe3) :: (X.pn ++ pins))) S3 hg hm hv q hnn hdbg
    have up3 := up3.trans (Heap.UpToSlots.of_keeps kp)
    have fl3 := flying_more kp fl3
    refine wpAny_Tuple (wpAny_items_cons (test n1 (wpAny_items_cons (test n2 (wpAny_items_cons (test n3 (wpAny_items_nil ⟨by size_fits, ?_⟩)))))))
    generalize h3.push { cls := .type "tuple", data := .seq [c1, c2, c3].toArray } = hT at *
    refine LM.here ?_
    cases b with
    | true =>
      refine codeAny_handlers_suite_as ?_
      refine HandSPX.lands_againZ fl3 fun h4 fl4 up4 => ?_
      have J4 : Inv X pins σ' H' { s' with heap := h4 } := J.landed nb fl4.1 ((up.trans up3).trans up4) os ag
      obtain ⟨oe4, vs4, he4, hz4, hd4⟩ := fl4.there
      have S4 := J4.suite he4 hd4 na nL nF
      refine store_ok (X := X.suite a ((a, oe4) :: (X.pn ++ pins))) (v := .ref a) S4 hN hi hloc rfl (fun s5 S5 => ?_) (.inr hln)
      refine wpAny_mono ((hsu a oe4 cls d (X.pn ++ pins) hz4 ⟨_, hd4⟩).run [] s5 _ H' _ S5 (hyes rfl a na)) (fun f s6 hsp => ?_) (fun _ _ z => False.elim z)
      have end_ : ∀ {σ6 : L2.St} {H6 : Hp} {Q : Shared → Prop}, Inv (X.suite a ((a, oe4) :: (X.pn ++ pins))) [] σ6 H6 s6 → (∀ s7, Inv X pins (σ6.set i none) H6 s7 → Q s7) →
          wpAny (model X.prog X.w) X.A (do bindName X.env n .none; unbindBehindTheSuite X.env n pos') (fun _ s7 => Q s7) X.xe s6 := fun {σ6 H6 Q} S6 hq => gone_ok (S6.unsuite ok) hN hi hln hq
      cases f with
      | ret u =>
        obtain ⟨v6, σ6, H6, S6, r6, q6⟩ := hsp
        exact end_ S6 fun s7 J7 => ⟨_, _, _, J7, r6, q6⟩
      | _ =>
        obtain ⟨σ6, H6, S6, q6⟩ := hsp
        exact end_ S6 fun s7 J7 => ⟨_, _, J7, q6⟩
    | false =>
      show wpAny _ X.A (handleBy (.ref a) X.env []) _ _ _
      refine wpAny_handleBy_nil ?_
      obtain ⟨k1, k2, k3, oe, vs, T, oT, ts', he, hz, hd, h1, hr⟩ := id fl3
      unfold PySem.passOn
      refine wpAny_bind (wpAny_field he hd h1 ?_)
      rw [if_neg (show ¬ ((Value.ref T == Value.none) = true) from by simp)]
      have fin : wpAny (model X.prog X.w) X.A (setFlight (.ref a) X.env.frame) (fun _ s4 => wpAny (model X.prog X.w) X.A (throw (.ref a) : Sem Flow) (SP X pins D) X.xe s4) X.xe { s' with heap := hT } := by
        rw [hf]
        refine HandSPX.setFlight_upZ fl3 fun h4 hh4 up4 => wpAny_throw (tk _ _ ?_)
        exact ⟨a, B, sI, pins, σ', H', cls, d, rfl, J, nb, (up.trans up3).trans up4, .inr (.inr (by rw [hs]; exact hh4)), na, os, ag, hno rfl⟩
      first
        | exact wpAny_bind (wpAny_pure (wpAny_bind fin))
        | exact wpAny_bind fin
  · cases f with
    | next =>
      obtain ⟨σ', H', J', q⟩ := hsp
      exact wpAny_execs_nil ⟨σ', H', J'.ofTry ok, q⟩
    | ret u =>
      obtain ⟨v, σ', H', J', r, q⟩ := hsp
      exact ⟨v, σ', H', J'.ofTry ok, r, q⟩
    | _ =>
      obtain ⟨σ', H', J', q⟩ := hsp
      exact ⟨σ', H', J'.ofTry ok, q⟩
end
end Vw

set_option Elab.async false
set_option linter.all false
set_option maxRecDepth 100000
set_option maxHeartbeats 4000000
/-! own exceptions: made and raised without arguments; caught, asked and handed on -/
namespace Vw
open PySem PySem.Spec PyProof.Rows L2
/-! ### raising -/
/-- what the written part says of a class that is raised -/
structure RzC (K : PySem.W.Frag) (C fI : Addr) (nm : Str) : Prop where
  ox : OexC K C
  ex : ExcC K C
  nc : NmC K C nm
  xf : XfC K C
  no : PySem.W.findIn K (.ref C) "code" = some none
  iC : PySem.W.findIn K (.ref C) "__init__" = some (some (.ref fI))
  tI : PySem.W.typeIn K (.ref fI) = some (.type "function")
def codeF (nm : Str) : List (Str × V) := [("code", .str nm)]
def spInit (C : Addr) (nm : Str) : Sp := fun vs H Q _ => ∃ a, vs = [.ref a] ∧ H a = some (exo a C none) ∧ ∀ d, H d = none → d ≠ a → Q .non (upd (upd H d (exd d (codeF nm))) a (exo a C (some d)))
/-- the exception's dict stands, the exception itself is let go -/
theorem raise_end {H : Hp} {a d C : Addr} {nm : Str} (ha : H a = none) (hd : (upd H a (exo a C none)) d = none) (hda : d ≠ a) :
    Same H (upd (del (upd (upd (upd H a (exo a C none)) d (exd d (codeF nm))) a (exo a C (some d))) a) d (.xd (codeF nm))) := by
  have hd0 : H d = none := by rw [upd_ne hda] at hd; exact hd
  intro b o hb
  have h1 : b ≠ d := ne_of_none hb hd0
  have h2 : b ≠ a := ne_of_none hb ha
  rw [upd_ne h1, del_ne h2, upd_ne h2, upd_ne h1, upd_ne h2]
  exact hb
section
variable {P : Program} {w : World} {K : PySem.W.Frag} {mg : Str → Option Value} {base : Heap}
theorem ok_initC {qual : Str} {st : Stmt} {fI fJ C : Addr} {fd : FuncData} {nm : Str} {k : Nat} (F : Fun K "__init__" qual st fI fd) (R : RzC K C fJ nm) {p1 p2 p3 p4 p5 p6 : Pos} (hb : defBody st = [.Assign [.Attribute (.Name "self" p1) "code" p2] (.Attribute (.Attribute (.Name "self" p3) "__class__" p4) "__name__" p5) p6])
    (S : FnScope ["self"] ["self"] (defScope st)) (hv : Vis (defScope st) "self") : FnOk P w K mg base CX0 (k + 1) fI fd ["self"] (spInit C nm) := by
  refine F.ok S (fun vs H Q E h => ?_) (fun cdv A outer s H vs Q E hr h => ?_)
  · obtain ⟨_, rfl, _⟩ := h; rfl
  obtain ⟨a, rfl, ha, q⟩ := h
  rw [hb]
  refine ⟨_, pss_one (ps_ost (pe_var (i := 0) rfl hv) (pe_clsN (pe_var (i := 0) rfl hv))), ?_⟩
  exact ⟨_, rfl, a, C, nm, rfl, ha, R.ex, R.nc, _, rfl, a, C, rfl, R.ox, R.no, .inl ⟨ha, fun dx h1 h2 => q dx h1 h2⟩⟩
/-- C() and its raise -/
theorem ps_rz {X : Cx} {C fI : Addr} {fd : FuncData} {nm x : Str} {W : WX} {k : Nat} {p pos pos2 : Pos} (R : RzC X.K C fI nm) (hcalm : X.calm = true) (F1 : FnOk X.prog X.w X.K X.mg X.base CX0 k fI fd ["self"] (spInit C nm)) (b : Binds X.K fd ["self"] []) (hr : Room (k + 1) X.A)
    (hg : Gl X x) (hm : X.mg x = some (.ref C)) (tk : Takes X W) (hdb : (x == ("__debug__" : Str)) = false := by decide) :
    PS X (.Raise (some (.Call (.Name x p) [] [] pos)) none pos2) (fun _ σ H => ∀ (d : Addr) (H' : Hp), Same H H' → H d = none → H' d = some (.xd (codeF nm)) → W (.ref C) (some d) σ H') := by
  have PR := ps_raise (pos := pos2) hcalm tk (pmk_oex0 (p := p) (pos := pos) R.ox R.iC R.tI F1 hr b pass0 hg hm hdb)
  refine ⟨fun pins s σ H D I h => PR.run pins s σ H D I ?_⟩
  refine ⟨by decide, fun a ha => ⟨a, rfl, upd_same, fun d hd hda => ?_⟩⟩
  have hd0 : H d = none := by rw [upd_ne hda] at hd; exact hd
  exact ⟨rfl, d, codeF nm, upd_same, by rw [upd_ne hda, upd_same], hd0, h d _ (raise_end ha hd hda) hd0 upd_same⟩
end
/-! ### a field of an exception that is held -/
def tXfA (K : PySem.W.Frag) (a : Addr) (cls : Value) (d : Option Addr) (f : Str) (te : TE) : TE := fun σ H Q => te σ H fun x H1 => x = .ref a ∧ ∃ (C dd : Addr) (fs : List (Str × V)) (v : V), cls = .ref C ∧ d = some dd ∧ XfC K C ∧ PySem.W.findIn K (.ref C) f = some none ∧ H1 dd = some (.xd fs) ∧ fs.lookup f = some v ∧ Q v H1
theorem pe_xfP {X : Cx} {a : Addr} {oe : Obj} {cls : Value} {d : Option Addr} {e : Expr} {te : TE} {pos : Pos} {n : Str} (hp : (a, oe) ∈ X.pn) (hz : Zc cls d oe) (hf : ∃ vs, oe.data = .fields vs) (he : PE X e te) (hb : attributeBase e n X.env (eval e X.env) = eval e X.env := by rfl) :
    PE X (.Attribute e n pos) (tXfA X.K a cls d n te) := by
  refine ⟨fun pins s σ H Q I h => ?_⟩
  refine attr_of hb (thn (he.run pins s σ H _ I h) fun u s1 hh => ?_)
  obtain ⟨x, H1, I1, rx, ex, C, dd, fs, v, ec, ed, T, hno, ea, l, q⟩ := hh
  subst ex ec
  obtain rfl : u = Value.ref a := rx
  subst ed
  have ha := (I1.pin (a, oe) (List.mem_append_left _ hp)).1
  obtain ⟨vs, hd⟩ := hf
  obtain ⟨mA, hns, hr⟩ : ObjOk X.prog X.w H1 s1.heap dd (.xd fs) := I1.hok dd _ ea
  obtain ⟨od, ho, hl⟩ := lookIn_ns hns
  obtain ⟨u, hu, ru⟩ := RelO.some_of (v := v) (o := mA n) (by rw [← l]; exact hr n)
  have J : PySem.W.InstAt s1.heap a oe C (some od) := ⟨ha, hz.1, by unfold PySem.W.notCls; rw [hd] <;> rfl, by rw [hz.2]; exact ho⟩
  exact HandSPX.exc_get I1.kIn J T.ga T.gg T.exC (PySem.W.findObj_own T.hdC hno rfl (by rw [hl, hu])) (handed_of ru) ⟨v, H1, I1.tok _, ru, q⟩
/-! ### a def that is handed the held exception -/
/-- the promise of a def that is called while p is held: it raises nothing -/
structure FnP (P : Program) (w : World) (K : PySem.W.Frag) (mg : Str → Option Value) (base : Heap) (k : Nat) (f : Addr) (fd : FuncData) (ps : List Str) (sp : Addr → Value → Option Addr → Sp) : Prop where
  len : ∀ a cls d vs H Q E, sp a cls d vs H Q E → vs.length = ps.length
  run : ∀ (A : Around) (outer : List Env) (s : Shared) (H : Hp) (args : Args) (us : List Value) (vs : List V) (Q : VK) (p : Addr × Obj) (cls : Value) (d : Option Addr), L2H.RoomH k A → L2H.PinOk outer H s p → Zc cls d p.2 → (∃ vs, p.2.data = .fields vs) → Env0 P w K mg base A outer s H → BindsTo s fd args (ps.zip us) → Vals vs us → sp p.1 cls d vs H Q E0 →
    codeAny (model P w) A (.call (.ref f) args) (CR CX0 outer P w H s Q E0) s
theorem fn_ofP {P : Program} {w : World} {K : PySem.W.Frag} {mg : Str → Option Value} {base : Heap} {k : Nat} {f : Addr} {x qual : Str} {st : Stmt} {fd : FuncData} {N ps : List Str} {sp : Addr → Value → Option Addr → Sp} (F : Fun K x qual st f fd) (S : FnScope N ps (defScope st))
    (len : ∀ a cls d vs H Q E, sp a cls d vs H Q E → vs.length = ps.length)
    (hbody : ∀ (cdv : Value) (A : Around) (outer : List Env) (s : Shared) (H : Hp) (vs : List V) (Q : VK) (p : Addr × Obj) (cls : Value) (d : Option Addr), Zc cls d p.2 → (∃ vs, p.2.data = .fields vs) → sp p.1 cls d vs H Q E0 →
      ∃ t, PSs (L2H.cxH CX0 P w K mg base N qual (defScope st) f cdv A outer s H E0 p) (defBody st) t ∧ t { nx := fun _ H' => Q .non H', rt := Q } (L2.start N vs) H) :
    FnP P w K mg base (k + 1) f fd ps sp := by
  obtain ⟨oc, od, kV, doc, pm, an, cdv, ct, osl, rfl, lk, hcd⟩ := F.ex
  refine ⟨len, fun A outer s H args us vs Q p cls d hr hpin hz hf e0 hb r hsp => ?_⟩
  have hl := len _ _ _ _ _ _ _ hsp
  have KX : K.In s.heap := e0.mod.kin.keeps fun b o e => (e0.bs b o e).1
  have lim : s.heap.NoLimit := e0.mod.nolimit.keeps fun b o e => (e0.bs b o e).1
  refine codeAny_call_function hr.depth (KX _ _ lk) rfl S.co S.gen rfl (PySem.W.codeRec_of KX hcd) (hb _ _ _ _ ?_)
  refine wpAny_newFunctionEnv_cells S.kind (fun ⟨n, v⟩ hy => (S.par n (List.of_mem_zip hy).1).elim .inl fun q => .inr ⟨q, PySem.W.cellsFrom_some _ _ _ (.inl q)⟩) fun env he s1 y => ?_
  subst he
  refine ⟨lim.keeps y.toInCall.keep, codeAny_func ?_⟩
  obtain ⟨t, ht, hq⟩ := hbody cdv A outer s H vs Q p cls d hz hf hsp
  refine wpAny_mono (ht.run [] s1 (L2.start N vs) H _ (L2H.inv_startH S hpin e0 hl r y) hq) (fun fl s' hs => ?_) fun e s' hs => hs
  cases fl with
  | ret u =>
    obtain ⟨v, σ', H', J, rv, q⟩ := hs
    exact ⟨v, H', J.os, J.bare, J.base, J.hok, rv, q⟩
  | next =>
    obtain ⟨σ', H', J, q⟩ := hs
    exact ⟨.non, H', J.os, J.bare, J.base, J.hok, rfl, q⟩
  | brk =>
    obtain ⟨_, _, _, q⟩ := hs
    exact q.elim
  | cont =>
    obtain ⟨_, _, _, q⟩ := hs
    exact q.elim
def tCallP (sp : Addr → Value → Option Addr → Sp) (a : Addr) (cls : Value) (d : Option Addr) (t : L2.TA) : TE := fun σ H Q => t σ H fun vs H1 => sp a cls d vs H1 Q E0
theorem pe_callP {X : Cx} {k : Nat} {f : Addr} {fd : FuncData} {ps : List Str} {sp : Addr → Value → Option Addr → Sp} {a : Addr} {oe : Obj} {cls : Value} {d : Option Addr} {x : Str} {q pos : Pos} {e : Expr} {es : List Expr} {t : L2.TA} (F : FnP X.prog X.w X.K X.mg X.base k f fd ps sp) (hr : L2H.RoomH k X.A) (hp : (a, oe) ∈ X.pn) (hz : Zc cls d oe) (hf : ∃ vs, oe.data = .fields vs)
    (hg : Gl X x) (hm : X.mg x = some (.ref f)) (hk : PySem.W.keepIn X.K (.ref f) = true) (hb : Binds X.K fd ps [])
    (ha : PA X (e :: es) t) (hdb : (x == ("__debug__" : Str)) = false := by decide) (he : starEach (e :: es) X.env = (false, eval e X.env) :: starEach es X.env := by rfl) (hpl : (backTo pos (starEach es X.env)).any (·.1) = false := by rfl) :
    PE X (.Call (.Name x q) (e :: es) [] pos) (tCallP sp a cls d t) := by
  refine ⟨fun pins s σ H Q I h => ?_⟩
  refine wpAny_Call_Name_kw (ld_glob I hg hm ?_ hdb)
  refine PySem.W.callWith_K (h₀ := X.base) I.ok.mod.kin hk (thn (ha.run pos pins s σ H _ I h) fun us s1 ⟨vs, H1, I1, r, h1⟩ => ⟨I1.kIn, ?_⟩) he hpl
  have hl : us.length = ps.length := by rw [← r.length]; exact F.len _ _ _ _ _ _ _ h1
  have b := hb s1 us I1.kIn (by rw [List.append_nil]; exact hl)
  rw [List.append_nil] at b
  have P1 := I1.pin (a, oe) (List.mem_append_left _ hp)
  refine wpAny_call (codeAny_mono (F.run X.A X.stack s1 H1 ⟨us, []⟩ us vs Q (a, oe) cls d hr ⟨P1.1, P1.2.1, fun m => (List.mem_cons.mp (I1.stkSub a m)).elim P1.2.2.1 P1.2.2.2.1, P1.2.2.2.2⟩ hz hf I1.env0 b r h1) fun r s' hq => ?_)
  cases r with
  | error e => exact (show False from hq).elim
  | ok fl =>
    cases fl with
    | ret u => exact I1.after hq
    | next => exact False.elim hq
    | brk => exact False.elim hq
    | cont => exact False.elim hq
/-! ### tables of code objects under changes -/
theorem TabS.kp {H H' : Hp} {P b : Addr} {q : Str} {ys : List V} (t : LamX.TabS H P q) (k : Kp b H H') (hb : H b = some (.lst ys)) : LamX.TabS H' P q := by
  obtain ⟨ps, h1, h2, h3⟩ := t
  refine ⟨ps, k _ _ (fun z => by rw [z, hb] at h1; cases h1) h1, h2, fun pos cv hc => ?_⟩
  obtain ⟨c, e1, e2⟩ := h3 pos cv hc
  exact ⟨c, e1, k _ _ (fun z => by rw [z, hb] at e2; unfold LamX.CodeO at e2; cases e2) e2⟩
theorem tabs_kp {T : List (Addr × Str)} {H H' : Hp} {b : Addr} {ys : List V} (t : LamX.Tabs T H) (k : Kp b H H') (hb : H b = some (.lst ys)) : LamX.Tabs T H' := fun p hp => TabS.kp (t p hp) k hb
theorem tabs_same {T : List (Addr × Str)} {H H' : Hp} (t : LamX.Tabs T H) (s : Same H H') : LamX.Tabs T H' := t.ext s
theorem Bag.b {l : Addr} {H : Hp} {b : Addr} (h : Bag l H b) : ∃ ys, H b = some (.lst ys) := by
  obtain ⟨ns, i, g, s, k, h1, h2, _⟩ := h
  exact ⟨_, h2⟩
theorem tabs_bag {T : List (Addr × Str)} {l : Addr} {H H' : Hp} {b : Addr} (t : LamX.Tabs T H) (B : Bag l H b) (k : Kp b H H') : LamX.Tabs T H' := by
  obtain ⟨ys, hb⟩ := B.b
  exact tabs_kp t k hb
theorem ext_tp {H H' : Hp} (e : LamX.ExtN H H') : Tp H H' := fun a xs h => e a _ h fun ps z => by cases z
theorem Bag.ext {l : Addr} {H H' : Hp} {b : Addr} (h : Bag l H b) (e : LamX.ExtN H H') : Bag l H' b := by
  obtain ⟨ns, i, g, s, k, h1, h2, h3, h4⟩ := h
  exact ⟨ns, i, g, s, k, h1, e _ _ h2 (fun ps z => by cases z), e _ _ h3 (fun ps z => by cases z), h4⟩
end Vw

set_option Elab.async false
set_option linter.all false
set_option maxRecDepth 100000
set_option maxHeartbeats 4000000
/-! a lambda asked under try; the law's end where it makes lambdas -/
namespace Vw
open PySem PySem.Spec PyProof.Rows L2
theorem tab_mk {K : PySem.W.Frag} {f cl Pl : Addr} {x qual : Str} {pr : Arguments} {bd : List Stmt} {sc : Scope} {dV kV dc pm ct oc occ : Value} {an od odc : Option Addr} {sl slc : Array (Option Value)} {vs : Array Value} (a : PySem.W.nsIn K mainGlobals x = some (some (.ref f)))
    (l : K.lookup f = some ⟨oc, od, .func (PySem.W.fnOf x qual pr bd sc dV kV dc pm an (.ref cl) ct), sl⟩) (lc : K.lookup cl = some ⟨occ, odc, .fields vs, slc⟩) (h : vs[11]? = some (.ref Pl)) : PySem.W.tabIn K x = some (cl, Pl) := by
  unfold PySem.W.tabIn
  rw [a]
  dsimp only
  rw [l]
  dsimp only
  show (match (Value.ref cl : Value) with | .ref c => _ | _ => none) = _
  dsimp only
  rw [lc]
  dsimp only
  rw [h]
theorem exm3 {K : PySem.W.Frag} {cls : Value} {A B C : Addr} (a1 : PySem.W.subIn K (.ref A) (.type "BaseException") = some true) (a2 : PySem.W.hasDictIn K A = true) (a3 : PySem.W.typeIn K (.ref A) = some (.type "type")) (b1 : PySem.W.subIn K (.ref B) (.type "BaseException") = some true) (b2 : PySem.W.hasDictIn K B = true) (b3 : PySem.W.typeIn K (.ref B) = some (.type "type"))
    (c1 : PySem.W.subIn K (.ref C) (.type "BaseException") = some true) (c2 : PySem.W.hasDictIn K C = true) (c3 : PySem.W.typeIn K (.ref C) = some (.type "type")) (ha : PySem.W.subIn K cls (.ref A) = some true) (hb : PySem.W.subIn K cls (.ref B) = some false) (hc : PySem.W.subIn K cls (.ref C) = some false) :
    PySem.W.exmAny K cls [.ref A, .ref B, .ref C] = some true := by
  unfold PySem.W.exmAny
  rw [PySem.W.exm_ref a1 a2 a3 ha]
  unfold PySem.W.exmAny
  rw [PySem.W.exm_ref b1 b2 b3 hb]
  unfold PySem.W.exmAny
  rw [PySem.W.exm_ref c1 c2 c3 hc]
  unfold PySem.W.exmAny
  rfl
/-! ### fields and told -/
def grp1 : List V := [.str "InvalidName", .str "DuplicateName", .str "Unguarded", .str "InvalidDoer", .str "UnknownName"]
def grp2 : List V := [.str "InvalidSentence", .str "InvalidCommand"]
def grp3 : List V := [.str "TooMany", .str "TooLong"]
/-- a code without fields -/
def plainC (nm : Str) : Bool := !inV (.str nm) grp1 && (!inV (.str nm) grp2 && (!inV (.str nm) grp3 && (!decide (V.str nm = V.str "InvalidLimit") && !decide (V.str nm = V.str "ParseError"))))
theorem code_look (nm : Str) : (codeF nm).lookup ("code" : Str) = some (V.str nm) := by simp [codeF, List.lookup]
/-- what is known of an error that is held -/
structure ErrA (K : PySem.W.Frag) (H : Hp) (cls : Value) (d : Option Addr) (nm : Str) : Prop where
  ex : ∃ C dd : Addr, cls = .ref C ∧ d = some dd ∧ XfC K C ∧ PySem.W.findIn K (.ref C) "code" = some none ∧ H dd = some (.xd (codeF nm))
theorem ErrA.same {K : PySem.W.Frag} {H H' : Hp} {cls : Value} {d : Option Addr} {nm : Str} (h : ErrA K H cls d nm) (s : Same H H') : ErrA K H' cls d nm := by
  obtain ⟨C, dd, a, b, c, e, f⟩ := h.ex
  exact ⟨C, dd, a, b, c, e, s _ _ f⟩
def spFields (K : PySem.W.Frag) : Addr → Value → Option Addr → Sp := fun a cls d vs H Q _ => ∃ nm : Str, vs = [.ref a] ∧ ErrA K H cls d nm ∧ plainC nm = true ∧ ∀ (q : Addr) (H' : Hp), Same H H' → TT K H' q [] → Q (.ref q) H'
def TTold3 (K : PySem.W.Frag) (cs : List Value) : (XK → Hp → VK → Prop) → Hp → VK → Prop := fun tl H Q =>
  tl (fun cls d H' => ∃ nm : Str, ErrA K H' cls d nm ∧ PySem.W.exmAny K cls cs = some true ∧ plainC nm = true ∧ ∀ (p : Addr) (H'' : Hp), Same H' H'' → TT K H'' p [.str "no", .str nm] → Q (.ref p) H'') H
    (fun v H' => [V.str "told", v].length ≤ sizeLine ∧ ∀ p : Addr, H' p = none → Q (.ref p) (upd H' p (.tup [.str "told", v])))
theorem takes_len {X : Cx} {W : WX} (tk : Takes X W) : Takes X (fun cls d σ H => σ.length = X.N.length → W cls d σ H) := fun u s' xx => by
  obtain ⟨a, B, sI, pins, σ, H, cls, d, rfl, J, nb, up, sky, na, os, ag, w⟩ := xx
  exact tk _ _ ⟨a, B, sI, pins, σ, H, cls, d, rfl, J, nb, up, sky, na, os, ag, w J.len⟩
theorem told_gives3 {X : Cx} {Ng : List Str} {x x1 x2 x3 xf q : Str} {sg : Scope} {g A1 A2 A3 ff : Addr} {fdf : FuncData} {cdg : Value} {k j1 j2 kt kk : Nat} {p1 p2 p3 p4 p5 p6 p7 p8 p9 p10 p11 p12 p13 p14 p15 p16 p17 p18 p19 p20 : Pos}
    (hr : Room (k + 2) X.A) (FF : FnP X.prog X.w X.K X.mg X.base k ff fdf ["_law_e"] (spFields X.K)) (mf : X.mg xf = some (.ref ff)) (kf : PySem.W.keepIn X.K (.ref ff) = true) (bf : Binds X.K fdf ["_law_e"] []) (gf : sg.names.lookup xf = some .globalImplicit) (df : (xf == ("__debug__" : Str)) = false)
    (g1 : sg.names.lookup x1 = some .globalImplicit) (m1 : X.mg x1 = some (.ref A1)) (d1 : (x1 == ("__debug__" : Str)) = false) (g2 : sg.names.lookup x2 = some .globalImplicit) (m2 : X.mg x2 = some (.ref A2)) (d2 : (x2 == ("__debug__" : Str)) = false)
    (g3 : sg.names.lookup x3 = some .globalImplicit) (m3 : X.mg x3 = some (.ref A3)) (d3 : (x3 == ("__debug__" : Str)) = false) (nd : Ng.Nodup) (n1 : Ng[1]? = some ("_law_e" : Str)) (le : sg.names.lookup ("_law_e" : Str) = some NameKind.local) (h0 : ∀ f : Addr, (L2.start Ng [V.ref f])[0]? = some (some (V.ref f))) (hlen : 1 < Ng.length) :
    LamX.GivesTo X Ng x sg g cdg [.Try [.Return (some (.Tuple [.Constant (.str "told") j1 p1, .Call (.Name "_law_ask_z" p2) [] [] p3] kt p4)) p5]
      [.ExceptHandler (some (.Tuple [.Name x1 p6, .Name x2 p7, .Name x3 p8] kk p9)) (some "_law_e") [.Return (some (.BinOp (.Tuple [.Constant (.str "no") j2 p10, .Attribute (.Name "_law_e" p11) "code" p12] kt p13) .Add (.Call (.Name xf p14) [.Name "_law_e" p15] [] p16) p17)) p18] p19] [] [] p20] "_law_ask_z" q (TTold3 X.K [.ref A1, .ref A2, .ref A3]) := by
  intro f c' s H Q tl act hc h
  have hve : Vis sg "_law_e" := .inl le
  have hrH := (L2H.roomH_of (hr.deeper (envOfC x sg s.heap.objs.size g cdg))).mono (Nat.le_succ k)
  refine ⟨_, pss_one (ps_try_as3 (X := (cxOf C8.CX0 X.prog X.w X.K X.mg X.base Ng x sg g cdg X.A X.stack s H C8.E0).nox) (i := 1) (c1 := .ref A1) (c2 := .ref A2) (c3 := .ref A3)
      (tb := fun W D σ H => ∃ Ech : XK, (∀ cls d (σ' : L2.St) H', Ech cls d H' → σ'.length = Ng.length → W cls d σ' H') ∧ σ[0]? = some (some (.ref f)) ∧ H c' = some (LamX.CodeO c' q) ∧ tl Ech H (fun v H1 => [V.str "told", v].length ≤ sizeLine ∧ ∀ p : Addr, H1 p = none → D.rt (.ref p) (upd H1 p (.tup [.str "told", v]))))
      (ts := fun a cls d => tRet (tOp (rCatO X.K) (tTup (tCons (tC (.str "no")) (tCons (tXfA X.K a cls d "code" (tVar 1)) tNil))) (tCallP (spFields X.K) a cls d (tCons (tVar 1) tNil))))
      rfl rfl nd n1 le ⟨g1, d1, .inl m1⟩ ⟨g2, d2, .inl m2⟩ ⟨g3, d3, .inl m3⟩ LamX.takes0 (fun W pn xe tk _ => ?_)
      (fun a oe cls d pn hz hf => pss_one (ps_ret (pe_op op_catO (pe_tup (pa_cons pe_str (pa_cons (pe_xfP (X := (cxOf C8.CX0 X.prog X.w X.K X.mg X.base Ng x sg g cdg X.A X.stack s H C8.E0).nox.suite a ((a, oe) :: pn)) (n := "code") (a := a) (oe := oe) List.mem_cons_self hz hf (pe_var (x := "_law_e") (i := 1) n1 hve)) pa_nil)))
        (pe_callP (X := (cxOf C8.CX0 X.prog X.w X.K X.mg X.base Ng x sg g cdg X.A X.stack s H C8.E0).nox.suite a ((a, oe) :: pn)) (a := a) (oe := oe) FF ⟨hrH.dp, hrH.un⟩ List.mem_cons_self hz hf gf mf kf bf (pa_cons (pe_var (x := "_law_e") (i := 1) n1 hve) pa_nil) df))))), ?_⟩
  · refine ⟨fun pins s' σ H' D I h' => ?_⟩
    obtain ⟨Ech, hW, h1, h2, h3⟩ := h'
    have hq : PSs ((cxOf C8.CX0 X.prog X.w X.K X.mg X.base Ng x sg g cdg X.A X.stack s H C8.E0).tr pn xe) [.Return (some (.Tuple [.Constant (.str "told") j1 p1, .Call (.Name "_law_ask_z" p2) [] [] p3] kt p4)) p5] _ := pss_one (ps_ret (pos := p5) (pe_tup (pos := p4) (pa_cons (pe_str (x := "told") (j := j1) (pos := p1)) (pa_cons (act _ pn xe Ech p2 p3 (takes_len tk) hW) pa_nil))))
    refine hq.run pins s' σ H' D I ?_
    exact ⟨h1, h2, h3⟩
  · refine ⟨_, fun cls d σ' H' hE hlen' => ?_, h0 f, hc, h⟩
    obtain ⟨nm, hA, hex, hpl, hQ⟩ := hE
    refine ⟨true, hex, fun _ a ha => ?_, fun z => Bool.noConfusion z⟩
    obtain ⟨C, dd, rfl, rfl, hx, hno, hdd⟩ := id hA.ex
    have hset : (σ'.set 1 (some (V.ref a)))[1]? = some (some (V.ref a)) := List.getElem?_set_self (by rw [hlen']; exact hlen)
    refine ⟨_, hset, rfl, C, dd, codeF nm, .str nm, rfl, rfl, hx, hno, hdd, code_look nm, (by show 2 ≤ sizeLine; decide), fun p np => ⟨_, hset, nm, rfl, hA.same (same_new np), hpl, fun q2 H2 s2 t2 => ?_⟩⟩
    refine rd_cat ((TT.of upd_same).same s2) t2 (by show 2 + 0 ≤ 100000; decide) fun p3 H3 s3 t3 => ?_
    exact hQ p3 H3 (((same_new np).trans s2).trans s3) t3
/-! ### a def that makes lambdas; a def that raises; the law's end -/
section
variable {P : Program} {w : World} {K : PySem.W.Frag} {mg : Str → Option Value} {base : Heap}
theorem fn_okC {x qual : Str} {st : Stmt} {f cl : Addr} {fd : FuncData} {N ps : List Str} {k : Nat} {sp : Sp} (F : Fun K x qual st f fd) (hc : fd.code = .ref cl) (S : FnScope N ps (defScope st)) (len : ∀ vs H Q E, sp vs H Q E → vs.length = ps.length)
    (hbody : ∀ (A : Around) (outer : List Env) (s : Shared) (H : Hp) (vs : List V) (Q : VK) (E : XK), Room k (A.deeper (envOfC qual (defScope st) s.heap.objs.size f (.ref cl))) → sp vs H Q E →
      ∃ t, PSs (cxOf CX0 P w K mg base N qual (defScope st) f (.ref cl) A outer s H E).nox (defBody st) t ∧ t { nx := fun _ H' => Q .non H', rt := Q } (start N vs) H) : FnOk P w K mg base CX0 (k + 1) f fd ps sp := by
  obtain ⟨oc, od, kV, doc, pm, an, cdv, ct, osl, rfl, lk, hcd⟩ := F.ex
  obtain rfl : cdv = Value.ref cl := hc
  refine fn_of lk hcd S len fun A outer s H vs Q E hr hsp => ?_
  obtain ⟨t, h, q⟩ := hbody A outer s H vs Q E hr hsp
  exact ⟨t, h.nox, q⟩
/-- a def that may raise, as it is called -/
structure CalX (P : Program) (w : World) (K : PySem.W.Frag) (mg : Str → Option Value) (base : Heap) (k : Nat) (x : Str) (ps : List Str) (sp : Sp) (f : Addr) (fd : FuncData) : Prop where
  G : FnOk P w K mg base (L2.CX P w) k f fd ps sp
  m : mg x = some (.ref f)
  kp : PySem.W.keepIn K (.ref f) = true
  b : Binds K fd ps []
end
/-- where lambdas stand for a law -/
def lamQ : Str := ("law" : Str) ++ ".<locals>." ++ "<lambda>"
def lamT (Pl : Addr) : List (Addr × Str) := [(Pl, lamQ)]
def spLawT (K : PySem.W.Frag) (Pl : Addr) : Sp := fun vs H Q _ => ∃ (a : Addr) (ns : List Int), vs = [.ref a] ∧ SqL K H a (ns.map V.int) ∧ ns.length ≤ 63 ∧ LamX.Tabs (lamT Pl) H ∧ ∀ H', Q (.bl true) H'
theorem walk_ofT3 {l : PySem.W.OpenLaw} {n k : Nat} {q : Program} {loose : List Str} {XP : (Str → Option Value) → Heap → Prop} {YP : World → Heap → Prop} {d : DefRec} {K : Params → PySem.W.Frag} {CX : World → CXT} {x y : Str}
    (hn : l.most = some n) (hn2 : n ≤ sizeLine) (hdf : d.params.defaults = []) (hr : Room k callerA) (hY : ∀ (w : World) (h : Heap), YP w h → (K w.params).In h) (hrec : (recsOf q).find? (fun e => e.name == y) = some d)
    (F : ∀ (w : World) (mg : Str → Option Value) (fa : Addr) (h : Heap), (K w.params).In h → h.Ns mainGlobals mg → mg d.name = some (.ref fa) →
      (∀ c P, PySem.W.tabIn (K w.params) y = some (c, P) → PySem.W.CodeHd h c P ∧ h.get? P = some (PySem.W.tabObj #[])) → LamX.LawAtS l w (K w.params) (CX w) k n x mg fa h)
    (hCX : ∀ (w : World) (H : Hp) (s : Shared) (e : Value) (s' : Shared), CX w [] H s (fun _ _ _ => False) e s' → False) :
    PySem.W.WalkO q loose XP YP l.row.toRowW d [] (fun f vs => PySem.call f vs) := by
  refine Att.attach_callB hn hdf fun w s₀ s₁ mg mb fa o pm cd doc a vs ns G Y ho hd hcd hmg hobj hints hlen hbits hg => ?_
  have KX := hY w _ Y
  obtain ⟨fd, cs, sp, hT, nT, C, hb, hsp, hF⟩ := F w mg fa _ KX G.T.g hmg fun c P ht => PySem.W.tab_of G.T KX hrec ht
  exact LamX.law_callTs KX G.T.g G.T.b G.T.builtins G.T.nolimit hg hT nT C G.T.bmain hobj hints (Nat.le_trans hlen hn2) hr hF hb (fun H hH hS => hsp H a ns hlen hbits hH hS) fun H e s' => hCX w H s₁ e s'
/-! ### data where a lambda is made; an expression whose answer is told once -/
section
variable {K : PySem.W.Frag} {H H' : Hp}
theorem rd_ext {a : Addr} {u : HO} (e : LamX.ExtN H H') (h : Rd H a u) (n : ∀ ps, u ≠ .tbl ps) : Rd H' a u := by
  rcases h with h | ⟨o, h⟩
  · exact .inl (e _ _ h n)
  · exact .inr ⟨o, e _ _ h fun ps z => by cases z⟩
theorem sql_ext {a : Addr} {xs : List V} (e : LamX.ExtN H H') (h : SqL K H a xs) : SqL K H' a xs := h.imp (fun h => rd_ext e h fun ps z => by cases z) id
theorem sqt_ext {a : Addr} {xs : List V} (e : LamX.ExtN H H') (h : SqT K H a xs) : SqT K H' a xs := h.imp (fun h => rd_ext e h fun ps z => by cases z) id
mutual
theorem dp_ext (e : LamX.ExtN H H') : ∀ {d : PyData} {v : V}, Dp K H v d → Dp K H' v d
  | _, _, .non => .non
  | _, _, .bl b => .bl b
  | _, _, .int i => .int i
  | _, _, .str x => .str x
  | _, _, .lst h t => .lst (sql_ext e h) (dpall_ext e t)
  | _, _, .tup h t => .tup (sqt_ext e h) (dpall_ext e t)
theorem dpall_ext (e : LamX.ExtN H H') : ∀ {ds : List PyData} {vs : List V}, DpAll K H vs ds → DpAll K H' vs ds
  | _, _, .nil => .nil
  | _, _, .cons h t => .cons (dp_ext e h) (dpall_ext e t)
end
/-- what told gives -/
def tupV (b : Bool) (nm : Str) : List V := if b = true then [.str "told", .non] else [.str "no", .str nm]
def tupD (b : Bool) (nm : Str) : PyData := if b = true then .tuple [.str "told", .none] else .tuple [.str "no", .str nm]
theorem tup_dp {p : Addr} {b : Bool} {nm : Str} (h : TT K H p (tupV b nm)) : Dp K H (.ref p) (tupD b nm) := by
  cases b with
  | true => exact .tup h.sq (.cons (.str _) (.cons .non .nil))
  | false => exact .tup h.sq (.cons (.str _) (.cons (.str _) .nil))
theorem tup_depth (b : Bool) (nm : Str) : (tupD b nm).depth ≤ 2 := by
  cases b <;> simp [tupD, PyData.depth, PyData.depthAll]
end
/-- an expression, what it answers said once -/
def tCutE (t : TE) : TE := fun σ H Q => ∃ Mid : V → Hp → Prop, t σ H Mid ∧ ∀ v H', Mid v H' → Q v H'
theorem pe_cut {X : Cx} {e : Expr} {t : TE} (h : PE X e t) : PE X e (tCutE t) := ⟨fun pins s σ H Q I ⟨Mid, h1, h2⟩ =>
  thn (h.run pins s σ H Mid I h1) fun u s1 ⟨v, H', J, r, q⟩ => ⟨v, H', J, r, h2 v H' q⟩⟩
end Vw

set_option Elab.async false
set_option linter.all false
set_option maxRecDepth 100000
namespace Vw
open PySem PySem.W PyProof.Rows L2
/-- a whole number's global name -/
theorem pe_globI {X : Cx} {x : Str} {n : Int} {pos : Pos} (hg : Gl X x) (hm : ∃ t, X.mg x = some (.int n t)) (hd : (x == ("__debug__" : Str)) = false := by decide) : PE X (.Name x pos) (tC (.int n)) := by
  obtain ⟨t, h⟩ := hm
  exact pe_glob hg h ⟨t, rfl⟩ hd
def resv : List V := [.str "true", .str "false", .str "not", .str "and", .str "or", .str "then", .str "shown"]
def isLow (c : Nat) : Bool := decide (97 ≤ c) && decide (c ≤ 122)
/-- names: 1 to 6 small letters, no reserved word -/
def isNm (z : Str) : Bool := !inV (.str z) resv && (decide (1 ≤ z.length) && (decide (z.length ≤ 6) && z.cps.toList.all isLow))
def spNm : Sp := fun vs H Q _ => ∃ z : Str, vs = [.str z] ∧ z.length ≤ 30 ∧ ∀ H', Same H H' → Q (.bl (isNm z)) H'
theorem lt_one (c d : Nat) : decide ([c] < [d]) = decide (c < d) := by
  by_cases h : c < d
  · rw [decide_eq_true h]; exact decide_eq_true (List.Lex.rel h)
  · rw [decide_eq_false h]
    refine decide_eq_false fun e => ?_
    cases e with
    | rel h' => exact h h'
    | cons h' => cases h'
theorem take_succ_get {α : Type} {xs : List α} {i : Nat} {c : α} (h : xs[i]? = some c) : xs.take (i + 1) = xs.take i ++ [c] := by
  rw [List.take_succ, h]; rfl
theorem cps_get {z : Str} {i : Nat} {c : Nat} (h : z.cps[i]? = some c) : z.cps.toList[i]? = some c := by rw [Array.getElem?_toList]; exact h
theorem mem_letters (c : Nat) : decide (c ∈ ("abcdefghijklmnopqrstuvwxyz" : Str).cps.toList) = isLow c := by
  have e : ("abcdefghijklmnopqrstuvwxyz" : Str).cps.toList = [97, 98, 99, 100, 101, 102, 103, 104, 105, 106, 107, 108, 109, 110, 111, 112, 113, 114, 115, 116, 117, 118, 119, 120, 121, 122] := by decide +kernel
  rw [e]
  unfold isLow
  by_cases h : 97 ≤ c ∧ c ≤ 122
  · obtain ⟨h1, h2⟩ := h
    have : c ∈ [97, 98, 99, 100, 101, 102, 103, 104, 105, 106, 107, 108, 109, 110, 111, 112, 113, 114, 115, 116, 117, 118, 119, 120, 121, 122] := by
      simp only [List.mem_cons, List.not_mem_nil, or_false]; omega
    rw [decide_eq_true this, decide_eq_true h1, decide_eq_true h2]; rfl
  · have : c ∉ [97, 98, 99, 100, 101, 102, 103, 104, 105, 106, 107, 108, 109, 110, 111, 112, 113, 114, 115, 116, 117, 118, 119, 120, 121, 122] := by
      simp only [List.mem_cons, List.not_mem_nil, or_false]; omega
    rw [decide_eq_false this]
    by_cases h1 : 97 ≤ c
    · have h2 : ¬ c ≤ 122 := fun x => h ⟨h1, x⟩
      rw [decide_eq_true h1, decide_eq_false h2]; rfl
    · rw [decide_eq_false h1]; rfl
theorem atI_exG {α : Type} {xs : List α} {i : Int} (h0 : 0 ≤ i) (h : i < (xs.length : Int)) : ∃ v, v ∈ xs ∧ atI xs i = some v := by
  obtain ⟨j, rfl⟩ := Int.eq_ofNat_of_zero_le h0
  have hj : j < xs.length := by omega
  exact ⟨xs[j], List.getElem_mem hj, atI_nat (List.getElem?_eq_getElem hj)⟩
theorem joinL_len : ∀ parts : List (List Nat), (∀ p ∈ parts, p.length ≤ 1) → (TL.joinL [] parts).length ≤ parts.length
  | [], _ => Nat.le_refl _
  | [p], h => h p (List.mem_singleton.mpr rfl)
  | p :: q :: r, h => by
    have ih := joinL_len (q :: r) fun x hx => h x (List.mem_cons_of_mem _ hx)
    have h1 := h p List.mem_cons_self
    show (p ++ ([] ++ TL.joinL [] (q :: r))).length ≤ r.length + 1 + 1
    rw [List.length_append, List.nil_append]
    have : (q :: r).length = r.length + 1 := rfl
    omega
theorem join_len (ys : List Str) (h : ∀ y ∈ ys, y.length = 1) : (Txt.join "" ys).length ≤ ys.length := by
  rw [TL.join_eq, TL.len_tl, TL.tl_join]
  have e : TL.tl ("" : Str) = [] := by decide +kernel
  rw [e]
  have := joinL_len (ys.map TL.tl) fun p hp => by
    obtain ⟨y, hy, rfl⟩ := List.mem_map.mp hp
    rw [← TL.len_tl, h y hy]; exact Nat.le_refl _
  rw [List.length_map] at this
  exact this
theorem sum_ones : ∀ ys : List Str, (∀ y ∈ ys, y.length = 1) → (ys.map (·.length)).sum = ys.length
  | [], _ => rfl
  | y :: ys, h => by
    rw [List.map_cons, List.sum_cons, h y List.mem_cons_self, sum_ones ys fun x hx => h x (List.mem_cons_of_mem _ hx), List.length_cons]; omega
theorem len_app (x y : Str) : (x ++ y).length = x.length + y.length := by
  rw [TL.len_tl, TL.len_tl, TL.len_tl, TL.tl_append, List.length_append]
end Vw

set_option Elab.async false
set_option linter.all false
set_option maxRecDepth 100000
namespace Vw
open PySem PySem.W PyProof.Rows L2
/-! ### stairs among any data -/
/-- the first i items are right steps with these begins -/
structure SPre (p : PyData → Prop) (ds : List PyData) (os : List O) (i : Nat) : Prop where
  len : os.length = i
  at_ : ∀ (j : Nat) (o : O), os[j]? = some o → ∃ inner, ds[j]? = some (PyData.tuple [O.toD o, inner]) ∧ O.ok o = true ∧ p inner
  asc : os.Pairwise fun a b => O.lt a b = true
  first : ∀ o : O, os.head? = some o → o = .z
def IsSt : Nat → PyData → Prop
  | 0, d => ∃ b, d = .bool b
  | n + 1, d => ∃ ds os, d = .tuple ds ∧ ds ≠ [] ∧ SPre (IsSt n) ds os ds.length
def IsStep (n : Nat) (d : PyData) : Prop := ∃ o inner, d = .tuple [O.toD o, inner] ∧ O.ok o = true ∧ IsSt n inner
noncomputable def isStB (n : Nat) (d : PyData) : Bool := open Classical in decide (IsSt n d)
noncomputable def isStepB (n : Nat) (d : PyData) : Bool := open Classical in decide (IsStep n d)
open Classical in
theorem isSt_t {n : Nat} {d : PyData} (h : IsSt n d) : isStB n d = true := by unfold isStB; exact decide_eq_true h
open Classical in
theorem isSt_f {n : Nat} {d : PyData} (h : ¬ IsSt n d) : isStB n d = false := by unfold isStB; exact decide_eq_false h
open Classical in
theorem isSt_of {n : Nat} {d : PyData} (h : isStB n d = true) : IsSt n d := by unfold isStB at h; exact of_decide_eq_true h
open Classical in
theorem isStep_t {n : Nat} {d : PyData} (h : IsStep n d) : isStepB n d = true := by unfold isStepB; exact decide_eq_true h
open Classical in
theorem isStep_f {n : Nat} {d : PyData} (h : ¬ IsStep n d) : isStepB n d = false := by unfold isStepB; exact decide_eq_false h
open Classical in
theorem isStep_of {n : Nat} {d : PyData} (h : isStepB n d = true) : IsStep n d := by unfold isStepB at h; exact of_decide_eq_true h
theorem isStep_no {n : Nat} {d : PyData} (h : isStepB n d = false) : ¬ IsStep n d := fun z => by rw [isStep_t z] at h; cases h
theorem isSt_no {n : Nat} {d : PyData} (h : isStB n d = false) : ¬ IsSt n d := fun z => by rw [isSt_t z] at h; cases h
theorem isSt_zero (d : PyData) : isStB 0 d = isin d "bool" := by
  cases d with
  | bool b => exact (isSt_t (n := 0) ⟨b, rfl⟩).trans rfl
  | _ => exact (isSt_f (n := 0) fun ⟨b, h⟩ => by cases h).trans rfl
theorem isSt_other {n : Nat} {d : PyData} (h : ∀ ds, d ≠ .tuple ds) : isStB (n + 1) d = false := isSt_f fun ⟨ds, os, h1, _⟩ => h _ h1
theorem isSt_empty {n : Nat} : isStB (n + 1) (.tuple []) = false := isSt_f fun ⟨ds, os, h1, h2, _⟩ => by
  cases h1; exact h2 rfl
theorem isStep_other {n : Nat} {d : PyData} (h : ∀ a b, d ≠ .tuple [a, b]) : isStepB n d = false := isStep_f fun ⟨o, i, h1, _⟩ => h _ _ h1
theorem isStep_two {n : Nat} (a b : PyData) : isStepB n (.tuple [a, b]) = (isOrdB a && isStB n b) := by
  cases h : isOrdB a && isStB n b with
  | true =>
    rw [Bool.and_eq_true] at h
    obtain ⟨o, rfl, ho⟩ := isOrd_of h.1
    exact isStep_t ⟨o, b, rfl, ho, isSt_of h.2⟩
  | false =>
    refine isStep_f fun ⟨o, i, h1, h2, h3⟩ => ?_
    have h4 : a = O.toD o ∧ b = i := by simpa using h1
    rw [h4.1, h4.2, isOrd_toD h2, isSt_t h3] at h
    cases h
section
variable {n : Nat} {ds : List PyData} {os : List O} {p : PyData → Prop} {i : Nat}
theorem full_at (h : SPre p ds os ds.length) {d : PyData} (hd : ds[i]? = some d) : ∃ o inner, os[i]? = some o ∧ d = .tuple [O.toD o, inner] ∧ O.ok o = true ∧ p inner := by
  have hi : i < os.length := by rw [h.len]; exact (List.getElem?_eq_some_iff.mp hd).1
  obtain ⟨inner, h1, h2, h3⟩ := h.at_ i _ (List.getElem?_eq_getElem hi)
  rw [hd] at h1
  exact ⟨_, inner, List.getElem?_eq_getElem hi, Option.some.inj h1, h2, h3⟩
theorem bad_step {d : PyData} (hd : ds[i]? = some d) (h : ¬ IsStep n d) : isStB (n + 1) (.tuple ds) = false := isSt_f fun ⟨ds', os, h1, _, h3⟩ => by
  cases h1
  obtain ⟨o, inner, _, e, h4, h5⟩ := full_at h3 hd
  exact h ⟨o, inner, e, h4, h5⟩
theorem two_inj {o o' : O} {a b : PyData} (h : PyData.tuple [O.toD o, a] = .tuple [O.toD o', b]) : o = o' := by
  have : O.toD o = O.toD o' ∧ a = b := by simpa using h
  exact O.toD_inj this.1
theorem bad_first {o : O} {a : PyData} (hd : ds[0]? = some (PyData.tuple [O.toD o, a])) (h : o ≠ .z) : isStB (n + 1) (.tuple ds) = false := isSt_f fun ⟨ds', os, h1, _, h3⟩ => by
  cases h1
  obtain ⟨o', inner, ho, e, _, _⟩ := full_at h3 hd
  refine h ((two_inj e).trans (h3.first o' ?_))
  rw [List.head?_eq_getElem?]; exact ho
theorem bad_asc {o1 o2 : O} {a b : PyData} (h1 : ds[i]? = some (PyData.tuple [O.toD o1, a])) (h2 : ds[i + 1]? = some (PyData.tuple [O.toD o2, b])) (h : O.lt o1 o2 = false) : isStB (n + 1) (.tuple ds) = false := isSt_f fun ⟨ds', os, e1, _, h3⟩ => by
  cases e1
  obtain ⟨p1, _, g1, e1, _, _⟩ := full_at h3 h1
  obtain ⟨p2, _, g2, e2, _, _⟩ := full_at h3 h2
  obtain ⟨i1, f1⟩ := List.getElem?_eq_some_iff.mp g1
  obtain ⟨i2, f2⟩ := List.getElem?_eq_some_iff.mp g2
  have := List.pairwise_iff_getElem.mp h3.asc i (i + 1) i1 i2 (Nat.lt_succ_self i)
  rw [f1, f2, ← two_inj e1, ← two_inj e2, h] at this
  cases this
theorem spre_nil (ds : List PyData) : SPre p ds [] 0 := ⟨rfl, (fun j o h => by cases h), List.Pairwise.nil, (fun o h => by cases h)⟩
theorem spre_last (h : SPre p ds os (i + 1)) : ∃ o inner, os.getLast? = some o ∧ ds[i]? = some (PyData.tuple [O.toD o, inner]) := by
  have hi : i < os.length := by rw [h.len]; exact Nat.lt_succ_self i
  obtain ⟨inner, h1, _⟩ := h.at_ i _ (List.getElem?_eq_getElem hi)
  refine ⟨os[i], inner, ?_, h1⟩
  rw [List.getLast?_eq_getElem?, h.len]
  exact List.getElem?_eq_getElem hi
theorem spre_step {o : O} {inner : PyData} (h : SPre p ds os i) (hd : ds[i]? = some (PyData.tuple [O.toD o, inner])) (ho : O.ok o = true) (hp : p inner) (h0 : i = 0 → o = .z) (hl : ∀ o', os.getLast? = some o' → O.lt o' o = true) : SPre p ds (os ++ [o]) (i + 1) := by
  refine ⟨by rw [List.length_append, h.len]; rfl, fun j o' hj => ?_, ?_, fun o' h' => ?_⟩
  · by_cases hji : j < i
    · rw [List.getElem?_append_left (by rw [h.len]; exact hji)] at hj
      exact h.at_ j o' hj
    · have hj2 : j < (os ++ [o]).length := (List.getElem?_eq_some_iff.mp hj).1
      rw [List.length_append, h.len] at hj2
      have : j = i := by have : j < i + 1 := hj2; omega
      subst this
      rw [List.getElem?_append_right (by rw [h.len]; exact Nat.le_refl _), h.len, Nat.sub_self] at hj
      cases hj
      exact ⟨inner, hd, ho, hp⟩
  · refine List.pairwise_append.mpr ⟨h.asc, List.pairwise_singleton _ _, fun a ha c hc => ?_⟩
    rw [List.mem_singleton.mp hc]
    obtain ⟨l, hlast⟩ : ∃ l, os.getLast? = some l := by
      cases e : os.getLast? with
      | some l => exact ⟨l, rfl⟩
      | none => rw [List.getLast?_eq_none_iff.mp e] at ha; cases ha
    have hlo := hl l hlast
    have hne : os ≠ [] := fun z => by rw [z] at ha; cases ha
    have es : os = os.dropLast ++ [l] := by
      rw [List.getLast?_eq_some_getLast hne] at hlast
      have := Option.some.inj hlast
      rw [← this, List.dropLast_concat_getLast]
    have hasc := h.asc
    rw [es] at hasc ha
    rcases List.mem_append.mp ha with h1 | h1
    · exact O.lt_trans _ _ _ ((List.pairwise_append.mp hasc).2.2 a h1 l (List.mem_singleton.mpr rfl)) hlo
    · rw [List.mem_singleton.mp h1]; exact hlo
  · cases os with
    | nil =>
      cases h'
      exact h0 h.len.symm
    | cons a r => exact h.first o' h'
theorem spre_end (h : SPre (IsSt n) ds os ds.length) (hne : ds ≠ []) : isStB (n + 1) (.tuple ds) = true := isSt_t ⟨ds, os, rfl, hne, h⟩
end
/-- stairs are stairs -/
theorem isSt_stD : ∀ (n : Nat) (s : SD n), okS n s → IsSt n (stD n s)
  | 0, (b : Bool), _ => ⟨b, rfl⟩
  | n + 1, (l : List (O × SD n)), h => by
    obtain ⟨h1, h2, h3, h4, h5, h6⟩ := (h : l ≠ [] ∧ Asc l ∧ (∀ t ∈ l, O.ok t.1 = true ∧ O.dp t.1 ≤ 8 ∧ O.wd t.1 ≤ 3) ∧ (∀ t ∈ l, okS n t.2) ∧ l.length ≤ 4 ∧ l.head?.map (·.1) = some O.z)
    refine ⟨l.map fun t => .tuple [O.toD t.1, stD n t.2], l.map (·.1), rfl, fun z => h1 (List.map_eq_nil_iff.mp z), ⟨by rw [List.length_map, List.length_map], fun j o hj => ?_, (by have h2' : l.Pairwise fun a b => O.lt a.1 b.1 = true := h2; exact List.pairwise_map.mpr h2'), fun o ho => ?_⟩⟩
    · rw [List.getElem?_map] at hj
      obtain ⟨t, ht, rfl⟩ := Option.map_eq_some_iff.mp hj
      have hm := List.mem_of_getElem? ht
      exact ⟨stD n t.2, by rw [List.getElem?_map, ht]; rfl, (h3 t hm).1, isSt_stD n t.2 (h4 t hm)⟩
    · rw [List.head?_map, h6] at ho
      exact (Option.some.inj ho).symm
theorem depth_stD : ∀ (n : Nat) (s : SD n), okS n s → (stD n s).depth ≤ 11 + 2 * n
  | 0, (b : Bool), _ => by show (PyData.bool b).depth ≤ _; simp only [PyData.depth]; omega
  | n + 1, (l : List (O × SD n)), h => by
    have h3 : ∀ t ∈ l, O.ok t.1 = true ∧ O.dp t.1 ≤ 8 ∧ O.wd t.1 ≤ 3 := h.2.2.1
    have h4 : ∀ t ∈ l, okS n t.2 := h.2.2.2.1
    have key : ∀ l : List (O × SD n), (∀ t ∈ l, O.dp t.1 ≤ 8) → (∀ t ∈ l, okS n t.2) → PyData.depthAll (l.map fun t => .tuple [O.toD t.1, stD n t.2]) ≤ 12 + 2 * n := by
      intro l
      induction l with
      | nil => intro _ _; exact Nat.zero_le _
      | cons t r ih =>
        intro g1 g2
        have i1 := ih (fun x hx => g1 x (List.mem_cons_of_mem _ hx)) (fun x hx => g2 x (List.mem_cons_of_mem _ hx))
        have i2 := depth_stD n t.2 (g2 t List.mem_cons_self)
        have i3 := g1 t List.mem_cons_self
        simp only [List.map_cons, PyData.depthAll, PyData.depth, O.depth_toD]
        omega
    have := key l (fun t ht => (h3 t ht).2.1) h4
    show (PyData.tuple (l.map fun t => .tuple [O.toD t.1, stD n t.2])).depth ≤ _
    simp only [PyData.depth]
    omega
theorem rd_neD2 {K : PySem.W.Frag} {H : Hp} {x y : V} {a b : O} {Q : VK} (ha : Dp K H x (O.toD a)) (hb : Dp K H y (O.toD b)) (h : O.dp a ≤ 60) (h2 : O.dp b ≤ 60) (q : Q (.bl (!decide (a = b))) H) : rNeO K x y H Q := by
  unfold rNeO
  exact ⟨_, _, ha, hb, O.shaped_toD h, O.shaped_toD h2, by rw [O.eqv_toD]; exact q⟩
theorem nil_dp {K : PySem.W.Frag} {H : Hp} {a : Addr} (h : TT K H a []) : Dp K H (.ref a) (O.toD .z) := .tup h.sq .nil
/-- whether any data is a stair -/
def spIsSt (K : PySem.W.Frag) (j : Nat) : Sp := fun vs H Q _ => ∃ (m : Nat) (x : V) (d : PyData), vs = [.int (m : Nat), x] ∧ m < j ∧ Dp K H x d ∧ d.depth ≤ 55 ∧ ∀ H', Same H H' → Q (.bl (isStB m d)) H'
def spIsStep (K : PySem.W.Frag) (j : Nat) : Sp := fun vs H Q _ => ∃ (m : Nat) (x : V) (d : PyData), vs = [.int ((m + 1 : Nat) : Int), x] ∧ m < j ∧ Dp K H x d ∧ d.depth ≤ 55 ∧ ∀ H', Same H H' → Q (.bl (isStepB m d)) H'
/-- a bent stair -/
def spBentSt (K : PySem.W.Frag) (j : Nat) : Sp := fun vs H Q _ => ∃ (l b : Addr) (v : V) (n : Nat) (s : SD n), vs = [.ref b, v] ∧ Bag l H b ∧ SA K H n v s ∧ okS n s ∧ n < j ∧ j ≤ 5 ∧ ∀ (w : V) (H' : Hp), EltB K H' b (20 + 4 * n) w → Kp b H H' → Bag l H' b → Q w H'
theorem EltT.stair {K : PySem.W.Frag} {H : Hp} {n m : Nat} {v : V} {s : SD n} (h : SA K H n v s) (ok : okS n s) (l : 11 + 2 * n ≤ m) : EltT K H m v := ⟨_, Nat.le_trans (depth_stD n s ok) l, fun _ t => (h.tp t).dp⟩
end Vw

set_option Elab.async false
set_option linter.all false
set_option maxRecDepth 100000
set_option maxHeartbeats 4000000
/-! tables of texts at the top of a module; a list that takes in a tuple -/
namespace Vw
open PySem PyProof.Rows L2
/-- a module's own dict of whole numbers by texts -/
structure TabC (K : PySem.W.Frag) (w : World) (d : Addr) (T : List (Str × Int)) : Prop where
  kd : ∃ es n, L2.KDict K w d es n
  at_ : ∀ (x : Str) (v : Int), T.lookup x = some v → ∃ t, PySem.W.nsIn K d x = some (some (.int v t))
  out : ∀ x : Str, T.lookup x = none → PySem.W.nsIn K d x = some none
theorem isStr_eq {v : Value} {x y : Str} (h : v.isStr x = true) (h2 : v.isStr y = true) : x = y := by
  cases v <;> simp [Value.isStr] at h h2
  exact h.symm.trans h2
theorem tabC_mk {K : PySem.W.Frag} {w : World} {d : Addr} {T : List (Str × Int)} {es : Array DictEntry} {n : Nat} (hl : List.lookup d K = some {cls := .type "dict", data := .dict es n}) (kl : PySem.W.KeysLit w.params es.toList) (low : (d == sysModules) = false)
    (al : (es.toList.all fun e => T.any fun p => e.key.isStr p.1) = true) (nr : (es.toList.any fun e => e.refKey) = false) (at_ : ∀ (x : Str) (v : Int), T.lookup x = some v → ∃ t, PySem.W.nsIn K d x = some (some (.int v t))) : TabC K w d T := by
  refine ⟨⟨es, n, hl, kl, low⟩, at_, fun x hx => ?_⟩
  unfold PySem.W.nsIn
  rw [hl]
  dsimp only
  have : List.find? (fun e => e.key.isStr x) es.toList = none := by
    refine List.find?_eq_none.mpr fun e he hs => ?_
    obtain ⟨p, hp, hk⟩ := List.any_eq_true.mp (List.all_eq_true.mp al e he)
    have e1 := isStr_eq hk hs
    subst e1
    have := List.lookup_eq_none_iff.mp hx p hp
    simp at this
  rw [this]
  dsimp only
  rw [nr]
  rfl
def TabAll (K : PySem.W.Frag) (d : Addr) : List (Str × Int) → Prop
  | [] => True
  | p :: r => (∃ t, PySem.W.nsIn K d p.1 = some (some (.int p.2 t))) ∧ TabAll K d r
theorem tab_at {K : PySem.W.Frag} {d : Addr} : ∀ {T : List (Str × Int)}, TabAll K d T → ∀ (x : Str) (v : Int), T.lookup x = some v → ∃ t, PySem.W.nsIn K d x = some (some (.int v t))
  | [], _, _, _, e => by cases e
  | (y, u) :: r, h, x, v, e => by
    rw [List.lookup_cons] at e
    by_cases hx : x = y
    · subst hx
      rw [beq_self_eq_true] at e
      have e : some u = some v := e
      cases e
      exact h.1
    · rw [beq_false_of_ne hx] at e
      exact tab_at h.2 x v e
def rNotInT (d : Addr) (T : List (Str × Int)) : R2 := fun x y H Q => ∃ z, x = .str z ∧ y = .ref d ∧ Q (.bl (!(T.lookup z).isSome)) H
theorem op_notInT {X : Cx} {d : Addr} {T : List (Str × Int)} (h : TabC X.K X.w d T) : OpR X (compareOp .NotIn) (rNotInT d T) := by
  obtain ⟨es, n, D⟩ := h.kd
  intro pins s σ H x y v u Q I rx ry hh
  refine L2.op_notIn_kd D pins s σ H x y v u Q I rx ry ?_
  obtain ⟨z, rfl, rfl, q⟩ := hh
  cases e : T.lookup z with
  | none => exact ⟨z, none, rfl, rfl, h.out z e, by rw [e] at q; exact q⟩
  | some v =>
    obtain ⟨t, ht⟩ := h.at_ z v e
    exact ⟨z, _, rfl, rfl, ht, by rw [e] at q; exact q⟩
def rItT (d : Addr) (T : List (Str × Int)) : R2 := fun x y H Q => ∃ z v, x = .ref d ∧ y = .str z ∧ T.lookup z = some v ∧ Q (.int v) H
theorem ix_tab {X : Cx} {d : Addr} {T : List (Str × Int)} (h : TabC X.K X.w d T) : IxR X (rItT d T) := by
  obtain ⟨es, n, D⟩ := h.kd
  intro a1 a2 a3 a4 a5 a6 a7 a8 a9 a10 a11 a12 a13 a14 hh he
  refine L2.ix_kdict a1 a2 a3 a4 a5 a6 a7 a8 a9 a10 a11 a12 a13 a14 ?_ he
  obtain ⟨z, i, rfl, rfl, hz, q⟩ := hh
  obtain ⟨t, ht⟩ := h.at_ z i hz
  exact ⟨d, z, .int i, rfl, rfl, ⟨es, n, _, D.at_, D.lit, ht, ⟨_, rfl⟩⟩, q⟩
theorem extend_tup (l : Addr) (xs : Array Value) (n : Nat) (b : Addr) (ys : Array Value) (m : Nat) (dc : Option Addr) (sl : Array (Option Value)) (h0 : ¬(!xs.isEmpty && Builtin.List.listTooLong (xs.size + ys.size)) = true) (h1 : xs.size ≤ sizeLine)
    (h2 : xs.size + ys.size ≤ sizeLine + 1) : Meets (Builtin.«list.extend» ⟨[.ref l, .ref b], []⟩) (fun _ R s =>
      s.heap.get? l = some { cls := .type "list", dict := none, data := .seq xs n, slots := #[] } ∧ s.heap.get? b = some { cls := .type "tuple", dict := dc, data := .seq ys m, slots := sl } ∧
      R (.ok (.ret Value.none)) { s with heap := s.heap.update l (Obj.mapSeq fun x => x ++ ys), toks := s.toks }) :=
  .of_wp fun prog w A R s h => by
    obtain ⟨hp, g, d, tk, os⟩ := s
    obtain ⟨hl, hb, h⟩ := h
    have f1 := AutoSeq1.sub_tuple_tuple
    have f2 := AutoSeq1.sub_list_list
    have f3 := AutoSeq1.sub_tuple_list
    have f4 := AutoSeq1.sub_list_tuple
    have hz : (xs ++ ys).size ≤ sizeLine + 1 := by rw [Array.size_append]; exact h2
    wp_walk using (wpAny_updateSeq hl rfl (hz := h1) (_hz' := hz)), wpAny_loadPart' hl, wpAny_loadPart' hb
    exact ⟨_, rfl, h⟩
theorem mt_extendT {X : Cx} : MtM X "list.extend" (fun x vs H Q => ∃ l b xs zs, x = .ref l ∧ vs = [.ref b] ∧ H l = some (.lst xs) ∧ SqT X.K H b zs ∧ xs.length + zs.length ≤ sizeLine ∧ Q .non (upd H l (.lst (xs ++ zs)))) := by
  intro pins s σ H x vs v us Q I rx rv h
  obtain ⟨l, b, xs, zs, rfl, rfl, hH, hB, hz, q⟩ := h
  cases rx
  obtain ⟨u, rfl, ru⟩ := rv.one
  cases ru
  obtain ⟨z, its, n, r, hl, e⟩ := I.lstM hH
  obtain ⟨its2, r2, ⟨o2, e2, hc2, n2, hd2⟩, hl2⟩ := I.tuple hB
  obtain ⟨c2, dc2, dd2, sl2⟩ := o2
  have hc2 : c2 = .type "tuple" := hc2
  have hd2 : dd2 = .seq its2.toArray n2 := hd2
  subst hc2 hd2
  have h1 := r.length
  have h2 := r2.length
  have hsz : its.toArray.size + its2.toArray.size ≤ sizeLine := by rw [List.size_toArray, List.size_toArray]; omega
  have hlong : ¬ (!its.toArray.isEmpty && Builtin.List.listTooLong (its.toArray.size + its2.toArray.size)) = true := by
    rw [notLongL hsz, Bool.and_false]
    exact Bool.false_ne_true
  refine call_meets F.slot_list_extend ⟨_, e, rfl⟩ F.entry_list_extend (F.args_list_extend_2 _ _)
    (extend_tup l its.toArray n b its2.toArray n2 dc2 sl2 hlong (by rw [List.size_toArray]; omega) (by omega)) ⟨e, e2, ?_⟩
  refine ⟨.non, _, I.lset (its' := its ++ its2) hH e (by simp) (r.append r2) ?_, rfl, q⟩
  rw [List.length_append]
  omega
end Vw

set_option Elab.async false
set_option linter.all false
set_option maxRecDepth 100000
/-! sentences among any data -/
namespace Vw
open PySem PySem.W PyProof.Rows L2
def headT : List (Str × Int) := [("true", 1), ("false", 1), ("name", 2), ("not", 1), ("and", 1), ("or", 1), ("then", 1), ("shown", 2)]
def partT : List (Str × Int) := [("true", 0), ("false", 0), ("name", 0), ("not", 1), ("and", 2), ("or", 2), ("then", 2), ("shown", 1)]
mutual
def sOk : PyData → Prop
  | .str x => x.length ≤ 30
  | .list l => sOkA l
  | .tuple l => sOkA l
  | _ => True
def sOkA : List PyData → Prop
  | [] => True
  | d :: r => sOk d ∧ sOkA r
end
mutual
def psz : PyData → Nat
  | .list l => pszA l + 1
  | .tuple l => pszA l + 1
  | _ => 1
def pszA : List PyData → Nat
  | [] => 0
  | d :: r => psz d + pszA r
end
theorem sOkA_mem : ∀ {l : List PyData} {d : PyData}, sOkA l → d ∈ l → sOk d
  | _ :: _, _, h, .head _ => h.1
  | _ :: _, _, h, .tail _ m => sOkA_mem h.2 m
theorem sOkA_of : ∀ {l : List PyData}, (∀ d ∈ l, sOk d) → sOkA l
  | [], _ => trivial
  | d :: r, h => ⟨h d List.mem_cons_self, sOkA_of fun x hx => h x (List.mem_cons_of_mem _ hx)⟩
theorem psz_append : ∀ (l r : List PyData), pszA (l ++ r) = pszA l + pszA r
  | [], r => by simp [pszA]
  | d :: l, r => by
    show psz d + pszA (l ++ r) = psz d + pszA l + pszA r
    rw [psz_append l r]; omega
theorem psz_drop : ∀ (k : Nat) (l : List PyData), pszA (l.drop k) ≤ pszA l
  | 0, l => Nat.le_refl _
  | k + 1, [] => Nat.le_refl _
  | k + 1, d :: r => by
    show pszA (r.drop k) ≤ psz d + pszA r
    have := psz_drop k r
    omega
def nmD : PyData → Bool
  | .str x => isNm x
  | _ => false
def levD (m : Int) : PyData → Bool
  | .int i => decide (0 ≤ i) && decide (i < m)
  | _ => false
/-- the rest of a word, when the lengths are right -/
def restB (m : Int) (x : Str) (r : List PyData) : Bool := if x = "name" then nmD (r.headD .none) else if x = "shown" then levD m (r.headD .none) else true
/-- one node, its parts aside -/
def nodeB (m : Int) : PyData → Bool
  | .tuple (.str x :: r) => match headT.lookup x, partT.lookup x with
    | some h, some p => decide ((r.length : Int) + 1 = h + p) && restB m x r
    | _, _ => false
  | _ => false
def partsD : PyData → List PyData
  | .tuple (.str x :: r) => ((PyData.str x :: r) : List PyData).drop ((headT.lookup x).getD 0).toNat
  | _ => []
inductive IsSe (m : Int) : PyData → Prop
  | mk (d : PyData) : nodeB m d = true → (∀ p ∈ partsD d, IsSe m p) → IsSe m d
theorem isSe_iff {m : Int} {d : PyData} : IsSe m d ↔ nodeB m d = true ∧ ∀ p ∈ partsD d, IsSe m p := ⟨fun h => by cases h with | mk _ h1 h2 => exact ⟨h1, h2⟩, fun h => .mk d h.1 h.2⟩
noncomputable def isSeB (m : Int) (d : PyData) : Bool := open Classical in decide (IsSe m d)
open Classical in
theorem isSe_t {m : Int} {d : PyData} (h : IsSe m d) : isSeB m d = true := by unfold isSeB; exact decide_eq_true h
open Classical in
theorem isSe_f {m : Int} {d : PyData} (h : ¬ IsSe m d) : isSeB m d = false := by unfold isSeB; exact decide_eq_false h
theorem node_shape {m : Int} {d : PyData} (h : nodeB m d = true) : ∃ x r hd pt, d = .tuple (.str x :: r) ∧ headT.lookup x = some hd ∧ partT.lookup x = some pt ∧ (r.length : Int) + 1 = hd + pt ∧ restB m x r = true := by
  unfold nodeB at h
  split at h
  · rename_i x r
    split at h
    · rename_i a b e1 e2
      rw [Bool.and_eq_true, decide_eq_true_eq] at h
      exact ⟨x, r, a, b, rfl, e1, e2, h.1, h.2⟩
    · cases h
  · cases h
theorem head_pos {x : Str} {h : Int} (e : headT.lookup x = some h) : 1 ≤ h ∧ h ≤ 2 := by
  have : ∀ p ∈ headT, 1 ≤ p.2 ∧ p.2 ≤ 2 := by decide
  obtain ⟨l1, l2, e1, _⟩ := List.lookup_eq_some_iff.mp e
  exact this (x, h) (by rw [e1]; simp)
theorem parts_size {m : Int} {d : PyData} (h : nodeB m d = true) : pszA (partsD d) < psz d := by
  obtain ⟨x, r, hd, pt, rfl, e1, _, _, _⟩ := node_shape h
  show pszA (List.drop ((headT.lookup x).getD 0).toNat (PyData.str x :: r)) < _
  rw [e1]
  have := psz_drop hd.toNat (.str x :: r)
  show pszA (List.drop hd.toNat (PyData.str x :: r)) < _
  have e2 : psz (.tuple (.str x :: r)) = pszA (.str x :: r) + 1 := by simp [psz]
  omega
theorem rd_fromS {K : PySem.W.Frag} {H : Hp} {Q : VK} {a : Addr} {xs : List V} (k : Nat) (ha : SqT K H a xs) (q : ∀ (p : Addr) (H' : Hp), Same H H' → SqT K H' p (xs.drop k) → Q (.ref p) H') : rSlO K (.ref a) (some (k : Int)) none H Q := by
  unfold rSlO
  refine ⟨a, xs, rfl, ha, fun e => q a H (Same.refl H) ?_, fun _ p np => q p _ (same_new np) ?_⟩
  · have : cutV xs (some (k : Int)) none = xs := by
      unfold cutV
      rw [e.1, e.2, List.drop_zero, Nat.sub_zero, List.take_length]
    rw [cut_from (α := Nat)] at this
    rw [this]; exact ha
  · rw [cut_from (α := Nat)]
    exact .of upd_same
/-- the parts of a node -/
def spParts (K : PySem.W.Frag) : Sp := fun vs H Q _ => ∃ (p : Addr) (x : Str) (xs : List V) (h : Int), vs = [.ref p] ∧ SqT K H p xs ∧ xs[0]? = some (.str x) ∧ headT.lookup x = some h ∧ ∀ (p2 : Addr) (H' : Hp), Same H H' → SqT K H' p2 (xs.drop h.toNat) → Q (.ref p2) H'
def spLev (K : PySem.W.Frag) : Sp := fun vs H Q _ => ∃ (m : Int) (x : V) (d : PyData), vs = [.int m, x] ∧ Dp K H x d ∧ ∀ H', Same H H' → Q (.bl (levD m d)) H'
def spNode (K : PySem.W.Frag) : Sp := fun vs H Q _ => ∃ (m : Int) (x : V) (d : PyData), vs = [.int m, x] ∧ Dp K H x d ∧ sOk d ∧ ∀ H', Same H H' → Q (.bl (nodeB m d)) H'
def spIsSe (K : PySem.W.Frag) : Sp := fun vs H Q _ => ∃ (m : Int) (x : V) (d : PyData), vs = [.int m, x] ∧ Dp K H x d ∧ sOk d ∧ psz d ≤ 100000 ∧ ∀ H', Same H H' → Q (.bl (isSeB m d)) H'
/-- a name, or any data -/
def spNmD (K : PySem.W.Frag) : Sp := fun vs H Q _ => ∃ (x : V) (d : PyData), vs = [x] ∧ Dp K H x d ∧ sOk d ∧ ∀ H', Same H H' → Q (.bl (nmD d)) H'
end Vw

set_option Elab.async false
set_option linter.all false
set_option maxRecDepth 100000
/-! drawn sentences -/
namespace Vw
open PySem PySem.W PyProof.Rows L2
inductive Se where
  | t
  | f
  | nm (x : Str)
  | nt (a : Se)
  | bin (w : Str) (a b : Se)
  | sh (k : Nat) (a : Se)
namespace Se
def toD : Se → PyData
  | .t => .tuple [.str "true"]
  | .f => .tuple [.str "false"]
  | .nm x => .tuple [.str "name", .str x]
  | .nt a => .tuple [.str "not", a.toD]
  | .bin w a b => .tuple [.str w, a.toD, b.toD]
  | .sh k a => .tuple [.str "shown", .int (k : Nat), a.toD]
def opW (w : Str) : Prop := w = "and" ∨ w = "or" ∨ w = "then"
def ok (m : Int) : Se → Prop
  | .t => True
  | .f => True
  | .nm x => isNm x = true ∧ x.length ≤ 6
  | .nt a => a.ok m
  | .bin w a b => opW w ∧ a.ok m ∧ b.ok m
  | .sh k a => (k : Int) < m ∧ a.ok m
/-- how deep a sentence is nested -/
def nest : Se → Nat
  | .t => 0
  | .f => 0
  | .nm _ => 0
  | .nt a => a.nest + 1
  | .bin _ a b => max a.nest b.nest + 1
  | .sh _ a => a.nest + 1
end Se
def SeA (K : PySem.W.Frag) (H : Hp) : V → Se → Prop
  | v, .t => ∃ p, v = .ref p ∧ TT K H p [.str "true"]
  | v, .f => ∃ p, v = .ref p ∧ TT K H p [.str "false"]
  | v, .nm x => ∃ p, v = .ref p ∧ TT K H p [.str "name", .str x]
  | v, .nt a => ∃ p u, v = .ref p ∧ TT K H p [.str "not", u] ∧ SeA K H u a
  | v, .bin w a b => ∃ p u1 u2, v = .ref p ∧ TT K H p [.str w, u1, u2] ∧ SeA K H u1 a ∧ SeA K H u2 b
  | v, .sh k a => ∃ p u, v = .ref p ∧ TT K H p [.str "shown", .int (k : Nat), u] ∧ SeA K H u a
section
variable {K : PySem.W.Frag} {H H' : Hp}
theorem SeA.tp (t : Tp H H') : ∀ {v : V} {s : Se}, SeA K H v s → SeA K H' v s
  | _, .t, ⟨p, e, h⟩ => ⟨p, e, h.tp t⟩
  | _, .f, ⟨p, e, h⟩ => ⟨p, e, h.tp t⟩
  | _, .nm _, ⟨p, e, h⟩ => ⟨p, e, h.tp t⟩
  | _, .nt _, ⟨p, u, e, h, g⟩ => ⟨p, u, e, h.tp t, SeA.tp t g⟩
  | _, .bin _ _ _, ⟨p, u1, u2, e, h, g1, g2⟩ => ⟨p, u1, u2, e, h.tp t, SeA.tp t g1, SeA.tp t g2⟩
  | _, .sh _ _, ⟨p, u, e, h, g⟩ => ⟨p, u, e, h.tp t, SeA.tp t g⟩
theorem SeA.same {v : V} {s : Se} (h : SeA K H v s) (x : Same H H') : SeA K H' v s := h.tp (same_tp x)
theorem SeA.dp : ∀ {v : V} {s : Se}, SeA K H v s → Dp K H v s.toD
  | _, .t, ⟨p, e, h⟩ => by subst e; exact .tup h.sq (.cons (.str _) .nil)
  | _, .f, ⟨p, e, h⟩ => by subst e; exact .tup h.sq (.cons (.str _) .nil)
  | _, .nm _, ⟨p, e, h⟩ => by subst e; exact .tup h.sq (.cons (.str _) (.cons (.str _) .nil))
  | _, .nt _, ⟨p, u, e, h, g⟩ => by subst e; exact .tup h.sq (.cons (.str _) (.cons g.dp .nil))
  | _, .bin _ _ _, ⟨p, u1, u2, e, h, g1, g2⟩ => by subst e; exact .tup h.sq (.cons (.str _) (.cons g1.dp (.cons g2.dp .nil)))
  | _, .sh _ _, ⟨p, u, e, h, g⟩ => by subst e; exact .tup h.sq (.cons (.str _) (.cons (.int _) (.cons g.dp .nil)))
end
theorem op_len {w : Str} (h : Se.opW w) : w.length ≤ 30 := by
  rcases h with h | h | h <;> subst h <;> decide +kernel
theorem Se.sOk {m : Int} : ∀ {s : Se}, s.ok m → sOk s.toD
  | .t, _ => by simp only [Se.toD, Vw.sOk, sOkA, and_true]; decide +kernel
  | .f, _ => by simp only [Se.toD, Vw.sOk, sOkA, and_true]; decide +kernel
  | .nm x, h => by simp only [Se.toD, Vw.sOk, sOkA, and_true]; exact ⟨by decide +kernel, Nat.le_trans h.2 (by decide)⟩
  | .nt a, h => by
    have := Se.sOk (s := a) h
    simp only [Se.toD, Vw.sOk, sOkA, and_true]; exact ⟨by decide +kernel, this⟩
  | .bin w a b, h => by
    have h1 := Se.sOk (s := a) h.2.1
    have h2 := Se.sOk (s := b) h.2.2
    simp only [Se.toD, Vw.sOk, sOkA, and_true]; exact ⟨op_len h.1, h1, h2⟩
  | .sh k a, h => by
    have h1 := Se.sOk (s := a) h.2
    simp only [Se.toD, Vw.sOk, sOkA, and_true, true_and]; exact ⟨by decide +kernel, h1⟩
theorem Se.psz_le : ∀ s : Se, psz s.toD + 4 ≤ 7 * 2 ^ s.nest
  | .t => by simp [Se.toD, psz, pszA, Se.nest]
  | .f => by simp [Se.toD, psz, pszA, Se.nest]
  | .nm x => by simp [Se.toD, psz, pszA, Se.nest]
  | .nt a => by
    have := Se.psz_le a
    simp only [Se.toD, psz, pszA, Se.nest, Nat.pow_succ]; omega
  | .bin w a b => by
    have h1 := Se.psz_le a
    have h2 := Se.psz_le b
    have h3 : 2 ^ a.nest ≤ 2 ^ max a.nest b.nest := Nat.pow_le_pow_right (by decide) (Nat.le_max_left _ _)
    have h4 : 2 ^ b.nest ≤ 2 ^ max a.nest b.nest := Nat.pow_le_pow_right (by decide) (Nat.le_max_right _ _)
    simp only [Se.toD, psz, pszA, Se.nest, Nat.pow_succ]; omega
  | .sh k a => by
    have := Se.psz_le a
    simp only [Se.toD, psz, pszA, Se.nest, Nat.pow_succ]; omega
theorem node_mk {m : Int} {x : Str} {r : List PyData} {h p : Int} (e1 : headT.lookup x = some h) (e2 : partT.lookup x = some p) (e3 : (r.length : Int) + 1 = h + p) (e4 : restB m x r = true) : nodeB m (.tuple (.str x :: r)) = true := by
  show (match headT.lookup x, partT.lookup x with
    | some h, some p => decide ((r.length : Int) + 1 = h + p) && restB m x r
    | _, _ => false) = true
  rw [e1, e2]
  show (decide ((r.length : Int) + 1 = h + p) && restB m x r) = true
  rw [decide_eq_true e3, e4]; rfl
theorem parts_mk {x : Str} {r : List PyData} {h : Int} (e1 : headT.lookup x = some h) : partsD (.tuple (.str x :: r)) = (PyData.str x :: r).drop h.toNat := by
  show (PyData.str x :: r).drop ((headT.lookup x).getD 0).toNat = _
  rw [e1]; rfl
theorem Se.isSe {m : Int} : ∀ {s : Se}, s.ok m → IsSe m s.toD
  | .t, _ => isSe_iff.mpr ⟨node_mk (h := 1) (p := 0) (by decide +kernel) (by decide +kernel) rfl (by unfold restB; rw [if_neg (by decide +kernel), if_neg (by decide +kernel)]), fun p hp => by
      rw [show partsD Se.t.toD = [] from parts_mk (h := 1) (by decide +kernel)] at hp; cases hp⟩
  | .f, _ => isSe_iff.mpr ⟨node_mk (h := 1) (p := 0) (by decide +kernel) (by decide +kernel) rfl (by unfold restB; rw [if_neg (by decide +kernel), if_neg (by decide +kernel)]), fun p hp => by
      rw [show partsD Se.f.toD = [] from parts_mk (h := 1) (by decide +kernel)] at hp; cases hp⟩
  | .nm x, h => isSe_iff.mpr ⟨node_mk (h := 2) (p := 0) (by decide +kernel) (by decide +kernel) rfl (by unfold restB; rw [if_pos rfl]; exact h.1), fun p hp => by
      rw [show partsD (Se.nm x).toD = [] from parts_mk (h := 2) (by decide +kernel)] at hp; cases hp⟩
  | .nt a, h => isSe_iff.mpr ⟨node_mk (h := 1) (p := 1) (by decide +kernel) (by decide +kernel) rfl (by unfold restB; rw [if_neg (by decide +kernel), if_neg (by decide +kernel)]), fun p hp => by
      rw [show partsD (Se.nt a).toD = [a.toD] from parts_mk (h := 1) (by decide +kernel)] at hp
      rw [List.mem_singleton.mp hp]; exact Se.isSe (s := a) h⟩
  | .bin w a b, h => by
    have hw : headT.lookup w = some 1 ∧ partT.lookup w = some 2 ∧ w ≠ "name" ∧ w ≠ "shown" := by
      rcases h.1 with e | e | e <;> subst e <;> decide +kernel
    refine isSe_iff.mpr ⟨node_mk hw.1 hw.2.1 rfl (by unfold restB; rw [if_neg hw.2.2.1, if_neg hw.2.2.2]), fun p hp => ?_⟩
    rw [show partsD (Se.bin w a b).toD = [a.toD, b.toD] from parts_mk hw.1] at hp
    simp only [List.mem_cons, List.not_mem_nil, or_false] at hp
    rcases hp with e | e <;> subst e
    · exact Se.isSe (s := a) h.2.1
    · exact Se.isSe (s := b) h.2.2
  | .sh k a, h => isSe_iff.mpr ⟨node_mk (h := 2) (p := 1) (by decide +kernel) (by decide +kernel) rfl (by
      unfold restB; rw [if_neg (by decide +kernel), if_pos rfl]
      show (decide (0 ≤ ((k : Nat) : Int)) && decide (((k : Nat) : Int) < m)) = true
      rw [decide_eq_true h.1, decide_eq_true (by omega)]; rfl), fun p hp => by
      rw [show partsD (Se.sh k a).toD = [a.toD] from parts_mk (h := 2) (by decide +kernel)] at hp
      rw [List.mem_singleton.mp hp]; exact Se.isSe (s := a) h.2⟩
theorem strs_dp {K : PySem.W.Frag} {H : Hp} : ∀ xs : List Str, DpAll K H (xs.map V.str) (xs.map PyData.str)
  | [] => .nil
  | x :: r => .cons (.str x) (strs_dp r)
theorem nm_strOk {x : Str} (h : isNm x = true) : PyData.strOk x = true := by
  unfold isNm at h
  simp only [Bool.and_eq_true] at h
  have h1 := h.2.2.2
  unfold PyData.strOk
  rw [← Array.all_toList, List.all_eq_true]
  intro c hc
  have h2 := List.all_eq_true.mp h1 c hc
  unfold isLow at h2
  rw [Bool.and_eq_true, decide_eq_true_eq, decide_eq_true_eq] at h2
  exact decide_eq_true (by omega)
theorem lay_strs : ∀ xs : List Str, (∀ x ∈ xs, PyData.strOk x = true) → PyData.canLayAll0 (xs.map PyData.str) = true
  | [], _ => by simp [PyData.canLayAll0]
  | x :: r, h => by simp [PyData.canLayAll0, PyData.canLay0, h x List.mem_cons_self, lay_strs r fun y hy => h y (List.mem_cons_of_mem _ hy)]
theorem depth_strs : ∀ xs : List Str, PyData.depthAll (xs.map PyData.str) ≤ 1
  | [] => by simp [PyData.depthAll]
  | x :: r => by
    have := depth_strs r
    simp only [List.map_cons, PyData.depthAll, PyData.depth]; omega
theorem shaped_strs (xs : List Str) (h : ∀ x ∈ xs, PyData.strOk x = true) : SeqAt.shaped (.list (xs.map PyData.str)) = true := by
  have h1 := depth_strs xs
  have h2 : (PyData.list (xs.map PyData.str)).depth = PyData.depthAll (xs.map PyData.str) + 1 := by simp only [PyData.depth]
  have h3 : (PyData.list (xs.map PyData.str)).canLay0 = true := by simp only [PyData.canLay0, lay_strs xs h]
  unfold SeqAt.shaped
  rw [h3, h2, Bool.true_and]
  exact decide_eq_true (by omega)
theorem rd_ne_strs {K : PySem.W.Frag} {H : Hp} {Q : VK} {D D2 : Addr} {xs : List Str} (h : H D = some (.lst (xs.map V.str))) (h2 : H D2 = some (.lst [])) (hne : xs ≠ []) (ho : ∀ x ∈ xs, PyData.strOk x = true) (q : Q (.bl true) H) : rNeO K (.ref D) (.ref D2) H Q := by
  unfold rNeO
  refine ⟨.list (xs.map PyData.str), .list [], .lst (SqL.of h) (strs_dp xs), .lst (SqL.of h2) .nil, shaped_strs xs ho, shaped_strs [] (fun _ h => by cases h), ?_⟩
  cases xs with
  | nil => exact absurd rfl hne
  | cons x r =>
    have : PyData.eqv (.list ((x :: r).map PyData.str)) (.list []) = false := by simp [PyData.eqv, PyData.eqvAll]
    rw [this]; exact q
/-- drawn names -/
def spNames : Sp := fun vs H Q _ => ∃ (l b : Addr) (n : Nat), vs = [.ref b, .int (n : Nat)] ∧ n ≤ 20 ∧ Bag l H b ∧ ∀ (D : Addr) (xs : List Str) (H' : Hp), D ≠ b → D ≠ l → H' D = some (.lst (xs.map V.str)) → xs.length = n → (∀ x ∈ xs, isNm x = true ∧ x.length ≤ 6) → Kp b H H' → Bag l H' b → Q (.ref D) H'
/-- a drawn sentence -/
def spSaid (K : PySem.W.Frag) (j : Nat) : Sp := fun vs H Q _ => ∃ (l b D : Addr) (m n : Nat) (xs : List Str) (c : Bool), vs = [.ref b, .int (m : Nat), .ref D, .int (n : Nat), .bl c] ∧ 1 ≤ m ∧ m ≤ 1000 ∧ n < j ∧ Bag l H b ∧ D ≠ b ∧ H D = some (.lst (xs.map V.str)) ∧ xs.length ≤ 20 ∧ (∀ x ∈ xs, isNm x = true ∧ x.length ≤ 6) ∧ xs ≠ [] ∧
  ∀ (v : V) (s : Se) (H' : Hp), SeA K H' v s → s.ok m → s.nest ≤ n → Kp b H H' → Bag l H' b → Q v H'
end Vw

set_option Elab.async false
set_option linter.all false
set_option maxRecDepth 100000
/-! bent sentences: data that stands as long as all but the bag stays, with its size -/
namespace Vw
open PySem PySem.W PyProof.Rows L2
def StD (K : PySem.W.Frag) (b : Addr) (H : Hp) (v : V) (d : PyData) : Prop := ∀ H', Kp b H H' → Dp K H' v d
def StL (K : PySem.W.Frag) (b : Addr) (H : Hp) (vs : List V) (ds : List PyData) : Prop := ∀ H', Kp b H H' → DpAll K H' vs ds
section
variable {K : PySem.W.Frag} {H H' : Hp} {b l p : Addr} {v : V} {d : PyData} {vs ws : List V} {ds es : List PyData}
theorem dpall_app {H : Hp} : ∀ {xs ys : List V} {ds es : List PyData}, DpAll K H xs ds → DpAll K H ys es → DpAll K H (xs ++ ys) (ds ++ es)
  | _, _, _, _, .nil, h => h
  | _, _, _, _, .cons a t, h => .cons a (dpall_app t h)
theorem dpall_tk {H : Hp} : ∀ (k : Nat) {xs : List V} {ds : List PyData}, DpAll K H xs ds → DpAll K H (xs.take k) (ds.take k)
  | 0, _, _, _ => .nil
  | _ + 1, _, _, .nil => .nil
  | k + 1, _, _, .cons a t => .cons a (dpall_tk k t)
theorem dpall_dr {H : Hp} : ∀ (k : Nat) {xs : List V} {ds : List PyData}, DpAll K H xs ds → DpAll K H (xs.drop k) (ds.drop k)
  | 0, _, _, h => h
  | _ + 1, _, _, .nil => .nil
  | k + 1, _, _, .cons _ t => dpall_dr k t
theorem StD.kp (h : StD K b H v d) (k : Kp b H H') : StD K b H' v d := fun H2 k2 => h H2 (k.trans k2)
theorem StL.kp (h : StL K b H vs ds) (k : Kp b H H') : StL K b H' vs ds := fun H2 k2 => h H2 (k.trans k2)
theorem StD.dp (h : StD K b H v d) : Dp K H v d := h H (Kp.refl H)
theorem StL.dp (h : StL K b H vs ds) : DpAll K H vs ds := h H (Kp.refl H)
theorem StL.nil : StL K b H [] [] := fun _ _ => .nil
theorem StL.cons (h : StD K b H v d) (t : StL K b H vs ds) : StL K b H (v :: vs) (d :: ds) := fun H2 k => .cons (h H2 k) (t H2 k)
theorem StL.app (h : StL K b H vs ds) (t : StL K b H ws es) : StL K b H (vs ++ ws) (ds ++ es) := fun H2 k => dpall_app (h H2 k) (t H2 k)
theorem StL.take (k : Nat) (h : StL K b H vs ds) : StL K b H (vs.take k) (ds.take k) := fun H2 x => dpall_tk k (h H2 x)
theorem StL.drop (k : Nat) (h : StL K b H vs ds) : StL K b H (vs.drop k) (ds.drop k) := fun H2 x => dpall_dr k (h H2 x)
theorem StD.tup (B : Bag l H b) (t : TT K H p vs) (h : StL K b H vs ds) : StD K b H (.ref p) (.tuple ds) := fun H2 k => .tup (t.tp (B.tp k)).sq (h H2 k)
theorem StD.lst (hb : p ≠ b) (e : H p = some (.lst vs)) (h : StL K b H vs ds) : StD K b H (.ref p) (.list ds) := fun H2 k => .lst (SqL.of (k _ _ hb e)) (h H2 k)
theorem StD.str (x : Str) : StD K b H (.str x) (.str x) := fun _ _ => .str x
theorem StD.int (i : Int) : StD K b H (.int i) (.int i) := fun _ _ => .int i
theorem StD.bl (c : Bool) : StD K b H (.bl c) (.bool c) := fun _ _ => .bl c
theorem StD.non : StD K b H .non .none := fun _ _ => .non
theorem SeA.std {s : Se} (B : Bag l H b) (h : SeA K H v s) : StD K b H v s.toD := fun _ k => (h.tp (B.tp k)).dp
/-- a sentence's own word and what stands behind it -/
theorem SeA.items {s : Se} (B : Bag l H b) (h : SeA K H v s) : ∃ p x vr r, v = .ref p ∧ TT K H p (.str x :: vr) ∧ s.toD = .tuple (.str x :: r) ∧ vr.length ≤ 2 ∧ StL K b H vr r := by
  cases s with
  | t => obtain ⟨p, e, t⟩ := h; exact ⟨p, _, _, _, e, t, rfl, by decide, .nil⟩
  | f => obtain ⟨p, e, t⟩ := h; exact ⟨p, _, _, _, e, t, rfl, by decide, .nil⟩
  | nm x => obtain ⟨p, e, t⟩ := h; exact ⟨p, _, _, _, e, t, rfl, (by show 1 ≤ 2; decide), .cons (.str x) .nil⟩
  | nt a => obtain ⟨p, u, e, t, g⟩ := h; exact ⟨p, _, _, _, e, t, rfl, (by show 1 ≤ 2; decide), .cons (g.std B) .nil⟩
  | bin w a c => obtain ⟨p, u1, u2, e, t, g1, g2⟩ := h; exact ⟨p, _, _, _, e, t, rfl, (by show 2 ≤ 2; decide), .cons (g1.std B) (.cons (g2.std B) .nil)⟩
  | sh k a => obtain ⟨p, u, e, t, g⟩ := h; exact ⟨p, _, _, _, e, t, rfl, (by show 2 ≤ 2; decide), .cons (.int _) (.cons (g.std B) .nil)⟩
end
theorem Se.depth_le : ∀ s : Se, s.toD.depth ≤ s.nest + 2
  | .t => by simp [Se.toD, PyData.depth, PyData.depthAll, Se.nest]
  | .f => by simp [Se.toD, PyData.depth, PyData.depthAll, Se.nest]
  | .nm x => by simp [Se.toD, PyData.depth, PyData.depthAll, Se.nest]
  | .nt a => by
    have := Se.depth_le a
    simp only [Se.toD, PyData.depth, PyData.depthAll, Se.nest]; omega
  | .bin w a c => by
    have h1 := Se.depth_le a
    have h2 := Se.depth_le c
    simp only [Se.toD, PyData.depth, PyData.depthAll, Se.nest]; omega
  | .sh k a => by
    have := Se.depth_le a
    simp only [Se.toD, PyData.depth, PyData.depthAll, Se.nest]; omega
theorem psz_take : ∀ (k : Nat) (l : List PyData), pszA (l.take k) ≤ pszA l
  | 0, l => Nat.zero_le _
  | k + 1, [] => Nat.le_refl _
  | k + 1, d :: r => by
    show psz d + pszA (r.take k) ≤ psz d + pszA r
    have := psz_take k r
    omega
/-- a bent sentence: any data, not deep, not large, of short texts -/
def spBentW (K : PySem.W.Frag) (j : Nat) : Sp := fun vs H Q _ => ∃ (l b : Addr) (v : V) (m : Int) (s : Se), vs = [.ref b, v] ∧ Bag l H b ∧ SeA K H v s ∧ s.ok m ∧ s.nest < j ∧ j ≤ 6 ∧
  ∀ (w : V) (d : PyData) (H' : Hp), StD K b H' w d → d.depth ≤ 3 * s.nest + 8 → sOk d → psz d ≤ 14 * 2 ^ s.nest + 20 * s.nest + 20 → Kp b H H' → Bag l H' b → Q w H'
end Vw

set_option Elab.async false
set_option linter.all false
set_option maxRecDepth 100000
set_option maxHeartbeats 4000000
/-! own exceptions with a field: made, raised, caught, asked for it -/
namespace Vw
open PySem PySem.Spec PyProof.Rows L2
/-- C.m(e, ..), m a def of the class at C -/
def tCFun (C : Addr) (sp : Sp) (E : XK) (to : TE) (t : L2.TA) : TE := fun σ H Q => to σ H fun x H1 => x = .ref C ∧ t σ H1 fun vs H2 => sp vs H2 Q E
theorem pe_cfun {X : Cx} {CX : CXT} {k : Nat} {C f : Addr} {fd : FuncData} {ps : List Str} {sp : Sp} {E : XK} {o e : Expr} {es : List Expr} {m : Str} {pos apos : Pos} {to : TE} {t : L2.TA} {pl : Sem Bool} (he : PE X o to) (r : ClX.CRead X.K C (.type "type")) (c : PySem.W.findCls X.K (.ref C) (.type "type") m = some (.val (.ref f)))
    (F : FnOk X.prog X.w X.K X.mg X.base CX k f fd ps sp) (hr : Room k X.A) (hk : PySem.W.keepIn X.K (.ref f) = true) (hb : Binds X.K fd ps []) (hx : Passes CX X E) (ha : PA X (e :: es) t)
    (hst : starEach (e :: es) X.env = (false, eval e X.env) :: starEach es X.env := by rfl) (hpl : (backTo pos (starEach es X.env)).any (·.1) = false := by rfl)
    (ht : eval (.Call (.Attribute o m apos) (e :: es) [] pos) X.env = (do
      let ov ← eval o X.env
      standAt apos.atName
      let (f, first) ← holding [ov] (getMethod ov m pl)
      callWith pos f first (backTo pos (starEach (e :: es) X.env)) (backToKw pos (keywordEach [] X.env))) := by rfl) :
    PE X (.Call (.Attribute o m apos) (e :: es) [] pos) (tCFun C sp E to t) := by
  refine ⟨fun pins s σ H Q I h => ?_⟩
  refine PySem.W.methodCall_KW (pl := pl) (thn (he.run pins s σ H _ I h) fun u s1 ⟨x, H1, I1, rx, ex, q⟩ => ?_) ht
  subst ex
  obtain rfl : u = Value.ref C := rx
  refine PySem.W.method_cls I1.kIn r.ga (PySem.W.cls_value I1.kIn r.rd c rfl ?_)
  have I2 := I1.tok (s1.toks + 1)
  refine PySem.W.callWith_K (h₀ := X.base) I2.ok.mod.kin hk (thn (ha.run pos pins _ σ H1 _ I2 q) fun us s3 ⟨vs, H2, I3, rv, q2⟩ => ⟨I3.kIn, ?_⟩) hst hpl
  have q2 : sp (vs ++ []) H2 Q E := by rw [List.append_nil]; exact q2
  exact run_fn F hr hb .nil hx I3 rv q2
/-- what the written part says of a class with one field, whose __init__ begins with that of the class at C0 -/
structure RzF (K : PySem.W.Frag) (C C0 fI fV : Addr) (nm fl : Str) : Prop where
  rz : RzC K C fI nm
  nof : PySem.W.findIn K (.ref C) fl = some none
  rd : ClX.CRead K C0 (.type "type")
  fc : PySem.W.findCls K (.ref C0) (.type "type") "__init__" = some (.val (.ref fV))
  kV : PySem.W.keepIn K (.ref fV) = true
def spInitF (C : Addr) (nm fl : Str) : Sp := fun vs H Q _ => ∃ a y, vs = [.ref a, y] ∧ H a = some (exo a C none) ∧ ∀ d, H d = none → d ≠ a → Q .non (upd (upd (upd H d (exd d (codeF nm))) a (exo a C (some d))) d (exd d ((fl, y) :: codeF nm)))
theorem raise_endF {H : Hp} {a d C : Addr} {nm fl : Str} {y : V} (ha : H a = none) (hd0 : H d = none) :
    Same H (upd (del (upd (upd (upd (upd H a (exo a C none)) d (exd d (codeF nm))) a (exo a C (some d))) d (exd d ((fl, y) :: codeF nm))) a) d (.xd ((fl, y) :: codeF nm))) := by
  intro b o hb
  have h1 : b ≠ d := ne_of_none hb hd0
  have h2 : b ≠ a := ne_of_none hb ha
  rw [upd_ne h1, del_ne h2, upd_ne h1, upd_ne h2, upd_ne h1, upd_ne h2]
  exact hb
section
variable {P : Program} {w : World} {K : PySem.W.Frag} {mg : Str → Option Value} {base : Heap}
theorem ok_initF {qual fl : Str} {st : Stmt} {fI fV C C0 : Addr} {fd fdV : FuncData} {nm : Str} (F : Fun K "__init__" qual st fI fd) (R : RzF K C C0 fI fV nm fl) (GV : FnOk P w K mg base CX0 1 fV fdV ["self"] (spInit C nm)) (bV : Binds K fdV ["self"] []) (m0 : mg "VowError" = some (.ref C0))
    {p1 p2 p3 p4 p5 p6 p7 p8 p9 : Pos} (hb : defBody st = [.Expr (.Call (.Attribute (.Name "VowError" p1) "__init__" p2) [.Name "self" p3] [] p4) p5, .Assign [.Attribute (.Name "self" p6) fl p7] (.Name fl p8) p9])
    (S : FnScope ["self", fl] ["self", fl] (defScope st)) (h1 : Vis (defScope st) "self") (h2 : Vis (defScope st) fl) (hg : (defScope st).names.lookup ("VowError" : Str) = some NameKind.globalImplicit) (d1 : (fl == ("__debug__" : Str)) = false) (d2 : (fl == ("__classdict__" : Str)) = false) (hs : ∀ env : Env, swapsWith (.Name fl p8) (some (.Attribute (.Name "self" p6) fl p7)) p9.line env = pure false)
    (hev : ∀ env : Env, ∃ pl : Sem Bool, eval (.Call (.Attribute (.Name "VowError" p1) "__init__" p2) [.Name "self" p3] [] p4) env = (do
      let ov ← eval (.Name "VowError" p1) env
      standAt p2.atName
      let (f, first) ← holding [ov] (getMethod ov "__init__" pl)
      callWith p4 f first (backTo p4 (starEach [.Name "self" p3] env)) (backToKw p4 (keywordEach [] env)))) : FnOk P w K mg base CX0 2 fI fd ["self", fl] (spInitF C nm fl) := by
  refine F.ok S (fun vs H Q E h => ?_) (fun cdv A outer s H vs Q E hr h => ?_)
  · obtain ⟨_, _, rfl, _⟩ := h; rfl
  obtain ⟨a, y, rfl, ha, q⟩ := h
  rw [hb]
  obtain ⟨pl, hev⟩ := hev (cxOf CX0 P w K mg base ["self", fl] qual (defScope st) fI cdv A outer s H E).nox.env
  refine ⟨_, pss_cons (ps_expr (pe_cfun (pl := pl) (ht := hev) (pe_glob (v := .ref C0) hg m0 rfl) R.rd R.fc GV hr R.kV bV pass0 (pa_cons (pe_var (i := 0) rfl h1) pa_nil))) (pss_one (ps_ost (pe_var (i := 0) rfl h1) (pe_var (i := 1) (hd := d1) (hcd := d2) rfl h2) (hs _))), ?_⟩
  refine ⟨rfl, _, rfl, a, rfl, ha, fun d hd hda => ?_⟩
  exact ⟨_, rfl, _, rfl, a, C, rfl, R.rz.ox, R.nof, .inr ⟨d, codeF nm, upd_same, by rw [upd_ne hda, upd_same], by show 1 ≤ 900; decide, q d hd hda⟩⟩
/-- C(e) and its raise -/
theorem ps_rzF {X : Cx} {C C0 fI fV : Addr} {fd : FuncData} {nm x fl : Str} {W : WX} {k : Nat} {p pos pos2 : Pos} {e : Expr} {te : TE} (R : RzF X.K C C0 fI fV nm fl) (hcalm : X.calm = true) (F1 : FnOk X.prog X.w X.K X.mg X.base CX0 k fI fd ["self", fl] (spInitF C nm fl)) (b : Binds X.K fd ["self", fl] []) (hr : Room (k + 1) X.A)
    (hg : Gl X x) (hm : X.mg x = some (.ref C)) (tk : Takes X W) (he : PE X e te) (hdb : (x == ("__debug__" : Str)) = false := by decide) (hst : starEach [e] X.env = (false, eval e X.env) :: starEach [] X.env := by rfl) (hpl : (backTo pos (starEach [] X.env)).any (·.1) = false := by rfl) :
    PS X (.Raise (some (.Call (.Name x p) [e] [] pos)) none pos2) (fun _ σ H => te σ H fun y H1 => ∀ (d : Addr) (H' : Hp), Same H1 H' → H1 d = none → H' d = some (.xd ((fl, y) :: codeF nm)) → W (.ref C) (some d) σ H') := by
  have PR := ps_raise (pos := pos2) hcalm tk (pmk_oex (p := p) (pos := pos) R.rz.ox R.rz.iC R.rz.tI F1 hr b .nil pass0 hg hm (pa_cons (hs := hst) (pe_cut he) pa_nil) hdb hst hpl)
  refine ⟨fun pins s σ H D I h => PR.run pins s σ H D I ?_⟩
  refine ⟨_, h, fun y H1 h1 => ⟨by show 1 ≤ 1000; decide, fun a ha => ⟨a, y, rfl, upd_same, fun d hd hda => ?_⟩⟩⟩
  have hd0 : H1 d = none := by rw [upd_ne hda] at hd; exact hd
  exact ⟨rfl, d, (fl, y) :: codeF nm, by rw [upd_ne hda.symm, upd_same], upd_same, hd0, h1 d _ (raise_endF ha hd0) hd0 upd_same⟩
end
/-! ### fields, told -/
/-- which field a code has -/
def fldC (nm : Str) : Option Str := if inV (.str nm) grp1 = true then some "name" else if inV (.str nm) grp2 = true then some "index" else if inV (.str nm) grp3 = true then some "most" else if V.str nm = V.str "InvalidLimit" then some "value" else if V.str nm = V.str "ParseError" then some "line" else none
def fldV (nm : Str) (fs : List (Str × V)) : List V := match fldC nm with
  | some f => (fs.lookup f).toList
  | none => []
structure ErrG (K : PySem.W.Frag) (H : Hp) (cls : Value) (d : Option Addr) (nm : Str) (fs : List (Str × V)) : Prop where
  ex : ∃ C dd : Addr, cls = .ref C ∧ d = some dd ∧ XfC K C ∧ PySem.W.findIn K (.ref C) "code" = some none ∧ H dd = some (.xd fs) ∧ fs.lookup ("code" : Str) = some (V.str nm) ∧ ∀ f, fldC nm = some f → PySem.W.findIn K (.ref C) f = some none ∧ ∃ v, fs.lookup f = some v
theorem ErrG.same {K : PySem.W.Frag} {H H' : Hp} {cls : Value} {d : Option Addr} {nm : Str} {fs : List (Str × V)} (h : ErrG K H cls d nm fs) (s : Same H H') : ErrG K H' cls d nm fs := by
  obtain ⟨C, dd, a, b, c, e, f, g⟩ := h.ex
  exact ⟨C, dd, a, b, c, e, s _ _ f, g⟩
theorem fldV_len (nm : Str) (fs : List (Str × V)) : (fldV nm fs).length ≤ 1 := by
  unfold fldV
  split
  · rename_i f _
    cases fs.lookup f <;> simp
  · exact Nat.zero_le _
theorem fldV_some {nm f : Str} {fs : List (Str × V)} {v : V} (h : fldC nm = some f) (e : fs.lookup f = some v) : fldV nm fs = [v] := by
  unfold fldV
  rw [h]
  dsimp only
  rw [e]; rfl
theorem fldV_none {nm : Str} {fs : List (Str × V)} (h : fldC nm = none) : fldV nm fs = [] := by
  unfold fldV
  rw [h]
def spFieldsG (K : PySem.W.Frag) : Addr → Value → Option Addr → Sp := fun a cls d vs H Q _ => ∃ (nm : Str) (fs : List (Str × V)), vs = [.ref a] ∧ ErrG K H cls d nm fs ∧ ∀ (q : Addr) (H' : Hp), Same H H' → TT K H' q (fldV nm fs) → Q (.ref q) H'
def TTold3G (K : PySem.W.Frag) (cs : List Value) : (XK → Hp → VK → Prop) → Hp → VK → Prop := fun tl H Q =>
  tl (fun cls d H' => ∃ (nm : Str) (fs : List (Str × V)), ErrG K H' cls d nm fs ∧ PySem.W.exmAny K cls cs = some true ∧ ∀ (p : Addr) (H'' : Hp), Same H' H'' → TT K H'' p (V.str "no" :: V.str nm :: fldV nm fs) → Q (.ref p) H'') H
    (fun v H' => [V.str "told", v].length ≤ sizeLine ∧ ∀ p : Addr, H' p = none → Q (.ref p) (upd H' p (.tup [.str "told", v])))
theorem told_gives3G {X : Cx} {Ng : List Str} {x x1 x2 x3 xf q : Str} {sg : Scope} {g A1 A2 A3 ff : Addr} {fdf : FuncData} {cdg : Value} {k j1 j2 kt kk : Nat} {p1 p2 p3 p4 p5 p6 p7 p8 p9 p10 p11 p12 p13 p14 p15 p16 p17 p18 p19 p20 : Pos}
    (hr : Room (k + 2) X.A) (FF : FnP X.prog X.w X.K X.mg X.base k ff fdf ["_law_e"] (spFieldsG X.K)) (mf : X.mg xf = some (.ref ff)) (kf : PySem.W.keepIn X.K (.ref ff) = true) (bf : Binds X.K fdf ["_law_e"] []) (gf : sg.names.lookup xf = some .globalImplicit) (df : (xf == ("__debug__" : Str)) = false)
    (g1 : sg.names.lookup x1 = some .globalImplicit) (m1 : X.mg x1 = some (.ref A1)) (d1 : (x1 == ("__debug__" : Str)) = false) (g2 : sg.names.lookup x2 = some .globalImplicit) (m2 : X.mg x2 = some (.ref A2)) (d2 : (x2 == ("__debug__" : Str)) = false)
    (g3 : sg.names.lookup x3 = some .globalImplicit) (m3 : X.mg x3 = some (.ref A3)) (d3 : (x3 == ("__debug__" : Str)) = false) (nd : Ng.Nodup) (n1 : Ng[1]? = some ("_law_e" : Str)) (le : sg.names.lookup ("_law_e" : Str) = some NameKind.local) (h0 : ∀ f : Addr, (L2.start Ng [V.ref f])[0]? = some (some (V.ref f))) (hlen : 1 < Ng.length) :
    LamX.GivesTo X Ng x sg g cdg [.Try [.Return (some (.Tuple [.Constant (.str "told") j1 p1, .Call (.Name "_law_ask_z" p2) [] [] p3] kt p4)) p5]
      [.ExceptHandler (some (.Tuple [.Name x1 p6, .Name x2 p7, .Name x3 p8] kk p9)) (some "_law_e") [.Return (some (.BinOp (.Tuple [.Constant (.str "no") j2 p10, .Attribute (.Name "_law_e" p11) "code" p12] kt p13) .Add (.Call (.Name xf p14) [.Name "_law_e" p15] [] p16) p17)) p18] p19] [] [] p20] "_law_ask_z" q (TTold3G X.K [.ref A1, .ref A2, .ref A3]) := by
  intro f c' s H Q tl act hc h
  have hve : Vis sg "_law_e" := .inl le
  have hrH := (L2H.roomH_of (hr.deeper (envOfC x sg s.heap.objs.size g cdg))).mono (Nat.le_succ k)
  refine ⟨_, pss_one (ps_try_as3 (X := (cxOf C8.CX0 X.prog X.w X.K X.mg X.base Ng x sg g cdg X.A X.stack s H C8.E0).nox) (i := 1) (c1 := .ref A1) (c2 := .ref A2) (c3 := .ref A3)
      (tb := fun W D σ H => ∃ Ech : XK, (∀ cls d (σ' : L2.St) H', Ech cls d H' → σ'.length = Ng.length → W cls d σ' H') ∧ σ[0]? = some (some (.ref f)) ∧ H c' = some (LamX.CodeO c' q) ∧ tl Ech H (fun v H1 => [V.str "told", v].length ≤ sizeLine ∧ ∀ p : Addr, H1 p = none → D.rt (.ref p) (upd H1 p (.tup [.str "told", v]))))
      (ts := fun a cls d => tRet (tOp (rCatO X.K) (tTup (tCons (tC (.str "no")) (tCons (tXfA X.K a cls d "code" (tVar 1)) tNil))) (tCallP (spFieldsG X.K) a cls d (tCons (tVar 1) tNil))))
      rfl rfl nd n1 le ⟨g1, d1, .inl m1⟩ ⟨g2, d2, .inl m2⟩ ⟨g3, d3, .inl m3⟩ LamX.takes0 (fun W pn xe tk _ => ?_)
      (fun a oe cls d pn hz hf => pss_one (ps_ret (pe_op op_catO (pe_tup (pa_cons pe_str (pa_cons (pe_xfP (X := (cxOf C8.CX0 X.prog X.w X.K X.mg X.base Ng x sg g cdg X.A X.stack s H C8.E0).nox.suite a ((a, oe) :: pn)) (n := "code") (a := a) (oe := oe) List.mem_cons_self hz hf (pe_var (x := "_law_e") (i := 1) n1 hve)) pa_nil)))
        (pe_callP (X := (cxOf C8.CX0 X.prog X.w X.K X.mg X.base Ng x sg g cdg X.A X.stack s H C8.E0).nox.suite a ((a, oe) :: pn)) (a := a) (oe := oe) FF ⟨hrH.dp, hrH.un⟩ List.mem_cons_self hz hf gf mf kf bf (pa_cons (pe_var (x := "_law_e") (i := 1) n1 hve) pa_nil) df))))), ?_⟩
  · refine ⟨fun pins s' σ H' D I h' => ?_⟩
    obtain ⟨Ech, hW, h1, h2, h3⟩ := h'
    have hq : PSs ((cxOf C8.CX0 X.prog X.w X.K X.mg X.base Ng x sg g cdg X.A X.stack s H C8.E0).tr pn xe) [.Return (some (.Tuple [.Constant (.str "told") j1 p1, .Call (.Name "_law_ask_z" p2) [] [] p3] kt p4)) p5] _ := pss_one (ps_ret (pos := p5) (pe_tup (pos := p4) (pa_cons (pe_str (x := "told") (j := j1) (pos := p1)) (pa_cons (act _ pn xe Ech p2 p3 (takes_len tk) hW) pa_nil))))
    refine hq.run pins s' σ H' D I ?_
    exact ⟨h1, h2, h3⟩
  · refine ⟨_, fun cls d σ' H' hE hlen' => ?_, h0 f, hc, h⟩
    obtain ⟨nm, fs, hA, hex, hQ⟩ := hE
    refine ⟨true, hex, fun _ a ha => ?_, fun z => Bool.noConfusion z⟩
    obtain ⟨C, dd, rfl, rfl, hx, hno, hdd, hcode, _⟩ := id hA.ex
    have hset : (σ'.set 1 (some (V.ref a)))[1]? = some (some (V.ref a)) := List.getElem?_set_self (by rw [hlen']; exact hlen)
    refine ⟨_, hset, rfl, C, dd, fs, .str nm, rfl, rfl, hx, hno, hdd, hcode, (by show 2 ≤ sizeLine; decide), fun p np => ⟨_, hset, nm, fs, rfl, hA.same (same_new np), fun q2 H2 s2 t2 => ?_⟩⟩
    refine rd_cat ((TT.of upd_same).same s2) t2 (by have := fldV_len nm fs; show 2 + (fldV nm fs).length ≤ 100000; omega) fun p3 H3 s3 t3 => ?_
    exact hQ p3 H3 (((same_new np).trans s2).trans s3) t3
/-! ### checks with a field -/
/-- a check: nothing, or the error with its field -/
def spChkF (C : Addr) (nm fl : Str) (ok : List V → Hp → Bool → V → Prop) : Sp := fun vs H Q E => ∃ b y, ok vs H b y ∧ (b = true → ∀ H', Same H H' → Q .non H') ∧ (b = false → ∀ (d : Addr) (H' : Hp), Same H H' → H' d = some (.xd ((fl, y) :: codeF nm)) → E (.ref C) (some d) H')
/-- a def with keyword-only defaults that may raise, as it is called -/
structure CalKX (P : Program) (w : World) (K : PySem.W.Frag) (mg : Str → Option Value) (base : Heap) (k : Nat) (x : Str) (ps : List Str) (sp : Sp) (f : Addr) (fd : FuncData) : Prop where
  G : FnOk P w K mg base (L2.CX P w) k f fd ps sp
  m : mg x = some (.ref f)
  kp : PySem.W.keepIn K (.ref f) = true
def twoG {α : Type} : List α → List α → List α
  | [a, b], [c] => [a, b, c]
  | _, _ => []
theorem two_rel {vs : List V} {us : List Value} {zs : List V} {ws : List Value} (h1 : Vals vs us) (h2 : Vals zs ws) : Vals (twoG vs zs) (twoG us ws) := by
  cases h1 with
  | nil => exact .nil
  | cons a t => cases t with
    | nil => exact .nil
    | cons b t => cases t with
      | cons _ _ => exact .nil
      | nil => cases h2 with
        | nil => exact .nil
        | cons c t => cases t with
          | nil => exact .cons a (.cons b (.cons c .nil))
          | cons _ _ => exact .nil
theorem ErrG.mkF {K : PySem.W.Frag} {H : Hp} {C dd : Addr} {nm fl : Str} {y : V} (hx : XfC K C) (no : PySem.W.findIn K (.ref C) "code" = some none) (nof : PySem.W.findIn K (.ref C) fl = some none) (hdd : H dd = some (.xd ((fl, y) :: codeF nm))) (hne : fl ≠ ("code" : Str)) (hf : fldC nm = some fl) :
    ErrG K H (.ref C) (some dd) nm ((fl, y) :: codeF nm) := ⟨C, dd, rfl, rfl, hx, no, hdd, by rw [lookup_put, if_neg (fun z => hne z.symm), code_look], fun f e => by
      obtain rfl : fl = f := Option.some.inj (hf.symm.trans e)
      exact ⟨nof, y, by rw [lookup_put, if_pos rfl]⟩⟩
theorem ErrG.mk0 {K : PySem.W.Frag} {H : Hp} {C dd : Addr} {nm : Str} (hx : XfC K C) (no : PySem.W.findIn K (.ref C) "code" = some none) (hdd : H dd = some (.xd (codeF nm))) (hf : fldC nm = none) :
    ErrG K H (.ref C) (some dd) nm (codeF nm) := ⟨C, dd, rfl, rfl, hx, no, hdd, code_look nm, fun f e => by rw [hf] at e; cases e⟩
theorem fldV_put {nm fl : Str} {y : V} {fs : List (Str × V)} (h : fldC nm = some fl) : fldV nm ((fl, y) :: fs) = [y] := fldV_some h (by rw [lookup_put, if_pos rfl])
/-- what told gives: nothing told, or an error with a number -/
def tupW (b : Bool) (nm : Str) (i : Int) : List V := if b = true then [.str "told", .non] else [.str "no", .str nm, .int i]
def tupWD (b : Bool) (nm : Str) (i : Int) : PyData := if b = true then .tuple [.str "told", .none] else .tuple [.str "no", .str nm, .int i]
theorem tupW_dp {K : PySem.W.Frag} {H : Hp} {p : Addr} {b : Bool} {nm : Str} {i : Int} (h : TT K H p (tupW b nm i)) : Dp K H (.ref p) (tupWD b nm i) := by
  cases b with
  | true => exact .tup h.sq (.cons (.str _) (.cons .non .nil))
  | false => exact .tup h.sq (.cons (.str _) (.cons (.str _) (.cons (.int _) .nil)))
theorem tupW_depth (b : Bool) (nm : Str) (i : Int) : (tupWD b nm i).depth ≤ 2 := by
  cases b <;> simp [tupWD, PyData.depth, PyData.depthAll]
end Vw

set_option Elab.async false
set_option linter.all false
set_option maxRecDepth 100000
/-! data with its bounds, standing as long as all but the bag stays -/
namespace Vw
open PySem PySem.W PyProof.Rows L2
def BnD (K : PySem.W.Frag) (b : Addr) (H : Hp) (v : V) (n z : Nat) : Prop := ∃ d, StD K b H v d ∧ d.depth ≤ n ∧ sOk d ∧ psz d ≤ z
def BnL (K : PySem.W.Frag) (b : Addr) (H : Hp) (vs : List V) (n z : Nat) : Prop := ∃ ds, StL K b H vs ds ∧ PyData.depthAll ds ≤ n ∧ sOkA ds ∧ pszA ds ≤ z
theorem sOkA_app : ∀ {l r : List PyData}, sOkA l → sOkA r → sOkA (l ++ r)
  | [], _, _, h => h
  | _ :: _, _, h, g => ⟨h.1, sOkA_app h.2 g⟩
theorem sOkA_tk : ∀ (k : Nat) {l : List PyData}, sOkA l → sOkA (l.take k)
  | 0, _, _ => trivial
  | _ + 1, [], h => h
  | k + 1, _ :: _, h => ⟨h.1, sOkA_tk k h.2⟩
theorem sOkA_dr : ∀ (k : Nat) {l : List PyData}, sOkA l → sOkA (l.drop k)
  | 0, _, h => h
  | _ + 1, [], h => h
  | k + 1, _ :: _, h => sOkA_dr k h.2
theorem depthA_app : ∀ (l r : List PyData), PyData.depthAll (l ++ r) = max (PyData.depthAll l) (PyData.depthAll r)
  | [], r => by simp only [List.nil_append, PyData.depthAll]; omega
  | d :: l, r => by
    have := depthA_app l r
    simp only [List.cons_append, PyData.depthAll]; omega
theorem depthA_tk : ∀ (k : Nat) (l : List PyData), PyData.depthAll (l.take k) ≤ PyData.depthAll l
  | 0, _ => by simp only [List.take_zero, PyData.depthAll]; omega
  | _ + 1, [] => Nat.le_refl _
  | k + 1, d :: l => by
    have := depthA_tk k l
    simp only [List.take_succ_cons, PyData.depthAll]; omega
theorem depthA_dr : ∀ (k : Nat) (l : List PyData), PyData.depthAll (l.drop k) ≤ PyData.depthAll l
  | 0, _ => Nat.le_refl _
  | _ + 1, [] => Nat.le_refl _
  | k + 1, d :: l => by
    have := depthA_dr k l
    simp only [List.drop_succ_cons, PyData.depthAll]; omega
section
variable {K : PySem.W.Frag} {H H' : Hp} {b l p : Addr} {v : V} {vs ws : List V} {n m z y : Nat}
theorem BnD.mono (h : BnD K b H v n z) (h1 : n ≤ m) (h2 : z ≤ y) : BnD K b H v m y := by
  obtain ⟨d, a, c, e, f⟩ := h
  exact ⟨d, a, Nat.le_trans c h1, e, Nat.le_trans f h2⟩
theorem BnL.mono (h : BnL K b H vs n z) (h1 : n ≤ m) (h2 : z ≤ y) : BnL K b H vs m y := by
  obtain ⟨d, a, c, e, f⟩ := h
  exact ⟨d, a, Nat.le_trans c h1, e, Nat.le_trans f h2⟩
theorem BnD.kp (h : BnD K b H v n z) (k : Kp b H H') : BnD K b H' v n z := by
  obtain ⟨d, a, c⟩ := h
  exact ⟨d, a.kp k, c⟩
theorem BnL.kp (h : BnL K b H vs n z) (k : Kp b H H') : BnL K b H' vs n z := by
  obtain ⟨d, a, c⟩ := h
  exact ⟨d, a.kp k, c⟩
theorem BnD.same (h : BnD K b H v n z) (k : Same H H') : BnD K b H' v n z := h.kp (same_kp k)
theorem BnL.same (h : BnL K b H vs n z) (k : Same H H') : BnL K b H' vs n z := h.kp (same_kp k)
theorem BnL.nil : BnL K b H [] n z := ⟨[], .nil, by simp only [PyData.depthAll]; omega, trivial, Nat.zero_le _⟩
theorem BnL.cons (h : BnD K b H v n z) (g : BnL K b H vs n y) : BnL K b H (v :: vs) n (z + y) := by
  obtain ⟨d, a, c, e, f⟩ := h
  obtain ⟨ds, a', c', e', f'⟩ := g
  exact ⟨d :: ds, .cons a a', by simp only [PyData.depthAll]; omega, ⟨e, e'⟩, by show psz d + pszA ds ≤ _; omega⟩
theorem BnL.one (h : BnD K b H v n z) : BnL K b H [v] n z := (BnL.cons h (.nil (z := 0))).mono (Nat.le_refl _) (Nat.le_refl _)
theorem BnL.app (h : BnL K b H vs n z) (g : BnL K b H ws n y) : BnL K b H (vs ++ ws) n (z + y) := by
  obtain ⟨d, a, c, e, f⟩ := h
  obtain ⟨ds, a', c', e', f'⟩ := g
  exact ⟨d ++ ds, a.app a', by rw [depthA_app]; omega, sOkA_app e e', by rw [psz_append]; omega⟩
theorem BnL.take (k : Nat) (h : BnL K b H vs n z) : BnL K b H (vs.take k) n z := by
  obtain ⟨d, a, c, e, f⟩ := h
  exact ⟨d.take k, a.take k, Nat.le_trans (depthA_tk k d) c, sOkA_tk k e, Nat.le_trans (psz_take k d) f⟩
theorem BnL.drop (k : Nat) (h : BnL K b H vs n z) : BnL K b H (vs.drop k) n z := by
  obtain ⟨d, a, c, e, f⟩ := h
  exact ⟨d.drop k, a.drop k, Nat.le_trans (depthA_dr k d) c, sOkA_dr k e, Nat.le_trans (psz_drop k d) f⟩
theorem BnL.cut {lo hi : Option Int} (h : BnL K b H vs n z) : BnL K b H (cutV vs lo hi) n z := (h.drop _).take _
theorem BnD.tup (B : Bag l H b) (t : TT K H p vs) (h : BnL K b H vs n z) : BnD K b H (.ref p) (n + 1) (z + 1) := by
  obtain ⟨ds, a, c, e, f⟩ := h
  exact ⟨.tuple ds, .tup B t a, by simp only [PyData.depth]; omega, e, by simp only [psz]; omega⟩
theorem BnD.lst (hb : p ≠ b) (t : H p = some (.lst vs)) (h : BnL K b H vs n z) : BnD K b H (.ref p) (n + 1) (z + 1) := by
  obtain ⟨ds, a, c, e, f⟩ := h
  exact ⟨.list ds, .lst hb t a, by simp only [PyData.depth]; omega, e, by simp only [psz]; omega⟩
theorem BnD.str {x : Str} (h : x.length ≤ 30) : BnD K b H (.str x) n 1 := ⟨.str x, .str x, by simp only [PyData.depth]; omega, h, Nat.le_refl _⟩
theorem BnD.int (i : Int) : BnD K b H (.int i) n 1 := ⟨.int i, .int i, by simp only [PyData.depth]; omega, trivial, Nat.le_refl _⟩
theorem BnD.bl (c : Bool) : BnD K b H (.bl c) n 1 := ⟨.bool c, .bl c, by simp only [PyData.depth]; omega, trivial, Nat.le_refl _⟩
theorem BnD.non : BnD K b H .non n 1 := ⟨.none, .non, by simp only [PyData.depth]; omega, trivial, Nat.le_refl _⟩
theorem BnD.se {s : Se} {m : Int} (B : Bag l H b) (h : SeA K H v s) (o : s.ok m) : BnD K b H v (s.nest + 2) (7 * 2 ^ s.nest - 4) := ⟨s.toD, h.std B, s.depth_le, Se.sOk o, by have := s.psz_le; omega⟩
end
theorem Se.word_len {m : Int} {s : Se} {x : Str} {r : List PyData} (o : s.ok m) (h : s.toD = .tuple (.str x :: r)) : x.length ≤ 30 := by
  have h1 := Se.sOk o
  rw [h] at h1
  exact h1.1
/-- a sentence's items, by its kind -/
theorem SeA.bn {K : PySem.W.Frag} {H : Hp} {b l : Addr} {v : V} {s : Se} {m : Int} (B : Bag l H b) (h : SeA K H v s) (o : s.ok m) : ∃ p x vr, v = .ref p ∧ TT K H p (.str x :: vr) ∧ vr.length ≤ 2 ∧ x.length ≤ 30 ∧ BnL K b H vr (s.nest + 1) (7 * 2 ^ s.nest - 6) ∧
    ((inV (.str x) [V.str "true", V.str "false", V.str "name"] = true ∧ ¬ x = "shown") ∨
      (∃ k u a, x = "shown" ∧ vr = [.int k, u] ∧ SeA K H u a ∧ a.ok m ∧ a.nest + 1 ≤ s.nest) ∨
      (inV (.str x) [V.str "true", V.str "false", V.str "name"] = false ∧ ¬ x = "shown" ∧ vr ≠ [] ∧ ∀ u ∈ vr, ∃ a, SeA K H u a ∧ a.ok m ∧ a.nest + 1 ≤ s.nest)) := by
  have key : ∀ {x : Str} {vr : List V} {r : List PyData}, s.toD = .tuple (.str x :: r) → StL K b H vr r → x.length ≤ 30 ∧ BnL K b H vr (s.nest + 1) (7 * 2 ^ s.nest - 6) := fun {x vr r} ed st => by
    have h1 := s.psz_le
    have h2 := s.depth_le
    have h3 := Se.sOk o
    rw [ed] at h1 h2 h3
    have h4 : psz (.tuple (.str x :: r)) = 1 + pszA r + 1 := by simp only [psz, pszA]
    have h5 : (PyData.tuple (.str x :: r)).depth = max 0 (PyData.depthAll r) + 1 := by simp only [PyData.depth, PyData.depthAll]
    exact ⟨h3.1, r, st, by omega, h3.2, by omega⟩
  cases s with
  | t =>
    obtain ⟨p, e, t⟩ := h
    obtain ⟨k1, k2⟩ := key (x := "true") rfl .nil
    exact ⟨p, _, _, e, t, by decide, k1, k2, .inl ⟨by decide +kernel, by decide +kernel⟩⟩
  | f =>
    obtain ⟨p, e, t⟩ := h
    obtain ⟨k1, k2⟩ := key (x := "false") rfl .nil
    exact ⟨p, _, _, e, t, by decide, k1, k2, .inl ⟨by decide +kernel, by decide +kernel⟩⟩
  | nm y =>
    obtain ⟨p, e, t⟩ := h
    obtain ⟨k1, k2⟩ := key (x := "name") rfl (.cons (.str y) .nil)
    exact ⟨p, _, _, e, t, (by show 1 ≤ 2; decide), k1, k2, .inl ⟨by decide +kernel, by decide +kernel⟩⟩
  | nt a =>
    obtain ⟨q, u, e1, t1, g⟩ := h
    obtain ⟨k1, k2⟩ := key (x := "not") rfl (.cons (g.std B) .nil)
    refine ⟨q, _, _, e1, t1, (by show 1 ≤ 2; decide), k1, k2, .inr (.inr ⟨by decide +kernel, by decide +kernel, by simp, fun z hz => ?_⟩)⟩
    rw [List.mem_singleton.mp hz]
    exact ⟨a, g, o, Nat.le_refl _⟩
  | bin y a c =>
    obtain ⟨q, u1, u2, e1, t1, g1, g2⟩ := h
    obtain ⟨k1, k2⟩ := key (x := y) rfl (.cons (g1.std B) (.cons (g2.std B) .nil))
    have hy : inV (.str y) [V.str "true", V.str "false", V.str "name"] = false ∧ ¬ y = "shown" := by
      rcases o.1 with e | e | e <;> subst e <;> decide +kernel
    refine ⟨q, _, _, e1, t1, (by show 2 ≤ 2; decide), k1, k2, .inr (.inr ⟨hy.1, hy.2, by simp, fun z hz => ?_⟩)⟩
    simp only [List.mem_cons, List.not_mem_nil, or_false] at hz
    rcases hz with h | h <;> subst h
    · exact ⟨a, g1, o.2.1, by show a.nest + 1 ≤ max a.nest c.nest + 1; omega⟩
    · exact ⟨c, g2, o.2.2, by show c.nest + 1 ≤ max a.nest c.nest + 1; omega⟩
  | sh k a =>
    obtain ⟨q, u, e1, t1, g⟩ := h
    obtain ⟨k1, k2⟩ := key (x := "shown") rfl (.cons (.int _) (.cons (g.std B) .nil))
    exact ⟨q, _, _, e1, t1, (by show 2 ≤ 2; decide), k1, k2, .inr (.inl ⟨_, u, a, rfl, rfl, g, o.2, Nat.le_refl _⟩)⟩
theorem two_pow {a n : Nat} (h : a + 1 ≤ n) : 2 * 2 ^ a ≤ 2 ^ n := by
  have := Nat.pow_le_pow_right (by decide : 0 < 2) h
  rw [Nat.pow_succ] at this
  omega
theorem SeA.dpt {K : PySem.W.Frag} {H : Hp} {v : V} {s : Se} (h : SeA K H v s) : ∃ ds, Dp K H v (.tuple ds) := by
  cases s <;> exact ⟨_, h.dp⟩
theorem psz_cut : ∀ (k : Nat) (l : List PyData), pszA (l.take k) + pszA (l.drop k) = pszA l
  | 0, l => by simp [pszA]
  | k + 1, [] => by simp [pszA]
  | k + 1, d :: r => by
    have := psz_cut k r
    show psz d + pszA (r.take k) + pszA (r.drop k) = psz d + pszA r
    omega
end Vw

set_option Elab.async false
set_option linter.all false
set_option maxRecDepth 100000
set_option maxHeartbeats 4000000
namespace Vw
open PySem PySem.W PyProof.Rows L2
def top (i : Nat) : Stmt := PySem.Challenge.pw_vowstair_k22_sentences_recognized.main.body.getD i (.Pass ⟨0, 0, 0, 0⟩)
abbrev s_law_bag : Stmt := top 19
theorem sc_law_bag : FnScope ["_law_script", "_law_salt", "_law_cell"] ["_law_script"] (defScope s_law_bag) := ⟨rfl, rfl, rfl, by decide +kernel, rfl, by decide +kernel, by decide +kernel⟩
abbrev s_law_pull : Stmt := top 20
theorem sc_law_pull : FnScope ["_law_bag_here", "_law_sides", "_law_cell", "_law_got", "_law_seed"] ["_law_bag_here", "_law_sides"] (defScope s_law_pull) := ⟨rfl, rfl, rfl, by decide +kernel, rfl, by decide +kernel, by decide +kernel⟩
abbrev s_law_of : Stmt := top 21
theorem sc_law_of : FnScope ["_law_bag_here", "_law_some"] ["_law_bag_here", "_law_some"] (defScope s_law_of) := ⟨rfl, rfl, rfl, by decide +kernel, rfl, by decide +kernel, by decide +kernel⟩
abbrev s_law_same : Stmt := top 22
theorem sc_law_same : FnScope ["_law_found", "_law_due", "_law_k"] ["_law_found", "_law_due"] (defScope s_law_same) := ⟨rfl, rfl, rfl, by decide +kernel, rfl, by decide +kernel, by decide +kernel⟩
def KO (K : PySem.W.Frag) (a : Addr) (o : O) : Prop := OA K (fun _ => none) (.ref a) o
structure Txt (K : PySem.W.Frag) (mg : Str → Option Value) (w : World) (aTRUE : Addr) (aFALSE : Addr) (a_RESERVED : Addr) (a_HEADS : Addr) (a_PARTS : Addr) (aVowError : Addr) (aInvalidSentence : Addr) (aMissing : Addr) (aNothingLeft : Addr) (fVI : Addr) (fI_InvalidSentence : Addr) : Prop where
  m_VowError : mg "VowError" = some (.ref aVowError)
  m_InvalidSentence : mg "InvalidSentence" = some (.ref aInvalidSentence)
  m_Missing : mg "Missing" = some (.ref aMissing)
  m_NothingLeft : mg "NothingLeft" = some (.ref aNothingLeft)
  rz_InvalidSentence : RzF K aInvalidSentence aVowError fI_InvalidSentence fVI "InvalidSentence" "index"
  ex_InvalidSentence : PySem.W.exmAny K (.ref aInvalidSentence) [.ref aVowError, .ref aMissing, .ref aNothingLeft] = some true
  z_len : mg "len" = none
  z_range : mg "range" = none
  z_isinstance : mg "isinstance" = none
  z_int : mg "int" = none
  z_list : mg "list" = none
  z_tuple : mg "tuple" = none
  z_str : mg "str" = none
  z_bool : mg "bool" = none
  z_all : mg "all" = none
  z_ValueError : mg "ValueError" = none
  z_LookupError : mg "LookupError" = none
  z_IndexError : mg "IndexError" = none
  m_TRUE : mg "TRUE" = some (.ref aTRUE)
  t_TRUE : ∀ H, SqT K H aTRUE [.str "true"]
  m_FALSE : mg "FALSE" = some (.ref aFALSE)
  t_FALSE : ∀ H, SqT K H aFALSE [.str "false"]
  m__RESERVED : mg "_RESERVED" = some (.ref a_RESERVED)
  t__RESERVED : ∀ H, SqT K H a_RESERVED resv
  m__LONGEST_NAME : ∃ t, mg "_LONGEST_NAME" = some (.int 6 t)
  m__HEADS : mg "_HEADS" = some (.ref a_HEADS)
  t__HEADS : TabC K w a_HEADS [("true", 1), ("false", 1), ("name", 2), ("not", 1), ("and", 1), ("or", 1), ("then", 1), ("shown", 2)]
  m__PARTS : mg "_PARTS" = some (.ref a_PARTS)
  t__PARTS : TabC K w a_PARTS [("true", 0), ("false", 0), ("name", 0), ("not", 1), ("and", 2), ("or", 2), ("then", 2), ("shown", 1)]

section
variable {P : Program} {w : World} {K : PySem.W.Frag} {mg : Str → Option Value} {base : Heap}
theorem ok_bag  {aTRUE : Addr} {aFALSE : Addr} {a_RESERVED : Addr} {a_HEADS : Addr} {a_PARTS : Addr} {aVowError : Addr} {aInvalidSentence : Addr} {aMissing : Addr} {aNothingLeft : Addr} {fVI : Addr} {fI_InvalidSentence : Addr} (T : Txt K mg  w aTRUE aFALSE a_RESERVED a_HEADS a_PARTS aVowError aInvalidSentence aMissing aNothingLeft fVI fI_InvalidSentence) {f : Addr} {fd : FuncData} {k : Nat} (F : Fun K "_law_bag" "_law_bag" s_law_bag f fd) : FnOk P w K mg base CX0 (k + 1) f fd ["_law_script"] (spBag K) := by
  refine F.ok sc_law_bag (fun vs H Q E h => ?_) (fun cdv A outer s H vs Q E hr h => ?_)
  · obtain ⟨a, ns, rfl, _⟩ := h; rfl
  obtain ⟨a, ns, rfl, hS, hl, q⟩ := h
  refine ⟨_, (pss_cons (ps_set (i := 1) sc_law_bag.nd rfl (Or.inl rfl) pe_int)
  (pss_cons (ps_for PassesOwn.never rfl (pi_list (pe_slice sl_list (pv 0) po_none (po_some pe_int))) (pg_name (i := 2) sc_law_bag.nd rfl (Or.inl rfl))
   (pss_one (ps_set (i := 1) sc_law_bag.nd rfl (Or.inl rfl) (pe_op op_mod (pe_op op_add (pe_op op_add (pe_op op_mul (pv 1) pe_int) (pe_op op_mod (pe_callTy call_int1 (by rfl) T.z_int (by decide +kernel) (pa_cons (pv 2) pa_nil)) pe_int)) pe_int) pe_int))))
  (pss_one (ps_ret (pe_lst (pa_cons (pe_callTy call_list_of (by rfl) T.z_list (by decide +kernel) (pa_cons (pe_slice sl_list (pv 0) po_none (po_some pe_int)) pa_nil)) (pa_cons pe_int (pa_cons pe_int (pa_cons (pv 1) (pa_cons pe_int pa_nil)))))))))), ?_⟩
  obtain ⟨ms, e1, e2⟩ := cut_map ns none (some 63)
  refine ⟨_, rfl, 63, rfl, a, _, rfl, hS, fun c nc => ⟨c, rfl, ⟨_, SqL.of upd_same⟩, ?_⟩⟩
  have s1 : Same H (upd H c (.lst (cutV (ns.map V.int) none (some 63)))) := same_new nc
  rw [e1] at s1 ⊢
  refine for_list (xs := ms.map V.int) (fun _ σ H' => H' = upd H c (.lst (ms.map V.int)) ∧ ∃ (z : Int) (u : Option V), σ = [some (.ref a), some (.int z), u] ∧ 0 ≤ z ∧ z < 2147483647) ⟨rfl, 3827, none, rfl, by decide, by decide⟩ (fun i σ H' _ h => ?_) (fun i x σ H' hx h => ?_) (fun σ H' h => ?_)
  · obtain ⟨rfl, _⟩ := h
    exact SqL.of upd_same
  · obtain ⟨rfl, z, u, rfl, z0, z1⟩ := h
    rw [List.getElem?_map] at hx
    cases hm : ms[i]? with
    | none => rw [hm] at hx; cases hx
    | some m =>
      rw [hm] at hx
      obtain rfl : V.int m = x := Option.some.inj hx
      refine ⟨_, rfl, _, _, rfl, rfl, .inl ⟨by omega, by omega⟩, _, rfl, .inl ⟨_, rfl, _, _, rfl, rfl, (by show (0 : Int) < 2147483587; decide), _, _, rfl, rfl, _, _, rfl, rfl, _, _, rfl, rfl, (by show (0 : Int) < 2147483647; decide), ?_⟩⟩
      exact ⟨rfl, _, _, rfl, Int.emod_nonneg _ (by decide), Int.emod_lt_of_pos _ (by decide)⟩
  · obtain ⟨rfl, z, u, rfl, z0, z1⟩ := h
    refine ⟨_, rfl, 63, rfl, a, _, rfl, s1.seq hS, fun d nd => ?_⟩
    rw [e1]
    have s2 := s1.trans (same_new (o := .lst (ms.map V.int)) nd)
    refine ⟨d, _, rfl, .inl (SqL.of upd_same), fun l nl => ?_⟩
    have s3 := s2.trans (same_new (o := .lst (ms.map V.int)) nl)
    refine ⟨_, rfl, (by show 5 ≤ sizeLine; decide), fun b nb => ?_⟩
    have s4 := s3.trans (same_new (o := .lst [.ref l, .int 0, .int 0, .int z, .int 0]) nb)
    have hlb : l ≠ b := fun e => by rw [e, upd_same] at nb; cases nb
    refine q l b _ (s3.free nb) s4 ⟨ms, 0, 0, z, 0, hlb, upd_same, ?_, by omega, by decide, z0, z1⟩
    rw [upd_ne hlb, upd_same]
theorem seed_bounds {s k : Int} : 0 ≤ (s + k * 7103) % 2147483647 ∧ (s + k * 7103) % 2147483647 < 2147483647 := ⟨Int.emod_nonneg _ (by decide), Int.emod_lt_of_pos _ (by decide)⟩
theorem ok_pull  {aTRUE : Addr} {aFALSE : Addr} {a_RESERVED : Addr} {a_HEADS : Addr} {a_PARTS : Addr} {aVowError : Addr} {aInvalidSentence : Addr} {aMissing : Addr} {aNothingLeft : Addr} {fVI : Addr} {fI_InvalidSentence : Addr} (T : Txt K mg  w aTRUE aFALSE a_RESERVED a_HEADS a_PARTS aVowError aInvalidSentence aMissing aNothingLeft fVI fI_InvalidSentence) {f : Addr} {fd : FuncData} {k : Nat} (F : Fun K "_law_pull" "_law_pull" s_law_pull f fd) : FnOk P w K mg base CX0 (k + 1) f fd ["_law_bag_here", "_law_sides"] spPull := by
  refine F.ok sc_law_pull (fun vs H Q E h => ?_) (fun cdv A outer s H vs Q E hr h => ?_)
  · obtain ⟨_, b, n, rfl, _⟩ := h; rfl
  obtain ⟨l, b, n, rfl, n1, n2, ⟨ns, i, g, z, c, hlb, hb, hL, hl, i0, z0, z1⟩, q⟩ := h
  refine ⟨_, (C8.pss_cut (ps_if (PW.pt (pw_and (pt_cmpR op_eq (pe_ix ix_list (pv 0) pe_int (fun _ _ => rfl)) pe_int (nomark _)) (pw_and1 (pt_cmpR op_lt (pe_ix ix_list (pv 0) pe_int (fun _ _ => rfl)) (pe_callB call_len_seq (by rfl) T.z_len (by decide +kernel) (pa_cons (pe_ix ix_list (pv 0) pe_int (fun _ _ => rfl)) pa_nil)) (nomark _))))) (pss_cons (ps_set (i := 2) sc_law_pull.nd rfl (Or.inl rfl) (pe_ix ix_list (pe_ix ix_list (pv 0) pe_int (fun _ _ => rfl)) (pe_ix ix_list (pv 0) pe_int (fun _ _ => rfl)) (fun _ _ => rfl)))
  (pss_cons (ps_asg (pe_op op_add (pe_ix ix_list (pv 0) pe_int (fun _ _ => rfl)) pe_int) (pg_sub (pv 0) pe_int set_list))
  (pss_one (ps_if (pt_cmpR op_ge (pv 2) (pe_op op_pow pe_int pe_int) (nomark _)) (pss_one (ps_asg (pv 2) (pg_sub (pv 0) pe_int set_list))) (pss_one (ps_asg (pe_op op_mod (pe_op op_add (pe_op op_add (pe_op op_mul (pe_ix ix_list (pv 0) pe_int (fun _ _ => rfl)) pe_int) (pe_op op_mod (pe_callTy call_int1 (by rfl) T.z_int (by decide +kernel) (pa_cons (pv 2) pa_nil)) pe_int)) pe_int) pe_int) (pg_sub (pv 0) pe_int set_list))))))) pss_nil)
  (pss_cons (ps_if (pt_cmpR op_gt (pe_ix ix_list (pv 0) pe_int (fun _ _ => rfl)) pe_int (nomark _)) (pss_cons (ps_set (i := 3) sc_law_pull.nd rfl (Or.inl rfl) (pe_op op_mod (pe_callTy call_int1 (by rfl) T.z_int (by decide +kernel) (pa_cons (pe_ix ix_list (pv 0) pe_int (fun _ _ => rfl)) pa_nil)) (pv 1)))
  (pss_cons (ps_asg (pe_op op_fdivW (pe_ix ix_list (pv 0) pe_int (fun _ _ => rfl)) (pv 1)) (pg_sub (pv 0) pe_int set_list))
  (pss_one (ps_ret (pv 3))))) pss_nil)
  (pss_cons (ps_asg (pe_op op_add (pe_ix ix_list (pv 0) pe_int (fun _ _ => rfl)) pe_int) (pg_sub (pv 0) pe_int set_list))
  (pss_cons (ps_set (i := 4) sc_law_pull.nd rfl (Or.inl rfl) (pe_op op_mod (pe_op op_add (pe_ix ix_list (pv 0) pe_int (fun _ _ => rfl)) (pe_op op_mul (pe_ix ix_list (pv 0) pe_int (fun _ _ => rfl)) pe_int)) pe_int))
  (pss_cons (ps_asg (pe_op op_mod (pe_op op_add (pe_op op_add (pe_op op_pow (pv 4) pe_int) (pe_op op_mul pe_int (pv 4))) pe_int) pe_int) (pg_sub (pv 0) pe_int set_list))
  (pss_one (ps_ret (pe_op op_mod (pe_op op_add (pe_op op_fdiv (pe_ix ix_list (pv 0) pe_int (fun _ _ => rfl)) pe_int) (pe_op op_mul (pe_op op_mod (pe_callTy call_int1 (by rfl) T.z_int (by decide +kernel) (pa_cons (pe_ix ix_list (pv 0) pe_int (fun _ _ => rfl)) pa_nil)) pe_int) pe_int)) (pv 1))))))))), ?_⟩
  -- behind the draw of a cell
  let Mid : L2.St → Hp → Prop := fun σ' H' => ∃ (u2 u3 u4 : Option V) (i' g' z' : Int), σ' = [some (.ref b), some (.int n), u2, u3, u4] ∧ Kp b H H' ∧ H' b = some (.lst [.ref l, .int i', .int g', .int z', .int c]) ∧ 0 ≤ i' ∧ 0 ≤ z' ∧ z' < 2147483647
  have k0 : Kp b H H := Kp.refl H
  have hLs : ∀ H', Kp b H H' → SqL K H' l (ns.map V.int) := fun H' x => SqL.of (x _ _ hlb hL)
  refine ⟨Mid, ?_, ?_⟩
  · have m0 : Mid [some (V.ref b), some (V.int n), none, none, none] H := ⟨none, none, none, i, g, z, rfl, k0, hb, i0, z0, z1⟩
    refine ⟨_, rfl, b, _, 2, _, rfl, rfl, SqL.of hb, rfl, rfl, _, rfl, ?_⟩
    refine ite2 (fun e => ?_) (fun e => ?_)
    · refine ⟨_, rfl, b, _, 1, _, rfl, rfl, SqL.of hb, rfl, _, rfl, b, _, 0, _, rfl, rfl, SqL.of hb, rfl, l, _, rfl, .inl (SqL.of hL), _, _, rfl, rfl, _, rfl, ?_⟩
      refine ite2 (fun e2 => ?_) (fun e2 => ?_)
      · have hi : i < (ns.length : Int) := by
          have := of_decide_eq_true e2
          rw [List.length_map] at this
          exact this
        obtain ⟨v, hv, hat⟩ := atI_ex (xs := ns.map V.int) i0 (by rw [List.length_map]; exact hi)
        rw [List.getElem?_map] at hv
        obtain ⟨cell, _, rfl⟩ := Option.map_eq_some_iff.mp hv
        refine ⟨_, rfl, b, _, 0, _, rfl, rfl, SqL.of hb, rfl, _, rfl, b, _, 1, _, rfl, rfl, SqL.of hb, rfl, l, _, i, _, rfl, rfl, SqL.of hL, hat, ?_⟩
        refine ⟨_, rfl, b, _, 1, _, rfl, rfl, SqL.of hb, rfl, _, _, rfl, rfl, _, rfl, b, _, 1, 1, rfl, rfl, hb, rfl, ?_⟩
        refine ⟨_, rfl, _, _, rfl, rfl, ⟨by decide, by decide, by decide⟩, _, _, rfl, rfl, _, rfl, ?_⟩
        have hb1 : (upd H b (.lst (List.set [.ref l, .int i, .int g, .int z, .int c] 1 (.int (i + 1))))) b = some (.lst [.ref l, .int (i + 1), .int g, .int z, .int c]) := upd_same
        have k1 : Kp b H (upd H b (.lst (List.set [.ref l, .int i, .int g, .int z, .int c] 1 (.int (i + 1))))) := Kp.upd
        refine ite2 (fun e3 => ?_) (fun e3 => ?_)
        · refine ⟨_, rfl, _, rfl, b, _, 2, 2, rfl, rfl, hb1, rfl, ?_⟩
          exact ⟨_, _, _, i + 1, cell, z, rfl, k1.trans Kp.upd, upd_same, by omega, z0, z1⟩
        · refine ⟨_, rfl, b, _, 3, _, rfl, rfl, SqL.of hb1, rfl, _, _, rfl, rfl, .inl ⟨by omega, by omega⟩, _, rfl, .inl ⟨_, rfl, _, _, rfl, rfl, (by show (0 : Int) < 2147483579; decide), _, _, rfl, rfl, _, _, rfl, rfl, _, _, rfl, rfl, (by show (0 : Int) < 2147483647; decide), _, rfl, b, _, 3, 3, rfl, rfl, hb1, rfl, ?_⟩⟩
          exact ⟨_, _, _, i + 1, g, _, rfl, k1.trans Kp.upd, upd_same, by omega, Int.emod_nonneg _ (by decide), Int.emod_lt_of_pos _ (by decide)⟩
      · exact m0
    · exact m0
  · intro σ' H' hm
    obtain ⟨u2, u3, u4, i', g', z', rfl, k1, hb1, i1, z2, z3⟩ := hm
    have fin : ∀ (r : Int) (H2 : Hp) (g2 s2 c2 : Int), 0 ≤ r → r < n → Kp b H H2 → H2 b = some (.lst [.ref l, .int i', .int g2, .int s2, .int c2]) → 0 ≤ s2 → s2 < 2147483647 → Q (.int r) H2 := fun r H2 g2 s2 c2 r0 r1 kk hh s0 s1 =>
      q r H2 r0 r1 kk ⟨ns, i', g2, s2, c2, hlb, hh, kk _ _ hlb hL, hl, i1, s0, s1⟩
    refine ⟨_, rfl, b, _, 2, _, rfl, rfl, SqL.of hb1, rfl, _, _, rfl, rfl, _, rfl, ?_⟩
    refine ite2 (fun e => ?_) (fun e => ?_)
    · refine ⟨_, rfl, b, _, 2, _, rfl, rfl, SqL.of hb1, rfl, .inl ⟨_, rfl, _, rfl, _, _, rfl, rfl, (by omega), ?_⟩⟩
      refine ⟨_, rfl, b, _, 2, _, rfl, rfl, SqL.of hb1, rfl, _, rfl, _, _, rfl, rfl, wide_div (b := 100) (by omega) (by omega) (by decide) (by decide), _, rfl, b, _, 2, 2, rfl, rfl, hb1, rfl, ?_⟩
      refine ⟨_, rfl, ?_⟩
      exact fin _ _ _ z' c (Int.emod_nonneg _ (by omega)) (Int.emod_lt_of_pos _ (by omega)) (k1.trans Kp.upd) upd_same z2 z3
    · refine ⟨_, rfl, b, _, 4, _, rfl, rfl, SqL.of hb1, rfl, _, _, rfl, rfl, _, rfl, b, _, 4, 4, rfl, rfl, hb1, rfl, ?_⟩
      have hb2 : (upd H' b (.lst (List.set [.ref l, .int i', .int g', .int z', .int c] 4 (.int (c + 1))))) b = some (.lst [.ref l, .int i', .int g', .int z', .int (c + 1)]) := upd_same
      have k2 : Kp b H (upd H' b (.lst (List.set [.ref l, .int i', .int g', .int z', .int c] 4 (.int (c + 1))))) := k1.trans Kp.upd
      obtain ⟨sb0, sb1⟩ := seed_bounds (s := z') (k := c + 1)
      refine ⟨_, rfl, b, _, 3, _, rfl, rfl, SqL.of hb2, rfl, _, rfl, b, _, 4, _, rfl, rfl, SqL.of hb2, rfl, _, _, rfl, rfl, .inr ⟨by decide, by decide⟩, _, _, rfl, rfl, _, _, rfl, rfl, (by show (0 : Int) < 2147483647; decide), ?_⟩
      refine ⟨_, rfl, _, _, rfl, rfl, ⟨by decide, by decide, by omega⟩, _, rfl, _, _, rfl, rfl, .inl ⟨by decide, by decide⟩, _, _, rfl, rfl, _, _, rfl, rfl, _, _, rfl, rfl, (by show (0 : Int) < 2147483647; decide), _, rfl, b, _, 3, 3, rfl, rfl, hb2, rfl, ?_⟩
      refine ⟨_, rfl, b, _, 3, _, rfl, rfl, SqL.of upd_same, rfl, _, _, rfl, rfl, ⟨by decide, by decide⟩, _, rfl, b, _, 3, _, rfl, rfl, SqL.of upd_same, rfl, .inl ⟨_, rfl, _, _, rfl, rfl, (by show (0 : Int) < 7919; decide), _, _, rfl, rfl, .inr ⟨by decide, by decide⟩, _, _, rfl, rfl, _, rfl, _, _, rfl, rfl, (by omega), ?_⟩⟩
      exact fin _ _ _ _ (c + 1) (Int.emod_nonneg _ (by omega)) (Int.emod_lt_of_pos _ (by omega)) (k2.trans Kp.upd) upd_same (Int.emod_nonneg _ (by decide)) (Int.emod_lt_of_pos _ (by decide))
theorem ok_of  {aTRUE : Addr} {aFALSE : Addr} {a_RESERVED : Addr} {a_HEADS : Addr} {a_PARTS : Addr} {aVowError : Addr} {aInvalidSentence : Addr} {aMissing : Addr} {aNothingLeft : Addr} {fVI : Addr} {fI_InvalidSentence : Addr} (T : Txt K mg  w aTRUE aFALSE a_RESERVED a_HEADS a_PARTS aVowError aInvalidSentence aMissing aNothingLeft fVI fI_InvalidSentence) {f f1 : Addr} {fd fd1 : FuncData} (F : Fun K "_law_of" "_law_of" s_law_of f fd) (C__law_pull : Cal P w K mg base 1 "_law_pull" ["_law_bag_here", "_law_sides"] spPull f1 fd1) : FnOk P w K mg base CX0 2 f fd ["_law_bag_here", "_law_some"] (spOf K) := by
  refine F.ok sc_law_of (fun vs H Q E h => ?_) (fun cdv A outer s H vs Q E hr h => ?_)
  · obtain ⟨_, _, _, _, rfl, _⟩ := h; rfl
  obtain ⟨l, b, a, xs, rfl, hB, hx, hne, q⟩ := h
  refine ⟨_, (pss_one (ps_ret (pe_ix ix_seq (pv 1) (pe_call C__law_pull.G (hr.mono (by omega)) (by rfl) C__law_pull.m C__law_pull.kp C__law_pull.b .nil pass0 (pa_cons (pv 0) (pa_cons (pe_callB call_lenB (by rfl) T.z_len (by decide +kernel) (pa_cons (pv 1) pa_nil)) pa_nil))) (fun _ _ => rfl)))), ?_⟩
  have hpos : 0 < xs.length := List.length_pos_iff.mpr hne
  refine ⟨_, rfl, _, rfl, _, rfl, rd_len (ys := xs) ?_ fun hz => ?_⟩
  · rcases hx with ⟨_, hx⟩ | hx
    · exact .inl (SqL.of hx)
    · exact .inr hx.sq
  have hz2 := line62 hz
  refine ⟨l, b, _, rfl, by omega, by omega, hB, fun r H1 r0 r1 k1 B1 => ?_⟩
  obtain ⟨v, hv, hat⟩ := atI_ex (xs := xs) r0 r1
  have hm : v ∈ xs := List.mem_of_getElem? hv
  rcases hx with ⟨hab, hx⟩ | hx
  · exact .inl ⟨a, xs, r, v, rfl, rfl, SqL.of (k1 _ _ hab hx), hat, q v H1 hm k1 B1⟩
  · exact .inr (.inl ⟨a, xs, r, v, rfl, rfl, (hx.tp (hB.tp k1)).sq, hat, q v H1 hm k1 B1⟩)
theorem ok_same  {aTRUE : Addr} {aFALSE : Addr} {a_RESERVED : Addr} {a_HEADS : Addr} {a_PARTS : Addr} {aVowError : Addr} {aInvalidSentence : Addr} {aMissing : Addr} {aNothingLeft : Addr} {fVI : Addr} {fI_InvalidSentence : Addr} (T : Txt K mg  w aTRUE aFALSE a_RESERVED a_HEADS a_PARTS aVowError aInvalidSentence aMissing aNothingLeft fVI fI_InvalidSentence) {f : Addr} {fd : FuncData} {n : Nat} (F : Fun K "_law_same" "_law_same" s_law_same f fd) (C__law_same : Cal P w K mg base n "_law_same" ["_law_found", "_law_due"] (spSame K n) f fd) : FnOk P w K mg base CX0 (n + 1) f fd ["_law_found", "_law_due"] (spSame K (n + 1)) := by
  refine F.ok sc_law_same (fun vs H Q E h => ?_) (fun cdv A outer s H vs Q E hr h => ?_)
  · obtain ⟨_, _, _, rfl, _⟩ := h; rfl
  obtain ⟨x, y, d, rfl, hx, hy, hd, q⟩ := h
  refine ⟨_, (pss_cons (ps_if (pt_val (pe_callB call_isDT (by rfl) T.z_isinstance (by decide +kernel) (pa_cons (pv 1) (pa_cons (pe_tup (pa_cons (pe_bltn (v := .ty "list") (u := .type "list") (by rfl) T.z_list (by decide +kernel) rfl) (pa_cons (pe_bltn (v := .ty "tuple") (u := .type "tuple") (by rfl) T.z_tuple (by decide +kernel) rfl) pa_nil))) pa_nil)))) (pss_cons (ps_if (PW.pt (pw_or (pt_cmpR op_ne (pe_callB call_isD (by rfl) T.z_isinstance (by decide +kernel) (pa_cons (pv 0) (pa_cons (pe_bltn (v := .ty "list") (u := .type "list") (by rfl) T.z_list (by decide +kernel) rfl) pa_nil))) (pe_callB call_isD (by rfl) T.z_isinstance (by decide +kernel) (pa_cons (pv 1) (pa_cons (pe_bltn (v := .ty "list") (u := .type "list") (by rfl) T.z_list (by decide +kernel) rfl) pa_nil))) (nomark _)) (pw_or1 (pt_cmpR op_ne (pe_callB call_isD (by rfl) T.z_isinstance (by decide +kernel) (pa_cons (pv 0) (pa_cons (pe_bltn (v := .ty "tuple") (u := .type "tuple") (by rfl) T.z_tuple (by decide +kernel) rfl) pa_nil))) (pe_callB call_isD (by rfl) T.z_isinstance (by decide +kernel) (pa_cons (pv 1) (pa_cons (pe_bltn (v := .ty "tuple") (u := .type "tuple") (by rfl) T.z_tuple (by decide +kernel) rfl) pa_nil))) (nomark _))))) (pss_one (ps_ret pe_bl)) pss_nil)
  (pss_one (ps_ret (pe_and (pe_cmpR op_eq (pe_callB call_lenB (by rfl) T.z_len (by decide +kernel) (pa_cons (pv 0) pa_nil)) (pe_callB call_lenB (by rfl) T.z_len (by decide +kernel) (pa_cons (pv 1) pa_nil)) (nomark _)) (pe_one (pe_callB (cr_all rfl) (by rfl) T.z_all (by decide +kernel) (pa_cons (pe_lc (own := [("_law_k", 2)]) (g := gName 2) (tt := tYes) rfl sc_law_same.nd (pi_range1 (by rfl) T.z_range (pa_cons (pe_callB call_lenB (by rfl) T.z_len (by decide +kernel) (pa_cons (pv 1) pa_nil)) pa_nil)) (blkOk_by (own := [("_law_k", 2)]) (N := ["_law_found", "_law_due", "_law_k"]) (sc := defScope s_law_same) (by decide +kernel)) (fun _ _ _ _ _ => (pg_name (i := 2) sc_law_same.nd rfl (Or.inl rfl))) (fun _ _ _ _ _ => pts_nil) (fun _ _ _ _ _ => (pe_call C__law_same.G (hr.mono (by omega)) (by rfl) C__law_same.m C__law_same.kp C__law_same.b .nil pass0 (pa_cons (pe_ix (r := rIx K) ix_seq (pv 0) (pv 2) (fun _ _ => rfl)) (pa_cons (pe_ix (r := rIx K) ix_seq (pv 1) (pv 2) (fun _ _ => rfl)) pa_nil))))) pa_nil))))))) pss_nil)
  (pss_cons (ps_if (PW.pt (pw_or (pt_cmpR op_isN (pv 1) pe_non (nomark _)) (pw_or1 (pt_cmpR op_isN (pv 0) pe_non (nomark _))))) (pss_one (ps_ret (pe_and (pe_cmpR op_isN (pv 0) pe_non (nomark _)) (pe_one (pe_cmpR op_isN (pv 1) pe_non (nomark _)))))) pss_nil)
  (pss_cons (ps_if (PW.pt (pw_or (pt_cmpR op_ne (pe_callB call_isD (by rfl) T.z_isinstance (by decide +kernel) (pa_cons (pv 1) (pa_cons (pe_bltn (v := .ty "bool") (u := .type "bool") (by rfl) T.z_bool (by decide +kernel) rfl) pa_nil))) (pe_callB call_isD (by rfl) T.z_isinstance (by decide +kernel) (pa_cons (pv 0) (pa_cons (pe_bltn (v := .ty "bool") (u := .type "bool") (by rfl) T.z_bool (by decide +kernel) rfl) pa_nil))) (nomark _)) (pw_or1 (pt_cmpR op_ne (pe_callB call_isD (by rfl) T.z_isinstance (by decide +kernel) (pa_cons (pv 1) (pa_cons (pe_bltn (v := .ty "int") (u := .type "int") (by rfl) T.z_int (by decide +kernel) rfl) pa_nil))) (pe_callB call_isD (by rfl) T.z_isinstance (by decide +kernel) (pa_cons (pv 0) (pa_cons (pe_bltn (v := .ty "int") (u := .type "int") (by rfl) T.z_int (by decide +kernel) rfl) pa_nil))) (nomark _))))) (pss_one (ps_ret pe_bl)) pss_nil)
  (pss_one (ps_ret (pe_and (pe_cmpR op_eq (pe_callB call_isD (by rfl) T.z_isinstance (by decide +kernel) (pa_cons (pv 1) (pa_cons (pe_bltn (v := .ty "str") (u := .type "str") (by rfl) T.z_str (by decide +kernel) rfl) pa_nil))) (pe_callB call_isD (by rfl) T.z_isinstance (by decide +kernel) (pa_cons (pv 0) (pa_cons (pe_bltn (v := .ty "str") (u := .type "str") (by rfl) T.z_str (by decide +kernel) rfl) pa_nil))) (nomark _)) (pe_one (pe_cmpR op_eq (pv 0) (pv 1) (nomark _))))))))), ?_⟩
  refine ⟨_, rfl, (by show 2 ≤ sizeLine; decide), fun tp ntp => rd_lt2 (dp_same (same_new ntp) hy) upd_same ⟨_, rfl, ?_⟩⟩
  have s1 : Same H (upd H tp (.tup [.ty "list", .ty "tuple"])) := same_new ntp
  generalize upd H tp (.tup [.ty "list", .ty "tuple"]) = H1 at s1
  have hx1 := dp_same s1 hx
  have hy1 := dp_same s1 hy
  have fin : ∀ H', Same H1 H' → Q (.bl true) H' := fun H' z => q H' (s1.trans z)
  clear q
  refine ite2 (fun e => ?_) (fun e => ?_)
  · refine ⟨_, rfl, rd_list hx1 ⟨_, rfl, rd_list hy1 ⟨rfl, _, rfl, ?_⟩⟩⟩
    rw [decide_eq_true rfl]
    refine iteF ⟨_, rfl, rd_tuple hx1 ⟨_, rfl, rd_tuple hy1 ⟨rfl, _, rfl, ?_⟩⟩⟩
    rw [decide_eq_true rfl]
    refine iteF ?_
    obtain ⟨p1, p2, xs, ys, ds, rfl, rfl, h1, h2, a1, a2, hdep⟩ : ∃ p1 p2 xs ys ds, x = .ref p1 ∧ y = .ref p2 ∧ (SqL K H1 p1 xs ∨ SqT K H1 p1 xs) ∧ (SqL K H1 p2 ys ∨ SqT K H1 p2 ys) ∧ DpAll K H1 xs ds ∧ DpAll K H1 ys ds ∧ PyData.depthAll ds < n := by
      cases d with
      | list ds =>
        cases hx1 with
        | lst h1 a1 => cases hy1 with
          | lst h2 a2 => exact ⟨_, _, _, _, ds, rfl, rfl, .inl h1, .inl h2, a1, a2, by simp only [PyData.depth] at hd; omega⟩
      | tuple ds =>
        cases hx1 with
        | tup h1 a1 => cases hy1 with
          | tup h2 a2 => exact ⟨_, _, _, _, ds, rfl, rfl, .inr h1, .inr h2, a1, a2, by simp only [PyData.depth] at hd; omega⟩
      | _ => cases e
    have hl : xs.length = ys.length := (dpall_len a1).trans (dpall_len a2).symm
    refine ⟨_, rfl, rd_len h1 fun z1 => ⟨_, rfl, rd_len h2 fun z2 => ⟨rfl, _, rfl, ?_⟩⟩⟩
    rw [hl, decide_eq_true rfl]
    refine iteT ⟨_, rfl, rd_len h2 fun z2 => ⟨_, rfl, (line62 z2).1, (line62 z2).2, fun D nD => ?_⟩⟩
    refine lc_range (lo := 0) (n := (ys.length : Int).toNat) (fun i H' => Same H1 H' ∧ H' D = some (.lst (List.replicate i (.bl true)))) ⟨same_new nD, upd_same⟩ (fun i H' hi hp => ?_) (fun H' hp => ?_)
    · obtain ⟨sm, eD⟩ := hp
      refine ⟨rfl, ?_⟩
      have hi2 : i < ys.length := by omega
      have hi1 : i < xs.length := by omega
      have gx := List.getElem?_eq_getElem hi1
      have gy := List.getElem?_eq_getElem hi2
      obtain ⟨dx, e1, f1⟩ := dpall_get a1 gx
      obtain ⟨dy, e2, f2⟩ := dpall_get a2 gy
      have : dx = dy := Option.some.inj (e1.symm.trans e2)
      subst this
      have hk : (0 : Int) + (i : Nat) = ((i : Nat) : Int) := by omega
      have ix : ∀ (p : Addr) (zs : List V) (v : V), (SqL K H1 p zs ∨ SqT K H1 p zs) → zs[i]? = some v → ∀ (Q' : VK), Q' v H' → rIx K (.ref p) (.int (0 + (i : Nat))) H' Q' := fun p zs v hz hv Q' hq => by
        rw [hk]
        rcases hz with hz | hz
        · exact .inl ⟨p, zs, _, v, rfl, rfl, sm.seq hz, atI_nat hv, hq⟩
        · exact .inr (.inl ⟨p, zs, _, v, rfl, rfl, same_sqt sm hz, atI_nat hv, hq⟩)
      refine ⟨_, rfl, _, rfl, ix _ _ _ h1 gx _ ⟨_, rfl, _, rfl, ix _ _ _ h2 gy _ ?_⟩⟩
      refine ⟨_, _, dx, rfl, dp_same sm f1, dp_same sm f2, Nat.lt_of_le_of_lt (depth_get e1) hdep, fun H2 s2 => ?_⟩
      have eD2 := s2 _ _ eD
      refine ⟨_, eD2, by rw [List.length_replicate]; omega, same_mut (sm.trans s2) nD, ?_⟩
      rw [upd_same, ← List.replicate_succ']
    · obtain ⟨sm, eD⟩ := hp
      refine ⟨D, List.replicate ((ys.length : Int).toNat) true, rfl, SqL.of (by rw [List.map_replicate]; exact eD), ?_⟩
      have : (List.replicate ((ys.length : Int).toNat) true).all id = true := by rw [List.all_eq_true]; intro b hb; exact (List.mem_replicate.mp hb).2
      rw [this]
      exact fin H' sm
  · have sc : (∃ i, x = .int i ∧ y = .int i) ∨ (∃ i, x = .bl i ∧ y = .bl i) ∨ (∃ i, x = .str i ∧ y = .str i) ∨ (x = .non ∧ y = .non) := by
      cases d with
      | none => cases hx1; cases hy1; exact .inr (.inr (.inr ⟨rfl, rfl⟩))
      | bool b => cases hx1; cases hy1; exact .inr (.inl ⟨_, rfl, rfl⟩)
      | int b => cases hx1; cases hy1; exact .inl ⟨_, rfl, rfl⟩
      | str b => cases hx1; cases hy1; exact .inr (.inr (.inl ⟨_, rfl, rfl⟩))
      | list _ => exact absurd rfl e
      | tuple _ => exact absurd rfl e
      | dict kv => exact absurd rfl (dp_nodict hx1 kv)
    have hxy : x = y := by rcases sc with ⟨i, rfl, rfl⟩ | ⟨i, rfl, rfl⟩ | ⟨i, rfl, rfl⟩ | ⟨rfl, rfl⟩ <;> rfl
    have hscal : scal x y = true := by rcases sc with ⟨i, rfl, rfl⟩ | ⟨i, rfl, rfl⟩ | ⟨i, rfl, rfl⟩ | ⟨rfl, rfl⟩ <;> rfl
    clear sc
    subst hxy
    refine ⟨_, rfl, rfl, _, rfl, ?_⟩
    refine ite2 (fun e2 => ?_) (fun e2 => ?_)
    · obtain rfl : x = V.non := of_decide_eq_true e2
      exact iteT ⟨_, rfl, rfl, _, rfl, iteT ⟨_, rfl, rfl, fin H1 (Same.refl H1)⟩⟩
    · refine ⟨_, rfl, rfl, _, rfl, ?_⟩
      rw [Bool.eq_false_iff.mpr e2]
      refine iteF ⟨_, rfl, rd_bool hy1 ⟨_, rfl, rd_bool hx1 ⟨rfl, _, rfl, ?_⟩⟩⟩
      rw [decide_eq_true rfl]
      refine iteF ⟨_, rfl, rd_int hy1 ⟨_, rfl, rd_int hx1 ⟨rfl, _, rfl, ?_⟩⟩⟩
      rw [decide_eq_true rfl]
      refine iteF ⟨_, rfl, rd_str hy1 ⟨_, rfl, rd_str hx1 ⟨rfl, _, rfl, ?_⟩⟩⟩
      rw [decide_eq_true rfl]
      refine iteT ⟨_, rfl, _, rfl, hscal, ?_⟩
      rw [decide_eq_true rfl]
      exact fin H1 (Same.refl H1)
end
end Vw

set_option Elab.async false
set_option linter.all false
set_option maxRecDepth 100000
set_option maxHeartbeats 4000000
namespace Vw
open PySem PySem.W PyProof.Rows L2
abbrev sis_name : Stmt := top 12
theorem scis_name : FnScope ["text", "sign"] ["text"] (defScope sis_name) := ⟨rfl, rfl, rfl, by decide +kernel, rfl, by decide +kernel, by decide +kernel⟩
abbrev s_law_is_name : Stmt := top 29
theorem sc_law_is_name : FnScope ["_law_text_z", "_law_sign_z"] ["_law_text_z"] (defScope s_law_is_name) := ⟨rfl, rfl, rfl, by decide +kernel, rfl, by decide +kernel, by decide +kernel⟩
section
variable {P : Program} {w : World} {K : PySem.W.Frag} {mg : Str → Option Value} {base : Heap}
theorem ok_is_name  {aTRUE : Addr} {aFALSE : Addr} {a_RESERVED : Addr} {a_HEADS : Addr} {a_PARTS : Addr} {aVowError : Addr} {aInvalidSentence : Addr} {aMissing : Addr} {aNothingLeft : Addr} {fVI : Addr} {fI_InvalidSentence : Addr} (T : Txt K mg  w aTRUE aFALSE a_RESERVED a_HEADS a_PARTS aVowError aInvalidSentence aMissing aNothingLeft fVI fI_InvalidSentence) {f : Addr} {fd : FuncData} {k : Nat} (F : Fun K "is_name" "is_name" sis_name f fd) : FnOk P w K mg base CX0 (k + 1) f fd ["text"] spNm := by
  refine F.ok scis_name (fun vs H Q E h => ?_) (fun cdv A outer s H vs Q E hr h => ?_)
  · obtain ⟨_, rfl, _⟩ := h; rfl
  obtain ⟨z, rfl, hz, q⟩ := h
  refine ⟨_, (pss_cons (ps_if (PW.pt (pw_or (pt_not (pt_val (pe_callB call_isD (by rfl) T.z_isinstance (by decide +kernel) (pa_cons (pv 0) (pa_cons (pe_bltn (v := .ty "str") (u := .type "str") (by rfl) T.z_str (by decide +kernel) rfl) pa_nil))))) (pw_or1 (pt_cmpR op_in_seq (pv 0) (pe_glob (v := .ref a_RESERVED) (by rfl) T.m__RESERVED rfl) rfl)))) (pss_one (ps_ret pe_bl)) pss_nil)
  (pss_cons (ps_if (PW.pt (pw_or (pt_cmpR op_lt (pe_callB call_len_str (by rfl) T.z_len (by decide +kernel) (pa_cons (pv 0) pa_nil)) pe_int (nomark _)) (pw_or1 (pt_cmpR op_gt (pe_callB call_len_str (by rfl) T.z_len (by decide +kernel) (pa_cons (pv 0) pa_nil)) (pe_globI (by rfl) T.m__LONGEST_NAME) (nomark _))))) (pss_one (ps_ret pe_bl)) pss_nil)
  (pss_one (ps_ret (pe_callB (cr_all rfl) (by rfl) T.z_all (by decide +kernel) (pa_cons (pe_lc (own := [("sign", 1)]) (g := gName 1) (tt := tYes) rfl scis_name.nd (pi_str (pv 0)) (blkOk_by (own := [("sign", 1)]) (N := ["text", "sign"]) (sc := defScope sis_name) (by decide +kernel)) (fun _ _ _ _ _ => (pg_name (i := 1) scis_name.nd rfl (Or.inl rfl))) (fun _ _ _ _ _ => pts_nil) (fun _ _ _ _ _ => (pe_chain op_le_str op_le_str pe_str (pv 1) pe_str))) pa_nil)))))), ?_⟩
  have hsl : (30 : Nat) ≤ sizeLine := by decide
  refine ⟨_, rfl, rd_str (d := .str z) (.str z) ⟨_, rfl, iteF ⟨_, rfl, a_RESERVED, _, rfl, .inr (T.t__RESERVED H), rfl, rfl, _, rfl, ?_⟩⟩⟩
  refine ite2 (fun e => ?_) (fun e => ?_)
  · have e' : inV (.str z) resv = true := e
    have : isNm z = false := by unfold isNm; rw [e']; rfl
    rw [this] at q
    exact q H (Same.refl H)
  · have e' : inV (.str z) resv = false := Bool.eq_false_iff.mpr e
    refine ⟨_, rfl, z, rfl, Nat.le_trans hz hsl, _, _, rfl, rfl, _, rfl, ?_⟩
    refine ite2 (fun e => ?_) (fun e => ?_)
    · have h1 : ¬ 1 ≤ z.length := by have := of_decide_eq_true e; omega
      have : isNm z = false := by unfold isNm; rw [e', decide_eq_false h1]; rfl
      rw [this] at q
      exact q H (Same.refl H)
    · have h1 : 1 ≤ z.length := by have := of_decide_eq_false (Bool.eq_false_iff.mpr e); omega
      refine ⟨_, rfl, z, rfl, Nat.le_trans hz hsl, _, _, rfl, rfl, _, rfl, ?_⟩
      refine ite2 (fun e => ?_) (fun e => ?_)
      · have h2 : ¬ z.length ≤ 6 := by have := of_decide_eq_true e; omega
        have : isNm z = false := by unfold isNm; rw [e', decide_eq_true h1, decide_eq_false h2]; rfl
        rw [this] at q
        exact q H (Same.refl H)
      · have h2 : z.length ≤ 6 := by have := of_decide_eq_false (Bool.eq_false_iff.mpr e); omega
        have : isNm z = z.cps.toList.all isLow := by unfold isNm; rw [e', decide_eq_true h1, decide_eq_true h2]; rfl
        rw [this] at q
        refine ⟨_, rfl, z, rfl, fun D nD => ?_⟩
        refine lc_it walk_str (fun i H' => Same H H' ∧ H' D = some (.lst ((z.cps.toList.take i).map fun c => .bl (isLow c)))) ⟨same_new nD, upd_same⟩ (fun i H' _ _ => trivial) (fun i x H1 H2 hi hp hy => ?_) (fun H' hp => ?_)
        · obtain ⟨sm, eD⟩ := hp
          obtain ⟨rfl, c, hc, rfl⟩ := hy
          have hc' := cps_get hc
          have fin : ∀ b : Bool, b = isLow c → ∃ acc, H2 D = some (.lst acc) ∧ acc.length < sizeLine ∧ Same H (upd H2 D (.lst (acc ++ [.bl b]))) ∧ (upd H2 D (.lst (acc ++ [.bl b]))) D = some (.lst ((z.cps.toList.take (i + 1)).map fun c => .bl (isLow c))) := fun b hb => by
            refine ⟨_, eD, ?_, same_mut sm nD, ?_⟩
            · rw [List.length_map, List.length_take]
              have : z.cps.toList.length = z.length := (TL.len_tl z).symm
              exact Nat.lt_of_le_of_lt (Nat.min_le_right _ _) (by rw [this]; exact Nat.lt_of_le_of_lt hz (by decide))
            · rw [upd_same, take_succ_get hc', List.map_append, hb]; rfl
          refine ⟨rfl, _, rfl, _, _, rfl, rfl, _, rfl, ?_⟩
          have ea : ("a" : Str).cps.toList = [97] := by decide +kernel
          have ez : ("z" : Str).cps.toList = [122] := by decide +kernel
          have lo : decide ([c] < ("a" : Str).cps.toList) = decide (c < 97) := by rw [ea]; exact lt_one c 97
          have hi' : decide (("z" : Str).cps.toList < [c]) = decide (122 < c) := by rw [ez]; exact lt_one 122 c
          refine ite2 (fun e => ?_) (fun e => ?_)
          · have h97 : ¬ c < 97 := by
              have e2 : (!decide ([c] < ("a" : Str).cps.toList)) = true := e
              rw [lo, Bool.not_eq_true', decide_eq_false_iff_not] at e2
              exact e2
            refine ⟨_, _, rfl, rfl, ?_⟩
            refine fin _ ?_
            show (!decide (("z" : Str).cps.toList < [c])) = isLow c
            rw [hi']
            unfold isLow
            rw [decide_eq_true (show 97 ≤ c by omega), Bool.true_and]
            by_cases h : 122 < c
            · rw [decide_eq_true h, decide_eq_false (by omega)]; rfl
            · rw [decide_eq_false h, decide_eq_true (by omega)]; rfl
          · have h97 : c < 97 := by
              have e2 : ¬ (!decide ([c] < ("a" : Str).cps.toList)) = true := e
              rw [lo, Bool.not_eq_true, Bool.not_eq_false', decide_eq_true_iff] at e2
              exact e2
            refine fin _ ?_
            unfold isLow
            rw [decide_eq_false (show ¬ 97 ≤ c by omega)]; rfl
        · obtain ⟨sm, eD⟩ := hp
          have hall : z.cps.toList.take z.cps.size = z.cps.toList := List.take_of_length_le (Nat.le_of_eq (Array.length_toList))
          rw [hall] at eD
          refine ⟨D, z.cps.toList.map isLow, rfl, SqL.of (by rw [List.map_map]; exact eD), ?_⟩
          have : (z.cps.toList.map isLow).all id = z.cps.toList.all isLow := by rw [List.all_map]; rfl
          rw [this]
          exact q H' sm
theorem ok_lis_name  {aTRUE : Addr} {aFALSE : Addr} {a_RESERVED : Addr} {a_HEADS : Addr} {a_PARTS : Addr} {aVowError : Addr} {aInvalidSentence : Addr} {aMissing : Addr} {aNothingLeft : Addr} {fVI : Addr} {fI_InvalidSentence : Addr} (T : Txt K mg  w aTRUE aFALSE a_RESERVED a_HEADS a_PARTS aVowError aInvalidSentence aMissing aNothingLeft fVI fI_InvalidSentence) {f : Addr} {fd : FuncData} {k : Nat} (F : Fun K "_law_is_name" "_law_is_name" s_law_is_name f fd) : FnOk P w K mg base CX0 (k + 1) f fd ["_law_text_z"] spNm := by
  refine F.ok sc_law_is_name (fun vs H Q E h => ?_) (fun cdv A outer s H vs Q E hr h => ?_)
  · obtain ⟨_, rfl, _⟩ := h; rfl
  obtain ⟨z, rfl, hz, q⟩ := h
  refine ⟨_, (pss_cons (ps_if (pt_cmpR op_in_seq (pv 0) (pe_tup (pa_cons pe_str (pa_cons pe_str (pa_cons pe_str (pa_cons pe_str (pa_cons pe_str (pa_cons pe_str (pa_cons pe_str pa_nil)))))))) rfl) (pss_one (ps_ret pe_bl)) pss_nil)
  (pss_one (ps_ret (pe_and (pe_chain op_le op_le pe_int (pe_callB call_len_str (by rfl) T.z_len (by decide +kernel) (pa_cons (pv 0) pa_nil)) pe_int) (pe_one (pe_callB (cr_all rfl) (by rfl) T.z_all (by decide +kernel) (pa_cons (pe_lc (own := [("_law_sign_z", 1)]) (g := gName 1) (tt := tYes) rfl sc_law_is_name.nd (pi_str (pv 0)) (blkOk_by (own := [("_law_sign_z", 1)]) (N := ["_law_text_z", "_law_sign_z"]) (sc := defScope s_law_is_name) (by decide +kernel)) (fun _ _ _ _ _ => (pg_name (i := 1) sc_law_is_name.nd rfl (Or.inl rfl))) (fun _ _ _ _ _ => pts_nil) (fun _ _ _ _ _ => (pe_cmpR op_in_sign (pv 1) pe_str rfl))) pa_nil))))))), ?_⟩
  have hsl : (30 : Nat) ≤ sizeLine := by decide
  refine ⟨_, rfl, (by show 7 ≤ sizeLine; decide), fun p np => ⟨p, resv, rfl, .inr (TT.of upd_same).sq, rfl, rfl, _, rfl, ?_⟩⟩
  have s1 := same_new (o := .tup resv) np
  have q : ∀ H', Same (upd H p (.tup resv)) H' → Q (.bl (isNm z)) H' := fun H' s => q H' (s1.trans s)
  refine ite2 (fun e => ?_) (fun e => ?_)
  · have e' : inV (.str z) resv = true := e
    have : isNm z = false := by unfold isNm; rw [e']; rfl
    rw [this] at q
    exact q _ (Same.refl _)
  · have e' : inV (.str z) resv = false := Bool.eq_false_iff.mpr e
    replace q : ∀ H', Same (upd H p (.tup resv)) H' → Q (.bl (decide (1 ≤ z.length) && (decide (z.length ≤ 6) && z.cps.toList.all isLow))) H' := fun H' s => by
      have : isNm z = (decide (1 ≤ z.length) && (decide (z.length ≤ 6) && z.cps.toList.all isLow)) := by unfold isNm; rw [e']; rfl
      rw [← this]; exact q H' s
    refine ⟨_, rfl, z, rfl, Nat.le_trans hz hsl, _, _, rfl, rfl, _, rfl, ?_⟩
    refine ite2 (fun e => ?_) (fun e => ?_)
    · have h1 : 1 ≤ z.length := by have := of_decide_eq_true e; omega
      rw [decide_eq_true h1, Bool.true_and] at q
      refine ⟨_, _, rfl, rfl, _, rfl, ?_⟩
      refine ite2 (fun e => ?_) (fun e => ?_)
      · have h2 : z.length ≤ 6 := by have := of_decide_eq_true e; omega
        rw [decide_eq_true h2, Bool.true_and] at q
        refine ⟨_, rfl, z, rfl, fun D nD => ?_⟩
        refine lc_it walk_str (fun i H' => Same (upd H p (.tup resv)) H' ∧ H' D = some (.lst ((z.cps.toList.take i).map fun c => .bl (isLow c)))) ⟨same_new nD, upd_same⟩ (fun i H' _ _ => trivial) (fun i x H1 H2 hi hp hy => ?_) (fun H' hp => ?_)
        · obtain ⟨sm, eD⟩ := hp
          obtain ⟨rfl, c, hc, rfl⟩ := hy
          have hc' := cps_get hc
          have fin : ∀ b : Bool, b = isLow c → ∃ acc, H2 D = some (.lst acc) ∧ acc.length < sizeLine ∧ Same (upd H p (.tup resv)) (upd H2 D (.lst (acc ++ [.bl b]))) ∧ (upd H2 D (.lst (acc ++ [.bl b]))) D = some (.lst ((z.cps.toList.take (i + 1)).map fun c => .bl (isLow c))) := fun b hb => by
            refine ⟨_, eD, ?_, same_mut sm nD, ?_⟩
            · rw [List.length_map, List.length_take]
              have : z.cps.toList.length = z.length := (TL.len_tl z).symm
              exact Nat.lt_of_le_of_lt (Nat.min_le_right _ _) (by rw [this]; exact Nat.lt_of_le_of_lt hz (by decide))
            · rw [upd_same, take_succ_get hc', List.map_append, hb]; rfl
          refine ⟨rfl, _, rfl, c, _, rfl, rfl, ?_⟩
          exact fin _ (mem_letters c)
        · obtain ⟨sm, eD⟩ := hp
          have hall : z.cps.toList.take z.cps.size = z.cps.toList := List.take_of_length_le (Nat.le_of_eq (Array.length_toList))
          rw [hall] at eD
          refine ⟨D, z.cps.toList.map isLow, rfl, SqL.of (by rw [List.map_map]; exact eD), ?_⟩
          have : (z.cps.toList.map isLow).all id = z.cps.toList.all isLow := by rw [List.all_map]; rfl
          rw [this]
          exact q H' sm
      · have h2 : ¬ z.length ≤ 6 := by have := of_decide_eq_false (Bool.eq_false_iff.mpr e); omega
        rw [decide_eq_false h2] at q
        exact q _ (Same.refl _)
    · have h1 : ¬ 1 ≤ z.length := by have := of_decide_eq_false (Bool.eq_false_iff.mpr e); omega
      rw [decide_eq_false h1] at q
      exact ⟨_, rfl, q _ (Same.refl _)⟩
end
end Vw

set_option Elab.async false
set_option linter.all false
set_option maxRecDepth 100000
set_option maxHeartbeats 4000000
namespace Vw
open PySem PySem.W PyProof.Rows L2
abbrev sparts_of : Stmt := top 17
theorem scparts_of : FnScope ["node"] ["node"] (defScope sparts_of) := ⟨rfl, rfl, rfl, by decide +kernel, rfl, by decide +kernel, by decide +kernel⟩
abbrev s_is_level : Stmt := top 15
theorem sc_is_level : FnScope ["levels", "value"] ["levels", "value"] (defScope s_is_level) := ⟨rfl, rfl, rfl, by decide +kernel, rfl, by decide +kernel, by decide +kernel⟩
abbrev s_is_node : Stmt := top 14
theorem sc_is_node : FnScope ["levels", "value", "word"] ["levels", "value"] (defScope s_is_node) := ⟨rfl, rfl, rfl, by decide +kernel, rfl, by decide +kernel, by decide +kernel⟩
abbrev sis_sentence : Stmt := top 13
theorem scis_sentence : FnScope ["levels", "value", "stack", "node"] ["levels", "value"] (defScope sis_sentence) := ⟨rfl, rfl, rfl, by decide +kernel, rfl, by decide +kernel, by decide +kernel⟩
section
variable {P : Program} {w : World} {K : PySem.W.Frag} {mg : Str → Option Value} {base : Heap}
theorem ok_parts_of  {aTRUE : Addr} {aFALSE : Addr} {a_RESERVED : Addr} {a_HEADS : Addr} {a_PARTS : Addr} {aVowError : Addr} {aInvalidSentence : Addr} {aMissing : Addr} {aNothingLeft : Addr} {fVI : Addr} {fI_InvalidSentence : Addr} (T : Txt K mg  w aTRUE aFALSE a_RESERVED a_HEADS a_PARTS aVowError aInvalidSentence aMissing aNothingLeft fVI fI_InvalidSentence) {f : Addr} {fd : FuncData} {k : Nat} (F : Fun K "parts_of" "parts_of" sparts_of f fd) : FnOk P w K mg base CX0 (k + 1) f fd ["node"] (spParts K) := by
  refine F.ok scparts_of (fun vs H Q E h => ?_) (fun cdv A outer s H vs Q E hr h => ?_)
  · obtain ⟨_, _, _, _, rfl, _⟩ := h; rfl
  obtain ⟨p, x, xs, h, rfl, hp, hx, hh, q⟩ := h
  refine ⟨_, (pss_one (ps_ret (pe_slice sl_tupO (pv 0) (po_some (pe_ix (ix_tab T.t__HEADS) (pe_glob (v := .ref a_HEADS) (by rfl) T.m__HEADS rfl) (pe_ix ix_tup (pv 0) pe_int (fun _ _ => rfl)) (fun _ _ => rfl))) po_none))), ?_⟩
  obtain ⟨n, rfl⟩ : ∃ n : Nat, h = (n : Int) := ⟨h.toNat, by have := head_pos hh; omega⟩
  exact ⟨_, rfl, _, rfl, p, xs, _, _, rfl, rfl, hp, atI_nat (j := 0) hx, x, _, rfl, rfl, hh, _, rfl, rd_fromS n hp fun p2 H2 s2 t2 => q p2 H2 s2 t2⟩
theorem ok_is_level  {aTRUE : Addr} {aFALSE : Addr} {a_RESERVED : Addr} {a_HEADS : Addr} {a_PARTS : Addr} {aVowError : Addr} {aInvalidSentence : Addr} {aMissing : Addr} {aNothingLeft : Addr} {fVI : Addr} {fI_InvalidSentence : Addr} (T : Txt K mg  w aTRUE aFALSE a_RESERVED a_HEADS a_PARTS aVowError aInvalidSentence aMissing aNothingLeft fVI fI_InvalidSentence) {f : Addr} {fd : FuncData} {k : Nat} (F : Fun K "_is_level" "_is_level" s_is_level f fd) : FnOk P w K mg base CX0 (k + 1) f fd ["levels", "value"] (spLev K) := by
  refine F.ok sc_is_level (fun vs H Q E h => ?_) (fun cdv A outer s H vs Q E hr h => ?_)
  · obtain ⟨_, _, _, rfl, _⟩ := h; rfl
  obtain ⟨m, x, d, rfl, hx, q⟩ := h
  refine ⟨_, (pss_one (ps_ret (pe_and (pe_callB call_isD (by rfl) T.z_isinstance (by decide +kernel) (pa_cons (pv 1) (pa_cons (pe_bltn (v := .ty "int") (u := .type "int") (by rfl) T.z_int (by decide +kernel) rfl) pa_nil))) (pe_and (pe_not (pe_callB call_isD (by rfl) T.z_isinstance (by decide +kernel) (pa_cons (pv 1) (pa_cons (pe_bltn (v := .ty "bool") (u := .type "bool") (by rfl) T.z_bool (by decide +kernel) rfl) pa_nil)))) (pe_one (pe_chain op_le op_lt pe_int (pv 1) (pv 0))))))), ?_⟩
  have q := q H (Same.refl H)
  refine ⟨_, rfl, rd_int hx ⟨_, rfl, ?_⟩⟩
  cases d with
  | none => exact iteF q
  | str _ => exact iteF q
  | list _ => exact iteF q
  | tuple _ => exact iteF q
  | dict kv => exact absurd rfl (dp_nodict hx kv)
  | bool _ => exact iteT ⟨_, rfl, rd_bool hx ⟨_, rfl, _, rfl, iteF q⟩⟩
  | int i =>
    obtain rfl : x = .int i := by cases hx; rfl
    refine iteT ⟨_, rfl, rd_bool hx ⟨_, rfl, _, rfl, iteT ⟨_, rfl, _, _, rfl, rfl, _, rfl, ?_⟩⟩⟩
    refine ite2 (fun e => ?_) (fun e => ?_)
    · have e : decide (0 ≤ i) = true := e
      refine ⟨_, rfl, _, _, rfl, rfl, ?_⟩
      have : levD m (.int i) = decide (i < m) := by show (decide (0 ≤ i) && decide (i < m)) = _; rw [e, Bool.true_and]
      rw [this] at q
      exact q
    · have e : decide (0 ≤ i) = false := Bool.eq_false_iff.mpr e
      have : levD m (.int i) = false := by show (decide (0 ≤ i) && decide (i < m)) = _; rw [e, Bool.false_and]
      rw [this] at q
      exact q
/-- names, and what is no text -/
theorem ok_is_nameD  {aTRUE : Addr} {aFALSE : Addr} {a_RESERVED : Addr} {a_HEADS : Addr} {a_PARTS : Addr} {aVowError : Addr} {aInvalidSentence : Addr} {aMissing : Addr} {aNothingLeft : Addr} {fVI : Addr} {fI_InvalidSentence : Addr} (T : Txt K mg  w aTRUE aFALSE a_RESERVED a_HEADS a_PARTS aVowError aInvalidSentence aMissing aNothingLeft fVI fI_InvalidSentence) {f : Addr} {fd : FuncData} {k : Nat} (F : Fun K "is_name" "is_name" sis_name f fd) : FnOk P w K mg base CX0 (k + 1) f fd ["text"] (spNmD K) := by
  have G : FnOk P w K mg base CX0 (k + 1) f fd ["text"] (fun vs H Q E => ∃ (x : V) (d : PyData), vs = [x] ∧ Dp K H x d ∧ (∀ z, d ≠ .str z) ∧ Q (.bl false) H) := by
    refine F.ok scis_name (fun vs H Q E h => ?_) (fun cdv A outer s H vs Q E hr h => ?_)
    · obtain ⟨_, _, rfl, _⟩ := h; rfl
    obtain ⟨x, d, rfl, hx, hd, q⟩ := h
    refine ⟨_, (pss_cons (ps_if (PW.pt (pw_or (pt_not (pt_val (pe_callB call_isD (by rfl) T.z_isinstance (by decide +kernel) (pa_cons (pv 0) (pa_cons (pe_bltn (v := .ty "str") (u := .type "str") (by rfl) T.z_str (by decide +kernel) rfl) pa_nil))))) (pw_or1 (pt_cmpR op_in_seq (pv 0) (pe_glob (v := .ref a_RESERVED) (by rfl) T.m__RESERVED rfl) rfl)))) (pss_one (ps_ret pe_bl)) pss_nil)
  (pss_cons (ps_if (PW.pt (pw_or (pt_cmpR op_lt (pe_callB call_len_str (by rfl) T.z_len (by decide +kernel) (pa_cons (pv 0) pa_nil)) pe_int (nomark _)) (pw_or1 (pt_cmpR op_gt (pe_callB call_len_str (by rfl) T.z_len (by decide +kernel) (pa_cons (pv 0) pa_nil)) (pe_globI (by rfl) T.m__LONGEST_NAME) (nomark _))))) (pss_one (ps_ret pe_bl)) pss_nil)
  (pss_one (ps_ret (pe_callB (cr_all rfl) (by rfl) T.z_all (by decide +kernel) (pa_cons (pe_lc (own := [("sign", 1)]) (g := gName 1) (tt := tYes) rfl scis_name.nd (pi_str (pv 0)) (blkOk_by (own := [("sign", 1)]) (N := ["text", "sign"]) (sc := defScope sis_name) (by decide +kernel)) (fun _ _ _ _ _ => (pg_name (i := 1) scis_name.nd rfl (Or.inl rfl))) (fun _ _ _ _ _ => pts_nil) (fun _ _ _ _ _ => (pe_chain op_le_str op_le_str pe_str (pv 1) pe_str))) pa_nil)))))), ?_⟩
    refine ⟨_, rfl, rd_str hx ⟨_, rfl, ?_⟩⟩
    cases d with
    | str z => exact absurd rfl (hd z)
    | none => exact iteT q
    | bool _ => exact iteT q
    | int _ => exact iteT q
    | list _ => exact iteT q
    | tuple _ => exact iteT q
    | dict kv => exact absurd rfl (dp_nodict hx kv)
  have G1 : FnOk P w K mg base CX0 (k + 1) f fd ["text"] spNm := ok_is_name T F
  refine ⟨fun vs H Q E h => ?_, fun A outer s H args us vs Q E a b c e h => ?_⟩
  · obtain ⟨_, _, rfl, _⟩ := h; rfl
  · obtain ⟨x, d, rfl, hx, hs, q⟩ := h
    cases d with
    | str z =>
      obtain rfl : x = .str z := by cases hx; rfl
      exact G1.run A outer s H args us _ Q E a b c e ⟨z, rfl, hs, q⟩
    | none => exact G.run A outer s H args us _ Q E a b c e ⟨x, _, rfl, hx, (fun z h => by cases h), q H (Same.refl H)⟩
    | bool _ => exact G.run A outer s H args us _ Q E a b c e ⟨x, _, rfl, hx, (fun z h => by cases h), q H (Same.refl H)⟩
    | int _ => exact G.run A outer s H args us _ Q E a b c e ⟨x, _, rfl, hx, (fun z h => by cases h), q H (Same.refl H)⟩
    | list _ => exact G.run A outer s H args us _ Q E a b c e ⟨x, _, rfl, hx, (fun z h => by cases h), q H (Same.refl H)⟩
    | tuple _ => exact G.run A outer s H args us _ Q E a b c e ⟨x, _, rfl, hx, (fun z h => by cases h), q H (Same.refl H)⟩
    | dict kv => exact absurd rfl (dp_nodict hx kv)
theorem head_part {x : Str} {h : Int} (e : headT.lookup x = some h) : ∃ p, partT.lookup x = some p := by
  have : ∀ p ∈ headT, (partT.lookup p.1).isSome = true := by decide +kernel
  obtain ⟨l1, l2, e1, _⟩ := List.lookup_eq_some_iff.mp e
  exact Option.isSome_iff_exists.mp (this (x, h) (by rw [e1]; simp))
theorem nodeB_tup {m : Int} {x : Str} {r : List PyData} : nodeB m (.tuple (.str x :: r)) = (match headT.lookup x, partT.lookup x with
    | some h, some p => decide ((r.length : Int) + 1 = h + p) && restB m x r
    | _, _ => false) := rfl
theorem ok_is_node  {aTRUE : Addr} {aFALSE : Addr} {a_RESERVED : Addr} {a_HEADS : Addr} {a_PARTS : Addr} {aVowError : Addr} {aInvalidSentence : Addr} {aMissing : Addr} {aNothingLeft : Addr} {fVI : Addr} {fI_InvalidSentence : Addr} (T : Txt K mg  w aTRUE aFALSE a_RESERVED a_HEADS a_PARTS aVowError aInvalidSentence aMissing aNothingLeft fVI fI_InvalidSentence) {f f1 f2 : Addr} {fd fd1 fd2 : FuncData} (F : Fun K "_is_node" "_is_node" s_is_node f fd) (C_is_name : Cal P w K mg base 1 "is_name" ["text"] (spNmD K) f1 fd1)
    (C__is_level : Cal P w K mg base 1 "_is_level" ["levels", "value"] (spLev K) f2 fd2) : FnOk P w K mg base CX0 2 f fd ["levels", "value"] (spNode K) := by
  refine F.ok sc_is_node (fun vs H Q E h => ?_) (fun cdv A outer s H vs Q E hr h => ?_)
  · obtain ⟨_, _, _, rfl, _⟩ := h; rfl
  obtain ⟨m, x, d, rfl, hx, hs, q⟩ := h
  refine ⟨_, (pss_cons (ps_if (PW.pt (pw_or (pt_not (pt_val (pe_callB call_isD (by rfl) T.z_isinstance (by decide +kernel) (pa_cons (pv 1) (pa_cons (pe_bltn (v := .ty "tuple") (u := .type "tuple") (by rfl) T.z_tuple (by decide +kernel) rfl) pa_nil))))) (pw_or1 (pt_cmpR op_eq (pe_callB call_lenB (by rfl) T.z_len (by decide +kernel) (pa_cons (pv 1) pa_nil)) pe_int (nomark _))))) (pss_one (ps_ret pe_bl)) pss_nil)
  (pss_cons (ps_set (i := 2) sc_is_node.nd rfl (Or.inl rfl) (pe_ix ix_tup (pv 1) pe_int (fun _ _ => rfl)))
  (pss_cons (ps_if (PW.pt (pw_or (pt_not (pt_val (pe_callB call_isD (by rfl) T.z_isinstance (by decide +kernel) (pa_cons (pv 2) (pa_cons (pe_bltn (v := .ty "str") (u := .type "str") (by rfl) T.z_str (by decide +kernel) rfl) pa_nil))))) (pw_or1 (pt_cmpR (op_notInT T.t__HEADS) (pv 2) (pe_glob (v := .ref a_HEADS) (by rfl) T.m__HEADS rfl) rfl)))) (pss_one (ps_ret pe_bl)) pss_nil)
  (pss_cons (ps_if (pt_cmpR op_ne (pe_callB call_lenB (by rfl) T.z_len (by decide +kernel) (pa_cons (pv 1) pa_nil)) (pe_op op_add (pe_ix (ix_tab T.t__HEADS) (pe_glob (v := .ref a_HEADS) (by rfl) T.m__HEADS rfl) (pv 2) (fun _ _ => rfl)) (pe_ix (ix_tab T.t__PARTS) (pe_glob (v := .ref a_PARTS) (by rfl) T.m__PARTS rfl) (pv 2) (fun _ _ => rfl))) (nomark _)) (pss_one (ps_ret pe_bl)) pss_nil)
  (pss_cons (ps_if (pt_cmpR op_eq (pv 2) pe_str (nomark _)) (pss_one (ps_ret (pe_call C_is_name.G (hr.mono (by omega)) (by rfl) C_is_name.m C_is_name.kp C_is_name.b .nil pass0 (pa_cons (pe_ix ix_tup (pv 1) pe_int (fun _ _ => rfl)) pa_nil)))) pss_nil)
  (pss_one (ps_ret (pe_or (pe_cmpR op_ne (pv 2) pe_str (nomark _)) (pe_one (pe_call C__is_level.G (hr.mono (by omega)) (by rfl) C__is_level.m C__is_level.kp C__is_level.b .nil pass0 (pa_cons (pv 0) (pa_cons (pe_ix ix_tup (pv 1) pe_int (fun _ _ => rfl)) pa_nil)))))))))))), ?_⟩
  refine ⟨_, rfl, rd_tuple hx ⟨_, rfl, ?_⟩⟩
  have no : nodeB m d = false → Q (.bl false) H := fun h => by rw [← h]; exact q H (Same.refl H)
  cases d with
  | none => exact iteT (no rfl)
  | bool _ => exact iteT (no rfl)
  | int _ => exact iteT (no rfl)
  | str _ => exact iteT (no rfl)
  | list _ => exact iteT (no rfl)
  | dict kv => exact absurd rfl (dp_nodict hx kv)
  | tuple ds =>
    obtain ⟨p, xs, rfl, h1, h2⟩ := dp_tup hx
    have hl := dpall_len h2
    refine iteF ⟨_, rfl, rd_len (.inr h1) fun hz => ⟨rfl, _, rfl, ?_⟩⟩
    refine ite2 (fun e => ?_) (fun e => ?_)
    · have h0 : xs.length = 0 := by
        have e2 : V.int (xs.length : Nat) = V.int 0 := of_decide_eq_true e
        injection e2 with e3; omega
      obtain rfl : ds = [] := List.length_eq_zero_iff.mp (hl.symm.trans h0)
      exact no rfl
    · cases ds with
      | nil =>
        have h0 : xs.length = 0 := hl
        rw [h0] at e
        exact absurd rfl e
      | cons d0 r =>
      cases xs with
      | nil => cases hl
      | cons v0 vr =>
      cases h2 with
      | cons g0 gr =>
      refine ⟨_, rfl, p, _, _, v0, rfl, rfl, h1, atI_nat (j := 0) rfl, ?_⟩
      refine ⟨_, rfl, rd_str g0 ⟨_, rfl, ?_⟩⟩
      have hs : sOk d0 ∧ sOkA r := hs
      cases d0 with
      | none => exact iteT (no rfl)
      | bool _ => exact iteT (no rfl)
      | int _ => exact iteT (no rfl)
      | list _ => exact iteT (no rfl)
      | tuple _ => exact iteT (no rfl)
      | dict kv => exact absurd rfl (dp_nodict g0 kv)
      | str z =>
        obtain rfl : v0 = .str z := by cases g0; rfl
        refine iteF ⟨_, rfl, z, rfl, rfl, _, rfl, ?_⟩
        refine ite2 (fun e => ?_) (fun e => ?_)
        · have hn : headT.lookup z = none := by
            have e2 : (!(headT.lookup z).isSome) = true := e
            cases h : headT.lookup z with
            | none => rfl
            | some _ => rw [h] at e2; cases e2
          exact no (by rw [nodeB_tup, hn])
        obtain ⟨hd, hh⟩ : ∃ hd, headT.lookup z = some hd := by
          cases h : headT.lookup z with
          | some v => exact ⟨v, rfl⟩
          | none => exact absurd (show (!(headT.lookup z).isSome) = true by rw [h]; rfl) e
        clear e
        obtain ⟨pt, hp⟩ := head_part hh
        refine ⟨_, rfl, rd_len (.inr h1) fun _ => ⟨_, rfl, z, hd, rfl, rfl, hh, _, rfl, z, pt, rfl, rfl, hp, _, _, rfl, rfl, rfl, _, rfl, ?_⟩⟩
        have nb : nodeB m (.tuple (.str z :: r)) = (decide ((r.length : Int) + 1 = hd + pt) && restB m z r) := by rw [nodeB_tup, hh, hp]
        have lr : (V.str z :: vr).length = r.length + 1 := by rw [List.length_cons, dpall_len gr]
        refine ite2 (fun e => ?_) (fun e => ?_)
        · refine no ?_
          have e1 : ¬ V.int (((V.str z :: vr).length : Nat) : Int) = V.int (hd + pt) := by simpa using e
          rw [nb, decide_eq_false (fun z2 => e1 (by rw [lr, ← z2]; rfl)), Bool.false_and]
        · have e1 : V.int (((V.str z :: vr).length : Nat) : Int) = V.int (hd + pt) := by simpa using e
          have e2 : (r.length : Int) + 1 = hd + pt := by
            have := V.int.inj e1
            rw [lr] at this
            omega
          rw [decide_eq_true e2, Bool.true_and] at nb
          rw [nb] at q
          clear no
          refine ⟨_, rfl, rfl, _, rfl, ite2 (fun e3 => ?_) (fun e3 => ?_)⟩
          · have e4 : V.str z = V.str "name" := of_decide_eq_true e3
            obtain rfl : z = "name" := V.str.inj e4
            obtain rfl : hd = 2 := Option.some.inj (hh.symm.trans (by decide +kernel))
            obtain rfl : pt = 0 := Option.some.inj (hp.symm.trans (by decide +kernel))
            obtain ⟨d1, rfl⟩ : ∃ d1, r = [d1] := List.length_eq_one_iff.mp (by omega)
            cases gr with
            | @cons v1 _ vr' _ g1 gr2 =>
            cases gr2
            exact ⟨_, rfl, p, _, _, v1, rfl, rfl, h1, atI_nat (j := 1) rfl, v1, d1, rfl, g1, hs.2.1, fun H1 s1 => q H1 s1⟩
          · have e4 : ¬ z = "name" := fun z2 => e3 (decide_eq_true (by rw [z2]))
            have rb : restB m z r = if z = "shown" then levD m (r.headD .none) else true := by unfold restB; rw [if_neg e4]
            rw [rb] at q
            refine ⟨_, rfl, rfl, _, rfl, ?_⟩
            by_cases e5 : z = "shown"
            · subst e5
              obtain rfl : hd = 2 := Option.some.inj (hh.symm.trans (by decide +kernel))
              obtain rfl : pt = 1 := Option.some.inj (hp.symm.trans (by decide +kernel))
              obtain ⟨d1, d2, rfl⟩ : ∃ d1 d2, r = [d1, d2] := by
                have h2 : r.length = 2 := by omega
                cases r with
                | nil => cases h2
                | cons a r =>
                  obtain ⟨b, rfl⟩ := List.length_eq_one_iff.mp (Nat.succ.inj h2)
                  exact ⟨a, b, rfl⟩
              cases gr with
              | @cons v1 _ vr' _ g1 gr2 =>
              cases gr2 with
              | @cons v2 _ vr3 _ g2 gr3 =>
              cases gr3
              exact iteF ⟨_, rfl, _, rfl, p, _, _, v1, rfl, rfl, h1, atI_nat (j := 1) rfl, m, v1, d1, rfl, g1, fun H1 s1 => q H1 s1⟩
            · rw [if_neg e5] at q
              refine ite2 (fun e6 => ?_) (fun e6 => ?_)
              · exact q H (Same.refl H)
              · exact absurd (show (!decide (V.str z = V.str "shown")) = true by rw [decide_eq_false (fun z2 => e5 (V.str.inj z2))]; rfl) e6
theorem psz_pos : ∀ d : PyData, 1 ≤ psz d := fun d => by cases d <;> simp [psz]
theorem len_psz : ∀ l : List PyData, l.length ≤ pszA l
  | [] => Nat.le_refl _
  | d :: r => by
    have := len_psz r
    have := psz_pos d
    show r.length + 1 ≤ psz d + pszA r
    omega
theorem sOkA_drop : ∀ (k : Nat) {l : List PyData}, sOkA l → sOkA (l.drop k)
  | 0, _, h => h
  | k + 1, [], h => h
  | k + 1, _ :: _, h => sOkA_drop k h.2
theorem dpall_drop {H : Hp} : ∀ (k : Nat) {xs : List V} {ds : List PyData}, DpAll K H xs ds → DpAll K H (xs.drop k) (ds.drop k)
  | 0, _, _, h => h
  | k + 1, _, _, .nil => .nil
  | k + 1, _, _, .cons _ h => dpall_drop k h
theorem dpall_append {H : Hp} : ∀ {xs ys : List V} {ds es : List PyData}, DpAll K H xs ds → DpAll K H ys es → DpAll K H (xs ++ ys) (ds ++ es)
  | _, _, _, _, .nil, h => h
  | _, _, _, _, .cons a b, h => .cons a (dpall_append b h)
theorem dpall_last {H : Hp} : ∀ {xs : List V} {ds : List PyData}, DpAll K H xs ds → xs ≠ [] → ∃ xs' x ds' d, xs = xs' ++ [x] ∧ ds = ds' ++ [d] ∧ DpAll K H xs' ds' ∧ Dp K H x d
  | [], _, _, h => absurd rfl h
  | [x], ds, h, _ => by
    cases h with
    | cons g t =>
      cases t
      exact ⟨[], x, [], _, rfl, rfl, .nil, g⟩
  | x :: y :: r, ds, h, _ => by
    cases h with
    | cons g t =>
      obtain ⟨xs', z, ds', e, h1, h2, h3, h4⟩ := dpall_last t (by simp)
      exact ⟨x :: xs', z, _ :: ds', e, by rw [h1]; rfl, by rw [h2]; rfl, .cons g h3, h4⟩
theorem ok_is_sentence  {aTRUE : Addr} {aFALSE : Addr} {a_RESERVED : Addr} {a_HEADS : Addr} {a_PARTS : Addr} {aVowError : Addr} {aInvalidSentence : Addr} {aMissing : Addr} {aNothingLeft : Addr} {fVI : Addr} {fI_InvalidSentence : Addr} (T : Txt K mg  w aTRUE aFALSE a_RESERVED a_HEADS a_PARTS aVowError aInvalidSentence aMissing aNothingLeft fVI fI_InvalidSentence) {f f1 f2 : Addr} {fd fd1 fd2 : FuncData} (F : Fun K "is_sentence" "is_sentence" sis_sentence f fd) (C__is_node : Cal P w K mg base 2 "_is_node" ["levels", "value"] (spNode K) f1 fd1)
    (C_parts_of : Cal P w K mg base 1 "parts_of" ["node"] (spParts K) f2 fd2) : FnOk P w K mg base CX0 3 f fd ["levels", "value"] (spIsSe K) := by
  refine F.ok scis_sentence (fun vs H Q E h => ?_) (fun cdv A outer s H vs Q E hr h => ?_)
  · obtain ⟨_, _, _, rfl, _⟩ := h; rfl
  obtain ⟨m, x, d, rfl, hx, hs, hz, q⟩ := h
  refine ⟨_, (pss_cons (ps_set (i := 2) scis_sentence.nd rfl (Or.inl rfl) (pe_lst (pa_cons (pv 1) pa_nil)))
  (C8.pss_cut (ps_while PassesOwn.never (pt_truth (pv 2) (by intro _; rfl)) (pss_cons (ps_set (i := 3) scis_sentence.nd rfl (Or.inl rfl) (pe_bm0 PySem.F.plainAttrs_list PySem.F.slot_list_pop PySem.F.type_list_pop mt_pop (pv 2)))
  (pss_cons (ps_if (pt_not (pt_val (pe_call C__is_node.G (hr.mono (by omega)) (by rfl) C__is_node.m C__is_node.kp C__is_node.b .nil pass0 (pa_cons (pv 0) (pa_cons (pv 3) pa_nil))))) (pss_one (ps_ret pe_bl)) pss_nil)
  (pss_one (ps_expr (pe_bm PySem.F.plainAttrs_list PySem.F.slot_list_extend PySem.F.type_list_extend mt_extendT (pv 2) (pa_cons (pe_call C_parts_of.G (hr.mono (by omega)) (by rfl) C_parts_of.m C_parts_of.kp C_parts_of.b .nil pass0 (pa_cons (pv 3) pa_nil)) pa_nil)))))))
  (pss_one (ps_ret pe_bl)))), ?_⟩
  refine ⟨_, rfl, (by show 1 ≤ sizeLine; decide), fun D nD => ?_⟩
  refine ⟨fun _ H' => Same H H' ∧ IsSe m d, ⟨fun n σ H' => ∃ u xs ds, σ = [some (.int m), some x, some (.ref D), u] ∧ Same H H' ∧ H' D = some (.lst xs) ∧ DpAll K H xs ds ∧ sOkA ds ∧ pszA ds = n ∧ n ≤ 100000 ∧ (IsSe m d ↔ ∀ e ∈ ds, IsSe m e), ⟨_, _, [x], [d], rfl, same_new nD, upd_same, .cons hx .nil, ⟨hs, trivial⟩, rfl, by show psz d + 0 ≤ _; omega, by simp⟩, fun n σ H1 h => ?_⟩, fun σ H1 h => ?_⟩
  · obtain ⟨u, xs, ds, rfl, s1, eD, hds, sd, hn, hn2, iff⟩ := h
    refine ⟨_, rfl, !xs.isEmpty, .inl ⟨xs, SqL.of eD, rfl⟩, ?_⟩
    by_cases hne : xs = []
    · subst hne
      cases ds with
      | cons _ _ => cases dpall_len hds
      | nil => exact iteF ⟨s1, iff.mpr fun e he => by cases he⟩
    obtain ⟨xs', y, ds', e, rfl, rfl, hds', g⟩ := dpall_last hds hne
    have ex : (!(xs' ++ [y]).isEmpty) = true := by cases xs' <;> rfl
    rw [ex]
    refine iteT ⟨fun σ' H' => ∃ n', n' < n ∧ ∃ u xs ds, σ' = [some (.int m), some x, some (.ref D), u] ∧ Same H H' ∧ H' D = some (.lst xs) ∧ DpAll K H xs ds ∧ sOkA ds ∧ pszA ds = n' ∧ n' ≤ 100000 ∧ (IsSe m d ↔ ∀ e ∈ ds, IsSe m e), fun σ' H' h => h, ?_⟩
    have hy : (xs' ++ [y])[(xs' ++ [y]).length - 1]? = some y := by
      rw [List.length_append, List.length_singleton, Nat.add_sub_cancel, List.getElem?_append_right (Nat.le_refl _), Nat.sub_self]; rfl
    have se : sOk e := sOkA_mem sd (by simp)
    have sd' : sOkA ds' := sOkA_of fun z hz => sOkA_mem sd (List.mem_append_left _ hz)
    have s2 : Same H (upd H1 D (.lst (xs' ++ [y]).dropLast)) := same_mut s1 nD
    refine ⟨_, rfl, .inl ⟨rfl, _, SqL.of eD⟩, D, _, y, rfl, rfl, eD, hy, ?_⟩
    refine ⟨_, rfl, _, rfl, m, y, e, rfl, dp_same s2 g, se, fun H3 s3 => ⟨_, rfl, ?_⟩⟩
    have s03 := s2.trans s3
    cases nb : nodeB m e with
    | false =>
      refine iteT ?_
      have hno : ¬ IsSe m d := fun z => by
        have := (isSe_iff.mp (iff.mp z e (by simp))).1
        rw [nb] at this; cases this
      have := q H3 s03
      rw [isSe_f hno] at this
      exact this
    | true =>
      have psl := parts_size nb
      obtain ⟨z, r, hd, pt, rfl, hh, hp, hlen, hrest⟩ := node_shape nb
      obtain ⟨p, ys, rfl, h1, h2⟩ := dp_tup g
      obtain ⟨v0, vr, rfl, g0⟩ : ∃ v0 vr, ys = v0 :: vr ∧ Dp K H v0 (.str z) := by
        cases h2 with
        | cons a b => exact ⟨_, _, rfl, a⟩
      obtain rfl : v0 = .str z := by cases g0; rfl
      have e3 : H3 D = some (.lst xs') := by
        have := s3 _ _ (upd_same (H := H1) (a := D) (o := HO.lst (xs' ++ [V.ref p]).dropLast))
        rw [this, List.dropLast_concat]
      have hps : partsD (.tuple (.str z :: r)) = (PyData.str z :: r).drop hd.toNat := by
        show (PyData.str z :: r).drop ((headT.lookup z).getD 0).toNat = _
        rw [hh]; rfl
      have hds2 : DpAll K H ((V.str z :: vr).drop hd.toNat) (partsD (.tuple (.str z :: r))) := by rw [hps]; exact dpall_drop _ h2
      refine iteF ⟨_, rfl, .inl ⟨rfl, _, SqL.of e3⟩, _, rfl, p, z, _, hd, rfl, same_sqt s03 h1, rfl, hh, fun p2 H4 s4 t4 => ⟨D, p2, xs', _, rfl, rfl, s4 _ _ e3, t4, ?_, ?_⟩⟩
      · have a1 := len_psz ds'
        have a2 := len_psz (partsD (.tuple (.str z :: r)))
        have a3 := dpall_len hds'
        have a4 := dpall_len hds2
        rw [psz_append] at hn
        have a5 : pszA [PyData.tuple (.str z :: r)] = psz (.tuple (.str z :: r)) := by simp [pszA]
        exact Nat.le_trans (by omega : _ ≤ 100000) (by decide)
      · have a5 : pszA [PyData.tuple (.str z :: r)] = psz (.tuple (.str z :: r)) := by simp [pszA]
        rw [psz_append] at hn
        have se2 : sOkA (.str z :: r) := se
        refine ⟨_, (?_ : pszA (ds' ++ partsD (.tuple (.str z :: r))) < n), _, _, ds' ++ partsD (.tuple (.str z :: r)), rfl, same_mut (s03.trans s4) nD, upd_same, dpall_append hds' hds2, sOkA_of fun w hw => ?_, rfl, ?_, ?_⟩
        · rw [psz_append]; omega
        · rcases List.mem_append.mp hw with h | h
          · exact sOkA_mem sd' h
          · rw [hps] at h; exact sOkA_mem se2 (List.mem_of_mem_drop h)
        · rw [psz_append]; omega
        · rw [iff]
          refine ⟨fun h w hw => ?_, fun h w hw => ?_⟩
          · rcases List.mem_append.mp hw with h3 | h3
            · exact h w (List.mem_append_left _ h3)
            · exact (isSe_iff.mp (h _ (by simp))).2 w h3
          · rcases List.mem_append.mp hw with h3 | h3
            · exact h w (List.mem_append_left _ h3)
            · rw [List.mem_singleton.mp h3]
              exact isSe_iff.mpr ⟨nb, fun w2 hw2 => h w2 (List.mem_append_right _ hw2)⟩
  · obtain ⟨s1, h1⟩ := h
    have := q H1 s1
    rw [isSe_t h1] at this
    exact this
end
end Vw

set_option Elab.async false
set_option linter.all false
set_option maxRecDepth 100000
set_option maxHeartbeats 4000000
namespace Vw
open PySem PySem.W PyProof.Rows L2
abbrev s_law_names : Stmt := top 25
theorem sc_law_names : FnScope ["_law_bag_here", "_law_many_z", "_law_first_z", "_law_tail", "_law_side", "_law_letters_z", "_law_k"] ["_law_bag_here", "_law_many_z"] (defScope s_law_names) := ⟨rfl, rfl, rfl, by decide +kernel, rfl, by decide +kernel, by decide +kernel⟩
abbrev s_law_said : Stmt := top 26
theorem sc_law_said : FnScope ["_law_bag_here", "_law_many_z", "_law_names_here", "_law_nest", "_law_inside", "_law_way", "_law_mine"] ["_law_bag_here", "_law_many_z", "_law_names_here", "_law_nest", "_law_inside"] (defScope s_law_said) := ⟨rfl, rfl, rfl, by decide +kernel, rfl, by decide +kernel, by decide +kernel⟩
section
variable {P : Program} {w : World} {K : PySem.W.Frag} {mg : Str → Option Value} {base : Heap}
def tailsS : List Str := ["", "", "q", "zq", "qqqqq"]
theorem names_ok : ∀ t ∈ tailsS, ∀ c ∈ ("abcdefghijklmnopqrstuvwxyz" : Str).cps.toList, (isNm (t ++ ⟨#[c]⟩) = true ∧ (t ++ (⟨#[c]⟩ : Str)).length ≤ 6) ∧ (isNm ((⟨#[c]⟩ : Str) ++ t) = true ∧ ((⟨#[c]⟩ : Str) ++ t).length ≤ 6) := by decide +kernel
theorem ok_lnames  {aTRUE : Addr} {aFALSE : Addr} {a_RESERVED : Addr} {a_HEADS : Addr} {a_PARTS : Addr} {aVowError : Addr} {aInvalidSentence : Addr} {aMissing : Addr} {aNothingLeft : Addr} {fVI : Addr} {fI_InvalidSentence : Addr} (T : Txt K mg  w aTRUE aFALSE a_RESERVED a_HEADS a_PARTS aVowError aInvalidSentence aMissing aNothingLeft fVI fI_InvalidSentence) {f f1 f2 : Addr} {fd fd1 fd2 : FuncData} (F : Fun K "_law_names" "_law_names" s_law_names f fd) (C__law_pull : Cal P w K mg base 1 "_law_pull" ["_law_bag_here", "_law_sides"] spPull f1 fd1)
    (C__law_of : Cal P w K mg base 2 "_law_of" ["_law_bag_here", "_law_some"] (spOf K) f2 fd2) : FnOk P w K mg base CX0 3 f fd ["_law_bag_here", "_law_many_z"] spNames := by
  refine F.ok sc_law_names (fun vs H Q E h => ?_) (fun cdv A outer s H vs Q E hr h => ?_)
  · obtain ⟨_, _, _, rfl, _⟩ := h; rfl
  obtain ⟨l, b, n, rfl, hn, hB, q⟩ := h
  refine ⟨_, (pss_cons (ps_asg (pe_tup (pa_cons (pe_call C__law_pull.G (hr.mono (by omega)) (by rfl) C__law_pull.m C__law_pull.kp C__law_pull.b .nil pass0 (pa_cons (pv 0) (pa_cons pe_int pa_nil))) (pa_cons (pe_call C__law_of.G (hr.mono (by omega)) (by rfl) C__law_of.m C__law_of.kp C__law_of.b .nil pass0 (pa_cons (pv 0) (pa_cons (pe_lst (pa_cons pe_str (pa_cons pe_str (pa_cons pe_str (pa_cons pe_str (pa_cons pe_str pa_nil)))))) pa_nil))) pa_nil))) (pg_tup (by rfl) (pgs_cons (pg_name (i := 2) sc_law_names.nd rfl (Or.inr rfl)) (pgs_cons (pg_name (i := 3) sc_law_names.nd rfl (Or.inr rfl)) pgs_nil))))
  (pss_cons (ps_set (i := 4) sc_law_names.nd rfl (Or.inr rfl) (pe_call C__law_pull.G (hr.mono (by omega)) (by rfl) C__law_pull.m C__law_pull.kp C__law_pull.b .nil pass0 (pa_cons (pv 0) (pa_cons pe_int pa_nil))))
  (pss_cons (ps_set (i := 5) sc_law_names.nd rfl (Or.inr rfl) pe_str)
  (pss_one (ps_ret (pe_lc (own := [("_law_k", 6)]) (g := gName 6) (tt := tYes) rfl sc_law_names.nd (pi_range1 (by rfl) T.z_range (pa_cons (pv 1) pa_nil)) (blkOk_by (own := [("_law_k", 6)]) (N := ["_law_bag_here", "_law_many_z", "_law_first_z", "_law_tail", "_law_side", "_law_letters_z", "_law_k"]) (sc := defScope s_law_names) (by decide +kernel)) (fun _ _ _ _ _ => (pg_name (i := 6) sc_law_names.nd rfl (Or.inl rfl))) (fun _ _ _ _ _ => pts_nil) (fun _ _ _ _ _ => (pe_ix (r := rIxL K) ix_list (pe_lst (pa_cons (pe_op op_add_str (pv 3) (pe_ix ix_str (pv 5) (pe_op op_mod (pe_op op_add (pv 2) (pe_op op_mul pe_int (pv 6))) pe_int) (fun _ _ => rfl))) (pa_cons (pe_op op_add_str (pe_ix ix_str (pv 5) (pe_op op_mod (pe_op op_add (pv 2) (pe_op op_mul pe_int (pv 6))) pe_int) (fun _ _ => rfl)) (pv 3)) pa_nil))) (pv 4) (fun _ _ => rfl))))))))), ?_⟩
  refine ⟨_, rfl, l, b, 26, rfl, by decide, by decide, hB, fun r1 H1 r10 r11 k1 B1 => ⟨_, rfl, (by show 5 ≤ sizeLine; decide), fun D1 n1 => ?_⟩⟩
  have z1 := same_new (o := .lst (tailsS.map V.str)) n1
  refine ⟨l, b, D1, tailsS.map V.str, rfl, B1.same z1, .inl ⟨B1.ne n1, upd_same⟩, by decide, fun x H2 hx k2 B2 => ⟨(by show 2 ≤ sizeLine; decide), fun p np => ?_⟩⟩
  obtain ⟨t, ht, rfl⟩ := List.mem_map.mp hx
  have B3 := B2.same (same_new (o := .tup [.int r1, .str t]) np)
  refine ⟨p, _, rfl, .of upd_same, rfl, _, _, rfl, _, _, rfl, rfl, ?_⟩
  refine ⟨_, rfl, l, b, 2, rfl, by decide, by decide, B3, fun r4 H4 r40 r41 k4 B4 => ?_⟩
  have kk := ((k1.trans (same_kp z1)).trans k2).trans ((same_kp (same_new (o := .tup [.int r1, .str t]) np)).trans k4)
  refine ⟨_, rfl, (n : Int), rfl, by omega, by omega, fun D nD => ?_⟩
  have hDb := B4.ne nD
  have hDl := B4.nl nD
  have el : ("abcdefghijklmnopqrstuvwxyz" : Str).cps.toList.length = 26 := by decide +kernel
  have lt : t.length ≤ 5 := (by decide +kernel : ∀ t ∈ tailsS, t.length ≤ 5) t ht
  have sl : (200 : Nat) ≤ sizeLine := by decide
  refine lc_range (lo := 0) (n := (n : Int).toNat) (fun i H' => Kp b H4 H' ∧ Bag l H' b ∧ ∃ ys : List Str, H' D = some (.lst (ys.map V.str)) ∧ ys.length = i ∧ ∀ y ∈ ys, isNm y = true ∧ y.length ≤ 6) ⟨same_kp (same_new nD), B4.mut hDb hDl, [], upd_same, rfl, fun y hy => by cases hy⟩ (fun i H' hi hp => ?_) (fun H' hp => ?_)
  · obtain ⟨k5, B5, ys, eD, hl', hys⟩ := hp
    have j0 : 0 ≤ (r1 + 5 * (0 + (i : Nat))) % 26 := Int.emod_nonneg _ (by decide)
    have j1 : (r1 + 5 * (0 + (i : Nat))) % 26 < 26 := Int.emod_lt_of_pos _ (by decide)
    obtain ⟨c, hcm, hc⟩ := atI_exG (xs := ("abcdefghijklmnopqrstuvwxyz" : Str).cps.toList) j0 (by rw [el]; exact j1)
    have hok := names_ok t ht c hcm
    have lc : (⟨#[c]⟩ : Str).length = 1 := rfl
    have mul : CMul 5 (0 + (i : Nat)) := by unfold CMul; omega
    refine ⟨rfl, _, rfl, _, rfl, _, rfl, _, rfl, _, _, rfl, rfl, mul, _, _, rfl, rfl, _, _, rfl, rfl, (by show (0 : Int) < 26; decide), _, _, c, rfl, rfl, by decide +kernel, hc, _, _, rfl, rfl, by omega, _, rfl, _, rfl, _, rfl, _, _, rfl, rfl, mul, _, _, rfl, rfl, _, _, rfl, rfl, (by show (0 : Int) < 26; decide), _, _, c, rfl, rfl, by decide +kernel, hc, _, rfl, _, _, rfl, rfl, by omega, (by show 2 ≤ sizeLine; decide), fun D2 n2 => ?_⟩
    have z2 := same_new (o := .lst [.str (t ++ (⟨#[c]⟩ : Str)), .str ((⟨#[c]⟩ : Str) ++ t)]) n2
    obtain ⟨y, hy, hyk⟩ : ∃ y : Str, atI [V.str (t ++ (⟨#[c]⟩ : Str)), V.str ((⟨#[c]⟩ : Str) ++ t)] r4 = some (.str y) ∧ isNm y = true ∧ y.length ≤ 6 := by
      have : r4 = 0 ∨ r4 = 1 := by omega
      rcases this with e | e <;> subst e
      · exact ⟨_, rfl, hok.1⟩
      · exact ⟨_, rfl, hok.2⟩
    refine ⟨_, rfl, D2, _, _, _, rfl, rfl, SqL.of upd_same, hy, _, z2 _ _ eD, by rw [List.length_map, hl']; exact Nat.lt_of_lt_of_le (show i < 200 by omega) sl, kp_mut (k5.trans (same_kp z2)) nD, (B5.same z2).mut hDb hDl, ys ++ [y], by rw [upd_same, List.map_append]; rfl, by rw [List.length_append, hl']; rfl, fun z hz => ?_⟩
    rcases List.mem_append.mp hz with h | h
    · exact hys z h
    · rw [List.mem_singleton.mp h]; exact hyk
  · obtain ⟨k5, B5, ys, eD, hl', hys⟩ := hp
    exact q D ys H' hDb hDl eD (by rw [hl']; omega) hys (kk.trans k5) B5
theorem ok_lsaid  {aTRUE : Addr} {aFALSE : Addr} {a_RESERVED : Addr} {a_HEADS : Addr} {a_PARTS : Addr} {aVowError : Addr} {aInvalidSentence : Addr} {aMissing : Addr} {aNothingLeft : Addr} {fVI : Addr} {fI_InvalidSentence : Addr} (T : Txt K mg  w aTRUE aFALSE a_RESERVED a_HEADS a_PARTS aVowError aInvalidSentence aMissing aNothingLeft fVI fI_InvalidSentence) {f f1 f2 : Addr} {fd fd1 fd2 : FuncData} {j : Nat} (F : Fun K "_law_said" "_law_said" s_law_said f fd) (C__law_said : Cal P w K mg base (j + 3) "_law_said" ["_law_bag_here", "_law_many_z", "_law_names_here", "_law_nest", "_law_inside"] (spSaid K j) f fd)
    (C__law_pull : Cal P w K mg base 1 "_law_pull" ["_law_bag_here", "_law_sides"] spPull f1 fd1) (C__law_of : Cal P w K mg base 2 "_law_of" ["_law_bag_here", "_law_some"] (spOf K) f2 fd2) : FnOk P w K mg base CX0 (j + 3 + 1) f fd ["_law_bag_here", "_law_many_z", "_law_names_here", "_law_nest", "_law_inside"] (spSaid K (j + 1)) := by
  refine F.ok sc_law_said (fun vs H Q E h => ?_) (fun cdv A outer s H vs Q E hr h => ?_)
  · obtain ⟨_, _, _, _, _, _, _, rfl, _⟩ := h; rfl
  obtain ⟨l, b, D, m, n, xs, c, rfl, m1, m2, hn, hB, hDb, eD, lx, hxs, hne, q⟩ := h
  refine ⟨_, (pss_cons (ps_set (i := 5) sc_law_said.nd rfl (Or.inl rfl) (pe_call C__law_pull.G (hr.mono (by omega)) (by rfl) C__law_pull.m C__law_pull.kp C__law_pull.b .nil pass0 (pa_cons (pv 0) (pa_cons pe_int pa_nil))))
  (pss_cons (ps_ifBy (PW.pt (pw_or (pt_cmpR op_eq (pv 3) pe_int (nomark _)) (pw_or1 (pt_cmpR op_eq (pv 5) pe_int (nomark _))))) (pss_cons (ps_ifBy (PW.pt (pw_and (pt_val (pv 4)) (pw_and (pt_cmpR (op_neO hr.units) (pv 2) (pe_lst pa_nil) (nomark _)) (pw_and1 (pt_cmpR op_gt (pe_call C__law_pull.G (hr.mono (by omega)) (by rfl) C__law_pull.m C__law_pull.kp C__law_pull.b .nil pass0 (pa_cons (pv 0) (pa_cons pe_int pa_nil))) pe_int (nomark _)))))) (pss_one (ps_ret (pe_tup (pa_cons pe_str (pa_cons (pe_call C__law_of.G (hr.mono (by omega)) (by rfl) C__law_of.m C__law_of.kp C__law_of.b .nil pass0 (pa_cons (pv 0) (pa_cons (pv 2) pa_nil))) pa_nil))))) pss_nil)
  (pss_one (ps_ret (pe_call C__law_of.G (hr.mono (by omega)) (by rfl) C__law_of.m C__law_of.kp C__law_of.b .nil pass0 (pa_cons (pv 0) (pa_cons (pe_lst (pa_cons (pe_tup (pa_cons pe_str pa_nil)) (pa_cons (pe_tup (pa_cons pe_str pa_nil)) pa_nil))) pa_nil)))))) pss_nil)
  (pss_cons (ps_if (pt_cmpR op_lt (pv 5) pe_int (nomark _)) (pss_one (ps_ret (pe_tup (pa_cons pe_str (pa_cons (pe_call C__law_said.G (hr.mono (by omega)) (by rfl) C__law_said.m C__law_said.kp C__law_said.b .nil pass0 (pa_cons (pv 0) (pa_cons (pv 1) (pa_cons (pv 2) (pa_cons (pe_op op_sub (pv 3) pe_int) (pa_cons (pv 4) pa_nil)))))) pa_nil))))) pss_nil)
  (pss_cons (ps_if (pt_cmpR op_lt (pv 5) pe_int (nomark _)) (pss_cons (ps_set (i := 6) sc_law_said.nd rfl (Or.inl rfl) (pe_call C__law_said.G (hr.mono (by omega)) (by rfl) C__law_said.m C__law_said.kp C__law_said.b .nil pass0 (pa_cons (pv 0) (pa_cons (pv 1) (pa_cons (pv 2) (pa_cons (pe_op op_sub (pv 3) pe_int) (pa_cons (pv 4) pa_nil)))))))
  (pss_one (ps_ret (pe_tup (pa_cons (pe_call C__law_of.G (hr.mono (by omega)) (by rfl) C__law_of.m C__law_of.kp C__law_of.b .nil pass0 (pa_cons (pv 0) (pa_cons (pe_lst (pa_cons pe_str (pa_cons pe_str (pa_cons pe_str pa_nil)))) pa_nil))) (pa_cons (pv 6) (pa_cons (pe_call C__law_said.G (hr.mono (by omega)) (by rfl) C__law_said.m C__law_said.kp C__law_said.b .nil pass0 (pa_cons (pv 0) (pa_cons (pv 1) (pa_cons (pv 2) (pa_cons (pe_op op_sub (pv 3) pe_int) (pa_cons (pv 4) pa_nil)))))) pa_nil))))))) pss_nil)
  (pss_one (ps_ret (pe_tup (pa_cons pe_str (pa_cons (pe_call C__law_pull.G (hr.mono (by omega)) (by rfl) C__law_pull.m C__law_pull.kp C__law_pull.b .nil pass0 (pa_cons (pv 0) (pa_cons (pv 1) pa_nil))) (pa_cons (pe_call C__law_said.G (hr.mono (by omega)) (by rfl) C__law_said.m C__law_said.kp C__law_said.b .nil pass0 (pa_cons (pv 0) (pa_cons (pv 1) (pa_cons (pv 2) (pa_cons (pe_op op_sub (pv 3) pe_int) (pa_cons pe_bl pa_nil)))))) pa_nil)))))))))), ?_⟩
  refine ⟨_, rfl, l, b, 9, rfl, by decide, by decide, hB, fun r1 H1 r10 r11 k1 B1 => ?_⟩
  have eD := k1 _ _ hDb eD
  have q : ∀ (v : V) (s : Se) (H' : Hp), SeA K H' v s → s.ok m → s.nest ≤ n → Kp b H1 H' → Bag l H' b → Q v H' := fun v s H' h1 h2 h3 h4 h5 => q v s H' h1 h2 h3 (k1.trans h4) h5
  clear k1 hB
  refine ⟨fun H' => H' = H1, fun H' => H' = H1 ∧ n ≠ 0, ?_, fun H2 e => ?_, fun H2 e => ?_⟩
  · refine ⟨_, rfl, rfl, _, rfl, ite2 (fun e => rfl) (fun e => ⟨_, rfl, rfl, _, rfl, ite2 (fun e2 => rfl) (fun e2 => ⟨rfl, fun z => e (by subst z; rfl)⟩)⟩)⟩
  · obtain rfl : H2 = H1 := e
    refine ⟨fun H' => Kp b H2 H' ∧ Bag l H' b, fun H' => Kp b H2 H' ∧ Bag l H' b, ?_, fun H3 h => ?_, fun H3 h => ?_⟩
    · refine ⟨_, rfl, _, rfl, ?_⟩
      cases c with
      | false => exact iteF ⟨Kp.refl H2, B1⟩
      | true =>
        refine iteT ⟨_, rfl, (by show 0 ≤ sizeLine; decide), fun D2 n2 => ?_⟩
        have z2 := same_new (o := .lst []) n2
        refine rd_ne_strs (z2 _ _ eD) upd_same hne (fun x hx => nm_strOk (hxs x hx).1) ⟨_, rfl, iteT ⟨_, rfl, l, b, 5, rfl, by decide, by decide, B1.same z2, fun r H3 _ _ k3 B3 => ⟨_, _, rfl, rfl, _, rfl, ite2 (fun _ => ⟨(same_kp z2).trans k3, B3⟩) (fun _ => ⟨(same_kp z2).trans k3, B3⟩)⟩⟩⟩
    · obtain ⟨k3, B3⟩ := h
      refine ⟨_, rfl, _, rfl, l, b, D, _, rfl, B3, .inl ⟨hDb, k3 _ _ hDb eD⟩, by simpa using hne, fun x H4 hx k4 B4 => ⟨(by show 2 ≤ sizeLine; decide), fun p np => ?_⟩⟩
      obtain ⟨y, hy, rfl⟩ := List.mem_map.mp hx
      have z := same_new (o := .tup [.str "name", .str y]) np
      exact q _ (.nm y) _ ⟨p, rfl, .of upd_same⟩ (hxs y hy) (Nat.zero_le _) ((k3.trans k4).trans (same_kp z)) (B4.same z)
    · obtain ⟨k3, B3⟩ := h
      refine ⟨_, rfl, (by show 1 ≤ sizeLine; decide), fun p1 n1 => ⟨(by show 1 ≤ sizeLine; decide), fun p2 n2 => ⟨(by show 2 ≤ sizeLine; decide), fun D2 nD => ?_⟩⟩⟩
      have z1 := same_new (o := .tup [.str "true"]) n1
      have z2 := same_new (o := .tup [.str "false"]) n2
      have z3 := same_new (o := .lst [.ref p1, .ref p2]) nD
      have B4 := (B3.same z1).same z2
      have t1 : TT K (upd H3 p1 (.tup [.str "true"])) p1 [.str "true"] := .of upd_same
      have t2 : TT K (upd (upd H3 p1 (.tup [.str "true"])) p2 (.tup [.str "false"])) p2 [.str "false"] := .of upd_same
      refine ⟨l, b, D2, _, rfl, B4.same z3, .inl ⟨B4.ne nD, upd_same⟩, by simp, fun x H5 hx k5 B5 => ?_⟩
      have kk := (((k3.trans (same_kp z1)).trans (same_kp z2)).trans (same_kp z3)).trans k5
      have t5 := (same_tp z3).trans ((B4.same z3).tp k5)
      simp only [List.mem_cons, List.not_mem_nil, or_false] at hx
      rcases hx with h | h <;> subst h
      · exact q _ .t _ ⟨p1, rfl, (t1.same z2).tp t5⟩ trivial (Nat.zero_le _) kk B5
      · exact q _ .f _ ⟨p2, rfl, t2.tp t5⟩ trivial (Nat.zero_le _) kk B5
  · obtain ⟨rfl, hn0⟩ := e
    obtain ⟨n, rfl⟩ : ∃ k, n = k + 1 := ⟨n - 1, by omega⟩
    have ar : ∀ (c : Bool), [V.ref b, V.int (m : Nat), V.ref D, V.int (((n + 1 : Nat) : Int) - 1), V.bl c] = [V.ref b, V.int (m : Nat), V.ref D, V.int (n : Nat), V.bl c] := fun c => by
      have : (((n + 1 : Nat) : Int) - 1) = (n : Nat) := by omega
      rw [this]
    -- not
    refine ⟨_, rfl, _, _, rfl, rfl, _, rfl, ite2 (fun e => ?_) (fun e0 => ?_)⟩
    · refine ⟨_, rfl, _, rfl, _, rfl, _, rfl, _, _, rfl, rfl, _, rfl, l, b, D, m, n, xs, c, ar c, m1, m2, by omega, B1, hDb, eD, lx, hxs, hne, fun v s H3 sv ok ns k3 B3 => ⟨(by show 2 ≤ sizeLine; decide), fun p np => ?_⟩⟩
      have z := same_new (o := .tup [.str "not", v]) np
      exact q _ (.nt s) _ ⟨p, v, rfl, .of upd_same, sv.same z⟩ ok (by show s.nest + 1 ≤ _; omega) (k3.trans (same_kp z)) (B3.same z)
    -- two parts
    refine ⟨_, rfl, _, _, rfl, rfl, _, rfl, ite2 (fun e => ?_) (fun e1 => ?_)⟩
    · refine ⟨_, rfl, _, rfl, _, rfl, _, rfl, _, _, rfl, rfl, _, rfl, l, b, D, m, n, xs, c, ar c, m1, m2, by omega, B1, hDb, eD, lx, hxs, hne, fun v s H3 sv ok ns k3 B3 => ?_⟩
      refine ⟨_, rfl, (by show 3 ≤ sizeLine; decide), fun D2 n2 => ?_⟩
      have z2 := same_new (o := .lst [.str "and", .str "or", .str "then"]) n2
      refine ⟨l, b, D2, _, rfl, B3.same z2, .inl ⟨B3.ne n2, upd_same⟩, by simp, fun x H4 hx k4 B4 => ?_⟩
      obtain ⟨w, rfl, hw⟩ : ∃ w : Str, x = .str w ∧ Se.opW w := by
        simp only [List.mem_cons, List.not_mem_nil, or_false] at hx
        rcases hx with h | h | h
        · exact ⟨_, h, .inl rfl⟩
        · exact ⟨_, h, .inr (.inl rfl)⟩
        · exact ⟨_, h, .inr (.inr rfl)⟩
      have k34 := (k3.trans (same_kp z2)).trans k4
      have sv4 := (sv.same z2).tp ((B3.same z2).tp k4)
      refine ⟨_, rfl, _, rfl, _, rfl, _, rfl, _, rfl, _, _, rfl, rfl, _, rfl, l, b, D, m, n, xs, c, ar c, m1, m2, by omega, B4, hDb, k34 _ _ hDb eD, lx, hxs, hne, fun v2 s2 H5 sv2 ok2 ns2 k5 B5 => ⟨(by show 3 ≤ sizeLine; decide), fun p np => ?_⟩⟩
      have z := same_new (o := .tup [.str w, v, v2]) np
      exact q _ (.bin w s s2) _ ⟨p, v, v2, rfl, .of upd_same, (sv4.tp (B4.tp k5)).same z, sv2.same z⟩ ⟨hw, ok, ok2⟩ (by show max s.nest s2.nest + 1 ≤ _; omega) ((k34.trans k5).trans (same_kp z)) (B5.same z)
    -- shown
    refine ⟨_, rfl, _, rfl, l, b, m, rfl, by omega, by omega, B1, fun r3 H3 r30 r31 k3 B3 => ?_⟩
    obtain ⟨k, rfl⟩ : ∃ k : Nat, r3 = (k : Nat) := ⟨r3.toNat, by omega⟩
    refine ⟨_, rfl, _, rfl, _, rfl, _, rfl, _, _, rfl, rfl, l, b, D, m, n, xs, true, ar true, m1, m2, by omega, B3, hDb, k3 _ _ hDb eD, lx, hxs, hne, fun v s H4 sv ok ns k4 B4 => ⟨(by show 3 ≤ sizeLine; decide), fun p np => ?_⟩⟩
    have z := same_new (o := .tup [.str "shown", .int (k : Nat), v]) np
    exact q _ (.sh k s) _ ⟨p, v, rfl, .of upd_same, sv.same z⟩ ⟨r31, ok⟩ (by show s.nest + 1 ≤ _; omega) ((k3.trans k4).trans (same_kp z)) (B4.same z)
end
end Vw

set_option Elab.async false
set_option linter.all false
set_option maxRecDepth 100000
set_option maxHeartbeats 4000000
namespace Vw
open PySem PySem.W PyProof.Rows L2
abbrev s_law_parts : Stmt := top 27
theorem sc_law_parts : FnScope ["_law_words"] ["_law_words"] (defScope s_law_parts) := ⟨rfl, rfl, rfl, by decide +kernel, rfl, by decide +kernel, by decide +kernel⟩
section
variable {P : Program} {w : World} {K : PySem.W.Frag} {mg : Str → Option Value} {base : Heap}
theorem said_all  {aTRUE : Addr} {aFALSE : Addr} {a_RESERVED : Addr} {a_HEADS : Addr} {a_PARTS : Addr} {aVowError : Addr} {aInvalidSentence : Addr} {aMissing : Addr} {aNothingLeft : Addr} {fVI : Addr} {fI_InvalidSentence : Addr} (T : Txt K mg  w aTRUE aFALSE a_RESERVED a_HEADS a_PARTS aVowError aInvalidSentence aMissing aNothingLeft fVI fI_InvalidSentence) {f f1 f2 : Addr} {fd fd1 fd2 : FuncData} (F : Fun K "_law_said" "_law_said" s_law_said f fd) (bF : Binds K fd ["_law_bag_here", "_law_many_z", "_law_names_here", "_law_nest", "_law_inside"] []) (mF : mg "_law_said" = some (.ref f))
    (C1 : Cal P w K mg base 1 "_law_pull" ["_law_bag_here", "_law_sides"] spPull f1 fd1) (C2 : Cal P w K mg base 2 "_law_of" ["_law_bag_here", "_law_some"] (spOf K) f2 fd2) : ∀ j : Nat, FnOk P w K mg base CX0 (j + 3) f fd ["_law_bag_here", "_law_many_z", "_law_names_here", "_law_nest", "_law_inside"] (spSaid K j)
  | 0 => fn_mono (none_left fun vs H Q E h => by
    obtain ⟨_, _, _, _, _, _, _, _, _, _, h, _⟩ := h
    exact absurd h (Nat.not_lt_zero _)) (Nat.zero_le _)
  | j + 1 => fn_mono (ok_lsaid T F ⟨said_all T F bF mF C1 C2 j, mF, F.kp, bF⟩ C1 C2) (by omega)
theorem head_one {x : Str} {h : Int} (e : headT.lookup x = some h) (h1 : ¬ x = "name") (h2 : ¬ x = "shown") : h = 1 := by
  have : ∀ p ∈ headT, p.1 = "name" ∨ p.1 = "shown" ∨ p.2 = 1 := by decide +kernel
  obtain ⟨l1, l2, e1, _⟩ := List.lookup_eq_some_iff.mp e
  rcases this (x, h) (by rw [e1]; simp) with h3 | h3 | h3
  · exact absurd h3 h1
  · exact absurd h3 h2
  · exact h3
theorem none_of {H H' : Hp} {D : Addr} (s : Same H H') (h : H' D = none) : H D = none := by
  cases e : H D with
  | none => rfl
  | some o => rw [s _ _ e] at h; cases h
def spLParts (K : PySem.W.Frag) : Sp := fun vs H Q _ => ∃ (m : Int) (p : Addr) (x : Str) (xs : List V) (r : List PyData), vs = [.ref p] ∧ SqT K H p xs ∧ DpAll K H xs (.str x :: r) ∧ nodeB m (.tuple (.str x :: r)) = true ∧
  ∀ (D : Addr) (ys : List V) (H' : Hp), Same H H' → H D = none → H' D = some (.lst ys) → DpAll K H ys (partsD (.tuple (.str x :: r))) → Q (.ref D) H'
theorem ok_lparts  {aTRUE : Addr} {aFALSE : Addr} {a_RESERVED : Addr} {a_HEADS : Addr} {a_PARTS : Addr} {aVowError : Addr} {aInvalidSentence : Addr} {aMissing : Addr} {aNothingLeft : Addr} {fVI : Addr} {fI_InvalidSentence : Addr} (T : Txt K mg  w aTRUE aFALSE a_RESERVED a_HEADS a_PARTS aVowError aInvalidSentence aMissing aNothingLeft fVI fI_InvalidSentence) {f : Addr} {fd : FuncData} {k : Nat} (F : Fun K "_law_parts" "_law_parts" s_law_parts f fd) : FnOk P w K mg base CX0 (k + 1) f fd ["_law_words"] (spLParts K) := by
  refine F.ok sc_law_parts (fun vs H Q E h => ?_) (fun cdv A outer s H vs Q E hr h => ?_)
  · obtain ⟨_, _, _, _, _, rfl, _⟩ := h; rfl
  obtain ⟨m, p, x, xs, r, rfl, hp, hds, nb, q⟩ := h
  refine ⟨_, (pss_cons (ps_if (pt_cmpR op_eq (pe_ix ix_tup (pv 0) pe_int (fun _ _ => rfl)) pe_str (nomark _)) (pss_one (ps_ret (pe_lst (pa_cons (pe_ix ix_tup (pv 0) pe_int (fun _ _ => rfl)) pa_nil)))) pss_nil)
  (pss_one (ps_ret (pe_ifExp (pt_cmpR op_eq (pe_ix ix_tup (pv 0) pe_int (fun _ _ => rfl)) pe_str (nomark _)) (pe_lst pa_nil) (pe_callTy call_list_of (by rfl) T.z_list (by decide +kernel) (pa_cons (pe_slice sl_tupO (pv 0) (po_some pe_int) po_none) pa_nil)))))), ?_⟩
  obtain ⟨x', r', hd, pt, e, hh, hpt, hlen, _⟩ := node_shape nb
  obtain ⟨rfl, rfl⟩ : x = x' ∧ r = r' := by
    have e1 := PyData.tuple.inj e
    have e2 := List.cons.inj e1
    exact ⟨PyData.str.inj e2.1, e2.2⟩
  rw [parts_mk hh] at q
  obtain ⟨v0, vr, rfl, g0, gr⟩ : ∃ v0 vr, xs = v0 :: vr ∧ Dp K H v0 (.str x) ∧ DpAll K H vr r := by
    cases hds with
    | cons a b => exact ⟨_, _, rfl, a, b⟩
  obtain rfl : v0 = .str x := by cases g0; rfl
  refine ⟨_, rfl, p, _, _, _, rfl, rfl, hp, atI_nat (j := 0) rfl, rfl, _, rfl, ite2 (fun e => ?_) (fun e => ?_)⟩
  · obtain rfl : x = "shown" := V.str.inj (of_decide_eq_true e)
    obtain rfl : hd = 2 := Option.some.inj (hh.symm.trans (by decide +kernel))
    obtain rfl : pt = 1 := Option.some.inj (hpt.symm.trans (by decide +kernel))
    obtain ⟨d1, d2, rfl⟩ : ∃ d1 d2, r = [d1, d2] := by
      have h2 : r.length = 2 := by omega
      cases r with
      | nil => cases h2
      | cons a r =>
        obtain ⟨b, rfl⟩ := List.length_eq_one_iff.mp (Nat.succ.inj h2)
        exact ⟨a, b, rfl⟩
    cases gr with
    | @cons v1 _ vr' _ g1 gr2 =>
    cases gr2 with
    | @cons v2 _ vr3 _ g2 gr3 =>
    cases gr3
    exact ⟨_, rfl, p, _, _, _, rfl, rfl, hp, atI_nat (j := 2) rfl, (by show 1 ≤ sizeLine; decide), fun D nD => q D _ _ (same_new nD) nD upd_same (.cons g2 .nil)⟩
  · have e1 : ¬ x = "shown" := fun z => e (decide_eq_true (by rw [z]))
    refine ⟨_, rfl, p, _, _, _, rfl, rfl, hp, atI_nat (j := 0) rfl, rfl, _, rfl, ite2 (fun e2 => ?_) (fun e2 => ?_)⟩
    · obtain rfl : x = "name" := V.str.inj (of_decide_eq_true e2)
      obtain rfl : hd = 2 := Option.some.inj (hh.symm.trans (by decide +kernel))
      obtain rfl : pt = 0 := Option.some.inj (hpt.symm.trans (by decide +kernel))
      obtain ⟨d1, rfl⟩ : ∃ d1, r = [d1] := List.length_eq_one_iff.mp (by omega)
      exact ⟨(by show 0 ≤ sizeLine; decide), fun D nD => q D _ _ (same_new nD) nD upd_same .nil⟩
    · have e3 : ¬ x = "name" := fun z => e2 (decide_eq_true (by rw [z]))
      have h1 : hd = 1 := head_one hh e3 e1
      subst h1
      refine ⟨_, rfl, 1, rfl, rd_fromS 1 hp fun p2 H2 s2 t2 => ⟨p2, _, rfl, .inr t2, fun D nD => q D _ _ (s2.trans (same_new nD)) (none_of s2 nD) upd_same gr⟩⟩
end
end Vw

set_option Elab.async false
set_option linter.all false
set_option maxRecDepth 100000
set_option maxHeartbeats 4000000
namespace Vw
open PySem PySem.W PyProof.Rows L2
abbrev s_law_is_said : Stmt := top 30
theorem sc_law_is_said : FnScope ["_law_many_z", "_law_thing", "_law_sizes", "_law_part"] ["_law_many_z", "_law_thing"] (defScope s_law_is_said) := ⟨rfl, rfl, rfl, by decide +kernel, rfl, by decide +kernel, by decide +kernel⟩
section
variable {P : Program} {w : World} {K : PySem.W.Frag} {mg : Str → Option Value} {base : Heap}
def sizeT : List (Str × Int) := [("true", 1), ("false", 1), ("name", 2), ("not", 2), ("and", 3), ("or", 3), ("then", 3), ("shown", 3)]
def sizeK : List (L2.Key × V) := [(.inr "true", .int 1), (.inr "false", .int 1), (.inr "name", .int 2), (.inr "not", .int 2), (.inr "and", .int 3), (.inr "or", .int 3), (.inr "then", .int 3), (.inr "shown", .int 3)]
theorem size_merge : mergeK [] sizeK = sizeK := by decide +kernel
theorem valV_tab (x : Str) : ∀ T : List (Str × Int), valV (T.map fun p => ((.inr p.1 : L2.Key), V.int p.2)) (.inr x) = (T.lookup x).map V.int
  | [] => rfl
  | (y, u) :: r => by
    rw [List.lookup_cons]
    by_cases e : x = y
    · subst e
      rw [beq_self_eq_true, List.map_cons, valV_pos rfl]; rfl
    · rw [beq_false_of_ne e, List.map_cons, valV_neg (fun z => e (Sum.inr.inj z).symm), valV_tab x r]
theorem size_val (z : Str) : valV (mergeK [] sizeK) (.inr z) = (sizeT.lookup z).map V.int := by
  rw [size_merge]
  exact valV_tab z sizeT
theorem size_none {z : Str} (h : headT.lookup z = none) : sizeT.lookup z = none := by
  cases e : sizeT.lookup z with
  | none => rfl
  | some v =>
    have : ∀ q ∈ sizeT, (headT.lookup q.1).isSome = true := by decide +kernel
    obtain ⟨l1, l2, e1, _⟩ := List.lookup_eq_some_iff.mp e
    have := this (z, v) (by rw [e1]; simp)
    rw [h] at this; cases this
theorem size_some {z : Str} {h p : Int} (e1 : headT.lookup z = some h) (e2 : partT.lookup z = some p) : sizeT.lookup z = some (h + p) := by
  have : ∀ q ∈ headT, sizeT.lookup q.1 = some (q.2 + (partT.lookup q.1).getD 0) := by decide +kernel
  obtain ⟨l1, l2, e3, _⟩ := List.lookup_eq_some_iff.mp e1
  have := this (z, h) (by rw [e3]; simp)
  rw [e2] at this
  exact this
open Classical in
theorem isSe_of {m : Int} {d : PyData} (h : isSeB m d = true) : IsSe m d := by unfold isSeB at h; exact of_decide_eq_true h
theorem isSe_eq (m : Int) (d : PyData) : isSeB m d = (nodeB m d && (partsD d).all fun e => isSeB m e) := by
  cases h : nodeB m d && (partsD d).all fun e => isSeB m e with
  | true =>
    rw [Bool.and_eq_true] at h
    exact isSe_t (isSe_iff.mpr ⟨h.1, fun e he => isSe_of (List.all_eq_true.mp h.2 e he)⟩)
  | false =>
    refine isSe_f fun z => ?_
    obtain ⟨h1, h2⟩ := isSe_iff.mp z
    rw [h1, Bool.true_and, List.all_eq_true.mpr fun e he => isSe_t (h2 e he)] at h
    cases h
theorem depth_memA : ∀ {l : List PyData} {d : PyData}, d ∈ l → d.depth ≤ PyData.depthAll l
  | _ :: _, _, .head _ => by simp only [PyData.depthAll]; omega
  | _ :: r, d, .tail _ m => by
    have := depth_memA m
    simp only [PyData.depthAll]; omega
theorem psz_memA : ∀ {l : List PyData} {d : PyData}, d ∈ l → psz d ≤ pszA l
  | _ :: _, _, .head _ => Nat.le_add_right _ _
  | _ :: _, _, .tail _ m => Nat.le_trans (psz_memA m) (Nat.le_add_left _ _)
def spIsSaid (K : PySem.W.Frag) (j : Nat) : Sp := fun vs H Q _ => ∃ (m : Int) (x : V) (d : PyData), vs = [.int m, x] ∧ Dp K H x d ∧ sOk d ∧ d.depth < j ∧ psz d ≤ 1000 ∧ ∀ H', Same H H' → Q (.bl (isSeB m d)) H'
theorem ok_lis_said  {aTRUE : Addr} {aFALSE : Addr} {a_RESERVED : Addr} {a_HEADS : Addr} {a_PARTS : Addr} {aVowError : Addr} {aInvalidSentence : Addr} {aMissing : Addr} {aNothingLeft : Addr} {fVI : Addr} {fI_InvalidSentence : Addr} (T : Txt K mg  w aTRUE aFALSE a_RESERVED a_HEADS a_PARTS aVowError aInvalidSentence aMissing aNothingLeft fVI fI_InvalidSentence) {f f1 f2 : Addr} {fd fd1 fd2 : FuncData} {j : Nat} (F : Fun K "_law_is_said" "_law_is_said" s_law_is_said f fd) (C__law_is_said : Cal P w K mg base (j + 2) "_law_is_said" ["_law_many_z", "_law_thing"] (spIsSaid K j) f fd)
    (C__law_parts : Cal P w K mg base 1 "_law_parts" ["_law_words"] (spLParts K) f1 fd1) (C__law_is_name : Cal P w K mg base 1 "_law_is_name" ["_law_text_z"] spNm f2 fd2) : FnOk P w K mg base CX0 (j + 2 + 1) f fd ["_law_many_z", "_law_thing"] (spIsSaid K (j + 1)) := by
  refine F.ok sc_law_is_said (fun vs H Q E h => ?_) (fun cdv A outer s H vs Q E hr h => ?_)
  · obtain ⟨_, _, _, rfl, _⟩ := h; rfl
  obtain ⟨m, x, d, rfl, hx, hs, hd, hz, q⟩ := h
  refine ⟨_, (pss_cons (ps_if (PW.pt (pw_or (pt_not (pt_val (pe_callB call_isD (by rfl) T.z_isinstance (by decide +kernel) (pa_cons (pv 1) (pa_cons (pe_bltn (v := .ty "tuple") (u := .type "tuple") (by rfl) T.z_tuple (by decide +kernel) rfl) pa_nil))))) (pw_or (pt_cmpR op_eq (pe_callB call_lenB (by rfl) T.z_len (by decide +kernel) (pa_cons (pv 1) pa_nil)) pe_int (nomark _)) (pw_or1 (pt_not (pt_val (pe_callB call_isD (by rfl) T.z_isinstance (by decide +kernel) (pa_cons (pe_ix ix_tup (pv 1) pe_int (fun _ _ => rfl)) (pa_cons (pe_bltn (v := .ty "str") (u := .type "str") (by rfl) T.z_str (by decide +kernel) rfl) pa_nil))))))))) (pss_one (ps_ret pe_bl)) pss_nil)
  (pss_cons (ps_set (i := 2) sc_law_is_said.nd rfl (Or.inl rfl) (pe_disp (pps_cons pe_str pe_int (pps_cons pe_str pe_int (pps_cons pe_str pe_int (pps_cons pe_str pe_int (pps_cons pe_str pe_int (pps_cons pe_str pe_int (pps_cons pe_str pe_int (pps_cons pe_str pe_int pps_nil)))))))) rfl rfl (by simp) (by decide)))
  (pss_cons (ps_if (pt_cmpR op_ne (pe_dget2 (Nat.lt_of_le_of_lt (Nat.add_le_add_left (by decide : 1 ≤ 64) _) hr.units) (pv 2) (pe_ix ix_tup (pv 1) pe_int (fun _ _ => rfl)) pe_int ⟨rfl, rfl, rfl, rfl⟩) (pe_callB call_lenB (by rfl) T.z_len (by decide +kernel) (pa_cons (pv 1) pa_nil)) (nomark _)) (pss_one (ps_ret pe_bl)) pss_nil)
  (pss_cons (ps_if (pt_cmpR op_eq (pe_ix ix_tup (pv 1) pe_int (fun _ _ => rfl)) pe_str (nomark _)) (pss_one (ps_ret (pe_and (pe_callB call_isD (by rfl) T.z_isinstance (by decide +kernel) (pa_cons (pe_ix ix_tup (pv 1) pe_int (fun _ _ => rfl)) (pa_cons (pe_bltn (v := .ty "str") (u := .type "str") (by rfl) T.z_str (by decide +kernel) rfl) pa_nil))) (pe_one (pe_call C__law_is_name.G (hr.mono (by omega)) (by rfl) C__law_is_name.m C__law_is_name.kp C__law_is_name.b .nil pass0 (pa_cons (pe_ix ix_tup (pv 1) pe_int (fun _ _ => rfl)) pa_nil)))))) pss_nil)
  (C8.pss_cut (ps_if (pt_cmpR op_eq (pe_ix ix_tup (pv 1) pe_int (fun _ _ => rfl)) pe_str (nomark _)) (pss_one (ps_if (PW.pt (pw_or (pt_not (pt_val (pe_callB call_isD (by rfl) T.z_isinstance (by decide +kernel) (pa_cons (pe_ix ix_tup (pv 1) pe_int (fun _ _ => rfl)) (pa_cons (pe_bltn (v := .ty "int") (u := .type "int") (by rfl) T.z_int (by decide +kernel) rfl) pa_nil))))) (pw_or (pt_val (pe_callB call_isD (by rfl) T.z_isinstance (by decide +kernel) (pa_cons (pe_ix ix_tup (pv 1) pe_int (fun _ _ => rfl)) (pa_cons (pe_bltn (v := .ty "bool") (u := .type "bool") (by rfl) T.z_bool (by decide +kernel) rfl) pa_nil)))) (pw_or1 (pt_not (pt_chain op_le op_lt pe_int (pe_ix ix_tup (pv 1) pe_int (fun _ _ => rfl)) (pv 0))))))) (pss_one (ps_ret pe_bl)) pss_nil)) pss_nil)
  (pss_one (ps_ret (pe_callB (cr_all rfl) (by rfl) T.z_all (by decide +kernel) (pa_cons (pe_lc (own := [("_law_part", 3)]) (g := gName 3) (tt := tYes) rfl sc_law_is_said.nd (pi_list (pe_call C__law_parts.G (hr.mono (by omega)) (by rfl) C__law_parts.m C__law_parts.kp C__law_parts.b .nil pass0 (pa_cons (pv 1) pa_nil))) (blkOk_by (own := [("_law_part", 3)]) (N := ["_law_many_z", "_law_thing", "_law_sizes", "_law_part"]) (sc := defScope s_law_is_said) (by decide +kernel)) (fun _ _ _ _ _ => (pg_name (i := 3) sc_law_is_said.nd rfl (Or.inl rfl))) (fun _ _ _ _ _ => pts_nil) (fun _ _ _ _ _ => (pe_call C__law_is_said.G (hr.mono (by omega)) (by rfl) C__law_is_said.m C__law_is_said.kp C__law_is_said.b .nil pass0 (pa_cons (pv 0) (pa_cons (pv 3) pa_nil))))) pa_nil))))))))), ?_⟩
  refine ⟨_, rfl, rd_tuple hx ⟨_, rfl, ?_⟩⟩
  have no : nodeB m d = false → ∀ H', Same H H' → Q (.bl false) H' := fun h H' s => by
    have := q H' s
    rw [isSe_eq, h] at this
    exact this
  cases d with
  | none => exact iteT (no rfl H (Same.refl H))
  | bool _ => exact iteT (no rfl H (Same.refl H))
  | int _ => exact iteT (no rfl H (Same.refl H))
  | str _ => exact iteT (no rfl H (Same.refl H))
  | list _ => exact iteT (no rfl H (Same.refl H))
  | dict kv => exact absurd rfl (dp_nodict hx kv)
  | tuple ds =>
    obtain ⟨p, xs, rfl, h1, h2⟩ := dp_tup hx
    have hl := dpall_len h2
    refine iteF ⟨_, rfl, rd_len (.inr h1) fun hz => ⟨rfl, _, rfl, ?_⟩⟩
    refine ite2 (fun e => ?_) (fun e => ?_)
    · have h0 : xs.length = 0 := by
        have e2 : V.int (xs.length : Nat) = V.int 0 := of_decide_eq_true e
        injection e2 with e3; omega
      obtain rfl : ds = [] := List.length_eq_zero_iff.mp (hl.symm.trans h0)
      exact no rfl H (Same.refl H)
    · cases ds with
      | nil =>
        have h0 : xs.length = 0 := hl
        rw [h0] at e
        exact absurd rfl e
      | cons d0 r =>
      cases xs with
      | nil => cases hl
      | cons v0 vr =>
      obtain ⟨g0, gr⟩ : Dp K H v0 d0 ∧ DpAll K H vr r := by
        cases h2 with
        | cons a b => exact ⟨a, b⟩
      refine ⟨_, rfl, p, _, _, v0, rfl, rfl, h1, atI_nat (j := 0) rfl, rd_str g0 ⟨_, rfl, ?_⟩⟩
      have hs : sOk d0 ∧ sOkA r := hs
      cases d0 with
      | none => exact iteT (no rfl H (Same.refl H))
      | bool _ => exact iteT (no rfl H (Same.refl H))
      | int _ => exact iteT (no rfl H (Same.refl H))
      | list _ => exact iteT (no rfl H (Same.refl H))
      | tuple _ => exact iteT (no rfl H (Same.refl H))
      | dict kv => exact absurd rfl (dp_nodict g0 kv)
      | str z =>
        obtain rfl : v0 = .str z := by cases g0; rfl
        refine iteF fun p0 n0 => ⟨upd_same, sizeK, rfl, by decide, ?_⟩
        have z0 : Same H (upd (upd H p0 (.dK [])) p0 (.dK (mergeK [] sizeK))) := same_mut (same_new n0) n0
        have hd0 : (upd (upd H p0 (.dK [])) p0 (.dK (mergeK [] sizeK))) p0 = some (.dK (mergeK [] sizeK)) := upd_same
        generalize upd (upd H p0 (.dK [])) p0 (.dK (mergeK [] sizeK)) = H1 at z0 hd0 ⊢
        have sq := same_sqt z0 h1
        have gr1 : DpAll K H1 vr r := dpall_same z0 gr
        have lr : (V.str z :: vr).length = r.length + 1 := by rw [List.length_cons, dpall_len gr]
        refine ⟨_, rfl, p0, rfl, .inl ⟨_, .inl hd0⟩, _, rfl, p, _, _, _, rfl, rfl, sq, atI_nat (j := 0) rfl, (sizeT.lookup z).map V.int, by rw [← size_val z]; exact DGet.k (k := .inr z) hd0, ?_⟩
        cases hh : headT.lookup z with
        | none =>
          rw [size_none hh]
          refine ⟨_, rfl, rd_len (.inr sq) fun _ => ⟨rfl, _, rfl, ite2 (fun e => no (by rw [nodeB_tup, hh]) H1 z0) (fun e => ?_)⟩⟩
          have e1 : V.int 0 = V.int (((V.str z :: vr).length : Nat) : Int) := by simpa using e
          have := V.int.inj e1
          rw [lr] at this
          omega
        | some hv =>
        obtain ⟨pt, hp⟩ := head_part hh
        rw [size_some hh hp]
        have nb : nodeB m (.tuple (.str z :: r)) = (decide ((r.length : Int) + 1 = hv + pt) && restB m z r) := by rw [nodeB_tup, hh, hp]
        refine ⟨_, rfl, rd_len (.inr sq) fun _ => ⟨rfl, _, rfl, ite2 (fun e => ?_) (fun e => ?_)⟩⟩
        · have e1 : ¬ V.int (hv + pt) = V.int (((V.str z :: vr).length : Nat) : Int) := by simpa using e
          exact no (by rw [nb, decide_eq_false (fun z2 => e1 (by rw [lr, ← z2]; rfl)), Bool.false_and]) H1 z0
        have e2 : (r.length : Int) + 1 = hv + pt := by
          have e1 : V.int (hv + pt) = V.int (((V.str z :: vr).length : Nat) : Int) := by simpa using e
          have := V.int.inj e1
          rw [lr] at this
          omega
        rw [decide_eq_true e2, Bool.true_and] at nb
        refine ⟨_, rfl, p, _, _, _, rfl, rfl, sq, atI_nat (j := 0) rfl, rfl, _, rfl, ite2 (fun e3 => ?_) (fun e3 => ?_)⟩
        · obtain rfl : z = "name" := V.str.inj (of_decide_eq_true e3)
          obtain rfl : hv = 2 := Option.some.inj (hh.symm.trans (by decide +kernel))
          obtain rfl : pt = 0 := Option.some.inj (hp.symm.trans (by decide +kernel))
          obtain ⟨d1, rfl⟩ : ∃ d1, r = [d1] := List.length_eq_one_iff.mp (by omega)
          have hb : isSeB m (.tuple [.str "name", d1]) = nmD d1 := by
            rw [isSe_eq, parts_mk hh, nb]
            show (restB m "name" [d1] && true) = _
            rw [Bool.and_true]
            exact if_pos rfl
          rw [hb] at q
          have q1 := q H1 z0
          cases gr1 with
          | @cons v1 _ vr' _ g1 gr2 =>
          cases gr2
          refine ⟨_, rfl, p, _, _, v1, rfl, rfl, sq, atI_nat (j := 1) rfl, rd_str g1 ⟨_, rfl, ?_⟩⟩
          cases d1 with
          | none => exact iteF q1
          | bool _ => exact iteF q1
          | int _ => exact iteF q1
          | list _ => exact iteF q1
          | tuple _ => exact iteF q1
          | dict kv => exact absurd rfl (dp_nodict g1 kv)
          | str y =>
            obtain rfl : v1 = .str y := by cases g1; rfl
            refine iteT ⟨_, rfl, p, _, _, _, rfl, rfl, sq, atI_nat (j := 1) rfl, y, rfl, hs.2.1, fun H2 s2 => ?_⟩
            exact q H2 (z0.trans s2)
        · have e4 : ¬ z = "name" := fun z2 => e3 (decide_eq_true (by rw [z2]))
          have rb : restB m z r = if z = "shown" then levD m (r.headD .none) else true := by unfold restB; rw [if_neg e4]
          refine ⟨fun σ' H' => H' = H1 ∧ σ' = [some (.int m), some (.ref p), some (.ref p0), none] ∧ nodeB m (.tuple (.str z :: r)) = true, ?_, fun σ' H' h => ?_⟩
          · refine ⟨_, rfl, p, _, _, _, rfl, rfl, sq, atI_nat (j := 0) rfl, rfl, _, rfl, ite2 (fun e5 => ?_) (fun e5 => ⟨rfl, rfl, by rw [nb, rb, if_neg (fun z2 => e5 (decide_eq_true (by rw [z2])))]⟩)⟩
            obtain rfl : z = "shown" := V.str.inj (of_decide_eq_true e5)
            obtain rfl : hv = 2 := Option.some.inj (hh.symm.trans (by decide +kernel))
            obtain rfl : pt = 1 := Option.some.inj (hp.symm.trans (by decide +kernel))
            obtain ⟨d1, d2, rfl⟩ : ∃ d1 d2, r = [d1, d2] := by
              have h2 : r.length = 2 := by omega
              cases r with
              | nil => cases h2
              | cons a r =>
                obtain ⟨b, rfl⟩ := List.length_eq_one_iff.mp (Nat.succ.inj h2)
                exact ⟨a, b, rfl⟩
            rw [rb, if_pos rfl] at nb
            have nb : nodeB m (.tuple [.str "shown", d1, d2]) = levD m d1 := nb
            cases gr1 with
            | @cons v1 _ vr' _ g1 gr2 =>
            cases gr2 with
            | @cons v2 _ vr3 _ g2 gr3 =>
            cases gr3
            refine ⟨_, rfl, p, _, _, v1, rfl, rfl, sq, atI_nat (j := 1) rfl, rd_int g1 ⟨_, rfl, ?_⟩⟩
            cases d1 with
            | none => exact iteT (no nb H1 z0)
            | str _ => exact iteT (no nb H1 z0)
            | list _ => exact iteT (no nb H1 z0)
            | tuple _ => exact iteT (no nb H1 z0)
            | dict kv => exact absurd rfl (dp_nodict g1 kv)
            | bool _ => exact iteF ⟨_, rfl, p, _, _, v1, rfl, rfl, sq, atI_nat (j := 1) rfl, rd_bool g1 ⟨_, rfl, iteT (no nb H1 z0)⟩⟩
            | int k =>
              obtain rfl : v1 = .int k := by cases g1; rfl
              have nb : nodeB m (.tuple [.str "shown", .int k, d2]) = (decide (0 ≤ k) && decide (k < m)) := nb
              refine iteF ⟨_, rfl, p, _, _, _, rfl, rfl, sq, atI_nat (j := 1) rfl, rd_bool g1 ⟨_, rfl, iteF ⟨_, rfl, p, _, _, _, rfl, rfl, sq, atI_nat (j := 1) rfl, ?_⟩⟩⟩
              refine ⟨_, _, rfl, rfl, _, rfl, ite2 (fun e6 => ⟨_, rfl, _, _, rfl, rfl, _, rfl, ite2 (fun e7 => ?_) (fun e7 => ⟨rfl, rfl, ?_⟩)⟩) (fun e6 => ⟨_, rfl, iteT (no ?_ H1 z0)⟩)⟩
              · refine no ?_ H1 z0
                have e8 : decide (k < m) = false := by simpa using e7
                rw [nb, e8, Bool.and_false]
              · have e8 : decide (k < m) = true := by simpa using e7
                rw [nb, show decide (0 ≤ k) = true from e6, e8]; rfl
              · rw [nb, show decide (0 ≤ k) = false from Bool.eq_false_iff.mpr e6, Bool.false_and]
          · obtain ⟨rfl, rfl, nbt⟩ := h
            refine ⟨_, rfl, m, p, z, _, r, rfl, sq, .cons (.str z) gr1, nbt, fun D1 ys H2 s2 n1 e1 g1 => ⟨D1, rfl, ⟨_, SqL.of e1⟩, fun D nD => ?_⟩⟩
            have hpl := dpall_len g1
            have hps := parts_mk (r := r) hh
            have psl := parts_size nbt
            have lps := len_psz (partsD (.tuple (.str z :: r)))
            refine lc_list (K := K) (a := D1) (xs := ys) (fun i H' => Same H2 H' ∧ H' D = some (.lst (((partsD (.tuple (.str z :: r))).take i).map fun e => .bl (isSeB m e)))) ⟨same_new nD, upd_same⟩ (fun i H' _ h => SqL.of (h.1 _ _ e1)) (fun i v H3 hv2 h => ?_) (fun H3 h => ?_)
            · obtain ⟨sm, eD⟩ := h
              obtain ⟨e, he, g⟩ := dpall_get g1 hv2
              have hm := List.mem_of_getElem? he
              have hm2 : e ∈ (PyData.str z :: r) := by rw [hps] at hm; exact List.mem_of_mem_drop hm
              have d1 := depth_memA hm2
              have d2 : (PyData.tuple (.str z :: r)).depth = PyData.depthAll (.str z :: r) + 1 := by simp only [PyData.depth]
              have d3 := psz_memA hm
              have hi : i < (partsD (.tuple (.str z :: r))).length := (List.getElem?_eq_some_iff.mp he).1
              refine ⟨rfl, _, rfl, _, rfl, m, v, e, rfl, dp_same (s2.trans sm) g, sOkA_mem (show sOkA (.str z :: r) from hs) hm2, by omega, by omega, fun H4 s4 => ⟨_, s4 _ _ eD, ?_, same_mut (sm.trans s4) nD, ?_⟩⟩
              · rw [List.length_map, List.length_take]
                exact Nat.lt_of_le_of_lt (show _ ≤ 1000 by omega) (by decide)
              · rw [upd_same, take_succ_get he, List.map_append]; rfl
            · obtain ⟨sm, eD⟩ := h
              rw [hpl, List.take_length] at eD
              refine ⟨D, (partsD (.tuple (.str z :: r))).map (isSeB m), rfl, SqL.of (by rw [List.map_map]; exact eD), ?_⟩
              have : ((partsD (.tuple (.str z :: r))).map (isSeB m)).all id = isSeB m (.tuple (.str z :: r)) := by
                rw [isSe_eq m (.tuple (.str z :: r)), nbt, Bool.true_and, List.all_map]; rfl
              rw [this]
              exact q H3 ((z0.trans s2).trans sm)
theorem is_said_all  {aTRUE : Addr} {aFALSE : Addr} {a_RESERVED : Addr} {a_HEADS : Addr} {a_PARTS : Addr} {aVowError : Addr} {aInvalidSentence : Addr} {aMissing : Addr} {aNothingLeft : Addr} {fVI : Addr} {fI_InvalidSentence : Addr} (T : Txt K mg  w aTRUE aFALSE a_RESERVED a_HEADS a_PARTS aVowError aInvalidSentence aMissing aNothingLeft fVI fI_InvalidSentence) {f f1 f2 : Addr} {fd fd1 fd2 : FuncData} (F : Fun K "_law_is_said" "_law_is_said" s_law_is_said f fd) (bF : Binds K fd ["_law_many_z", "_law_thing"] []) (mF : mg "_law_is_said" = some (.ref f))
    (C1 : Cal P w K mg base 1 "_law_parts" ["_law_words"] (spLParts K) f1 fd1) (C2 : Cal P w K mg base 1 "_law_is_name" ["_law_text_z"] spNm f2 fd2) : ∀ j : Nat, FnOk P w K mg base CX0 (j + 2) f fd ["_law_many_z", "_law_thing"] (spIsSaid K j)
  | 0 => fn_mono (none_left fun vs H Q E h => by
    obtain ⟨_, _, _, _, _, _, h, _⟩ := h
    exact absurd h (Nat.not_lt_zero _)) (Nat.zero_le _)
  | j + 1 => fn_mono (ok_lis_said T F ⟨is_said_all T F bF mF C1 C2 j, mF, F.kp, bF⟩ C1 C2) (by omega)
end
end Vw

set_option Elab.async false
set_option linter.all false
set_option maxRecDepth 100000
set_option maxHeartbeats 4000000
namespace Vw
open PySem PySem.W PyProof.Rows L2
abbrev s_law_bent_words : Stmt := top 28
theorem sc_law_bent_words : FnScope ["_law_bag_here", "_law_words", "_law_way", "_law_odd", "_law_at_z", "_law_part"] ["_law_bag_here", "_law_words"] (defScope s_law_bent_words) := ⟨rfl, rfl, rfl, by decide +kernel, rfl, by decide +kernel, by decide +kernel⟩
section
variable {P : Program} {w : World} {K : PySem.W.Frag} {mg : Str → Option Value} {base : Heap}
theorem ok_lbent_words  {aTRUE : Addr} {aFALSE : Addr} {a_RESERVED : Addr} {a_HEADS : Addr} {a_PARTS : Addr} {aVowError : Addr} {aInvalidSentence : Addr} {aMissing : Addr} {aNothingLeft : Addr} {fVI : Addr} {fI_InvalidSentence : Addr} (T : Txt K mg  w aTRUE aFALSE a_RESERVED a_HEADS a_PARTS aVowError aInvalidSentence aMissing aNothingLeft fVI fI_InvalidSentence) {f f1 f2 : Addr} {fd fd1 fd2 : FuncData} {j : Nat} (F : Fun K "_law_bent_words" "_law_bent_words" s_law_bent_words f fd) (C__law_bent_words : Cal P w K mg base (j + 3) "_law_bent_words" ["_law_bag_here", "_law_words"] (spBentW K j) f fd)
    (C__law_pull : Cal P w K mg base 1 "_law_pull" ["_law_bag_here", "_law_sides"] spPull f1 fd1) (C__law_of : Cal P w K mg base 2 "_law_of" ["_law_bag_here", "_law_some"] (spOf K) f2 fd2) : FnOk P w K mg base CX0 (j + 3 + 1) f fd ["_law_bag_here", "_law_words"] (spBentW K (j + 1)) := by
  refine F.ok sc_law_bent_words (fun vs H Q E h => ?_) (fun cdv A outer s H vs Q E hr h => ?_)
  · obtain ⟨_, _, _, _, _, rfl, _⟩ := h; rfl
  obtain ⟨l, b, v, m, sn, rfl, hB, hv, ok, hn, hj, q⟩ := h
  refine ⟨_, (pss_cons (ps_set (i := 2) sc_law_bent_words.nd rfl (Or.inl rfl) (pe_call C__law_pull.G (hr.mono (by omega)) (by rfl) C__law_pull.m C__law_pull.kp C__law_pull.b .nil pass0 (pa_cons (pv 0) (pa_cons pe_int pa_nil))))
  (pss_cons (ps_if (pt_cmpR op_eq (pv 2) pe_int (nomark _)) (pss_one (ps_ret (pe_callTy call_list_of (by rfl) T.z_list (by decide +kernel) (pa_cons (pv 1) pa_nil)))) pss_nil)
  (pss_cons (ps_if (pt_cmpR op_eq (pv 2) pe_int (nomark _)) (pss_one (ps_ret (pe_op op_catO (pv 1) (pe_tup (pa_cons (pe_tup (pa_cons pe_str pa_nil)) pa_nil))))) pss_nil)
  (pss_cons (ps_if (pt_cmpR op_eq (pv 2) pe_int (nomark _)) (pss_one (ps_ret (pe_slice sl_tupO (pv 1) po_none (po_some (pe_un un_neg pe_int))))) pss_nil)
  (pss_cons (ps_if (pt_cmpR op_eq (pv 2) pe_int (nomark _)) (pss_cons (ps_set (i := 3) sc_law_bent_words.nd rfl (Or.inl rfl) (pe_call C__law_of.G (hr.mono (by omega)) (by rfl) C__law_of.m C__law_of.kp C__law_of.b .nil pass0 (pa_cons (pv 0) (pa_cons (pe_lst (pa_cons pe_str (pa_cons pe_str (pa_cons pe_str (pa_cons pe_non (pa_cons pe_int (pa_cons pe_str (pa_cons pe_str (pa_cons pe_str (pa_cons pe_str pa_nil)))))))))) pa_nil))))
  (pss_one (ps_ret (pe_op op_catO (pe_tup (pa_cons (pv 3) pa_nil)) (pe_slice sl_tupO (pv 1) (po_some pe_int) po_none))))) pss_nil)
  (pss_cons (ps_if (pt_cmpR op_eq (pv 2) pe_int (nomark _)) (pss_one (ps_ret (pe_call C__law_of.G (hr.mono (by omega)) (by rfl) C__law_of.m C__law_of.kp C__law_of.b .nil pass0 (pa_cons (pv 0) (pa_cons (pe_lst (pa_cons pe_non (pa_cons pe_str (pa_cons pe_int (pa_cons (pe_tup pa_nil) (pa_cons (pe_tup (pa_cons pe_str (pa_cons pe_str pa_nil))) (pa_cons (pe_tup (pa_cons pe_str (pa_cons pe_str pa_nil))) (pa_cons (pe_tup (pa_cons pe_str (pa_cons pe_str pa_nil))) (pa_cons (pe_tup (pa_cons pe_str (pa_cons pe_str pa_nil))) (pa_cons (pe_tup (pa_cons pe_str (pa_cons pe_str pa_nil))) pa_nil)))))))))) pa_nil))))) pss_nil)
  (pss_cons (ps_ifBy (PW.pt (pw_and (pt_cmpR op_eq (pv 2) pe_int (nomark _)) (pw_and1 (pt_cmpR op_eq (pe_ix ix_tup (pv 1) pe_int (fun _ _ => rfl)) pe_str (nomark _))))) (pss_one (ps_ret (pe_tup (pa_cons pe_str (pa_cons (pe_call C__law_of.G (hr.mono (by omega)) (by rfl) C__law_of.m C__law_of.kp C__law_of.b .nil pass0 (pa_cons (pv 0) (pa_cons (pe_lst (pa_cons (pe_un un_neg pe_int) (pa_cons pe_int (pa_cons pe_bl (pa_cons pe_bl (pa_cons pe_str (pa_cons pe_non (pa_cons (pe_op op_pow pe_int pe_int) pa_nil)))))))) pa_nil))) (pa_cons (pe_ix ix_tup (pv 1) pe_int (fun _ _ => rfl)) pa_nil)))))) pss_nil)
  (pss_cons (ps_if (pt_cmpR op_in_seq (pe_ix ix_tup (pv 1) pe_int (fun _ _ => rfl)) (pe_tup (pa_cons pe_str (pa_cons pe_str (pa_cons pe_str pa_nil)))) rfl) (pss_one (ps_ret (pe_call C__law_of.G (hr.mono (by omega)) (by rfl) C__law_of.m C__law_of.kp C__law_of.b .nil pass0 (pa_cons (pv 0) (pa_cons (pe_lst (pa_cons (pe_tup (pa_cons pe_str (pa_cons pe_str pa_nil))) (pa_cons (pe_tup (pa_cons pe_str (pa_cons pe_int pa_nil))) (pa_cons (pe_tup (pa_cons pe_str (pa_cons pe_str pa_nil))) (pa_cons (pe_tup (pa_cons pe_str (pa_cons (pe_tup (pa_cons pe_str pa_nil)) pa_nil))) (pa_cons (pv 1) pa_nil)))))) pa_nil))))) pss_nil)
  (pss_cons (ps_set (i := 4) sc_law_bent_words.nd rfl (Or.inl rfl) (pe_op op_add pe_int (pe_call C__law_pull.G (hr.mono (by omega)) (by rfl) C__law_pull.m C__law_pull.kp C__law_pull.b .nil pass0 (pa_cons (pv 0) (pa_cons (pe_op op_sub (pe_callB call_lenB (by rfl) T.z_len (by decide +kernel) (pa_cons (pv 1) pa_nil)) pe_int) pa_nil)))))
  (pss_cons (ps_set (i := 5) sc_law_bent_words.nd rfl (Or.inl rfl) (pe_cut (pe_ifExp (pt_val (pe_callB call_isD (by rfl) T.z_isinstance (by decide +kernel) (pa_cons (pe_ix ix_tup (pv 1) (pv 4) (fun _ _ => rfl)) (pa_cons (pe_bltn (v := .ty "tuple") (u := .type "tuple") (by rfl) T.z_tuple (by decide +kernel) rfl) pa_nil)))) (pe_ix ix_tup (pv 1) (pv 4) (fun _ _ => rfl)) (pe_ix ix_tup (pv 1) pe_int (fun _ _ => rfl)))))
  (pss_one (ps_ret (pe_op op_catO (pe_op op_catO (pe_slice sl_tupO (pv 1) po_none (po_some (pv 4))) (pe_tup (pa_cons (pe_call C__law_bent_words.G (hr.mono (by omega)) (by rfl) C__law_bent_words.m C__law_bent_words.kp C__law_bent_words.b .nil pass0 (pa_cons (pv 0) (pa_cons (pv 5) pa_nil))) pa_nil))) (pe_slice sl_tupO (pv 1) (po_some (pe_op op_add (pv 4) pe_int)) po_none)))))))))))))), ?_⟩
  refine ⟨_, rfl, l, b, 8, rfl, by decide, by decide, hB, fun r1 H1 r10 r11 k1 B1 => ?_⟩
  have hv := hv.tp (hB.tp k1)
  obtain ⟨a, x, vr, rfl, tt, lv, lx, bv, kind⟩ := hv.bn B1 ok
  have pw : 1 ≤ 2 ^ sn.nest := Nat.one_le_two_pow
  have q : ∀ (w : V) (H' : Hp) (n z : Nat), BnD K b H' w n z → n ≤ 3 * sn.nest + 8 → z ≤ 14 * 2 ^ sn.nest + 20 * sn.nest + 20 → Kp b H1 H' → Bag l H' b → Q w H' := fun w H' n z h1 h2 h3 h4 h5 => by
    obtain ⟨d, a1, a2, a3, a4⟩ := h1
    exact q w d H' a1 (Nat.le_trans a2 h2) a3 (Nat.le_trans a4 h3) (k1.trans h4) h5
  clear k1 hB
  have bx : BnD K b H1 (.str x) (sn.nest + 1) 1 := .str lx
  have ba : BnL K b H1 (.str x :: vr) (sn.nest + 1) (1 + (7 * 2 ^ sn.nest - 6)) := .cons bx bv
  have la : (V.str x :: vr).length ≤ 3 := by show vr.length + 1 ≤ 3; omega
  -- a list
  refine ⟨_, rfl, rfl, _, rfl, ite2 (fun e => ?_) (fun e0 => ?_)⟩
  · refine ⟨_, rfl, a, _, rfl, .inr tt.sq, fun p2 n2 => ?_⟩
    have s2 := same_new (o := .lst (V.str x :: vr)) n2
    exact q _ _ _ _ (.lst (B1.ne n2) upd_same (ba.same s2)) (by omega) (by omega) (same_kp s2) (B1.same s2)
  -- one part more
  refine ⟨_, rfl, rfl, _, rfl, ite2 (fun e => ?_) (fun e1 => ?_)⟩
  · refine ⟨_, rfl, (by show 1 ≤ sizeLine; decide), fun p1 n1 => ⟨(by show 1 ≤ sizeLine; decide), fun p2 n2 => ?_⟩⟩
    have s1 := same_new (o := .tup [.str "true"]) n1
    have s2 := same_new (o := .tup [.ref p1]) n2
    refine rd_cat (tt.same (s1.trans s2)) (.of upd_same) (by show _ + 1 ≤ 100000; omega) fun p3 H3 s3 t3 => ?_
    have sA := (s1.trans s2).trans s3
    have B3 := B1.same sA
    have b1 : BnD K b H3 (.ref p1) 1 2 := (BnD.tup (B1.same s1) (.of upd_same) (.one (.str (by decide +kernel) : BnD K b _ _ 0 1))).same (s2.trans s3)
    exact q _ _ _ _ (.tup B3 t3 ((ba.same sA).app ((BnL.one b1).mono (by omega) (Nat.le_refl _)))) (by omega) (by omega) (same_kp sA) B3
  -- one part less
  refine ⟨_, rfl, rfl, _, rfl, ite2 (fun e => ?_) (fun e2 => ?_)⟩
  · refine ⟨_, rfl, _, rfl, _, rfl, rd_sl tt fun p2 H2 s2 t2 => ?_⟩
    exact q _ _ _ _ (.tup (B1.same s2) t2 (ba.same s2).cut) (by omega) (by omega) (same_kp s2) (B1.same s2)
  -- another word
  refine ⟨_, rfl, rfl, _, rfl, ite2 (fun e => ?_) (fun e3 => ?_)⟩
  · refine ⟨_, rfl, (by show 9 ≤ sizeLine; decide), fun D nD => ?_⟩
    have sD := same_new (o := .lst [.str "True", .str "nor", .str "", .non, .int 0, .str "name", .str "shown", .str "not", .str "and"]) nD
    refine ⟨l, b, D, _, rfl, B1.same sD, .inl ⟨B1.ne nD, upd_same⟩, by simp, fun y H2 hy k2 B2 => ?_⟩
    have by_ : BnD K b H2 y (sn.nest + 1) 1 := by
      simp only [List.mem_cons, List.not_mem_nil, or_false] at hy
      rcases hy with h | h | h | h | h | h | h | h | h <;> subst h
      · exact .str (by decide +kernel)
      · exact .str (by decide +kernel)
      · exact .str (by decide +kernel)
      · exact .non
      · exact .int _
      · exact .str (by decide +kernel)
      · exact .str (by decide +kernel)
      · exact .str (by decide +kernel)
      · exact .str (by decide +kernel)
    have kA := (same_kp sD).trans k2
    have tA := (same_tp sD).trans ((B1.same sD).tp k2)
    refine ⟨_, rfl, (by show 1 ≤ sizeLine; decide), fun p3 n3 => ⟨_, rfl, 1, rfl, ?_⟩⟩
    have s3 := same_new (o := .tup [y]) n3
    refine rd_from 1 ((tt.tp tA).same s3) fun p4 H4 s4 t4 => rd_cat ((TT.of upd_same).same s4) t4 (by show 1 + vr.length ≤ 100000; omega) fun p5 H5 s5 t5 => ?_
    have sB := (s3.trans s4).trans s5
    refine q _ _ _ _ (.tup (B2.same sB) t5 ((BnL.one (by_.same sB)).app ((bv.kp kA).same sB))) (by omega) (by omega) (kA.trans (same_kp sB)) (B2.same sB)
  -- something else
  refine ⟨_, rfl, rfl, _, rfl, ite2 (fun e => ?_) (fun e4 => ?_)⟩
  · refine ⟨_, rfl, (by show 0 ≤ sizeLine; decide), fun p0 n0 => ⟨(by show 2 ≤ sizeLine; decide), fun p1 n1 => ⟨(by show 2 ≤ sizeLine; decide), fun p2 n2 => ⟨(by show 2 ≤ sizeLine; decide), fun p3 n3 => ⟨(by show 2 ≤ sizeLine; decide), fun p4 n4 => ⟨(by show 2 ≤ sizeLine; decide), fun p5 n5 => ⟨(by show 9 ≤ sizeLine; decide), fun D nD => ?_⟩⟩⟩⟩⟩⟩⟩
    have two : ∀ {H : Hp} {p : Addr} {x y : Str}, Bag l H b → H p = none → x.length ≤ 30 → y.length ≤ 30 → BnD K b (upd H p (.tup [.str x, .str y])) (.ref p) 1 3 := fun {H p x y} B n hx hy => .tup (B.same (same_new n)) (.of upd_same) (.cons (.str hx) (.one (.str hy) : BnL K b _ _ 0 1))
    have z0 := same_new (o := .tup []) n0
    have d0 : BnD K b (upd H1 p0 (.tup [])) (.ref p0) 1 3 := (BnD.tup (B1.same z0) (.of upd_same) (.nil (n := 0) (z := 0))).mono (by omega) (by omega)
    have B2 := B1.same z0
    have k2 := same_kp (b := b) z0
    generalize upd H1 p0 (.tup []) = G0 at *
    have d1 := two B2 n1 (x := "true") (y := "true") (by decide +kernel) (by decide +kernel)
    have z1 := same_new (o := .tup [.str "true", .str "true"]) n1
    have d0 := d0.same z1
    have B2 := B2.same z1
    have k2 := k2.trans (same_kp z1)
    generalize upd G0 p1 (.tup [.str "true", .str "true"]) = G1 at *
    have d2 := two B2 n2 (x := "name") (y := "And") (by decide +kernel) (by decide +kernel)
    have z2 := same_new (o := .tup [.str "name", .str "And"]) n2
    have d0 := d0.same z2
    have d1 := d1.same z2
    have B2 := B2.same z2
    have k2 := k2.trans (same_kp z2)
    generalize upd G1 p2 (.tup [.str "name", .str "And"]) = G2 at *
    have d3 := two B2 n3 (x := "name") (y := "abcdefg") (by decide +kernel) (by decide +kernel)
    have z3 := same_new (o := .tup [.str "name", .str "abcdefg"]) n3
    have d0 := d0.same z3
    have d1 := d1.same z3
    have d2 := d2.same z3
    have B2 := B2.same z3
    have k2 := k2.trans (same_kp z3)
    generalize upd G2 p3 (.tup [.str "name", .str "abcdefg"]) = G3 at *
    have d4 := two B2 n4 (x := "name") (y := "") (by decide +kernel) (by decide +kernel)
    have z4 := same_new (o := .tup [.str "name", .str ""]) n4
    have d0 := d0.same z4
    have d1 := d1.same z4
    have d2 := d2.same z4
    have d3 := d3.same z4
    have B2 := B2.same z4
    have k2 := k2.trans (same_kp z4)
    generalize upd G3 p4 (.tup [.str "name", .str ""]) = G4 at *
    have d5 := two B2 n5 (x := "name") (y := "or") (by decide +kernel) (by decide +kernel)
    have z5 := same_new (o := .tup [.str "name", .str "or"]) n5
    have d0 := d0.same z5
    have d1 := d1.same z5
    have d2 := d2.same z5
    have d3 := d3.same z5
    have d4 := d4.same z5
    have B2 := B2.same z5
    have k2 := k2.trans (same_kp z5)
    generalize upd G4 p5 (.tup [.str "name", .str "or"]) = G5 at *
    have zD := same_new (o := .lst [.non, .str "true", .int 0, .ref p0, .ref p1, .ref p2, .ref p3, .ref p4, .ref p5]) nD
    refine ⟨l, b, D, _, rfl, B2.same zD, .inl ⟨B2.ne nD, upd_same⟩, by simp, fun y H7 m7 k7 B7 => ?_⟩
    have kk := (same_kp zD).trans k7
    have : BnD K b H7 y 1 3 := by
      simp only [List.mem_cons, List.not_mem_nil, or_false] at m7
      rcases m7 with h | h | h | h | h | h | h | h | h <;> subst h
      · exact BnD.non.mono (Nat.le_refl _) (by omega)
      · exact (BnD.str (by decide +kernel)).mono (Nat.le_refl _) (by omega)
      · exact (BnD.int _).mono (Nat.le_refl _) (by omega)
      · exact d0.kp kk
      · exact d1.kp kk
      · exact d2.kp kk
      · exact d3.kp kk
      · exact d4.kp kk
      · exact d5.kp kk
    exact q _ _ _ _ this (by omega) (by omega) (k2.trans kk) B7
  -- another level
  refine ⟨fun H' => H' = H1 ∧ x = "shown", fun H' => H' = H1, ?_, fun H2 e => ?_, fun H2 e => ?_⟩
  · refine ⟨_, rfl, rfl, _, rfl, ite2 (fun e => ⟨_, rfl, a, _, _, _, rfl, rfl, tt.sq, atI_nat (j := 0) rfl, rfl, _, rfl, ite2 (fun e => ⟨rfl, V.str.inj (of_decide_eq_true e)⟩) (fun e => rfl)⟩) (fun e => rfl)⟩
  · obtain ⟨rfl, ex⟩ := e
    subst ex
    obtain ⟨k, u, a1, _, rfl, gu, gok, gn⟩ : ∃ k u a1, True ∧ vr = [.int k, u] ∧ SeA K H2 u a1 ∧ a1.ok m ∧ a1.nest + 1 ≤ sn.nest := by
      rcases kind with ⟨_, h⟩ | ⟨k, u, a1, _, h1, h2, h3, h4⟩ | ⟨_, h, _⟩
      · exact absurd rfl h
      · exact ⟨k, u, a1, trivial, h1, h2, h3, h4⟩
      · exact absurd rfl h
    have pm := two_pow gn
    refine ⟨_, rfl, _, rfl, _, _, rfl, rfl, ⟨by decide, by decide, by decide⟩, (by show 7 ≤ sizeLine; decide), fun D nD => ?_⟩
    have sD := same_new (o := .lst [.int (-1), .int 3, .bl true, .bl false, .str "0", .non, .int (10 ^ 20)]) nD
    refine ⟨l, b, D, _, rfl, B1.same sD, .inl ⟨B1.ne nD, upd_same⟩, by simp, fun y H3 hy k3 B3 => ?_⟩
    have kA := (same_kp sD).trans k3
    have tA := (same_tp sD).trans ((B1.same sD).tp k3)
    have by_ : BnD K b H3 y (sn.nest + 1) 1 := by
      simp only [List.mem_cons, List.not_mem_nil, or_false] at hy
      rcases hy with h | h | h | h | h | h | h <;> subst h
      · exact .int _
      · exact .int _
      · exact .bl _
      · exact .bl _
      · exact .str (by decide +kernel)
      · exact .non
      · exact .int _
    refine ⟨_, rfl, a, _, _, _, rfl, rfl, (tt.tp tA).sq, atI_nat (j := 2) rfl, (by show 3 ≤ sizeLine; decide), fun p np => ?_⟩
    have s4 := same_new (o := .tup [.str "shown", y, u]) np
    have bu := BnD.se B3 (gu.tp tA) gok
    exact q _ _ _ _ (.tup (B3.same s4) (.of upd_same) (.cons (n := sn.nest + 1) (.str (by decide +kernel)) (.cons (by_.same s4) (.one ((bu.same s4).mono (by omega) (Nat.le_refl _)))))) (by omega) (by omega) (kA.trans (same_kp s4)) (B3.same s4)
  obtain rfl : H2 = H1 := e
  -- no parts
  refine ⟨_, rfl, a, _, _, _, rfl, rfl, tt.sq, atI_nat (j := 0) rfl, (by show 3 ≤ sizeLine; decide), fun p1 n1 => ⟨p1, _, rfl, .inr (TT.of upd_same).sq, rfl, rfl, _, rfl, ?_⟩⟩
  have z1 := same_new (o := .tup [.str "true", .str "false", .str "name"]) n1
  have q : ∀ (w : V) (H' : Hp) (n z : Nat), BnD K b H' w n z → n ≤ 3 * sn.nest + 8 → z ≤ 14 * 2 ^ sn.nest + 20 * sn.nest + 20 → Kp b (upd H2 p1 (.tup [.str "true", .str "false", .str "name"])) H' → Bag l H' b → Q w H' := fun w H' n z h1 h2 h3 h4 h5 => q w H' n z h1 h2 h3 ((same_kp z1).trans h4) h5
  have tt := tt.same z1
  have hv := hv.same z1
  have ba := ba.same z1
  have B1 := B1.same z1
  have kind : (inV (.str x) [V.str "true", V.str "false", V.str "name"] = true ∧ ¬ x = "shown") ∨
      (∃ k u a, x = "shown" ∧ vr = [.int k, u] ∧ SeA K (upd H2 p1 (.tup [.str "true", .str "false", .str "name"])) u a ∧ a.ok m ∧ a.nest + 1 ≤ sn.nest) ∨
      (inV (.str x) [V.str "true", V.str "false", V.str "name"] = false ∧ ¬ x = "shown" ∧ vr ≠ [] ∧ ∀ u ∈ vr, ∃ a, SeA K (upd H2 p1 (.tup [.str "true", .str "false", .str "name"])) u a ∧ a.ok m ∧ a.nest + 1 ≤ sn.nest) := by
    rcases kind with h | ⟨k, u, a, h1, h2, h3, h4⟩ | ⟨h1, h2, h3, h4⟩
    · exact .inl h
    · exact .inr (.inl ⟨k, u, a, h1, h2, h3.same z1, h4⟩)
    · refine .inr (.inr ⟨h1, h2, h3, fun u hu => ?_⟩)
      obtain ⟨a, h5, h6⟩ := h4 u hu
      exact ⟨a, h5.same z1, h6⟩
  clear bv bx
  clear n1
  generalize upd H2 p1 (.tup [.str "true", .str "false", .str "name"]) = G0 at *
  clear z1
  refine ite2 (fun e => ?_) (fun e => ?_)
  · refine ⟨_, rfl, (by show 2 ≤ sizeLine; decide), fun p1 n1 => ⟨(by show 2 ≤ sizeLine; decide), fun p2 n2 => ⟨(by show 2 ≤ sizeLine; decide), fun p3 n3 => ⟨(by show 1 ≤ sizeLine; decide), fun p4 n4 => ⟨(by show 2 ≤ sizeLine; decide), fun p5 n5 => ⟨_, rfl, (by show 5 ≤ sizeLine; decide), fun D nD => ?_⟩⟩⟩⟩⟩⟩
    have two : ∀ {H : Hp} {p : Addr} {x : Str} {y : V} {n z : Nat}, Bag l H b → H p = none → x.length ≤ 30 → BnD K b H y n z → BnD K b (upd H p (.tup [.str x, y])) (.ref p) (n + 1) (1 + z + 1) := fun {H p x y n z} B np hx hy => .tup (B.same (same_new np)) (.of upd_same) (.cons (.str hx) (.one (hy.same (same_new np))))
    have lnm : ("name" : Str).length ≤ 30 := by decide +kernel
    have d1 := two B1 n1 lnm (.str (n := 0) (by decide +kernel : ("a1" : Str).length ≤ 30))
    have z1 := same_new (o := .tup [.str "name", .str "a1"]) n1
    have B2 := B1.same z1
    have d0 := (BnD.se B1 hv ok).same z1
    have k2 := same_kp (b := b) z1
    generalize upd G0 p1 (.tup [.str "name", .str "a1"]) = G1 at *
    have d2 := two B2 n2 lnm (.int (n := 0) 3)
    have z2 := same_new (o := .tup [.str "name", .int 3]) n2
    have d0 := d0.same z2
    have d1 := d1.same z2
    have B2 := B2.same z2
    have k2 := k2.trans (same_kp z2)
    generalize upd G1 p2 (.tup [.str "name", .int 3]) = G2 at *
    have d3 := two B2 n3 lnm (.str (n := 0) (by decide +kernel : ("then" : Str).length ≤ 30))
    have z3 := same_new (o := .tup [.str "name", .str "then"]) n3
    have d0 := d0.same z3
    have d1 := d1.same z3
    have d2 := d2.same z3
    have B2 := B2.same z3
    have k2 := k2.trans (same_kp z3)
    generalize upd G2 p3 (.tup [.str "name", .str "then"]) = G3 at *
    have z4 := same_new (o := .tup [.str "a"]) n4
    have d4 : BnD K b (upd G3 p4 (.tup [.str "a"])) (.ref p4) 1 2 := .tup (B2.same z4) (.of upd_same) (.one (.str (by decide +kernel)))
    have d0 := d0.same z4
    have d1 := d1.same z4
    have d2 := d2.same z4
    have d3 := d3.same z4
    have B2 := B2.same z4
    have k2 := k2.trans (same_kp z4)
    generalize upd G3 p4 (.tup [.str "a"]) = G4 at *
    have d5 := two B2 n5 lnm d4
    have z5 := same_new (o := .tup [.str "name", .ref p4]) n5
    have d0 := d0.same z5
    have d1 := d1.same z5
    have d2 := d2.same z5
    have d3 := d3.same z5
    have B2 := B2.same z5
    have k2 := k2.trans (same_kp z5)
    generalize upd G4 p5 (.tup [.str "name", .ref p4]) = G5 at *
    have zD := same_new (o := .lst [.ref p1, .ref p2, .ref p3, .ref p5, .ref a]) nD
    refine ⟨l, b, D, _, rfl, B2.same zD, .inl ⟨B2.ne nD, upd_same⟩, by simp, fun y H7 m7 k7 B7 => ?_⟩
    have kk := (same_kp zD).trans k7
    have : BnD K b H7 y (sn.nest + 2) (7 * 2 ^ sn.nest) := by
      simp only [List.mem_cons, List.not_mem_nil, or_false] at m7
      rcases m7 with h | h | h | h | h <;> subst h
      · exact (d1.kp kk).mono (by omega) (by omega)
      · exact (d2.kp kk).mono (by omega) (by omega)
      · exact (d3.kp kk).mono (by omega) (by omega)
      · exact (d5.kp kk).mono (by omega) (by omega)
      · exact (d0.kp kk).mono (by omega) (by omega)
    exact q _ _ _ _ this (by omega) (by omega) (k2.trans kk) B7
  -- a part bent
  have kind : vr ≠ [] ∧ ((∃ k u a, vr = [.int k, u] ∧ SeA K G0 u a ∧ a.ok m ∧ a.nest + 1 ≤ sn.nest) ∨ ∀ u ∈ vr, ∃ a, SeA K G0 u a ∧ a.ok m ∧ a.nest + 1 ≤ sn.nest) := by
    rcases kind with ⟨h, _⟩ | ⟨k, u, a, h1, h2, h3⟩ | ⟨_, _, h3, h4⟩
    · exact absurd h e
    · exact ⟨by rw [h2]; simp, .inl ⟨k, u, a, h2, h3⟩⟩
    · exact ⟨h3, .inr h4⟩
  have lv0 : 0 < vr.length := List.length_pos_iff.mpr kind.1
  have lxs : (V.str x :: vr).length = vr.length + 1 := rfl
  refine ⟨_, rfl, _, rfl, rd_len (.inr tt.sq) fun _ => ⟨_, _, rfl, rfl, l, b, _, rfl, by omega, by omega, B1, fun r3 H3 r30 r31 k3 B3 => ?_⟩⟩
  obtain ⟨k, rfl⟩ : ∃ k : Nat, r3 = (k : Nat) := ⟨r3.toNat, by omega⟩
  have hk : k < vr.length := by omega
  have t3 := B1.tp k3
  have tt := tt.tp t3
  have ba := ba.kp k3
  have q : ∀ (w : V) (H' : Hp) (n z : Nat), BnD K b H' w n z → n ≤ 3 * sn.nest + 8 → z ≤ 14 * 2 ^ sn.nest + 20 * sn.nest + 20 → Kp b H3 H' → Bag l H' b → Q w H' := fun w H' n z h1 h2 h3 h4 h5 => q w H' n z h1 h2 h3 (k3.trans h4) h5
  have pick : ∃ u, vr[k]? = some u ∧ ((∃ a0, SeA K H3 u a0 ∧ a0.ok m ∧ a0.nest + 1 ≤ sn.nest) ∨ ∃ i u2 a0, u = .int i ∧ vr[1]? = some u2 ∧ SeA K H3 u2 a0 ∧ a0.ok m ∧ a0.nest + 1 ≤ sn.nest) := by
    refine ⟨vr[k], List.getElem?_eq_getElem hk, ?_⟩
    rcases kind.2 with ⟨i, u, a0, h1, h2, h3⟩ | h
    · subst h1
      have : k = 0 ∨ k = 1 := by
        have : k < 2 := hk
        omega
      rcases this with e | e <;> subst e
      · exact .inr ⟨i, u, a0, rfl, rfl, h2.tp t3, h3⟩
      · exact .inl ⟨a0, h2.tp t3, h3⟩
    · obtain ⟨a0, h1, h2⟩ := h _ (List.getElem_mem hk)
      exact .inl ⟨a0, h1.tp t3, h2⟩
  clear k3 t3 B1 kind
  refine ⟨_, _, rfl, rfl, ?_⟩
  dsimp only
  generalize he : (1 : Int) + (k : Nat) = at_
  obtain rfl : at_ = ((k + 1 : Nat) : Int) := by omega
  clear he
  obtain ⟨u, hu, pick⟩ := pick
  have hat : atI (V.str x :: vr) ((k + 1 : Nat) : Int) = some u := atI_nat (j := k + 1) hu
  refine ⟨fun v' H' => H' = H3 ∧ ∃ a0, SeA K H3 v' a0 ∧ a0.ok m ∧ a0.nest + 1 ≤ sn.nest, ?_, fun v' H' hv' => ?_⟩
  · rcases pick with ⟨a0, g0, g1⟩ | ⟨i, u2, a0, rfl, h2, g0, g1⟩
    · obtain ⟨ds, hd⟩ := g0.dpt
      exact ⟨_, rfl, _, rfl, a, _, _, u, rfl, rfl, tt.sq, hat, rd_tuple hd ⟨_, rfl, iteT ⟨_, rfl, _, rfl, a, _, _, u, rfl, rfl, tt.sq, hat, rfl, a0, g0, g1⟩⟩⟩
    · exact ⟨_, rfl, _, rfl, a, _, _, _, rfl, rfl, tt.sq, hat, rd_tuple (.int i) ⟨_, rfl, iteF ⟨_, rfl, a, _, _, u2, rfl, rfl, tt.sq, atI_nat (j := 2) h2, rfl, a0, g0, g1⟩⟩⟩
  obtain ⟨rfl, a0, g0, ok0, gn⟩ := hv'
  have pm := two_pow gn
  refine ⟨_, rfl, _, rfl, _, rfl, rd_to (k + 1) tt fun p7 H7 s7 t7 => ?_⟩
  refine ⟨_, rfl, _, rfl, l, b, v', m, a0, rfl, B3.same s7, g0.same s7, ok0, by omega, by omega, fun w8 d8 H8 e8 dp8 so8 pz8 k8 B8 => ⟨(by show 1 ≤ sizeLine; decide), fun p9 n9 => ?_⟩⟩
  have k78 := (same_kp s7).trans k8
  have t78 := (same_tp s7).trans ((B3.same s7).tp k8)
  have s9 := same_new (o := .tup [w8]) n9
  refine rd_cat ((t7.tp ((B3.same s7).tp k8)).same s9) (.of upd_same) (by rw [List.length_take]; show _ + 1 ≤ 100000; omega) fun p11 H11 s11 t11 => ?_
  have sB := s9.trans s11
  refine ⟨_, rfl, _, rfl, _, _, rfl, rfl, _, rfl, rd_from (k + 2) ((tt.tp t78).same sB) fun p12 H12 s12 t12 => rd_cat (t11.same s12) t12 (by rw [List.length_append, List.length_take, List.length_drop]; show _ + 1 + _ ≤ 100000; omega) fun p13 H13 s13 t13 => ?_⟩
  have sC := (sB.trans s12).trans s13
  have bw : BnD K b H8 w8 (3 * a0.nest + 8) (14 * 2 ^ a0.nest + 20 * a0.nest + 20) := ⟨d8, e8, dp8, so8, pz8⟩
  have bb := (ba.kp k78).same sC
  have b1 : BnL K b H13 ((V.str x :: vr).take (k + 1) ++ [w8] ++ (V.str x :: vr).drop (k + 2)) (3 * sn.nest + 5) (14 * 2 ^ a0.nest + 20 * a0.nest + 20 + (1 + (7 * 2 ^ sn.nest - 6))) := by
    obtain ⟨ds, g1, g2, g3, g4⟩ := bb
    have l1 := dpall_len g1.dp
    refine ⟨ds.take (k + 1) ++ [d8] ++ ds.drop (k + 2), ((g1.take _).app (.cons ((e8.kp (same_kp sC))) .nil)).app (g1.drop _), ?_, sOkA_app (sOkA_app (sOkA_tk _ g3) ⟨so8, trivial⟩) (sOkA_dr _ g3), ?_⟩
    · rw [depthA_app, depthA_app]
      have h1 := depthA_tk (k + 1) ds
      have h2 := depthA_dr (k + 2) ds
      simp only [PyData.depthAll]
      omega
    · rw [psz_append, psz_append]
      have h1 := psz_cut (k + 1) ds
      have h2 : pszA (ds.drop (k + 2)) ≤ pszA (ds.drop (k + 1)) := by
        have h3 := psz_drop 1 (ds.drop (k + 1))
        rw [List.drop_drop] at h3
        exact h3
      simp only [pszA]
      omega
  exact q _ H13 _ _ (.tup (B8.same sC) t13 b1) (by omega) (by omega) (k78.trans (same_kp sC)) (B8.same sC)
theorem bent_words_all  {aTRUE : Addr} {aFALSE : Addr} {a_RESERVED : Addr} {a_HEADS : Addr} {a_PARTS : Addr} {aVowError : Addr} {aInvalidSentence : Addr} {aMissing : Addr} {aNothingLeft : Addr} {fVI : Addr} {fI_InvalidSentence : Addr} (T : Txt K mg  w aTRUE aFALSE a_RESERVED a_HEADS a_PARTS aVowError aInvalidSentence aMissing aNothingLeft fVI fI_InvalidSentence) {f f1 f2 : Addr} {fd fd1 fd2 : FuncData} (F : Fun K "_law_bent_words" "_law_bent_words" s_law_bent_words f fd) (bF : Binds K fd ["_law_bag_here", "_law_words"] []) (mF : mg "_law_bent_words" = some (.ref f))
    (C1 : Cal P w K mg base 1 "_law_pull" ["_law_bag_here", "_law_sides"] spPull f1 fd1) (C2 : Cal P w K mg base 2 "_law_of" ["_law_bag_here", "_law_some"] (spOf K) f2 fd2) : ∀ j : Nat, FnOk P w K mg base CX0 (j + 3) f fd ["_law_bag_here", "_law_words"] (spBentW K j)
  | 0 => fn_mono (none_left fun vs H Q E h => by
    obtain ⟨_, _, _, _, _, _, _, _, _, h, _⟩ := h
    exact absurd h (Nat.not_lt_zero _)) (Nat.zero_le _)
  | j + 1 => fn_mono (ok_lbent_words T F ⟨bent_words_all T F bF mF C1 C2 j, mF, F.kp, bF⟩ C1 C2) (by omega)
end
end Vw

set_option Elab.async false
set_option linter.all false
set_option maxRecDepth 100000
set_option maxHeartbeats 4000000
namespace Vw
open PySem PySem.W PyProof.Rows L2
def spLaw (K : PySem.W.Frag) : Sp := fun vs H Q _ => ∃ (a : Addr) (ns : List Int), vs = [.ref a] ∧ SqL K H a (ns.map V.int) ∧ ns.length ≤ 63 ∧ ∀ H', Q (.bl true) H'
theorem KO.at {K : PySem.W.Frag} {a : Addr} {o : O} (h : KO K a o) (H : Hp) : OA K H (.ref a) o := h.tp (fun a xs h => by cases h)
section
variable {K : PySem.W.Frag}
theorem lst2 {H : Hp} {D : Addr} {x y : V} {a b : O} (h : H D = some (.lst [x, y])) (hx : OA K H x a) (hy : OA K H y b) : Dp K H (.ref D) (.list [O.toD a, O.toD b]) := .lst (SqL.of h) (.cons hx.dp (.cons hy.dp .nil))
theorem depth2 {a b : O} (h1 : O.dp a ≤ 40) (h2 : O.dp b ≤ 40) : (PyData.list [O.toD a, O.toD b]).depth < 60 := by
  simp only [PyData.depth, PyData.depthAll, O.depth_toD]; omega
/-- a drawn ordinal -/
theorem use_ordW {l b : Addr} {r : Int} {H3 : Hp} {Q' : VK} (r0 : 0 ≤ r) (r1 : r < 4) (B : Bag l H3 b) (h : ∀ (o : O) (v : V) (H' : Hp), O.ok o = true → O.dp o ≤ 8 → O.wd o ≤ 3 → OA K H' v o → Kp b H3 H' → Bag l H' b → Q' v H') : spOrdTo K 10 [.ref b, .int r] H3 Q' E0 :=
  ⟨r.toNat, by omega, l, b, by rw [Int.toNat_of_nonneg r0], B, fun o v H' h1 h2 h3 h4 h5 h6 => h o v H' h1 (by omega) h3 h4 h5 h6⟩
theorem use_ord {l b : Addr} {r : Int} {H3 : Hp} {Q' : VK} (r0 : 0 ≤ r) (r1 : r < 4) (B : Bag l H3 b) (h : ∀ (o : O) (v : V) (H' : Hp), O.ok o = true → O.dp o ≤ 8 → (O.ts o).length ≤ 3 → OA K H' v o → Kp b H3 H' → Bag l H' b → Q' v H') : spOrdTo K 10 [.ref b, .int r] H3 Q' E0 :=
  ⟨r.toNat, by omega, l, b, by rw [Int.toNat_of_nonneg r0], B, fun o v H' h1 h2 h3 h4 h5 h6 => h o v H' h1 (by omega) (Nat.le_trans (O.len_wd o) h3) h4 h5 h6⟩
theorem use_plus {x y : O} {H : Hp} {Q' : VK} {u v : V} (h1 : OA K H u x) (h2 : OA K H v y) (h3 : O.ok x = true) (h4 : O.dp x ≤ 40) (h5 : O.dp y ≤ 40) (h6 : (O.ts x).length ≤ 100) (h7 : (O.ts y).length ≤ 100) (h8 : ∀ (v : V) (H' : Hp), Same H H' → OA K H' v (O.sum x y) → Q' v H') : spPlus K [u, v] H Q' E0 :=
  ⟨u, v, x, y, rfl, h1, h2, h3, by omega, by omega, by omega, by omega, h8⟩
end
section
variable {P : Program} {w : World} {K : PySem.W.Frag} {mg : Str → Option Value} {base : Heap}
theorem same_all  {aTRUE : Addr} {aFALSE : Addr} {a_RESERVED : Addr} {a_HEADS : Addr} {a_PARTS : Addr} {aVowError : Addr} {aInvalidSentence : Addr} {aMissing : Addr} {aNothingLeft : Addr} {fVI : Addr} {fI_InvalidSentence : Addr} (T : Txt K mg  w aTRUE aFALSE a_RESERVED a_HEADS a_PARTS aVowError aInvalidSentence aMissing aNothingLeft fVI fI_InvalidSentence) {f : Addr} {fd : FuncData} (F : Fun K "_law_same" "_law_same" s_law_same f fd) (bF : Binds K fd ["_law_found", "_law_due"] []) (mF : mg "_law_same" = some (.ref f)) :
    ∀ n : Nat, FnOk P w K mg base CX0 n f fd ["_law_found", "_law_due"] (spSame K n)
  | 0 => none_left fun vs H Q E h => by
    obtain ⟨_, _, _, _, _, _, h, _⟩ := h
    exact absurd h (Nat.not_lt_zero _)
  | n + 1 => ok_same T F ⟨same_all T F bF mF n, mF, F.kp, bF⟩
theorem one_mk {K : PySem.W.Frag} {aONE p1 q1 : Addr} {tk1 : Tok} {o1 o2 o3 : Option Addr} {n1 n2 n3 : Nat} {sl1 sl2 sl3 : Array (Option Value)} (lo1 : K.lookup aONE = some ⟨.type "tuple", o1, .seq #[.ref p1] n1, sl1⟩) (lo2 : K.lookup p1 = some ⟨.type "tuple", o2, .seq #[.ref q1, .int 1 tk1] n2, sl2⟩) (lo3 : K.lookup q1 = some ⟨.type "tuple", o3, .seq #[] n3, sl3⟩) : KO K aONE O.one :=
  ⟨aONE, [.ref p1], rfl, .inr ⟨_, _, _, lo1, rfl, rfl, by show 1 ≤ sizeLine; decide, .cons rfl .nil⟩, p1, q1, [], [], rfl, .inr ⟨_, _, _, lo2, rfl, rfl, by show 2 ≤ sizeLine; decide, .cons rfl (.cons ⟨_, rfl⟩ .nil)⟩, .inr ⟨_, _, _, lo3, rfl, rfl, by show 0 ≤ sizeLine; decide, .nil⟩, rfl, rfl⟩
end
end Vw

set_option Elab.async false
set_option linter.all false
set_option maxRecDepth 100000
set_option maxHeartbeats 4000000
namespace Vw
open PySem PySem.Spec PySem.W PyProof.Rows L2
abbrev s_law_fields : Stmt := top 23
theorem sc_law_fields : FnScope ["_law_e"] ["_law_e"] (defScope s_law_fields) := ⟨rfl, rfl, rfl, by decide +kernel, rfl, by decide +kernel, by decide +kernel⟩
abbrev s_law_told : Stmt := top 24
theorem sc_law_told : FnScope ["_law_ask_z", "_law_e"] ["_law_ask_z"] (defScope s_law_told) := ⟨rfl, rfl, rfl, by decide +kernel, rfl, by decide +kernel, by decide +kernel⟩
section
variable {P : Program} {w : World} {K : PySem.W.Frag} {mg : Str → Option Value} {base : Heap}
theorem ok_fieldsG  {aTRUE : Addr} {aFALSE : Addr} {a_RESERVED : Addr} {a_HEADS : Addr} {a_PARTS : Addr} {aVowError : Addr} {aInvalidSentence : Addr} {aMissing : Addr} {aNothingLeft : Addr} {fVI : Addr} {fI_InvalidSentence : Addr} (T : Txt K mg  w aTRUE aFALSE a_RESERVED a_HEADS a_PARTS aVowError aInvalidSentence aMissing aNothingLeft fVI fI_InvalidSentence) {f : Addr} {fd : FuncData} (F : Fun K "_law_fields" "_law_fields" s_law_fields f fd) : FnP P w K mg base 1 f fd ["_law_e"] (spFieldsG K) := by
  refine fn_ofP F sc_law_fields (fun a cls d vs H Q E h => ?_) (fun cdv A outer s H vs Q p cls d hz hf h => ?_)
  · obtain ⟨_, _, rfl, _⟩ := h; rfl
  obtain ⟨nm, fs, rfl, hA, q⟩ := h
  obtain ⟨a, oe⟩ := p
  refine ⟨_, (pss_cons (ps_if (pt_cmpR op_in_seq (pe_xfP (a := a) (oe := oe) List.mem_cons_self hz hf (pv 0)) (pe_tup (pa_cons pe_str (pa_cons pe_str (pa_cons pe_str (pa_cons pe_str (pa_cons pe_str pa_nil)))))) rfl) (pss_one (ps_ret (pe_tup (pa_cons (pe_xfP (a := a) (oe := oe) List.mem_cons_self hz hf (pv 0)) pa_nil)))) pss_nil)
  (pss_cons (ps_if (pt_cmpR op_in_seq (pe_xfP (a := a) (oe := oe) List.mem_cons_self hz hf (pv 0)) (pe_tup (pa_cons pe_str (pa_cons pe_str pa_nil))) rfl) (pss_one (ps_ret (pe_tup (pa_cons (pe_xfP (a := a) (oe := oe) List.mem_cons_self hz hf (pv 0)) pa_nil)))) pss_nil)
  (pss_cons (ps_if (pt_cmpR op_in_seq (pe_xfP (a := a) (oe := oe) List.mem_cons_self hz hf (pv 0)) (pe_tup (pa_cons pe_str (pa_cons pe_str pa_nil))) rfl) (pss_one (ps_ret (pe_tup (pa_cons (pe_xfP (a := a) (oe := oe) List.mem_cons_self hz hf (pv 0)) pa_nil)))) pss_nil)
  (pss_cons (ps_if (pt_cmpR op_eq (pe_xfP (a := a) (oe := oe) List.mem_cons_self hz hf (pv 0)) pe_str (nomark _)) (pss_one (ps_ret (pe_tup (pa_cons (pe_xfP (a := a) (oe := oe) List.mem_cons_self hz hf (pv 0)) pa_nil)))) pss_nil)
  (pss_one (ps_ret (pe_ifExp (pt_cmpR op_eq (pe_xfP (a := a) (oe := oe) List.mem_cons_self hz hf (pv 0)) pe_str (nomark _)) (pe_tup (pa_cons (pe_xfP (a := a) (oe := oe) List.mem_cons_self hz hf (pv 0)) pa_nil)) (pe_tup pa_nil)))))))), ?_⟩
  obtain ⟨C, dd, rfl, rfl, hx, hno, hdd, cl, hfl⟩ := id hA.ex
  have one : ∀ (f : Str) (H' : Hp), fldC nm = some f → Same H H' → ∃ v, PySem.W.findIn K (.ref C) f = some none ∧ H' dd = some (.xd fs) ∧ fs.lookup f = some v ∧ ∀ p, H' p = none → Q (.ref p) (upd H' p (.tup [v])) := fun f H' e s => by
    obtain ⟨h1, v, h2⟩ := hfl f e
    refine ⟨v, h1, s _ _ hdd, h2, fun p np => q p _ (s.trans (same_new np)) ?_⟩
    rw [fldV_some e h2]; exact .of upd_same
  refine ⟨_, rfl, rfl, C, dd, fs, .str nm, rfl, rfl, hx, hno, hdd, cl, (by show 5 ≤ sizeLine; decide), fun p1 n1 => ⟨p1, grp1, rfl, .inr (TT.of upd_same).sq, rfl, rfl, _, rfl, ?_⟩⟩
  have s1 := same_new (o := .tup grp1) n1
  refine ite2 (fun e => ?_) (fun h1 => ?_)
  · have h1 : inV (.str nm) grp1 = true := e
    obtain ⟨v, a1, a2, a3, a4⟩ := one "name" _ (by unfold fldC; rw [if_pos h1]) s1
    exact ⟨_, rfl, rfl, C, dd, fs, v, rfl, rfl, hx, a1, a2, a3, (by show 1 ≤ sizeLine; decide), a4⟩
  have h1 : ¬ inV (.str nm) grp1 = true := h1
  refine ⟨_, rfl, rfl, C, dd, fs, .str nm, rfl, rfl, hx, hno, s1 _ _ hdd, cl, (by show 2 ≤ sizeLine; decide), fun p2 n2 => ⟨p2, grp2, rfl, .inr (TT.of upd_same).sq, rfl, rfl, _, rfl, ?_⟩⟩
  have s2 := s1.trans (same_new (o := .tup grp2) n2)
  refine ite2 (fun e => ?_) (fun h2 => ?_)
  · have h2 : inV (.str nm) grp2 = true := e
    obtain ⟨v, a1, a2, a3, a4⟩ := one "index" _ (by unfold fldC; rw [if_neg h1, if_pos h2]) s2
    exact ⟨_, rfl, rfl, C, dd, fs, v, rfl, rfl, hx, a1, a2, a3, (by show 1 ≤ sizeLine; decide), a4⟩
  have h2 : ¬ inV (.str nm) grp2 = true := h2
  refine ⟨_, rfl, rfl, C, dd, fs, .str nm, rfl, rfl, hx, hno, s2 _ _ hdd, cl, (by show 2 ≤ sizeLine; decide), fun p3 n3 => ⟨p3, grp3, rfl, .inr (TT.of upd_same).sq, rfl, rfl, _, rfl, ?_⟩⟩
  have s3 := s2.trans (same_new (o := .tup grp3) n3)
  refine ite2 (fun e => ?_) (fun h3 => ?_)
  · have h3 : inV (.str nm) grp3 = true := e
    obtain ⟨v, a1, a2, a3, a4⟩ := one "most" _ (by unfold fldC; rw [if_neg h1, if_neg h2, if_pos h3]) s3
    exact ⟨_, rfl, rfl, C, dd, fs, v, rfl, rfl, hx, a1, a2, a3, (by show 1 ≤ sizeLine; decide), a4⟩
  have h3 : ¬ inV (.str nm) grp3 = true := h3
  refine ⟨_, rfl, rfl, C, dd, fs, .str nm, rfl, rfl, hx, hno, s3 _ _ hdd, cl, rfl, _, rfl, ?_⟩
  refine ite2 (fun e => ?_) (fun h4 => ?_)
  · have h4 : V.str nm = V.str "InvalidLimit" := of_decide_eq_true e
    obtain ⟨v, a1, a2, a3, a4⟩ := one "value" _ (by unfold fldC; rw [if_neg h1, if_neg h2, if_neg h3, if_pos h4]) s3
    exact ⟨_, rfl, rfl, C, dd, fs, v, rfl, rfl, hx, a1, a2, a3, (by show 1 ≤ sizeLine; decide), a4⟩
  have h4 : ¬ V.str nm = V.str "InvalidLimit" := fun z => h4 (decide_eq_true z)
  refine ⟨_, rfl, rfl, C, dd, fs, .str nm, rfl, rfl, hx, hno, s3 _ _ hdd, cl, rfl, _, rfl, ?_⟩
  refine ite2 (fun e => ?_) (fun h5 => ?_)
  · have h5 : V.str nm = V.str "ParseError" := of_decide_eq_true e
    obtain ⟨v, a1, a2, a3, a4⟩ := one "line" _ (by unfold fldC; rw [if_neg h1, if_neg h2, if_neg h3, if_neg h4, if_pos h5]) s3
    exact ⟨_, rfl, rfl, C, dd, fs, v, rfl, rfl, hx, a1, a2, a3, (by show 1 ≤ sizeLine; decide), a4⟩
  have h5 : ¬ V.str nm = V.str "ParseError" := fun z => h5 (decide_eq_true z)
  refine ⟨(by show 0 ≤ sizeLine; decide), fun p4 n4 => q p4 _ (s3.trans (same_new n4)) ?_⟩
  rw [fldV_none (by unfold fldC; rw [if_neg h1, if_neg h2, if_neg h3, if_neg h4, if_neg h5])]
  exact .of upd_same
structure CalF (P : Program) (w : World) (K : PySem.W.Frag) (mg : Str → Option Value) (base : Heap) (k : Nat) (x : Str) (ps : List Str) (sp : Addr → Value → Option Addr → Sp) (f : Addr) (fd : FuncData) : Prop where
  G : FnP P w K mg base k f fd ps sp
  m : mg x = some (.ref f)
  kp : PySem.W.keepIn K (.ref f) = true
  b : Binds K fd ps []
structure CalT (K : PySem.W.Frag) (mg : Str → Option Value) (st : Stmt) (f : Addr) (fd : FuncData) : Prop where
  F : Fun K "_law_told" "_law_told" st f fd
  m : mg "_law_told" = some (.ref f)
  b : Binds K fd ["_law_ask_z"] []
/-- told(lambda: ..), errors with fields too -/
theorem pe_toldG {X : Cx}  {aTRUE : Addr} {aFALSE : Addr} {a_RESERVED : Addr} {a_HEADS : Addr} {a_PARTS : Addr} {aVowError : Addr} {aInvalidSentence : Addr} {aMissing : Addr} {aNothingLeft : Addr} {fVI : Addr} {fI_InvalidSentence : Addr} (T : Txt X.K X.mg  w aTRUE aFALSE a_RESERVED a_HEADS a_PARTS aVowError aInvalidSentence aMissing aNothingLeft fVI fI_InvalidSentence) {g ff cl Pl : Addr} {fd fdf : FuncData} {q : Str} {k : Nat} {p lpos pos : Pos} {params : Arguments} {body : Expr} {scope : Scope} {t : XK → TE} (Ct : CalT X.K X.mg s_law_told g fd) (Cf : CalF X.prog X.w X.K X.mg X.base 1 "_law_fields" ["_law_e"] (spFieldsG X.K) ff fdf)
    (TB : LamX.TabB X.base X.mg cl Pl) (hcode : X.env.code = .ref cl) (hq : X.env.qual ++ "<lambda>" = q) (hr : Room (k + 2) X.A) (hr3 : Room 3 X.A) (L : LamX.LamS X.env.scope scope) (hdef : defaultsOf params X.env = ([], []))
    (hbind : ∀ (q : Str) (cl : List (Str × Addr)) (pm cv ctv : Value), bindArgs (PySem.W.kla_fn "<lambda>" q params body scope cl pm cv ctv) ⟨[], []⟩ = pure [])
    (hbody : ∀ (A : Around) (outer : List Env) (s : Shared) (H : Hp) (E : XK) (f c' : Addr), Room k (A.deeper (LamX.lamEnv X scope s.heap.objs.size f c')) → PE (LamX.lamCx X A outer s H E scope f c') body (t E)) (hg : Gl X "_law_told") :
    PE X (.Call (.Name "_law_told" p) [.Lambda params body scope lpos] [] pos) (LamX.tLam [(Pl, q)] (TTold3G X.K [.ref aVowError, .ref aMissing, .ref aNothingLeft]) t) := by
  obtain ⟨oc, od, kV, dc, pm, an, cdv, ct, osl, rfl, lk, hct⟩ := Ct.F.ex
  subst hq
  refine LamX.pe_lamcall (Ng := ["_law_ask_z", "_law_e"]) hg Ct.m Ct.F.kp lk hct Ct.b sc_law_told rfl (.inl rfl) ?_ TB hcode List.mem_cons_self (fun p hp _ => by rw [List.mem_singleton.mp hp]) hr L hdef hbind hbody
  exact told_gives3G (ff := ff) (xf := "_law_fields") (x1 := "VowError") (x2 := "Missing") (x3 := "NothingLeft") hr3 Cf.G Cf.m Cf.kp Cf.b rfl (by decide) rfl T.m_VowError (by decide) rfl T.m_Missing (by decide) rfl T.m_NothingLeft (by decide) sc_law_told.nd rfl rfl (fun _ => rfl) (by decide)
end
end Vw

set_option Elab.async false
set_option linter.all false
set_option maxRecDepth 100000
set_option maxHeartbeats 4000000
namespace Vw
open PySem PySem.Spec PySem.W PyProof.Rows L2
abbrev sVI : Stmt := match top 1 with | .ClassDef (body := b) .. => b.getD 0 (.Pass ⟨0, 0, 0, 0⟩) | s => s
abbrev sI_InvalidSentence : Stmt := match top 2 with | .ClassDef (body := b) .. => b.getD 0 (.Pass ⟨0, 0, 0, 0⟩) | s => s
section
variable {P : Program} {w : World} {K : PySem.W.Frag} {mg : Str → Option Value} {base : Heap}
theorem ok_VIF {fVI C C0 fI fV : Addr} {fd : FuncData} {nm fl : Str} (F : Fun K "__init__" "VowError.__init__" sVI fVI fd) (R : RzF K C C0 fI fV nm fl) : FnOk P w K mg base CX0 1 fVI fd ["self"] (spInit C nm) :=
  ok_initC (k := 0) F R.rz rfl ⟨rfl, rfl, rfl, by decide +kernel, rfl, by decide +kernel, by decide +kernel⟩ (.inl rfl)
theorem ok_I_InvalidSentence  {aTRUE : Addr} {aFALSE : Addr} {a_RESERVED : Addr} {a_HEADS : Addr} {a_PARTS : Addr} {aVowError : Addr} {aInvalidSentence : Addr} {aMissing : Addr} {aNothingLeft : Addr} {fVI : Addr} {fI_InvalidSentence : Addr} (T : Txt K mg  w aTRUE aFALSE a_RESERVED a_HEADS a_PARTS aVowError aInvalidSentence aMissing aNothingLeft fVI fI_InvalidSentence) {fd fdV : FuncData} (F : Fun K "__init__" "InvalidSentence.__init__" sI_InvalidSentence fI_InvalidSentence fd) (FV : Fun K "__init__" "VowError.__init__" sVI fVI fdV) (bV : Binds K fdV ["self"] []) : FnOk P w K mg base CX0 2 fI_InvalidSentence fd ["self", "index"] (spInitF aInvalidSentence "InvalidSentence" "index") :=
  ok_initF F T.rz_InvalidSentence (ok_VIF FV T.rz_InvalidSentence) bV T.m_VowError rfl ⟨rfl, rfl, rfl, by decide +kernel, rfl, by decide +kernel, by decide +kernel⟩ (.inl rfl) (.inl rfl) rfl (by decide) (by decide) (fun _ => rfl) (fun _ => ⟨_, rfl⟩)
abbrev scheck_sentence : Stmt := top 16
theorem sccheck_sentence : FnScope ["levels", "value", "index"] ["levels", "value", "index"] (defScope scheck_sentence) := ⟨rfl, rfl, rfl, by decide +kernel, rfl, by decide +kernel, by decide +kernel⟩
def okSe (K : PySem.W.Frag) : List V → Hp → Bool → V → Prop := fun vs H b y => ∃ (m : Int) (x : V) (d : PyData), vs = [.int m, x, y] ∧ Dp K H x d ∧ sOk d ∧ psz d ≤ 100000 ∧ b = isSeB m d
theorem ok_check_sentence  {aTRUE : Addr} {aFALSE : Addr} {a_RESERVED : Addr} {a_HEADS : Addr} {a_PARTS : Addr} {aVowError : Addr} {aInvalidSentence : Addr} {aMissing : Addr} {aNothingLeft : Addr} {fVI : Addr} {fI_InvalidSentence : Addr} (T : Txt K mg  w aTRUE aFALSE a_RESERVED a_HEADS a_PARTS aVowError aInvalidSentence aMissing aNothingLeft fVI fI_InvalidSentence) {f f1 : Addr} {fd fd1 fd_I : FuncData} (F : FunD K "check_sentence" "check_sentence" (defArgs scheck_sentence) (defBody scheck_sentence) (defScope scheck_sentence) [] [("index", .int 0)] f fd) (C_is_sentence : Cal P w K mg base 3 "is_sentence" ["levels", "value"] (spIsSe K) f1 fd1)
    (G_I_InvalidSentence : FnOk P w K mg base CX0 2 fI_InvalidSentence fd_I ["self", "index"] (spInitF aInvalidSentence "InvalidSentence" "index")) (b_I_InvalidSentence : Binds K fd_I ["self", "index"] []) : FnOk P w K mg base (L2.CX P w) 4 f fd ["levels", "value", "index"] (spChkF aInvalidSentence "InvalidSentence" "index" (okSe K)) := by
  refine F.ok sccheck_sentence (fun vs H Q E h => ?_) (fun cdv A outer s H vs Q E hr h => ?_)
  · obtain ⟨_, _, ⟨_, _, _, rfl, _⟩, _⟩ := h; rfl
  obtain ⟨b, y, ⟨m, x, d, rfl, hx, hs, hz, rfl⟩, q1, q2⟩ := h
  refine ⟨_, (pss_one (ps_if (pt_not (pt_val (pe_call C_is_sentence.G (hr.mono (by omega)) (by rfl) C_is_sentence.m C_is_sentence.kp C_is_sentence.b .nil pass0 (pa_cons (pv 0) (pa_cons (pv 1) pa_nil))))) (pss_one (ps_rzF T.rz_InvalidSentence rfl G_I_InvalidSentence b_I_InvalidSentence (hr.mono (by omega)) (by rfl) T.m_InvalidSentence (takes_of rfl rfl rfl rfl) (pv 2))) pss_nil)), ?_⟩
  refine ⟨_, rfl, _, rfl, m, x, d, rfl, hx, hs, hz, fun H1 s1 => ⟨_, rfl, ?_⟩⟩
  cases hb : isSeB m d with
  | true => exact iteF (q1 hb H1 s1)
  | false => exact iteT ⟨_, rfl, fun dd H2 s2 _ hdd => q2 hb dd H2 (s1.trans s2) hdd⟩
theorem sentence_binds {f : Addr} {fd : FuncData} (F : FunD K "check_sentence" "check_sentence" (defArgs scheck_sentence) (defBody scheck_sentence) (defScope scheck_sentence) [] [("index", .int 0)] f fd) : ∃ ds, Vals [.int 0] ds ∧ Binds K fd ["levels", "value", "index"] ds :=
  F.binds0 2 (by simp) rfl fun D doc pm an cdv ct us ks h1 h2 => by
    match us, ks, h1, h2 with
    | [u, v], [t], _, _ => exact ⟨_, _, _, _, _, _, rfl, rfl, rfl⟩
theorem sentence_kbinds {f : Addr} {fd : FuncData} (F : FunD K "check_sentence" "check_sentence" (defArgs scheck_sentence) (defBody scheck_sentence) (defScope scheck_sentence) [] [("index", .int 0)] f fd) : KBinds K fd ["levels", "value", "index"] ["index"] twoG twoG :=
  kb_ofD F twoG twoG two_rel (by simp) fun _ _ _ _ _ _ us ws hl => by
    match us, ws, hl with
    | [_, _], [_], _ => rfl
    | [], _, h => cases h
    | [_], _, h => cases h
    | [_, _], [], h => cases h
    | [_, _], _ :: _ :: _, h => cases h
    | _ :: _ :: _ :: _, _, h => cases h
end
end Vw

set_option Elab.async false
set_option linter.all false
set_option maxRecDepth 100000
set_option maxHeartbeats 4000000
namespace Vw
open PySem PySem.Spec PySem.W PyProof.Rows L2
abbrev slaw : Stmt := top 31
theorem sclaw : FnScope ["_law_script", "_law_bag_here", "_law_turn", "_law_many_z", "_law_words", "_law_bent", "_law_size", "_law_k", "_law_due", "_law_found", "_law_wanted", "_law_nested"] ["_law_script"] (defScope slaw) := ⟨rfl, rfl, rfl, by decide +kernel, rfl, by decide +kernel, by decide +kernel⟩
section
variable {P : Program} {w : World} {K : PySem.W.Frag} {mg : Str → Option Value} {base : Heap}
theorem high_no (d : PyData) : isSeB 1 (.tuple [.str "not", .tuple [.str "shown", .int 1, d]]) = false := isSe_f fun z => by
  have h1 := (isSe_iff.mp z).2 (.tuple [.str "shown", .int 1, d]) (by rw [parts_mk (h := 1) (by decide +kernel)]; exact List.mem_singleton.mpr rfl)
  have h2 := (isSe_iff.mp h1).1
  have e1 : headT.lookup ("shown" : Str) = some 2 := by decide +kernel
  have e2 : partT.lookup ("shown" : Str) = some 1 := by decide +kernel
  rw [nodeB_tup, e1, e2] at h2
  have h3 : restB 1 "shown" [.int 1, d] = true := by
    have : (decide ((([PyData.int 1, d] : List PyData).length : Int) + 1 = 2 + 1) && restB 1 "shown" [.int 1, d]) = true := h2
    rw [Bool.and_eq_true] at this
    exact this.2
  unfold restB at h3
  rw [if_neg (by decide +kernel), if_pos rfl] at h3
  have h4 : (decide ((0 : Int) ≤ 1) && decide ((1 : Int) < 1)) = true := h3
  revert h4; decide
def wantD (b : Bool) (k : Int) : PyData := .list [tupWD b "InvalidSentence" 0, tupWD b "InvalidSentence" k]
theorem want_depth (b : Bool) (k : Int) : (wantD b k).depth ≤ 3 := by
  cases b <;> simp [wantD, tupWD, PyData.depth, PyData.depthAll]
theorem ok_law  {aTRUE : Addr} {aFALSE : Addr} {a_RESERVED : Addr} {a_HEADS : Addr} {a_PARTS : Addr} {aVowError : Addr} {aInvalidSentence : Addr} {aMissing : Addr} {aNothingLeft : Addr} {fVI : Addr} {fI_InvalidSentence : Addr} (T : Txt K mg  w aTRUE aFALSE a_RESERVED a_HEADS a_PARTS aVowError aInvalidSentence aMissing aNothingLeft fVI fI_InvalidSentence) {f f1 f2 f3 f4 f5 f6 f7 f8 f9 f10 f11 cl Pl : Addr} {fd fd1 fd2 fd3 fd4 fd5 fd6 fd7 fd8 fd9 fd10 fd11 : FuncData} {ds : List Value} (F : Fun K "law" "law" slaw f fd) (hcl : fd.code = .ref cl) (TB : LamX.TabB base mg cl Pl)
    (C__law_bag : Cal P w K mg base 1 "_law_bag" ["_law_script"] (spBag K) f1 fd1) (C__law_pull : Cal P w K mg base 1 "_law_pull" ["_law_bag_here", "_law_sides"] spPull f2 fd2)
    (C__law_same : Cal P w K mg base 10 "_law_same" ["_law_found", "_law_due"] (spSame K 10) f3 fd3) (C__law_names : Cal P w K mg base 3 "_law_names" ["_law_bag_here", "_law_many_z"] spNames f4 fd4)
    (C__law_said : Cal P w K mg base 8 "_law_said" ["_law_bag_here", "_law_many_z", "_law_names_here", "_law_nest", "_law_inside"] (spSaid K 5) f5 fd5)
    (C_is_sentence : Cal P w K mg base 3 "is_sentence" ["levels", "value"] (spIsSe K) f6 fd6) (KB_is_sentence : KBinds K fd6 ["levels", "value"] ["value", "levels"] swapG swapG)
    (C__law_bent_words : Cal P w K mg base 8 "_law_bent_words" ["_law_bag_here", "_law_words"] (spBentW K 5) f7 fd7) (C__law_is_said : Cal P w K mg base 32 "_law_is_said" ["_law_many_z", "_law_thing"] (spIsSaid K 30) f8 fd8)
    (C_check_sentence : CalKX P w K mg base 4 "check_sentence" ["levels", "value", "index"] (spChkF aInvalidSentence "InvalidSentence" "index" (okSe K)) f9 fd9) (hD_check_sentence : Vals [.int 0] ds) (bD_check_sentence : Binds K fd9 ["levels", "value", "index"] ds) (KB_check_sentence : KBinds K fd9 ["levels", "value", "index"] ["index"] twoG twoG)
    (C__law_told : CalT K mg s_law_told f10 fd10) (C__law_fields : CalF P w K mg base 1 "_law_fields" ["_law_e"] (spFieldsG K) f11 fd11) :
    FnOk P w K mg base CX0 41 f fd ["_law_script"] (spLawT K Pl) := by
  refine fn_okC F hcl sclaw (fun vs H Q E h => ?_) (fun A outer s H vs Q E hr h => ?_)
  · obtain ⟨_, _, rfl, _⟩ := h; rfl
  obtain ⟨a, ns, rfl, hS, hl, hT, q⟩ := h
  refine ⟨_, (pss_cons (ps_set (i := 1) sclaw.nd rfl (Or.inl rfl) (pe_call C__law_bag.G (hr.mono (by omega)) (by rfl) C__law_bag.m C__law_bag.kp C__law_bag.b .nil pass0 (pa_cons (pv 0) pa_nil)))
  (pss_cons (ps_for PassesOwn.never rfl (pi_range1 (by rfl) T.z_range (pa_cons pe_int pa_nil)) (pg_name (i := 2) sclaw.nd rfl (Or.inl rfl))
   (pss_cons (ps_set (i := 3) sclaw.nd rfl (Or.inr rfl) (pe_op op_add pe_int (pe_call C__law_pull.G (hr.mono (by omega)) (by rfl) C__law_pull.m C__law_pull.kp C__law_pull.b .nil pass0 (pa_cons (pv 1) (pa_cons pe_int pa_nil)))))
  (pss_cons (ps_set (i := 4) sclaw.nd rfl (Or.inr rfl) (pe_call C__law_said.G (hr.mono (by omega)) (by rfl) C__law_said.m C__law_said.kp C__law_said.b .nil pass0 (pa_cons (pv 1) (pa_cons (pv 3) (pa_cons (pe_call C__law_names.G (hr.mono (by omega)) (by rfl) C__law_names.m C__law_names.kp C__law_names.b .nil pass0 (pa_cons (pv 1) (pa_cons pe_int pa_nil))) (pa_cons (pe_op op_add pe_int (pe_call C__law_pull.G (hr.mono (by omega)) (by rfl) C__law_pull.m C__law_pull.kp C__law_pull.b .nil pass0 (pa_cons (pv 1) (pa_cons pe_int pa_nil)))) (pa_cons pe_bl pa_nil)))))))
  (pss_cons (ps_if (PW.pt (pw_or (pt_not (pt_val (pe_call C__law_same.G (hr.mono (by omega)) (by rfl) C__law_same.m C__law_same.kp C__law_same.b .nil pass0 (pa_cons (pe_call C_is_sentence.G (hr.mono (by omega)) (by rfl) C_is_sentence.m C_is_sentence.kp C_is_sentence.b .nil pass0 (pa_cons (pv 3) (pa_cons (pv 4) pa_nil))) (pa_cons pe_bl pa_nil))))) (pw_or1 (pt_not (pt_val (pe_call C__law_same.G (hr.mono (by omega)) (by rfl) C__law_same.m C__law_same.kp C__law_same.b .nil pass0 (pa_cons (pe_cut (pe_toldG T C__law_told C__law_fields TB rfl rfl (hr.mono (by omega)) (hr.mono (by omega)) (LamX.lamS_by (sc := defScope slaw) (by decide +kernel)) rfl (fun _ _ _ _ _ => rfl) (fun A outer s H E f c' hr2 => (pe_call (E := E) C_check_sentence.G hr2 (by rfl) C_check_sentence.m C_check_sentence.kp bD_check_sentence hD_check_sentence (passes_call (takes_of rfl rfl rfl rfl) fun _ _ _ _ h => h) (pa_cons (pv 3) (pa_cons (pv 4) pa_nil)))) (by rfl))) (pa_cons (pe_tup (pa_cons pe_str (pa_cons pe_non pa_nil))) pa_nil)))))))) (pss_one (ps_ret pe_bl)) pss_nil)
  (pss_cons (ps_asg (pe_tup (pa_cons (pe_call C__law_bent_words.G (hr.mono (by omega)) (by rfl) C__law_bent_words.m C__law_bent_words.kp C__law_bent_words.b .nil pass0 (pa_cons (pv 1) (pa_cons (pv 4) pa_nil))) (pa_cons (pe_op op_add pe_int (pe_call C__law_pull.G (hr.mono (by omega)) (by rfl) C__law_pull.m C__law_pull.kp C__law_pull.b .nil pass0 (pa_cons (pv 1) (pa_cons pe_int pa_nil)))) (pa_cons (pe_call C__law_pull.G (hr.mono (by omega)) (by rfl) C__law_pull.m C__law_pull.kp C__law_pull.b .nil pass0 (pa_cons (pv 1) (pa_cons pe_int pa_nil))) pa_nil)))) (pg_tup (by rfl) (pgs_cons (pg_name (i := 5) sclaw.nd rfl (Or.inr rfl)) (pgs_cons (pg_name (i := 6) sclaw.nd rfl (Or.inr rfl)) (pgs_cons (pg_name (i := 7) sclaw.nd rfl (Or.inr rfl)) pgs_nil)))))
  (pss_cons (ps_set (i := 8) sclaw.nd rfl (Or.inl rfl) (pe_call C__law_is_said.G (hr.mono (by omega)) (by rfl) C__law_is_said.m C__law_is_said.kp C__law_is_said.b .nil pass0 (pa_cons (pv 6) (pa_cons (pv 5) pa_nil))))
  (pss_cons (ps_if (pt_not (pt_val (pe_call C__law_same.G (hr.mono (by omega)) (by rfl) C__law_same.m C__law_same.kp C__law_same.b .nil pass0 (pa_cons (pe_callK0 C_is_sentence.G (hr.mono (by omega)) (by rfl) C_is_sentence.m C_is_sentence.kp KB_is_sentence pass0 (pk_cons (pv 5) (pk_cons (pv 6) pk_nil))) (pa_cons (pv 8) pa_nil))))) (pss_one (ps_ret pe_bl)) pss_nil)
  (pss_cons (ps_set (i := 9) sclaw.nd rfl (Or.inl rfl) (pe_lst (pa_cons (pe_cut (pe_toldG T C__law_told C__law_fields TB rfl rfl (hr.mono (by omega)) (hr.mono (by omega)) (LamX.lamS_by (sc := defScope slaw) (by decide +kernel)) rfl (fun _ _ _ _ _ => rfl) (fun A outer s H E f c' hr2 => (pe_call (E := E) C_check_sentence.G hr2 (by rfl) C_check_sentence.m C_check_sentence.kp bD_check_sentence hD_check_sentence (passes_call (takes_of rfl rfl rfl rfl) fun _ _ _ _ h => h) (pa_cons (pv 6) (pa_cons (pv 5) pa_nil)))) (by rfl))) (pa_cons (pe_cut (pe_toldG T C__law_told C__law_fields TB rfl rfl (hr.mono (by omega)) (hr.mono (by omega)) (LamX.lamS_by (sc := defScope slaw) (by decide +kernel)) rfl (fun _ _ _ _ _ => rfl) (fun A outer s H E f c' hr2 => (pe_callK (E := E) C_check_sentence.G hr2 (by rfl) C_check_sentence.m C_check_sentence.kp KB_check_sentence (passes_call (takes_of rfl rfl rfl rfl) fun _ _ _ _ h => h) (pa_cons (pv 6) (pa_cons (pv 5) pa_nil)) (pk_cons (pv 7) pk_nil))) (by rfl))) pa_nil))))
  (pss_cons (ps_set (i := 10) sclaw.nd rfl (Or.inl rfl) (pe_cut (pe_ifExp (pt_val (pv 8)) (pe_op op_rep (pe_lst (pa_cons (pe_tup (pa_cons pe_str (pa_cons pe_non pa_nil))) pa_nil)) pe_int) (pe_lst (pa_cons (pe_tup (pa_cons pe_str (pa_cons pe_str (pa_cons pe_int pa_nil)))) (pa_cons (pe_tup (pa_cons pe_str (pa_cons pe_str (pa_cons (pv 7) pa_nil)))) pa_nil))))))
  (pss_one (ps_if (pt_not (pt_val (pe_call C__law_same.G (hr.mono (by omega)) (by rfl) C__law_same.m C__law_same.kp C__law_same.b .nil pass0 (pa_cons (pv 9) (pa_cons (pv 10) pa_nil))))) (pss_one (ps_ret pe_bl)) pss_nil)))))))))))
  (pss_cons (ps_set (i := 11) sclaw.nd rfl (Or.inl rfl) (pe_tup (pa_cons pe_str (pa_cons pe_str pa_nil))))
  (pss_cons (ps_for PassesOwn.never rfl (pi_range1 (by rfl) T.z_range (pa_cons pe_int pa_nil)) (pg_name (i := 7) sclaw.nd rfl (Or.inr rfl))
   (pss_one (ps_set (i := 11) sclaw.nd rfl (Or.inl rfl) (pe_ix ix_list (pe_lst (pa_cons (pe_tup (pa_cons pe_str (pa_cons (pv 11) pa_nil))) (pa_cons (pe_tup (pa_cons pe_str (pa_cons pe_int (pa_cons (pv 11) pa_nil)))) (pa_cons (pe_tup (pa_cons pe_str (pa_cons (pv 11) (pa_cons (pe_tup (pa_cons pe_str pa_nil)) pa_nil)))) pa_nil)))) (pe_op op_mod (pv 7) pe_int) (fun _ _ => rfl)))))
  (pss_cons (ps_if (PW.pt (pw_or (pt_not (pt_val (pe_call C_is_sentence.G (hr.mono (by omega)) (by rfl) C_is_sentence.m C_is_sentence.kp C_is_sentence.b .nil pass0 (pa_cons pe_int (pa_cons (pv 11) pa_nil))))) (pw_or1 (pt_val (pe_call C_is_sentence.G (hr.mono (by omega)) (by rfl) C_is_sentence.m C_is_sentence.kp C_is_sentence.b .nil pass0 (pa_cons pe_int (pa_cons (pe_tup (pa_cons pe_str (pa_cons (pe_tup (pa_cons pe_str (pa_cons pe_int (pa_cons (pv 11) pa_nil)))) pa_nil))) pa_nil))))))) (pss_one (ps_ret pe_bl)) pss_nil)
  (pss_one (ps_ret (pe_call C__law_same.G (hr.mono (by omega)) (by rfl) C__law_same.m C__law_same.kp C__law_same.b .nil pass0 (pa_cons (pe_lst (pa_cons (pe_glob (v := .ref aTRUE) (by rfl) T.m_TRUE rfl) (pa_cons (pe_glob (v := .ref aFALSE) (by rfl) T.m_FALSE rfl) pa_nil))) (pa_cons (pe_lst (pa_cons (pe_tup (pa_cons pe_str pa_nil)) (pa_cons (pe_tup (pa_cons pe_str pa_nil)) pa_nil))) pa_nil)))))))))), ?_⟩
  have fx : fldC "InvalidSentence" = some ("index" : Str) := by decide +kernel
  have nx : ("index" : Str) ≠ ("code" : Str) := by decide +kernel
  refine ⟨_, rfl, a, ns, rfl, hS, hl, fun l b H1 nb s1 B1 => ?_⟩
  refine ⟨8, rfl, by decide, by decide, ?_⟩
  refine for_range (lo := 0) (n := 8) (fun i σ H' => ∃ u2 u3 u4 u5 u6 u7 u8 u9 u10 u11, σ = [some (.ref a), some (.ref b), u2, u3, u4, u5, u6, u7, u8, u9, u10, u11] ∧ Bag l H' b ∧ LamX.Tabs (lamT Pl) H') ⟨_, _, _, _, _, _, _, _, _, _, rfl, B1, tabs_same hT s1⟩ (fun i σ H2 hi h => ?_) (fun σ H2 h => ?_)
  · obtain ⟨u2, u3, u4, u5, u6, u7, u8, u9, u10, u11, rfl, B2, T2⟩ := h
    refine ⟨_, rfl, l, b, 3, rfl, by decide, by decide, B2, fun r H3 r0 r1 k3 B3 => ⟨_, _, rfl, rfl, ?_⟩⟩
    have T3 := tabs_bag T2 B2 k3
    dsimp only
    generalize he : (1 : Int) + r = m_
    obtain ⟨m, rfl⟩ : ∃ m : Nat, m_ = (m : Int) := ⟨m_.toNat, by omega⟩
    have hm1 : 1 ≤ m := by omega
    have hm2 : m ≤ 1000 := by omega
    clear he
    -- a drawn sentence
    refine ⟨_, rfl, _, rfl, _, rfl, l, b, 3, rfl, by decide, B3, fun D xs H4 hDb hDl eD lx hxs k4 B4 => ?_⟩
    have T4 := tabs_bag T3 B3 k4
    refine ⟨_, rfl, l, b, 4, rfl, by decide, by decide, B4, fun r5 H5 r50 r51 k5 B5 => ⟨_, _, rfl, rfl, ?_⟩⟩
    have T5 := tabs_bag T4 B4 k5
    dsimp only
    generalize he : (1 : Int) + r5 = n_
    obtain ⟨n, rfl⟩ : ∃ n : Nat, n_ = (n : Int) := ⟨n_.toNat, by omega⟩
    have hn : n < 5 := by omega
    clear he
    refine ⟨l, b, D, m, n, xs, true, rfl, hm1, hm2, hn, B5, hDb, k5 _ _ hDb eD, by omega, hxs, (fun z => by subst z; cases lx), fun v s6 H6 sv ok ns6 k6 B6 => ?_⟩
    have T6 := tabs_bag T5 B5 k6
    have z6 := s6.psz_le
    have p6 : 2 ^ s6.nest ≤ 2 ^ 4 := Nat.pow_le_pow_right (by decide) (by omega)
    have p6 : 2 ^ s6.nest ≤ 16 := p6
    clear k3 k4 k5 k6 B2 B3 B4 B5 T2 T3 T4 T5 eD
    refine ⟨_, rfl, _, rfl, (m : Int), v, s6.toD, rfl, sv.dp, Se.sOk ok, by omega, fun H7 s7 => ?_⟩
    rw [isSe_t (Se.isSe ok)]
    refine ⟨_, _, .bool true, rfl, .bl _, .bl _, by simp only [PyData.depth]; decide, fun H8 s8 => ⟨_, rfl, iteF ?_⟩⟩
    have sA := s7.trans s8
    have B8 := B6.same sA
    have T8 := tabs_same T6 sA
    have sv8 := sv.same sA
    clear s7 s8 sA B6 T6 sv
    -- it is told so
    refine ⟨fun v' H' => ∃ p, v' = .ref p ∧ TT K H' p (tupW true "InvalidSentence" 0) ∧ Bag l H' b ∧ LamX.Tabs (lamT Pl) H' ∧ SeA K H' v s6, ⟨T8, fun H9 e9 T9 => ⟨_, rfl, _, rfl, isSeB m s6.toD, .int 0, ⟨m, v, s6.toD, rfl, dp_ext e9 sv8.dp, Se.sOk ok, by omega, rfl⟩, fun hb H10 s10 => ⟨(by show 2 ≤ sizeLine; decide), fun p np => ?_⟩, fun hb => absurd (isSe_t (Se.isSe ok)) (by rw [hb]; decide)⟩⟩, fun v9 H9 hv => ?_⟩
    · have z := same_new (o := .tup [.str "told", .non]) np
      exact ⟨p, rfl, .of upd_same, ((B8.ext e9).same s10).same z, tabs_same (tabs_same T9 s10) z, ((sv8.tp (ext_tp e9)).same s10).same z⟩
    obtain ⟨p9, rfl, t9, B9, T9, sv9⟩ := hv
    refine ⟨(by show 2 ≤ sizeLine; decide), fun p10 n10 => ?_⟩
    have z10 := same_new (o := .tup [.str "told", .non]) n10
    refine ⟨_, _, tupWD true "InvalidSentence" 0, rfl, tupW_dp (t9.same z10), tupW_dp (.of upd_same), Nat.lt_of_le_of_lt (tupW_depth _ _ _) (by decide), fun H11 s11 => ⟨_, rfl, iteF ?_⟩⟩
    have sA := z10.trans s11
    have B11 := B9.same sA
    have T11 := tabs_same T9 sA
    have sv11 := sv9.same sA
    clear s11 z10 sA B9 T9 sv9 B8 T8 sv8 t9
    -- a bent one
    refine ⟨_, rfl, _, rfl, l, b, v, m, s6, rfl, B11, sv11, ok, by omega, by decide, fun x d H12 sd dd sod pzd k12 B12 => ?_⟩
    have T12 := tabs_bag T11 B11 k12
    refine ⟨_, rfl, l, b, 3, rfl, by decide, by decide, B12, fun r13 H13 r130 r131 k13 B13 => ⟨_, _, rfl, rfl, ?_⟩⟩
    have T13 := tabs_bag T12 B12 k13
    refine ⟨_, rfl, l, b, 100, rfl, by decide, by decide, B13, fun k14 H14 r140 r141 kk14 B14 => ⟨(by show 3 ≤ sizeLine; decide), fun p15 n15 => ?_⟩⟩
    have T14 := tabs_bag T13 B13 kk14
    have z15 := same_new (o := .tup [x, .int (1 + r13), .int k14]) n15
    have hd15 := ((((sd.kp k13).kp kk14).kp (same_kp z15))).dp
    have B15 := B14.same z15
    have T15 := tabs_same T14 z15
    refine ⟨p15, _, rfl, .of upd_same, rfl, _, _, rfl, _, _, rfl, _, _, rfl, rfl, ?_⟩
    generalize upd H14 p15 (.tup [x, .int (1 + r13), .int k14]) = G0 at *
    clear z15 n15 sd k12 k13 kk14 B11 B12 B13 B14 T11 T12 T13 T14 sv11
    dsimp only
    generalize (1 : Int) + r13 = z_
    have dd : d.depth < 30 := by omega
    have pzd : psz d ≤ 1000 := by omega
    refine ⟨_, rfl, _, rfl, z_, x, d, rfl, hd15, sod, dd, pzd, fun H16 s16 => ?_⟩
    refine ⟨_, rfl, _, rfl, z_, x, d, rfl, dp_same s16 hd15, sod, by omega, fun H17 s17 => ⟨_, rfl, _, _, .bool (isSeB z_ d), rfl, .bl _, .bl _, by simp only [PyData.depth]; decide, fun H18 s18 => ⟨_, rfl, iteF ?_⟩⟩⟩
    have sA := (s16.trans s17).trans s18
    have B18 := B15.same sA
    have T18 := tabs_same T15 sA
    have hd18 := dp_same sA hd15
    clear hd15 sA s16 s17 s18 B15 T15
    refine ⟨fun v' H' => ∃ p, v' = .ref p ∧ TT K H' p (tupW (isSeB z_ d) "InvalidSentence" 0) ∧ Bag l H' b ∧ LamX.Tabs (lamT Pl) H' ∧ Dp K H' x d, ⟨T18, fun H19 e19 T19 => ⟨_, rfl, _, rfl, isSeB z_ d, .int 0, ⟨z_, x, d, rfl, dp_ext e19 hd18, sod, by omega, rfl⟩, fun hb H20 s20 => ⟨(by show 2 ≤ sizeLine; decide), fun p np => ?_⟩, fun hb dc H20 s20 hdc => ⟨"InvalidSentence", _, ErrG.mkF T.rz_InvalidSentence.rz.xf T.rz_InvalidSentence.rz.no T.rz_InvalidSentence.nof hdc nx fx, T.ex_InvalidSentence, fun p H21 s21 t21 => ?_⟩⟩⟩, fun v19 H19 hv => ?_⟩
    · have z := same_new (o := .tup [.str "told", .non]) np
      exact ⟨p, rfl, by rw [hb]; exact .of upd_same, ((B18.ext e19).same s20).same z, tabs_same (tabs_same T19 s20) z, dp_same z (dp_same s20 (dp_ext e19 hd18))⟩
    · rw [fldV_put fx] at t21
      exact ⟨p, rfl, by rw [hb]; exact t21, ((B18.ext e19).same s20).same s21, tabs_same (tabs_same T19 s20) s21, dp_same s21 (dp_same s20 (dp_ext e19 hd18))⟩
    obtain ⟨p19, rfl, t19, B19, T19, hd19⟩ := hv
    refine ⟨fun v' H' => ∃ p, v' = .ref p ∧ TT K H' p (tupW (isSeB z_ d) "InvalidSentence" k14) ∧ TT K H' p19 (tupW (isSeB z_ d) "InvalidSentence" 0) ∧ Bag l H' b ∧ LamX.Tabs (lamT Pl) H', ⟨T19, fun H22 e22 T22 => ⟨_, rfl, _, rfl, _, rfl, isSeB z_ d, .int k14, ⟨z_, x, d, rfl, dp_ext e22 hd19, sod, by omega, rfl⟩, fun hb H23 s23 => ⟨(by show 2 ≤ sizeLine; decide), fun p np => ?_⟩, fun hb dc H23 s23 hdc => ⟨"InvalidSentence", _, ErrG.mkF T.rz_InvalidSentence.rz.xf T.rz_InvalidSentence.rz.no T.rz_InvalidSentence.nof hdc nx fx, T.ex_InvalidSentence, fun p H24 s24 t24 => ?_⟩⟩⟩, fun v22 H22 hv => ?_⟩
    · have z := same_new (o := .tup [.str "told", .non]) np
      exact ⟨p, rfl, by rw [hb]; exact .of upd_same, ((t19.tp (ext_tp e22)).same s23).same z, ((B19.ext e22).same s23).same z, tabs_same (tabs_same T22 s23) z⟩
    · rw [fldV_put fx] at t24
      exact ⟨p, rfl, by rw [hb]; exact t24, ((t19.tp (ext_tp e22)).same s23).same s24, ((B19.ext e22).same s23).same s24, tabs_same (tabs_same T22 s23) s24⟩
    obtain ⟨p22, rfl, t22, t19b, B22, T22⟩ := hv
    refine ⟨(by show 2 ≤ sizeLine; decide), fun Df nf => ?_⟩
    have zf := same_new (o := .lst [.ref p19, .ref p22]) nf
    have hf : Dp K (upd H22 Df (.lst [.ref p19, .ref p22])) (.ref Df) (wantD (isSeB z_ d) k14) := .lst (SqL.of upd_same) (.cons (tupW_dp (t19b.same zf)) (.cons (tupW_dp (t22.same zf)) .nil))
    have B23 := B22.same zf
    have T23 := tabs_same T22 zf
    generalize upd H22 Df (.lst [.ref p19, .ref p22]) = G1 at *
    clear zf nf t19 t19b t22 B22 T22 B19 T19 hd19 hd18 B18 T18
    -- what is wanted
    refine ⟨fun v' H' => Same G1 H' ∧ Dp K H' v' (wantD (isSeB z_ d) k14), ⟨_, rfl, _, rfl, ite2 (fun e => ?_) (fun e => ?_)⟩, fun v24 H24 hv => ?_⟩
    · have e : isSeB z_ d = true := e
      rw [e]
      refine ⟨(by show 2 ≤ sizeLine; decide), fun p np => ⟨(by show 1 ≤ sizeLine; decide), fun D1 n1 => ⟨D1, 2, _, rfl, rfl, upd_same, by decide, by decide, (by show 2 ≤ sizeLine; decide), fun D2 n2 => ?_⟩⟩⟩
      have z1 := same_new (o := .tup [.str "told", .non]) np
      have z2 := same_new (o := .lst [.ref p]) n1
      have z3 := same_new (o := .lst [.ref p, .ref p]) n2
      have tp : TT K (upd (upd (upd G1 p (.tup [.str "told", .non])) D1 (.lst [.ref p])) D2 (.lst [.ref p, .ref p])) p (tupW true "InvalidSentence" 0) := ((TT.of upd_same).same z2).same z3
      exact ⟨(z1.trans z2).trans z3, .lst (SqL.of upd_same) (.cons (tupW_dp tp) (.cons (tupW_dp (i := k14) (b := true) tp) .nil))⟩
    · have e : isSeB z_ d = false := Bool.eq_false_iff.mpr e
      rw [e]
      refine ⟨(by show 3 ≤ sizeLine; decide), fun p np => ⟨_, rfl, (by show 3 ≤ sizeLine; decide), fun p2 np2 => ⟨(by show 2 ≤ sizeLine; decide), fun D2 n2 => ?_⟩⟩⟩
      have z1 := same_new (o := .tup [.str "no", .str "InvalidSentence", .int 0]) np
      have z2 := same_new (o := .tup [.str "no", .str "InvalidSentence", .int k14]) np2
      have z3 := same_new (o := .lst [.ref p, .ref p2]) n2
      exact ⟨(z1.trans z2).trans z3, .lst (SqL.of upd_same) (.cons (tupW_dp (b := false) (((TT.of upd_same).same z2).same z3)) (.cons (tupW_dp (b := false) ((TT.of upd_same).same z3)) .nil))⟩
    obtain ⟨s24, hw⟩ := hv
    refine ⟨_, rfl, _, rfl, _, _, wantD (isSeB z_ d) k14, rfl, dp_same s24 hf, hw, Nat.lt_of_le_of_lt (want_depth _ _) (by decide), fun H25 s25 => ⟨_, rfl, iteF ?_⟩⟩
    exact ⟨_, _, _, _, _, _, _, _, _, _, rfl, (B23.same s24).same s25, tabs_same (tabs_same T23 s24) s25⟩
  · obtain ⟨u2, u3, u4, u5, u6, u7, u8, u9, u10, u11, rfl, B2, T2⟩ := h
    clear T2 B1 hT s1 hS
    refine ⟨(by show 2 ≤ sizeLine; decide), fun p0 n0 => ?_⟩
    refine ⟨23, rfl, by decide, by decide, ?_⟩
    refine for_range (lo := 0) (n := 23) (fun i σ H' => ∃ v sn u7, σ = [some (.ref a), some (.ref b), u2, u3, u4, u5, u6, u7, u8, u9, u10, some v] ∧ SeA K H' v sn ∧ sn.ok 1 ∧ psz sn.toD ≤ 3 + 5 * i) ⟨_, .nm "x", _, rfl, ⟨p0, rfl, .of upd_same⟩, ⟨by decide +kernel, by decide +kernel⟩, by simp [Se.toD, psz, pszA]⟩ (fun i σ H3 hi h => ?_) (fun σ H3 h => ?_)
    · obtain ⟨v, sn, u7, rfl, sv, ok, pz⟩ := h
      refine ⟨_, rfl, (by show 2 ≤ sizeLine; decide), fun p1 n1 => ⟨_, rfl, (by show 3 ≤ sizeLine; decide), fun p2 n2 => ⟨_, rfl, (by show 1 ≤ sizeLine; decide), fun p3 n3 => ⟨(by show 3 ≤ sizeLine; decide), fun p4 n4 => ⟨(by show 3 ≤ sizeLine; decide), fun D nD => ?_⟩⟩⟩⟩⟩
      have z1 := same_new (o := .tup [.str "not", v]) n1
      have t1 : TT K (upd H3 p1 (.tup [.str "not", v])) p1 [.str "not", v] := .of upd_same
      generalize upd H3 p1 (.tup [.str "not", v]) = G1 at *
      have z2 := same_new (o := .tup [.str "shown", .int 0, v]) n2
      have t2 : TT K (upd G1 p2 (.tup [.str "shown", .int 0, v])) p2 [.str "shown", .int 0, v] := .of upd_same
      generalize upd G1 p2 (.tup [.str "shown", .int 0, v]) = G2 at *
      have z3 := same_new (o := .tup [.str "true"]) n3
      have t3 : TT K (upd G2 p3 (.tup [.str "true"])) p3 [.str "true"] := .of upd_same
      generalize upd G2 p3 (.tup [.str "true"]) = G3 at *
      have z4 := same_new (o := .tup [.str "and", v, .ref p3]) n4
      have t4 : TT K (upd G3 p4 (.tup [.str "and", v, .ref p3])) p4 [.str "and", v, .ref p3] := .of upd_same
      generalize upd G3 p4 (.tup [.str "and", v, .ref p3]) = G4 at *
      have zD := same_new (o := .lst [.ref p1, .ref p2, .ref p4]) nD
      have eD : (upd G4 D (.lst [.ref p1, .ref p2, .ref p4])) D = some (.lst [.ref p1, .ref p2, .ref p4]) := upd_same
      generalize upd G4 D (.lst [.ref p1, .ref p2, .ref p4]) = G5 at *
      have sv5 := sv.same ((((z1.trans z2).trans z3).trans z4).trans zD)
      have f3 : i % 3 = 0 ∨ i % 3 = 1 ∨ i % 3 = 2 := by omega
      obtain ⟨y, hy, s2, sy, oky, pzy⟩ : ∃ y, atI [V.ref p1, .ref p2, .ref p4] ((0 + (i : Nat) : Int) % 3) = some y ∧ ∃ s2, SeA K G5 y s2 ∧ s2.ok 1 ∧ psz s2.toD ≤ 3 + 5 * (i + 1) := by
        rcases f3 with e | e | e
        · refine ⟨_, by rw [show ((0 + (i : Nat) : Int) % 3) = 0 from by omega]; rfl, .nt sn, ⟨p1, v, rfl, t1.same (((z2.trans z3).trans z4).trans zD), sv5⟩, ok, ?_⟩
          simp only [Se.toD, psz, pszA]; omega
        · refine ⟨_, by rw [show ((0 + (i : Nat) : Int) % 3) = 1 from by omega]; rfl, .sh 0 sn, ⟨p2, v, rfl, t2.same ((z3.trans z4).trans zD), sv5⟩, ⟨by decide, ok⟩, ?_⟩
          simp only [Se.toD, psz, pszA]; omega
        · refine ⟨_, by rw [show ((0 + (i : Nat) : Int) % 3) = 2 from by omega]; rfl, .bin "and" sn .t, ⟨p4, v, _, rfl, t4.same zD, sv5, ⟨p3, rfl, t3.same (z4.trans zD)⟩⟩, ⟨.inl rfl, ok, trivial⟩, ?_⟩
          simp only [Se.toD, psz, pszA]; omega
      refine ⟨_, rfl, _, _, rfl, rfl, (by show (0 : Int) < 3; decide), D, _, _, y, rfl, rfl, SqL.of eD, hy, ?_⟩
      exact ⟨_, s2, _, rfl, sy, oky, pzy⟩
    · obtain ⟨v, sn, u7, rfl, sv, ok, pz⟩ := h
      refine ⟨_, rfl, 1, v, sn.toD, rfl, sv.dp, Se.sOk ok, by omega, fun H4 s4 => ?_⟩
      rw [isSe_t (Se.isSe ok)]
      refine ⟨_, rfl, iteF ⟨_, rfl, (by show 3 ≤ sizeLine; decide), fun p1 n1 => ⟨(by show 2 ≤ sizeLine; decide), fun p2 n2 => ?_⟩⟩⟩
      have z1 := same_new (o := .tup [.str "shown", .int 1, v]) n1
      have z2 := same_new (o := .tup [.str "not", .ref p1]) n2
      have sd := Se.sOk ok
      refine ⟨1, _, .tuple [.str "not", .tuple [.str "shown", .int 1, sn.toD]], rfl, .tup (TT.of (K := K) upd_same).sq (.cons (.str _) (.cons (.tup ((TT.of (K := K) upd_same).same z2).sq (.cons (.str _) (.cons (.int _) (.cons (sv.same ((s4.trans z1).trans z2)).dp .nil)))) .nil)), ⟨(by decide +kernel : ("not" : Str).length ≤ 30), ⟨(by decide +kernel : ("shown" : Str).length ≤ 30), trivial, sd, trivial⟩, trivial⟩, by simp only [psz, pszA]; omega, fun H5 s5 => ?_⟩
      rw [high_no]
      refine ⟨_, rfl, iteF ⟨(by show 2 ≤ sizeLine; decide), fun D1 n3 => ⟨(by show 1 ≤ sizeLine; decide), fun p4 n4 => ⟨(by show 1 ≤ sizeLine; decide), fun p5 n5 => ⟨(by show 2 ≤ sizeLine; decide), fun D2 n6 => ?_⟩⟩⟩⟩⟩
      have z3 := same_new (o := .lst [.ref aTRUE, .ref aFALSE]) n3
      have z4 := same_new (o := .tup [.str "true"]) n4
      have z5 := same_new (o := .tup [.str "false"]) n5
      have z6 := same_new (o := .lst [.ref p4, .ref p5]) n6
      refine ⟨_, _, .list [.tuple [.str "true"], .tuple [.str "false"]], rfl, .lst (SqL.of (((z4.trans z5).trans z6) _ _ upd_same)) (.cons (.tup (T.t_TRUE _) (.cons (.str _) .nil)) (.cons (.tup (T.t_FALSE _) (.cons (.str _) .nil)) .nil)),
        .lst (SqL.of upd_same) (.cons (.tup ((TT.of (K := K) upd_same).same (z5.trans z6)).sq (.cons (.str _) .nil)) (.cons (.tup ((TT.of (K := K) upd_same).same z6).sq (.cons (.str _) .nil)) .nil)), by simp [PyData.depth, PyData.depthAll], fun H7 s7 => ?_⟩
      exact q H7
theorem main  {aTRUE : Addr} {aFALSE : Addr} {a_RESERVED : Addr} {a_HEADS : Addr} {a_PARTS : Addr} {aVowError : Addr} {aInvalidSentence : Addr} {aMissing : Addr} {aNothingLeft : Addr} {fVI : Addr} {fI_InvalidSentence : Addr} (T : Txt K mg  w aTRUE aFALSE a_RESERVED a_HEADS a_PARTS aVowError aInvalidSentence aMissing aNothingLeft fVI fI_InvalidSentence) {cl Pl : Addr} (TB : LamX.TabB base mg cl Pl) {fd_VI : FuncData} (F_VI : Fun K "__init__" "VowError.__init__" sVI fVI fd_VI) (b_VI : Binds K fd_VI ["self"] [])
    {fd_I_InvalidSentence : FuncData} (F_I_InvalidSentence : Fun K "__init__" "InvalidSentence.__init__" sI_InvalidSentence fI_InvalidSentence fd_I_InvalidSentence) (b_I_InvalidSentence : Binds K fd_I_InvalidSentence ["self", "index"] [])
    {f_is_name : Addr} {fd_is_name : FuncData} (F_is_name : Fun K "is_name" "is_name" sis_name f_is_name fd_is_name) (b_is_name : Binds K fd_is_name ["text"] []) (m_is_name : mg "is_name" = some (.ref f_is_name))
    {f_is_sentence : Addr} {fd_is_sentence : FuncData} (F_is_sentence : Fun K "is_sentence" "is_sentence" sis_sentence f_is_sentence fd_is_sentence) (b_is_sentence : Binds K fd_is_sentence ["levels", "value"] []) (m_is_sentence : mg "is_sentence" = some (.ref f_is_sentence))
    {f__is_node : Addr} {fd__is_node : FuncData} (F__is_node : Fun K "_is_node" "_is_node" s_is_node f__is_node fd__is_node) (b__is_node : Binds K fd__is_node ["levels", "value"] []) (m__is_node : mg "_is_node" = some (.ref f__is_node))
    {f__is_level : Addr} {fd__is_level : FuncData} (F__is_level : Fun K "_is_level" "_is_level" s_is_level f__is_level fd__is_level) (b__is_level : Binds K fd__is_level ["levels", "value"] []) (m__is_level : mg "_is_level" = some (.ref f__is_level))
    {f_parts_of : Addr} {fd_parts_of : FuncData} (F_parts_of : Fun K "parts_of" "parts_of" sparts_of f_parts_of fd_parts_of) (b_parts_of : Binds K fd_parts_of ["node"] []) (m_parts_of : mg "parts_of" = some (.ref f_parts_of))
    {f__law_bag : Addr} {fd__law_bag : FuncData} (F__law_bag : Fun K "_law_bag" "_law_bag" s_law_bag f__law_bag fd__law_bag) (b__law_bag : Binds K fd__law_bag ["_law_script"] []) (m__law_bag : mg "_law_bag" = some (.ref f__law_bag))
    {f__law_pull : Addr} {fd__law_pull : FuncData} (F__law_pull : Fun K "_law_pull" "_law_pull" s_law_pull f__law_pull fd__law_pull) (b__law_pull : Binds K fd__law_pull ["_law_bag_here", "_law_sides"] []) (m__law_pull : mg "_law_pull" = some (.ref f__law_pull))
    {f__law_of : Addr} {fd__law_of : FuncData} (F__law_of : Fun K "_law_of" "_law_of" s_law_of f__law_of fd__law_of) (b__law_of : Binds K fd__law_of ["_law_bag_here", "_law_some"] []) (m__law_of : mg "_law_of" = some (.ref f__law_of))
    {f__law_same : Addr} {fd__law_same : FuncData} (F__law_same : Fun K "_law_same" "_law_same" s_law_same f__law_same fd__law_same) (b__law_same : Binds K fd__law_same ["_law_found", "_law_due"] []) (m__law_same : mg "_law_same" = some (.ref f__law_same))
    {f__law_fields : Addr} {fd__law_fields : FuncData} (F__law_fields : Fun K "_law_fields" "_law_fields" s_law_fields f__law_fields fd__law_fields) (b__law_fields : Binds K fd__law_fields ["_law_e"] []) (m__law_fields : mg "_law_fields" = some (.ref f__law_fields))
    {f__law_told : Addr} {fd__law_told : FuncData} (F__law_told : Fun K "_law_told" "_law_told" s_law_told f__law_told fd__law_told) (b__law_told : Binds K fd__law_told ["_law_ask_z"] []) (m__law_told : mg "_law_told" = some (.ref f__law_told))
    {f__law_names : Addr} {fd__law_names : FuncData} (F__law_names : Fun K "_law_names" "_law_names" s_law_names f__law_names fd__law_names) (b__law_names : Binds K fd__law_names ["_law_bag_here", "_law_many_z"] []) (m__law_names : mg "_law_names" = some (.ref f__law_names))
    {f__law_said : Addr} {fd__law_said : FuncData} (F__law_said : Fun K "_law_said" "_law_said" s_law_said f__law_said fd__law_said) (b__law_said : Binds K fd__law_said ["_law_bag_here", "_law_many_z", "_law_names_here", "_law_nest", "_law_inside"] []) (m__law_said : mg "_law_said" = some (.ref f__law_said))
    {f__law_parts : Addr} {fd__law_parts : FuncData} (F__law_parts : Fun K "_law_parts" "_law_parts" s_law_parts f__law_parts fd__law_parts) (b__law_parts : Binds K fd__law_parts ["_law_words"] []) (m__law_parts : mg "_law_parts" = some (.ref f__law_parts))
    {f__law_bent_words : Addr} {fd__law_bent_words : FuncData} (F__law_bent_words : Fun K "_law_bent_words" "_law_bent_words" s_law_bent_words f__law_bent_words fd__law_bent_words) (b__law_bent_words : Binds K fd__law_bent_words ["_law_bag_here", "_law_words"] []) (m__law_bent_words : mg "_law_bent_words" = some (.ref f__law_bent_words))
    {f__law_is_name : Addr} {fd__law_is_name : FuncData} (F__law_is_name : Fun K "_law_is_name" "_law_is_name" s_law_is_name f__law_is_name fd__law_is_name) (b__law_is_name : Binds K fd__law_is_name ["_law_text_z"] []) (m__law_is_name : mg "_law_is_name" = some (.ref f__law_is_name))
    {f__law_is_said : Addr} {fd__law_is_said : FuncData} (F__law_is_said : Fun K "_law_is_said" "_law_is_said" s_law_is_said f__law_is_said fd__law_is_said) (b__law_is_said : Binds K fd__law_is_said ["_law_many_z", "_law_thing"] []) (m__law_is_said : mg "_law_is_said" = some (.ref f__law_is_said))
    {f_law : Addr} {fd_law : FuncData} (F_law : Fun K "law" "law" slaw f_law fd_law) (b_law : Binds K fd_law ["_law_script"] []) (m_law : mg "law" = some (.ref f_law))
    {f_check_sentence : Addr} {fd_check_sentence : FuncData} (F_check_sentence : FunD K "check_sentence" "check_sentence" (defArgs scheck_sentence) (defBody scheck_sentence) (defScope scheck_sentence) [] [("index", .int 0)] f_check_sentence fd_check_sentence) (m_check_sentence : mg "check_sentence" = some (.ref f_check_sentence)) (hcl : fd_law.code = .ref cl) : FnOk P w K mg base CX0 41 f_law fd_law ["_law_script"] (spLawT K Pl) := by
  have C1 : Cal P w K mg base 1 "_law_pull" ["_law_bag_here", "_law_sides"] spPull _ _ := ⟨ok_pull T F__law_pull, m__law_pull, F__law_pull.kp, b__law_pull⟩
  have C3 : Cal P w K mg base 2 "_law_of" ["_law_bag_here", "_law_some"] (spOf K) _ _ := ⟨ok_of T F__law_of C1, m__law_of, F__law_of.kp, b__law_of⟩
  have C4 : Cal P w K mg base 1 "is_name" ["text"] (spNmD K) _ _ := ⟨ok_is_nameD T F_is_name, m_is_name, F_is_name.kp, b_is_name⟩
  have C5 : Cal P w K mg base 1 "_is_level" ["levels", "value"] (spLev K) _ _ := ⟨ok_is_level T F__is_level, m__is_level, F__is_level.kp, b__is_level⟩
  have C6 : Cal P w K mg base 2 "_is_node" ["levels", "value"] (spNode K) _ _ := ⟨ok_is_node T F__is_node C4 C5, m__is_node, F__is_node.kp, b__is_node⟩
  have C7 : Cal P w K mg base 3 "is_sentence" ["levels", "value"] (spIsSe K) _ _ := ⟨ok_is_sentence T F_is_sentence C6 ⟨ok_parts_of T F_parts_of, m_parts_of, F_parts_of.kp, b_parts_of⟩, m_is_sentence, F_is_sentence.kp, b_is_sentence⟩
  obtain ⟨ds, hd, bd⟩ := sentence_binds F_check_sentence
  exact ok_law T F_law hcl TB ⟨ok_bag T F__law_bag, m__law_bag, F__law_bag.kp, b__law_bag⟩ C1
    ⟨same_all T F__law_same b__law_same m__law_same 10, m__law_same, F__law_same.kp, b__law_same⟩
    ⟨ok_lnames T F__law_names C1 C3, m__law_names, F__law_names.kp, b__law_names⟩
    ⟨said_all T F__law_said b__law_said m__law_said C1 C3 5, m__law_said, F__law_said.kp, b__law_said⟩ C7
    (kb_of F_is_sentence swapG swapG swap_rel fun _ _ _ _ _ _ us ws hl => by
      match us, ws, hl with
      | [], [_, _], _ => rfl
      | [], [], h => cases h
      | [], [_], h => cases h
      | [], _ :: _ :: _ :: _, h => cases h
      | _ :: _, _, h => cases h)
    ⟨bent_words_all T F__law_bent_words b__law_bent_words m__law_bent_words C1 C3 5, m__law_bent_words, F__law_bent_words.kp, b__law_bent_words⟩
    ⟨is_said_all T F__law_is_said b__law_is_said m__law_is_said ⟨ok_lparts T F__law_parts, m__law_parts, F__law_parts.kp, b__law_parts⟩ ⟨ok_lis_name T F__law_is_name, m__law_is_name, F__law_is_name.kp, b__law_is_name⟩ 30, m__law_is_said, F__law_is_said.kp, b__law_is_said⟩
    ⟨ok_check_sentence T F_check_sentence C7 (ok_I_InvalidSentence T F_I_InvalidSentence F_VI b_VI) b_I_InvalidSentence, m_check_sentence, F_check_sentence.kp⟩ hd bd (sentence_kbinds F_check_sentence)
    ⟨F__law_told, m__law_told, b__law_told⟩ ⟨ok_fieldsG T F__law_fields, m__law_fields, F__law_fields.kp, b__law_fields⟩
end
end Vw

namespace Vw
open PySem PySem.W PyProof.Rows L2
theorem all_mk {l : PySem.W.OpenLaw} {w : World} {K : PySem.W.Frag} {h : Heap} {mg : Str → Option Value} {fa : Addr} (X : K.In h) (G : h.Ns mainGlobals mg) (hfa : mg "law" = some (.ref fa)) (TBs : ∀ c P, PySem.W.tabIn K "law" = some (c, P) → PySem.W.CodeHd h c P ∧ h.get? P = some (PySem.W.tabObj #[]))
    {aVowError : Addr} (ac_VowError : PySem.W.nsIn K mainGlobals "VowError" = some (some (.ref aVowError)))
    {aInvalidSentence : Addr} (ac_InvalidSentence : PySem.W.nsIn K mainGlobals "InvalidSentence" = some (some (.ref aInvalidSentence)))
    {aMissing : Addr} (ac_Missing : PySem.W.nsIn K mainGlobals "Missing" = some (some (.ref aMissing)))
    {aNothingLeft : Addr} (ac_NothingLeft : PySem.W.nsIn K mainGlobals "NothingLeft" = some (some (.ref aNothingLeft)))
    (sb_VowError : PySem.W.subIn K (.ref aVowError) (.type "BaseException") = some true) (hd_VowError : PySem.W.hasDictIn K aVowError = true) (ty_VowError : PySem.W.typeIn K (.ref aVowError) = some (.type "type"))
    (sb_Missing : PySem.W.subIn K (.ref aMissing) (.type "BaseException") = some true) (hd_Missing : PySem.W.hasDictIn K aMissing = true) (ty_Missing : PySem.W.typeIn K (.ref aMissing) = some (.type "type"))
    (sb_NothingLeft : PySem.W.subIn K (.ref aNothingLeft) (.type "BaseException") = some true) (hd_NothingLeft : PySem.W.hasDictIn K aNothingLeft = true) (ty_NothingLeft : PySem.W.typeIn K (.ref aNothingLeft) = some (.type "type"))
    (sp1 : PySem.W.specialIn K (.builtin "object.__class__") "__get__" = some (some (.builtin "getset_descriptor.__get__"))) (tk1 : PySem.W.takesIn K (.builtin "object.__class__") = some true) (op1 : PySem.W.nsIn K cStatics "thirdparty.any" = some none) {fVI : Addr} {fI_InvalidSentence : Addr}
    {nm_InvalidSentence qn_InvalidSentence : Str} {ns_InvalidSentence : Addr} {bs_InvalidSentence : List Value} {sn_InvalidSentence : List Str} {su_InvalidSentence : List Value} {ab_InvalidSentence : Bool} {co_InvalidSentence : Option Bool} {di_InvalidSentence : Option Addr} {k0_InvalidSentence k1_InvalidSentence k3_InvalidSentence k5_InvalidSentence : Option Value} {tk_InvalidSentence : Tok}
    (xo_InvalidSentence : K.lookup aInvalidSentence = some (excClassObj nm_InvalidSentence qn_InvalidSentence aInvalidSentence ns_InvalidSentence bs_InvalidSentence [.ref aVowError, .type "ValueError", .type "Exception", .type "BaseException", .type "object"] true sn_InvalidSentence su_InvalidSentence ab_InvalidSentence co_InvalidSentence di_InvalidSentence k0_InvalidSentence k1_InvalidSentence (some (.str "InvalidSentence" tk_InvalidSentence)) k3_InvalidSentence k5_InvalidSentence "ValueError.__new__"))
    (sa_InvalidSentence : PySem.W.findIn K (.ref aInvalidSentence) "__setattr__" = some (some (.builtin "object.__setattr__"))) (eb_InvalidSentence : PySem.W.subIn K (.ref aInvalidSentence) (.type "BaseException") = some true) (tyc_InvalidSentence : PySem.W.typeIn K (.ref aInvalidSentence) = some (.type "type")) (kpc_InvalidSentence : PySem.W.keepIn K (.ref aInvalidSentence) = true)
    (ga_InvalidSentence : PySem.W.findIn K (.ref aInvalidSentence) "__getattribute__" = some (some (.builtin "BaseException.__getattribute__"))) (gg_InvalidSentence : PySem.W.findIn K (.ref aInvalidSentence) "__getattr__" = some none) (hdc_InvalidSentence : PySem.W.hasDictIn K aInvalidSentence = true) (cl_InvalidSentence : PySem.W.findIn K (.ref aInvalidSentence) "__class__" = some (some (.builtin "object.__class__"))) (mr_InvalidSentence : PySem.W.mroIn K aInvalidSentence (.type "object") = some true)
    (fc_InvalidSentence : PySem.W.findCls K (.ref aInvalidSentence) (.type "type") "__name__" = some (.get (.builtin "getset_descriptor.__get__") (.builtin "type.__name__") (.ref aInvalidSentence) (.type "type"))) (no_InvalidSentence : PySem.W.findIn K (.ref aInvalidSentence) "code" = some none) (ic_InvalidSentence : PySem.W.findIn K (.ref aInvalidSentence) "__init__" = some (some (.ref fI_InvalidSentence)))
    (sv_InvalidSentence : PySem.W.subIn K (.ref aInvalidSentence) (.ref aVowError) = some true) (sm_InvalidSentence : PySem.W.subIn K (.ref aInvalidSentence) (.ref aMissing) = some false) (sn0_InvalidSentence : PySem.W.subIn K (.ref aInvalidSentence) (.ref aNothingLeft) = some false)
    (nf_InvalidSentence : PySem.W.findIn K (.ref aInvalidSentence) "index" = some none) (ti_InvalidSentence : PySem.W.typeIn K (.ref fI_InvalidSentence) = some (.type "function"))
    (ti1 : PySem.W.typeIn K (.ref fVI) = some (.type "function")) {od_VI an_VI : Option Addr} {sl_VI : Array (Option Value)} {oc_VI kV_VI dc_VI pm_VI cd_VI ct_VI : Value} (l_VI : K.lookup fVI = some ⟨oc_VI, od_VI, .func (PySem.W.fnOf "__init__" "VowError.__init__" (defArgs sVI) (defBody sVI) (defScope sVI) .none kV_VI dc_VI pm_VI an_VI cd_VI ct_VI), sl_VI⟩) (c_VI : PySem.W.codeIn K cd_VI "VowError.__init__" = true) (k_VI : PySem.W.keepIn K (.ref fVI) = true)
    (rd0 : PySem.W.readsIn K aVowError (.type "type") = true) (sg0 : PySem.W.specialIn K (.ref aVowError) "__getattribute__" = some (some (.builtin "type.__getattribute__"))) (fc0 : PySem.W.findCls K (.ref aVowError) (.type "type") "__init__" = some (.val (.ref fVI)))
    {od_I_InvalidSentence an_I_InvalidSentence : Option Addr} {sl_I_InvalidSentence : Array (Option Value)} {oc_I_InvalidSentence kV_I_InvalidSentence dc_I_InvalidSentence pm_I_InvalidSentence cd_I_InvalidSentence ct_I_InvalidSentence : Value}
    (l_I_InvalidSentence : K.lookup fI_InvalidSentence = some ⟨oc_I_InvalidSentence, od_I_InvalidSentence, .func (PySem.W.fnOf "__init__" "InvalidSentence.__init__" (defArgs sI_InvalidSentence) (defBody sI_InvalidSentence) (defScope sI_InvalidSentence) .none kV_I_InvalidSentence dc_I_InvalidSentence pm_I_InvalidSentence an_I_InvalidSentence cd_I_InvalidSentence ct_I_InvalidSentence), sl_I_InvalidSentence⟩) (c_I_InvalidSentence : PySem.W.codeIn K cd_I_InvalidSentence "InvalidSentence.__init__" = true) (k_I_InvalidSentence : PySem.W.keepIn K (.ref fI_InvalidSentence) = true)
    {f_is_name : Addr} {od_is_name an_is_name : Option Addr} {sl_is_name : Array (Option Value)} {oc_is_name kV_is_name dc_is_name pm_is_name cd_is_name ct_is_name : Value}
    (a_is_name : PySem.W.nsIn K mainGlobals "is_name" = some (some (.ref f_is_name))) (l_is_name : K.lookup f_is_name = some ⟨oc_is_name, od_is_name, .func (PySem.W.fnOf "is_name" "is_name" (defArgs sis_name) (defBody sis_name) (defScope sis_name) .none kV_is_name dc_is_name pm_is_name an_is_name cd_is_name ct_is_name), sl_is_name⟩) (c_is_name : PySem.W.codeIn K cd_is_name "is_name" = true) (k_is_name : PySem.W.keepIn K (.ref f_is_name) = true)
    {f_is_sentence : Addr} {od_is_sentence an_is_sentence : Option Addr} {sl_is_sentence : Array (Option Value)} {oc_is_sentence kV_is_sentence dc_is_sentence pm_is_sentence cd_is_sentence ct_is_sentence : Value}
    (a_is_sentence : PySem.W.nsIn K mainGlobals "is_sentence" = some (some (.ref f_is_sentence))) (l_is_sentence : K.lookup f_is_sentence = some ⟨oc_is_sentence, od_is_sentence, .func (PySem.W.fnOf "is_sentence" "is_sentence" (defArgs sis_sentence) (defBody sis_sentence) (defScope sis_sentence) .none kV_is_sentence dc_is_sentence pm_is_sentence an_is_sentence cd_is_sentence ct_is_sentence), sl_is_sentence⟩) (c_is_sentence : PySem.W.codeIn K cd_is_sentence "is_sentence" = true) (k_is_sentence : PySem.W.keepIn K (.ref f_is_sentence) = true)
    {f__is_node : Addr} {od__is_node an__is_node : Option Addr} {sl__is_node : Array (Option Value)} {oc__is_node kV__is_node dc__is_node pm__is_node cd__is_node ct__is_node : Value}
    (a__is_node : PySem.W.nsIn K mainGlobals "_is_node" = some (some (.ref f__is_node))) (l__is_node : K.lookup f__is_node = some ⟨oc__is_node, od__is_node, .func (PySem.W.fnOf "_is_node" "_is_node" (defArgs s_is_node) (defBody s_is_node) (defScope s_is_node) .none kV__is_node dc__is_node pm__is_node an__is_node cd__is_node ct__is_node), sl__is_node⟩) (c__is_node : PySem.W.codeIn K cd__is_node "_is_node" = true) (k__is_node : PySem.W.keepIn K (.ref f__is_node) = true)
    {f__is_level : Addr} {od__is_level an__is_level : Option Addr} {sl__is_level : Array (Option Value)} {oc__is_level kV__is_level dc__is_level pm__is_level cd__is_level ct__is_level : Value}
    (a__is_level : PySem.W.nsIn K mainGlobals "_is_level" = some (some (.ref f__is_level))) (l__is_level : K.lookup f__is_level = some ⟨oc__is_level, od__is_level, .func (PySem.W.fnOf "_is_level" "_is_level" (defArgs s_is_level) (defBody s_is_level) (defScope s_is_level) .none kV__is_level dc__is_level pm__is_level an__is_level cd__is_level ct__is_level), sl__is_level⟩) (c__is_level : PySem.W.codeIn K cd__is_level "_is_level" = true) (k__is_level : PySem.W.keepIn K (.ref f__is_level) = true)
    {f_parts_of : Addr} {od_parts_of an_parts_of : Option Addr} {sl_parts_of : Array (Option Value)} {oc_parts_of kV_parts_of dc_parts_of pm_parts_of cd_parts_of ct_parts_of : Value}
    (a_parts_of : PySem.W.nsIn K mainGlobals "parts_of" = some (some (.ref f_parts_of))) (l_parts_of : K.lookup f_parts_of = some ⟨oc_parts_of, od_parts_of, .func (PySem.W.fnOf "parts_of" "parts_of" (defArgs sparts_of) (defBody sparts_of) (defScope sparts_of) .none kV_parts_of dc_parts_of pm_parts_of an_parts_of cd_parts_of ct_parts_of), sl_parts_of⟩) (c_parts_of : PySem.W.codeIn K cd_parts_of "parts_of" = true) (k_parts_of : PySem.W.keepIn K (.ref f_parts_of) = true)
    {f__law_bag : Addr} {od__law_bag an__law_bag : Option Addr} {sl__law_bag : Array (Option Value)} {oc__law_bag kV__law_bag dc__law_bag pm__law_bag cd__law_bag ct__law_bag : Value}
    (a__law_bag : PySem.W.nsIn K mainGlobals "_law_bag" = some (some (.ref f__law_bag))) (l__law_bag : K.lookup f__law_bag = some ⟨oc__law_bag, od__law_bag, .func (PySem.W.fnOf "_law_bag" "_law_bag" (defArgs s_law_bag) (defBody s_law_bag) (defScope s_law_bag) .none kV__law_bag dc__law_bag pm__law_bag an__law_bag cd__law_bag ct__law_bag), sl__law_bag⟩) (c__law_bag : PySem.W.codeIn K cd__law_bag "_law_bag" = true) (k__law_bag : PySem.W.keepIn K (.ref f__law_bag) = true)
    {f__law_pull : Addr} {od__law_pull an__law_pull : Option Addr} {sl__law_pull : Array (Option Value)} {oc__law_pull kV__law_pull dc__law_pull pm__law_pull cd__law_pull ct__law_pull : Value}
    (a__law_pull : PySem.W.nsIn K mainGlobals "_law_pull" = some (some (.ref f__law_pull))) (l__law_pull : K.lookup f__law_pull = some ⟨oc__law_pull, od__law_pull, .func (PySem.W.fnOf "_law_pull" "_law_pull" (defArgs s_law_pull) (defBody s_law_pull) (defScope s_law_pull) .none kV__law_pull dc__law_pull pm__law_pull an__law_pull cd__law_pull ct__law_pull), sl__law_pull⟩) (c__law_pull : PySem.W.codeIn K cd__law_pull "_law_pull" = true) (k__law_pull : PySem.W.keepIn K (.ref f__law_pull) = true)
    {f__law_of : Addr} {od__law_of an__law_of : Option Addr} {sl__law_of : Array (Option Value)} {oc__law_of kV__law_of dc__law_of pm__law_of cd__law_of ct__law_of : Value}
    (a__law_of : PySem.W.nsIn K mainGlobals "_law_of" = some (some (.ref f__law_of))) (l__law_of : K.lookup f__law_of = some ⟨oc__law_of, od__law_of, .func (PySem.W.fnOf "_law_of" "_law_of" (defArgs s_law_of) (defBody s_law_of) (defScope s_law_of) .none kV__law_of dc__law_of pm__law_of an__law_of cd__law_of ct__law_of), sl__law_of⟩) (c__law_of : PySem.W.codeIn K cd__law_of "_law_of" = true) (k__law_of : PySem.W.keepIn K (.ref f__law_of) = true)
    {f__law_same : Addr} {od__law_same an__law_same : Option Addr} {sl__law_same : Array (Option Value)} {oc__law_same kV__law_same dc__law_same pm__law_same cd__law_same ct__law_same : Value}
    (a__law_same : PySem.W.nsIn K mainGlobals "_law_same" = some (some (.ref f__law_same))) (l__law_same : K.lookup f__law_same = some ⟨oc__law_same, od__law_same, .func (PySem.W.fnOf "_law_same" "_law_same" (defArgs s_law_same) (defBody s_law_same) (defScope s_law_same) .none kV__law_same dc__law_same pm__law_same an__law_same cd__law_same ct__law_same), sl__law_same⟩) (c__law_same : PySem.W.codeIn K cd__law_same "_law_same" = true) (k__law_same : PySem.W.keepIn K (.ref f__law_same) = true)
    {f__law_fields : Addr} {od__law_fields an__law_fields : Option Addr} {sl__law_fields : Array (Option Value)} {oc__law_fields kV__law_fields dc__law_fields pm__law_fields cd__law_fields ct__law_fields : Value}
    (a__law_fields : PySem.W.nsIn K mainGlobals "_law_fields" = some (some (.ref f__law_fields))) (l__law_fields : K.lookup f__law_fields = some ⟨oc__law_fields, od__law_fields, .func (PySem.W.fnOf "_law_fields" "_law_fields" (defArgs s_law_fields) (defBody s_law_fields) (defScope s_law_fields) .none kV__law_fields dc__law_fields pm__law_fields an__law_fields cd__law_fields ct__law_fields), sl__law_fields⟩) (c__law_fields : PySem.W.codeIn K cd__law_fields "_law_fields" = true) (k__law_fields : PySem.W.keepIn K (.ref f__law_fields) = true)
    {f__law_told : Addr} {od__law_told an__law_told : Option Addr} {sl__law_told : Array (Option Value)} {oc__law_told kV__law_told dc__law_told pm__law_told cd__law_told ct__law_told : Value}
    (a__law_told : PySem.W.nsIn K mainGlobals "_law_told" = some (some (.ref f__law_told))) (l__law_told : K.lookup f__law_told = some ⟨oc__law_told, od__law_told, .func (PySem.W.fnOf "_law_told" "_law_told" (defArgs s_law_told) (defBody s_law_told) (defScope s_law_told) .none kV__law_told dc__law_told pm__law_told an__law_told cd__law_told ct__law_told), sl__law_told⟩) (c__law_told : PySem.W.codeIn K cd__law_told "_law_told" = true) (k__law_told : PySem.W.keepIn K (.ref f__law_told) = true)
    {f__law_names : Addr} {od__law_names an__law_names : Option Addr} {sl__law_names : Array (Option Value)} {oc__law_names kV__law_names dc__law_names pm__law_names cd__law_names ct__law_names : Value}
    (a__law_names : PySem.W.nsIn K mainGlobals "_law_names" = some (some (.ref f__law_names))) (l__law_names : K.lookup f__law_names = some ⟨oc__law_names, od__law_names, .func (PySem.W.fnOf "_law_names" "_law_names" (defArgs s_law_names) (defBody s_law_names) (defScope s_law_names) .none kV__law_names dc__law_names pm__law_names an__law_names cd__law_names ct__law_names), sl__law_names⟩) (c__law_names : PySem.W.codeIn K cd__law_names "_law_names" = true) (k__law_names : PySem.W.keepIn K (.ref f__law_names) = true)
    {f__law_said : Addr} {od__law_said an__law_said : Option Addr} {sl__law_said : Array (Option Value)} {oc__law_said kV__law_said dc__law_said pm__law_said cd__law_said ct__law_said : Value}
    (a__law_said : PySem.W.nsIn K mainGlobals "_law_said" = some (some (.ref f__law_said))) (l__law_said : K.lookup f__law_said = some ⟨oc__law_said, od__law_said, .func (PySem.W.fnOf "_law_said" "_law_said" (defArgs s_law_said) (defBody s_law_said) (defScope s_law_said) .none kV__law_said dc__law_said pm__law_said an__law_said cd__law_said ct__law_said), sl__law_said⟩) (c__law_said : PySem.W.codeIn K cd__law_said "_law_said" = true) (k__law_said : PySem.W.keepIn K (.ref f__law_said) = true)
    {f__law_parts : Addr} {od__law_parts an__law_parts : Option Addr} {sl__law_parts : Array (Option Value)} {oc__law_parts kV__law_parts dc__law_parts pm__law_parts cd__law_parts ct__law_parts : Value}
    (a__law_parts : PySem.W.nsIn K mainGlobals "_law_parts" = some (some (.ref f__law_parts))) (l__law_parts : K.lookup f__law_parts = some ⟨oc__law_parts, od__law_parts, .func (PySem.W.fnOf "_law_parts" "_law_parts" (defArgs s_law_parts) (defBody s_law_parts) (defScope s_law_parts) .none kV__law_parts dc__law_parts pm__law_parts an__law_parts cd__law_parts ct__law_parts), sl__law_parts⟩) (c__law_parts : PySem.W.codeIn K cd__law_parts "_law_parts" = true) (k__law_parts : PySem.W.keepIn K (.ref f__law_parts) = true)
    {f__law_bent_words : Addr} {od__law_bent_words an__law_bent_words : Option Addr} {sl__law_bent_words : Array (Option Value)} {oc__law_bent_words kV__law_bent_words dc__law_bent_words pm__law_bent_words cd__law_bent_words ct__law_bent_words : Value}
    (a__law_bent_words : PySem.W.nsIn K mainGlobals "_law_bent_words" = some (some (.ref f__law_bent_words))) (l__law_bent_words : K.lookup f__law_bent_words = some ⟨oc__law_bent_words, od__law_bent_words, .func (PySem.W.fnOf "_law_bent_words" "_law_bent_words" (defArgs s_law_bent_words) (defBody s_law_bent_words) (defScope s_law_bent_words) .none kV__law_bent_words dc__law_bent_words pm__law_bent_words an__law_bent_words cd__law_bent_words ct__law_bent_words), sl__law_bent_words⟩) (c__law_bent_words : PySem.W.codeIn K cd__law_bent_words "_law_bent_words" = true) (k__law_bent_words : PySem.W.keepIn K (.ref f__law_bent_words) = true)
    {f__law_is_name : Addr} {od__law_is_name an__law_is_name : Option Addr} {sl__law_is_name : Array (Option Value)} {oc__law_is_name kV__law_is_name dc__law_is_name pm__law_is_name cd__law_is_name ct__law_is_name : Value}
    (a__law_is_name : PySem.W.nsIn K mainGlobals "_law_is_name" = some (some (.ref f__law_is_name))) (l__law_is_name : K.lookup f__law_is_name = some ⟨oc__law_is_name, od__law_is_name, .func (PySem.W.fnOf "_law_is_name" "_law_is_name" (defArgs s_law_is_name) (defBody s_law_is_name) (defScope s_law_is_name) .none kV__law_is_name dc__law_is_name pm__law_is_name an__law_is_name cd__law_is_name ct__law_is_name), sl__law_is_name⟩) (c__law_is_name : PySem.W.codeIn K cd__law_is_name "_law_is_name" = true) (k__law_is_name : PySem.W.keepIn K (.ref f__law_is_name) = true)
    {f__law_is_said : Addr} {od__law_is_said an__law_is_said : Option Addr} {sl__law_is_said : Array (Option Value)} {oc__law_is_said kV__law_is_said dc__law_is_said pm__law_is_said cd__law_is_said ct__law_is_said : Value}
    (a__law_is_said : PySem.W.nsIn K mainGlobals "_law_is_said" = some (some (.ref f__law_is_said))) (l__law_is_said : K.lookup f__law_is_said = some ⟨oc__law_is_said, od__law_is_said, .func (PySem.W.fnOf "_law_is_said" "_law_is_said" (defArgs s_law_is_said) (defBody s_law_is_said) (defScope s_law_is_said) .none kV__law_is_said dc__law_is_said pm__law_is_said an__law_is_said cd__law_is_said ct__law_is_said), sl__law_is_said⟩) (c__law_is_said : PySem.W.codeIn K cd__law_is_said "_law_is_said" = true) (k__law_is_said : PySem.W.keepIn K (.ref f__law_is_said) = true)
    {f_law : Addr} {od_law an_law : Option Addr} {sl_law : Array (Option Value)} {oc_law kV_law dc_law pm_law ct_law occ_law : Value} {cl_law Pl_law : Addr} {odc_law : Option Addr} {slc_law : Array (Option Value)} {vs_law : Array Value}
    (a_law : PySem.W.nsIn K mainGlobals "law" = some (some (.ref f_law))) (l_law : K.lookup f_law = some ⟨oc_law, od_law, .func (PySem.W.fnOf "law" "law" (defArgs slaw) (defBody slaw) (defScope slaw) .none kV_law dc_law pm_law an_law (.ref cl_law) ct_law), sl_law⟩) (c_law : PySem.W.codeIn K (.ref cl_law) "law" = true) (k_law : PySem.W.keepIn K (.ref f_law) = true)
    (lc_law : K.lookup cl_law = some ⟨occ_law, odc_law, .fields vs_law, slc_law⟩) (hp_law : vs_law[11]? = some (.ref Pl_law)) (np_law : K.lookup Pl_law = none)
    {f_check_sentence D_check_sentence : Addr} {od_check_sentence an_check_sentence : Option Addr} {sl_check_sentence : Array (Option Value)} {oc_check_sentence dc_check_sentence pm_check_sentence cd_check_sentence ct_check_sentence : Value} {tk_check_sentence : Tok}
    (a_check_sentence : PySem.W.nsIn K mainGlobals "check_sentence" = some (some (.ref f_check_sentence))) (l_check_sentence : K.lookup f_check_sentence = some ⟨oc_check_sentence, od_check_sentence, .func (PySem.W.fnOf "check_sentence" "check_sentence" (defArgs scheck_sentence) (defBody scheck_sentence) (defScope scheck_sentence) .none (.ref D_check_sentence) dc_check_sentence pm_check_sentence an_check_sentence cd_check_sentence ct_check_sentence), sl_check_sentence⟩) (c_check_sentence : PySem.W.codeIn K cd_check_sentence "check_sentence" = true) (k_check_sentence : PySem.W.keepIn K (.ref f_check_sentence) = true) (w_check_sentence : PySem.W.nsIn K D_check_sentence "index" = some (some (.int 0 tk_check_sentence)))
    (z_len : PySem.W.nsIn K mainGlobals "len" = some none)
    (z_range : PySem.W.nsIn K mainGlobals "range" = some none)
    (z_isinstance : PySem.W.nsIn K mainGlobals "isinstance" = some none)
    (z_int : PySem.W.nsIn K mainGlobals "int" = some none)
    (z_list : PySem.W.nsIn K mainGlobals "list" = some none)
    (z_tuple : PySem.W.nsIn K mainGlobals "tuple" = some none)
    (z_str : PySem.W.nsIn K mainGlobals "str" = some none)
    (z_bool : PySem.W.nsIn K mainGlobals "bool" = some none)
    (z_all : PySem.W.nsIn K mainGlobals "all" = some none)
    (z_ValueError : PySem.W.nsIn K mainGlobals "ValueError" = some none)
    (z_LookupError : PySem.W.nsIn K mainGlobals "LookupError" = some none)
    (z_IndexError : PySem.W.nsIn K mainGlobals "IndexError" = some none)
    {aTRUE : Addr} (ac_TRUE : PySem.W.nsIn K mainGlobals "TRUE" = some (some (.ref aTRUE)))
    {oq_TRUE : Option Addr} {nq_TRUE : Nat} {sq_TRUE : Array (Option Value)} {tq_TRUE : Tok} (lq_TRUE : K.lookup aTRUE = some ⟨.type "tuple", oq_TRUE, .seq #[.str "true" tq_TRUE] nq_TRUE, sq_TRUE⟩)
    {aFALSE : Addr} (ac_FALSE : PySem.W.nsIn K mainGlobals "FALSE" = some (some (.ref aFALSE)))
    {oq_FALSE : Option Addr} {nq_FALSE : Nat} {sq_FALSE : Array (Option Value)} {tq_FALSE : Tok} (lq_FALSE : K.lookup aFALSE = some ⟨.type "tuple", oq_FALSE, .seq #[.str "false" tq_FALSE] nq_FALSE, sq_FALSE⟩)
    {a_RESERVED : Addr} (ac__RESERVED : PySem.W.nsIn K mainGlobals "_RESERVED" = some (some (.ref a_RESERVED)))
    {or1 : Option Addr} {nr1 : Nat} {sr1 : Array (Option Value)} {tr1 tr2 tr3 tr4 tr5 tr6 tr7 : Tok} (lr1 : K.lookup a_RESERVED = some ⟨.type "tuple", or1, .seq #[.str "true" tr1, .str "false" tr2, .str "not" tr3, .str "and" tr4, .str "or" tr5, .str "then" tr6, .str "shown" tr7] nr1, sr1⟩)
    {tk_LONGEST_NAME : Tok} (ac__LONGEST_NAME : PySem.W.nsIn K mainGlobals "_LONGEST_NAME" = some (some (.int 6 tk_LONGEST_NAME)))
    {a_HEADS : Addr} (ac__HEADS : PySem.W.nsIn K mainGlobals "_HEADS" = some (some (.ref a_HEADS))) {es__HEADS : Array DictEntry} {n__HEADS : Nat} (ld__HEADS : List.lookup a_HEADS K = some {cls := .type "dict", data := .dict es__HEADS n__HEADS}) (kl__HEADS : PySem.W.KeysLit w.params es__HEADS.toList) (lw__HEADS : (a_HEADS == sysModules) = false) (al__HEADS : (es__HEADS.toList.all fun e => List.any [("true", 1), ("false", 1), ("name", 2), ("not", 1), ("and", 1), ("or", 1), ("then", 1), ("shown", 2)] fun p => e.key.isStr p.1) = true) (nr__HEADS : (es__HEADS.toList.any fun e => e.refKey) = false)
    {tk0__HEADS : Tok} (v0__HEADS : PySem.W.nsIn K a_HEADS "true" = some (some (.int 1 tk0__HEADS))) {tk1__HEADS : Tok} (v1__HEADS : PySem.W.nsIn K a_HEADS "false" = some (some (.int 1 tk1__HEADS))) {tk2__HEADS : Tok} (v2__HEADS : PySem.W.nsIn K a_HEADS "name" = some (some (.int 2 tk2__HEADS))) {tk3__HEADS : Tok} (v3__HEADS : PySem.W.nsIn K a_HEADS "not" = some (some (.int 1 tk3__HEADS))) {tk4__HEADS : Tok} (v4__HEADS : PySem.W.nsIn K a_HEADS "and" = some (some (.int 1 tk4__HEADS))) {tk5__HEADS : Tok} (v5__HEADS : PySem.W.nsIn K a_HEADS "or" = some (some (.int 1 tk5__HEADS))) {tk6__HEADS : Tok} (v6__HEADS : PySem.W.nsIn K a_HEADS "then" = some (some (.int 1 tk6__HEADS))) {tk7__HEADS : Tok} (v7__HEADS : PySem.W.nsIn K a_HEADS "shown" = some (some (.int 2 tk7__HEADS)))
    {a_PARTS : Addr} (ac__PARTS : PySem.W.nsIn K mainGlobals "_PARTS" = some (some (.ref a_PARTS))) {es__PARTS : Array DictEntry} {n__PARTS : Nat} (ld__PARTS : List.lookup a_PARTS K = some {cls := .type "dict", data := .dict es__PARTS n__PARTS}) (kl__PARTS : PySem.W.KeysLit w.params es__PARTS.toList) (lw__PARTS : (a_PARTS == sysModules) = false) (al__PARTS : (es__PARTS.toList.all fun e => List.any [("true", 0), ("false", 0), ("name", 0), ("not", 1), ("and", 2), ("or", 2), ("then", 2), ("shown", 1)] fun p => e.key.isStr p.1) = true) (nr__PARTS : (es__PARTS.toList.any fun e => e.refKey) = false)
    {tk0__PARTS : Tok} (v0__PARTS : PySem.W.nsIn K a_PARTS "true" = some (some (.int 0 tk0__PARTS))) {tk1__PARTS : Tok} (v1__PARTS : PySem.W.nsIn K a_PARTS "false" = some (some (.int 0 tk1__PARTS))) {tk2__PARTS : Tok} (v2__PARTS : PySem.W.nsIn K a_PARTS "name" = some (some (.int 0 tk2__PARTS))) {tk3__PARTS : Tok} (v3__PARTS : PySem.W.nsIn K a_PARTS "not" = some (some (.int 1 tk3__PARTS))) {tk4__PARTS : Tok} (v4__PARTS : PySem.W.nsIn K a_PARTS "and" = some (some (.int 2 tk4__PARTS))) {tk5__PARTS : Tok} (v5__PARTS : PySem.W.nsIn K a_PARTS "or" = some (some (.int 2 tk5__PARTS))) {tk6__PARTS : Tok} (v6__PARTS : PySem.W.nsIn K a_PARTS "then" = some (some (.int 2 tk6__PARTS))) {tk7__PARTS : Tok} (v7__PARTS : PySem.W.nsIn K a_PARTS "shown" = some (some (.int 1 tk7__PARTS))) :
    LamX.LawAtS l w K CX0 41 63 "_law_script" mg fa h := by
  have e := hfa.symm.trans (PySem.W.mg_of X G a_law)
  cases e
  have F_VI := fun_mk (st := sVI) l_VI c_VI k_VI
  have b_VI := F_VI.binds (ps := ["self"]) fun _ _ _ _ _ _ us hl => match us, hl with | [_], _ => rfl
  have F_I_InvalidSentence := fun_mk (st := sI_InvalidSentence) l_I_InvalidSentence c_I_InvalidSentence k_I_InvalidSentence
  have b_I_InvalidSentence := F_I_InvalidSentence.binds (ps := ["self", "index"]) fun _ _ _ _ _ _ us hl => match us, hl with | [_, _], _ => rfl
  have ry_InvalidSentence : RzC K aInvalidSentence fI_InvalidSentence "InvalidSentence" := ⟨⟨⟨_, _, _, _, _, _, _, _, _, _, _, _, _, _, _, xo_InvalidSentence, rfl⟩, sa_InvalidSentence, eb_InvalidSentence, tyc_InvalidSentence, kpc_InvalidSentence⟩, ⟨ga_InvalidSentence, gg_InvalidSentence, eb_InvalidSentence, hdc_InvalidSentence, cl_InvalidSentence, sp1, tk1, mr_InvalidSentence⟩, ⟨⟨_, _, xo_InvalidSentence, rfl, rfl⟩, op1, fc_InvalidSentence⟩, ⟨ga_InvalidSentence, gg_InvalidSentence, eb_InvalidSentence, hdc_InvalidSentence⟩, no_InvalidSentence, ic_InvalidSentence, ti_InvalidSentence⟩
  have rz_InvalidSentence : RzF K aInvalidSentence aVowError fI_InvalidSentence fVI "InvalidSentence" "index" := ⟨ry_InvalidSentence, nf_InvalidSentence, ⟨rd0, sg0⟩, fc0, k_VI⟩
  have ex_InvalidSentence := exm3 sb_VowError hd_VowError ty_VowError sb_Missing hd_Missing ty_Missing sb_NothingLeft hd_NothingLeft ty_NothingLeft sv_InvalidSentence sm_InvalidSentence sn0_InvalidSentence
  have F_is_name := fun_mk (st := sis_name) l_is_name c_is_name k_is_name
  have b_is_name := F_is_name.binds (ps := ["text"]) fun _ _ _ _ _ _ us hl => match us, hl with | [_], _ => rfl
  have m_is_name := PySem.W.mg_of X G a_is_name
  have F_is_sentence := fun_mk (st := sis_sentence) l_is_sentence c_is_sentence k_is_sentence
  have b_is_sentence := F_is_sentence.binds (ps := ["levels", "value"]) fun _ _ _ _ _ _ us hl => match us, hl with | [_, _], _ => rfl
  have m_is_sentence := PySem.W.mg_of X G a_is_sentence
  have F__is_node := fun_mk (st := s_is_node) l__is_node c__is_node k__is_node
  have b__is_node := F__is_node.binds (ps := ["levels", "value"]) fun _ _ _ _ _ _ us hl => match us, hl with | [_, _], _ => rfl
  have m__is_node := PySem.W.mg_of X G a__is_node
  have F__is_level := fun_mk (st := s_is_level) l__is_level c__is_level k__is_level
  have b__is_level := F__is_level.binds (ps := ["levels", "value"]) fun _ _ _ _ _ _ us hl => match us, hl with | [_, _], _ => rfl
  have m__is_level := PySem.W.mg_of X G a__is_level
  have F_parts_of := fun_mk (st := sparts_of) l_parts_of c_parts_of k_parts_of
  have b_parts_of := F_parts_of.binds (ps := ["node"]) fun _ _ _ _ _ _ us hl => match us, hl with | [_], _ => rfl
  have m_parts_of := PySem.W.mg_of X G a_parts_of
  have F__law_bag := fun_mk (st := s_law_bag) l__law_bag c__law_bag k__law_bag
  have b__law_bag := F__law_bag.binds (ps := ["_law_script"]) fun _ _ _ _ _ _ us hl => match us, hl with | [_], _ => rfl
  have m__law_bag := PySem.W.mg_of X G a__law_bag
  have F__law_pull := fun_mk (st := s_law_pull) l__law_pull c__law_pull k__law_pull
  have b__law_pull := F__law_pull.binds (ps := ["_law_bag_here", "_law_sides"]) fun _ _ _ _ _ _ us hl => match us, hl with | [_, _], _ => rfl
  have m__law_pull := PySem.W.mg_of X G a__law_pull
  have F__law_of := fun_mk (st := s_law_of) l__law_of c__law_of k__law_of
  have b__law_of := F__law_of.binds (ps := ["_law_bag_here", "_law_some"]) fun _ _ _ _ _ _ us hl => match us, hl with | [_, _], _ => rfl
  have m__law_of := PySem.W.mg_of X G a__law_of
  have F__law_same := fun_mk (st := s_law_same) l__law_same c__law_same k__law_same
  have b__law_same := F__law_same.binds (ps := ["_law_found", "_law_due"]) fun _ _ _ _ _ _ us hl => match us, hl with | [_, _], _ => rfl
  have m__law_same := PySem.W.mg_of X G a__law_same
  have F__law_fields := fun_mk (st := s_law_fields) l__law_fields c__law_fields k__law_fields
  have b__law_fields := F__law_fields.binds (ps := ["_law_e"]) fun _ _ _ _ _ _ us hl => match us, hl with | [_], _ => rfl
  have m__law_fields := PySem.W.mg_of X G a__law_fields
  have F__law_told := fun_mk (st := s_law_told) l__law_told c__law_told k__law_told
  have b__law_told := F__law_told.binds (ps := ["_law_ask_z"]) fun _ _ _ _ _ _ us hl => match us, hl with | [_], _ => rfl
  have m__law_told := PySem.W.mg_of X G a__law_told
  have F__law_names := fun_mk (st := s_law_names) l__law_names c__law_names k__law_names
  have b__law_names := F__law_names.binds (ps := ["_law_bag_here", "_law_many_z"]) fun _ _ _ _ _ _ us hl => match us, hl with | [_, _], _ => rfl
  have m__law_names := PySem.W.mg_of X G a__law_names
  have F__law_said := fun_mk (st := s_law_said) l__law_said c__law_said k__law_said
  have b__law_said := F__law_said.binds (ps := ["_law_bag_here", "_law_many_z", "_law_names_here", "_law_nest", "_law_inside"]) fun _ _ _ _ _ _ us hl => match us, hl with | [_, _, _, _, _], _ => rfl
  have m__law_said := PySem.W.mg_of X G a__law_said
  have F__law_parts := fun_mk (st := s_law_parts) l__law_parts c__law_parts k__law_parts
  have b__law_parts := F__law_parts.binds (ps := ["_law_words"]) fun _ _ _ _ _ _ us hl => match us, hl with | [_], _ => rfl
  have m__law_parts := PySem.W.mg_of X G a__law_parts
  have F__law_bent_words := fun_mk (st := s_law_bent_words) l__law_bent_words c__law_bent_words k__law_bent_words
  have b__law_bent_words := F__law_bent_words.binds (ps := ["_law_bag_here", "_law_words"]) fun _ _ _ _ _ _ us hl => match us, hl with | [_, _], _ => rfl
  have m__law_bent_words := PySem.W.mg_of X G a__law_bent_words
  have F__law_is_name := fun_mk (st := s_law_is_name) l__law_is_name c__law_is_name k__law_is_name
  have b__law_is_name := F__law_is_name.binds (ps := ["_law_text_z"]) fun _ _ _ _ _ _ us hl => match us, hl with | [_], _ => rfl
  have m__law_is_name := PySem.W.mg_of X G a__law_is_name
  have F__law_is_said := fun_mk (st := s_law_is_said) l__law_is_said c__law_is_said k__law_is_said
  have b__law_is_said := F__law_is_said.binds (ps := ["_law_many_z", "_law_thing"]) fun _ _ _ _ _ _ us hl => match us, hl with | [_, _], _ => rfl
  have m__law_is_said := PySem.W.mg_of X G a__law_is_said
  have F_law := fun_mk (st := slaw) l_law c_law k_law
  have b_law := F_law.binds (ps := ["_law_script"]) fun _ _ _ _ _ _ us hl => match us, hl with | [_], _ => rfl
  have m_law := PySem.W.mg_of X G a_law
  have F_check_sentence : FunD K "check_sentence" "check_sentence" (defArgs scheck_sentence) (defBody scheck_sentence) (defScope scheck_sentence) [] [("index", .int 0)] f_check_sentence _ := ⟨⟨_, _, _, _, _, _, _, _, _, _, rfl, l_check_sentence, c_check_sentence, .inl ⟨rfl, rfl⟩, .inr ⟨D_check_sentence, rfl, fun q hq => by rw [List.mem_singleton.mp hq]; exact ⟨_, w_check_sentence, ⟨_, rfl⟩⟩⟩⟩, k_check_sentence⟩
  have m_check_sentence := PySem.W.mg_of X G a_check_sentence
  have y_len := PySem.W.mg_none_of X G z_len
  have y_range := PySem.W.mg_none_of X G z_range
  have y_isinstance := PySem.W.mg_none_of X G z_isinstance
  have y_int := PySem.W.mg_none_of X G z_int
  have y_list := PySem.W.mg_none_of X G z_list
  have y_tuple := PySem.W.mg_none_of X G z_tuple
  have y_str := PySem.W.mg_none_of X G z_str
  have y_bool := PySem.W.mg_none_of X G z_bool
  have y_all := PySem.W.mg_none_of X G z_all
  have y_ValueError := PySem.W.mg_none_of X G z_ValueError
  have y_LookupError := PySem.W.mg_none_of X G z_LookupError
  have y_IndexError := PySem.W.mg_none_of X G z_IndexError
  have T : Txt K mg w aTRUE aFALSE a_RESERVED a_HEADS a_PARTS aVowError aInvalidSentence aMissing aNothingLeft fVI fI_InvalidSentence := ⟨PySem.W.mg_of X G ac_VowError, PySem.W.mg_of X G ac_InvalidSentence, PySem.W.mg_of X G ac_Missing, PySem.W.mg_of X G ac_NothingLeft, rz_InvalidSentence, ex_InvalidSentence, y_len, y_range, y_isinstance, y_int, y_list, y_tuple, y_str, y_bool, y_all, y_ValueError, y_LookupError, y_IndexError, PySem.W.mg_of X G ac_TRUE, fun _ => .inr ⟨_, _, _, lq_TRUE, rfl, rfl, by show 1 ≤ sizeLine; decide, .cons ⟨_, rfl⟩ .nil⟩, PySem.W.mg_of X G ac_FALSE, fun _ => .inr ⟨_, _, _, lq_FALSE, rfl, rfl, by show 1 ≤ sizeLine; decide, .cons ⟨_, rfl⟩ .nil⟩, PySem.W.mg_of X G ac__RESERVED, fun _ => .inr ⟨_, _, _, lr1, rfl, rfl, by show 7 ≤ sizeLine; decide, .cons ⟨_, rfl⟩ (.cons ⟨_, rfl⟩ (.cons ⟨_, rfl⟩ (.cons ⟨_, rfl⟩ (.cons ⟨_, rfl⟩ (.cons ⟨_, rfl⟩ (.cons ⟨_, rfl⟩ .nil))))))⟩, ⟨_, PySem.W.mg_of X G ac__LONGEST_NAME⟩, PySem.W.mg_of X G ac__HEADS, tabC_mk ld__HEADS kl__HEADS lw__HEADS al__HEADS nr__HEADS (tab_at ⟨⟨_, v0__HEADS⟩, ⟨_, v1__HEADS⟩, ⟨_, v2__HEADS⟩, ⟨_, v3__HEADS⟩, ⟨_, v4__HEADS⟩, ⟨_, v5__HEADS⟩, ⟨_, v6__HEADS⟩, ⟨_, v7__HEADS⟩, trivial⟩), PySem.W.mg_of X G ac__PARTS, tabC_mk ld__PARTS kl__PARTS lw__PARTS al__PARTS nr__PARTS (tab_at ⟨⟨_, v0__PARTS⟩, ⟨_, v1__PARTS⟩, ⟨_, v2__PARTS⟩, ⟨_, v3__PARTS⟩, ⟨_, v4__PARTS⟩, ⟨_, v5__PARTS⟩, ⟨_, v6__PARTS⟩, ⟨_, v7__PARTS⟩, trivial⟩)⟩
  obtain ⟨hC, hP⟩ := TBs cl_law Pl_law (tab_mk a_law l_law lc_law hp_law)
  refine ⟨PySem.W.fnOf "law" "law" (defArgs slaw) (defBody slaw) (defScope slaw) .none kV_law dc_law pm_law an_law (.ref cl_law) ct_law, [(cl_law, Pl_law)], spLawT K Pl_law, fun p hp => ?_, fun p hp => ?_, fun p hp => ?_, fun s v => .of_eq rfl, fun H a ns hl _ hT hS => ⟨a, ns, rfl, hS, hl, fun p hp => ?_, fun _ => rfl⟩, fun base _ _ hTB => main T (hTB _ List.mem_cons_self) F_VI b_VI F_I_InvalidSentence b_I_InvalidSentence F_is_name b_is_name m_is_name F_is_sentence b_is_sentence m_is_sentence F__is_node b__is_node m__is_node F__is_level b__is_level m__is_level F_parts_of b_parts_of m_parts_of F__law_bag b__law_bag m__law_bag F__law_pull b__law_pull m__law_pull F__law_of b__law_of m__law_of F__law_same b__law_same m__law_same F__law_fields b__law_fields m__law_fields F__law_told b__law_told m__law_told F__law_names b__law_names m__law_names F__law_said b__law_said m__law_said F__law_parts b__law_parts m__law_parts F__law_bent_words b__law_bent_words m__law_bent_words F__law_is_name b__law_is_name m__law_is_name F__law_is_said b__law_is_said m__law_is_said F_law b_law m_law F_check_sentence m_check_sentence rfl⟩
  · rw [List.mem_singleton.mp hp]; exact hP
  · rw [List.mem_singleton.mp hp]; exact np_law
  · rw [List.mem_singleton.mp hp]; exact hC
  · rw [List.mem_singleton.mp hp]; exact LamX.TabS.nil (hT _ List.mem_cons_self)
end Vw
open PySem PySem.W PyProof.Rows
set_option maxRecDepth 100000 in
set_option maxHeartbeats 0 in
theorem PySem.Challenge.cw_vowstair_k22_sentences_recognized_holds : PySem.Challenge.rw_vowstair_k22_sentences_recognized.Holds := by
  w_on; o_law; k_head; (case hw => w_witness2)
  k_fill
  refine Vw.walk_ofT3 (l := PySem.Challenge.rw_vowstair_k22_sentences_recognized) (n := 63) (k := 41) (x := "_law_script") (y := "law") (CX := fun _ => L2.CX0) rfl (by decide) rfl ⟨rfl, by decide, by decide⟩ (fun w h Y => PySem.W.km_in_of Y) (by first | rfl | decide +kernel) ?F (fun _ _ _ _ _ h => h)
  case F =>
    intro w mg fa h KX G hmg TBs
    refine' Vw.all_mk KX G hmg TBs ?ac_VowError ?ac_InvalidSentence ?ac_Missing ?ac_NothingLeft ?sb_VowError ?hd_VowError ?ty_VowError ?sb_Missing ?hd_Missing ?ty_Missing ?sb_NothingLeft ?hd_NothingLeft ?ty_NothingLeft ?sp1 ?tk1 ?op1 ?xo_InvalidSentence ?sa_InvalidSentence ?eb_InvalidSentence ?tyc_InvalidSentence ?kpc_InvalidSentence ?ga_InvalidSentence ?gg_InvalidSentence ?hdc_InvalidSentence ?cl_InvalidSentence ?mr_InvalidSentence ?fc_InvalidSentence ?no_InvalidSentence ?ic_InvalidSentence ?sv_InvalidSentence ?sm_InvalidSentence ?sn0_InvalidSentence ?nf_InvalidSentence ?ti_InvalidSentence ?ti1 ?l_VI ?c_VI ?k_VI ?rd0 ?sg0 ?fc0 ?l_I_InvalidSentence ?c_I_InvalidSentence ?k_I_InvalidSentence ?a_is_name ?l_is_name ?c_is_name ?k_is_name ?a_is_sentence ?l_is_sentence ?c_is_sentence ?k_is_sentence ?a__is_node ?l__is_node ?c__is_node ?k__is_node ?a__is_level ?l__is_level ?c__is_level ?k__is_level ?a_parts_of ?l_parts_of ?c_parts_of ?k_parts_of ?a__law_bag ?l__law_bag ?c__law_bag ?k__law_bag ?a__law_pull ?l__law_pull ?c__law_pull ?k__law_pull ?a__law_of ?l__law_of ?c__law_of ?k__law_of ?a__law_same ?l__law_same ?c__law_same ?k__law_same ?a__law_fields ?l__law_fields ?c__law_fields ?k__law_fields ?a__law_told ?l__law_told ?c__law_told ?k__law_told ?a__law_names ?l__law_names ?c__law_names ?k__law_names ?a__law_said ?l__law_said ?c__law_said ?k__law_said ?a__law_parts ?l__law_parts ?c__law_parts ?k__law_parts ?a__law_bent_words ?l__law_bent_words ?c__law_bent_words ?k__law_bent_words ?a__law_is_name ?l__law_is_name ?c__law_is_name ?k__law_is_name ?a__law_is_said ?l__law_is_said ?c__law_is_said ?k__law_is_said ?a_law ?l_law ?c_law ?k_law ?lc_law ?hp_law ?np_law ?a_check_sentence ?l_check_sentence ?c_check_sentence ?k_check_sentence ?w_check_sentence ?z_len ?z_range ?z_isinstance ?z_int ?z_list ?z_tuple ?z_str ?z_bool ?z_all ?z_ValueError ?z_LookupError ?z_IndexError ?ac_TRUE ?lq_TRUE ?ac_FALSE ?lq_FALSE ?ac__RESERVED ?lr1 ?ac__LONGEST_NAME ?ac__HEADS ?ld__HEADS ?kl__HEADS ?lw__HEADS ?al__HEADS ?nr__HEADS ?v0__HEADS ?v1__HEADS ?v2__HEADS ?v3__HEADS ?v4__HEADS ?v5__HEADS ?v6__HEADS ?v7__HEADS ?ac__PARTS ?ld__PARTS ?kl__PARTS ?lw__PARTS ?al__PARTS ?nr__PARTS ?v0__PARTS ?v1__PARTS ?v2__PARTS ?v3__PARTS ?v4__PARTS ?v5__PARTS ?v6__PARTS ?v7__PARTS
    (case ac_VowError => k_is)
    (case ac_InvalidSentence => k_is)
    (case ac_Missing => k_is)
    (case ac_NothingLeft => k_is)
    (case sb_VowError => k_is)
    (case hd_VowError => k_is)
    (case ty_VowError => k_is)
    (case sb_Missing => k_is)
    (case hd_Missing => k_is)
    (case ty_Missing => k_is)
    (case sb_NothingLeft => k_is)
    (case hd_NothingLeft => k_is)
    (case ty_NothingLeft => k_is)
    (case sp1 => k_is)
    (case tk1 => k_is)
    (case op1 => k_is)
    (case xo_InvalidSentence => k_is)
    (case sa_InvalidSentence => k_is)
    (case eb_InvalidSentence => k_is)
    (case tyc_InvalidSentence => k_is)
    (case kpc_InvalidSentence => k_is)
    (case ga_InvalidSentence => k_is)
    (case gg_InvalidSentence => k_is)
    (case hdc_InvalidSentence => k_is)
    (case cl_InvalidSentence => k_is)
    (case mr_InvalidSentence => k_is)
    (case fc_InvalidSentence => k_is)
    (case no_InvalidSentence => k_is)
    (case ic_InvalidSentence => k_is)
    (case sv_InvalidSentence => k_is)
    (case sm_InvalidSentence => k_is)
    (case sn0_InvalidSentence => k_is)
    (case nf_InvalidSentence => k_is)
    (case ti_InvalidSentence => k_is)
    (case rd0 => k_is)
    (case sg0 => k_is)
    (case fc0 => k_is)
    (case ti1 => k_is)
    (case l_VI => k_is)
    (case c_VI => k_is)
    (case k_VI => k_is)
    (case l_I_InvalidSentence => k_is)
    (case c_I_InvalidSentence => k_is)
    (case k_I_InvalidSentence => k_is)
    (case a_is_name => k_is)
    (case l_is_name => k_is)
    (case c_is_name => k_is)
    (case k_is_name => k_is)
    (case a_is_sentence => k_is)
    (case l_is_sentence => k_is)
    (case c_is_sentence => k_is)
    (case k_is_sentence => k_is)
    (case a__is_node => k_is)
    (case l__is_node => k_is)
    (case c__is_node => k_is)
    (case k__is_node => k_is)
    (case a__is_level => k_is)
    (case l__is_level => k_is)
    (case c__is_level => k_is)
    (case k__is_level => k_is)
    (case a_parts_of => k_is)
    (case l_parts_of => k_is)
    (case c_parts_of => k_is)
    (case k_parts_of => k_is)
    (case a__law_bag => k_is)
    (case l__law_bag => k_is)
    (case c__law_bag => k_is)
    (case k__law_bag => k_is)
    (case a__law_pull => k_is)
    (case l__law_pull => k_is)
    (case c__law_pull => k_is)
    (case k__law_pull => k_is)
    (case a__law_of => k_is)
    (case l__law_of => k_is)
    (case c__law_of => k_is)
    (case k__law_of => k_is)
    (case a__law_same => k_is)
    (case l__law_same => k_is)
    (case c__law_same => k_is)
    (case k__law_same => k_is)
    (case a__law_fields => k_is)
    (case l__law_fields => k_is)
    (case c__law_fields => k_is)
    (case k__law_fields => k_is)
    (case a__law_told => k_is)
    (case l__law_told => k_is)
    (case c__law_told => k_is)
    (case k__law_told => k_is)
    (case a__law_names => k_is)
    (case l__law_names => k_is)
    (case c__law_names => k_is)
    (case k__law_names => k_is)
    (case a__law_said => k_is)
    (case l__law_said => k_is)
    (case c__law_said => k_is)
    (case k__law_said => k_is)
    (case a__law_parts => k_is)
    (case l__law_parts => k_is)
    (case c__law_parts => k_is)
    (case k__law_parts => k_is)
    (case a__law_bent_words => k_is)
    (case l__law_bent_words => k_is)
    (case c__law_bent_words => k_is)
    (case k__law_bent_words => k_is)
    (case a__law_is_name => k_is)
    (case l__law_is_name => k_is)
    (case c__law_is_name => k_is)
    (case k__law_is_name => k_is)
    (case a__law_is_said => k_is)
    (case l__law_is_said => k_is)
    (case c__law_is_said => k_is)
    (case k__law_is_said => k_is)
    (case a_law => k_is)
    (case l_law => k_is)
    (case c_law => k_is)
    (case k_law => k_is)
    (case lc_law => k_is)
    (case hp_law => first | rfl | kernel_rfl)
    (case np_law => first | rfl | kernel_rfl)
    (case a_check_sentence => k_is)
    (case l_check_sentence => k_is)
    (case c_check_sentence => k_is)
    (case k_check_sentence => k_is)
    (case w_check_sentence => k_is)
    (case z_len => k_is)
    (case z_range => k_is)
    (case z_isinstance => k_is)
    (case z_int => k_is)
    (case z_list => k_is)
    (case z_tuple => k_is)
    (case z_str => k_is)
    (case z_bool => k_is)
    (case z_all => k_is)
    (case z_ValueError => k_is)
    (case z_LookupError => k_is)
    (case z_IndexError => k_is)
    (case ac_TRUE => k_is)
    (case lq_TRUE => k_is)
    (case ac_FALSE => k_is)
    (case lq_FALSE => k_is)
    (case ac__RESERVED => k_is)
    (case lr1 => k_is)
    (case ac__LONGEST_NAME => k_is)
    (case ac__HEADS => k_is)
    (case ld__HEADS => k_is)
    (case kl__HEADS => exact ⟨⟨_, _, rfl, rfl⟩, ⟨_, _, rfl, rfl⟩, ⟨_, _, rfl, rfl⟩, ⟨_, _, rfl, rfl⟩, ⟨_, _, rfl, rfl⟩, ⟨_, _, rfl, rfl⟩, ⟨_, _, rfl, rfl⟩, ⟨_, _, rfl, rfl⟩, trivial⟩)
    (case lw__HEADS => first | rfl | decide)
    (case al__HEADS => first | rfl | decide)
    (case nr__HEADS => first | rfl | decide)
    (case v0__HEADS => k_is)
    (case v1__HEADS => k_is)
    (case v2__HEADS => k_is)
    (case v3__HEADS => k_is)
    (case v4__HEADS => k_is)
    (case v5__HEADS => k_is)
    (case v6__HEADS => k_is)
    (case v7__HEADS => k_is)
    (case ac__PARTS => k_is)
    (case ld__PARTS => k_is)
    (case kl__PARTS => exact ⟨⟨_, _, rfl, rfl⟩, ⟨_, _, rfl, rfl⟩, ⟨_, _, rfl, rfl⟩, ⟨_, _, rfl, rfl⟩, ⟨_, _, rfl, rfl⟩, ⟨_, _, rfl, rfl⟩, ⟨_, _, rfl, rfl⟩, ⟨_, _, rfl, rfl⟩, trivial⟩)
    (case lw__PARTS => first | rfl | decide)
    (case al__PARTS => first | rfl | decide)
    (case nr__PARTS => first | rfl | decide)
    (case v0__PARTS => k_is)
    (case v1__PARTS => k_is)
    (case v2__PARTS => k_is)
    (case v3__PARTS => k_is)
    (case v4__PARTS => k_is)
    (case v5__PARTS => k_is)
    (case v6__PARTS => k_is)
    (case v7__PARTS => k_is)



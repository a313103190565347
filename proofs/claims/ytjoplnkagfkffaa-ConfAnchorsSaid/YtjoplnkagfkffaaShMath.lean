/-
  How many of the first members two lists have in common; and the lower-case form of labels. Plain mathematics.
-/
import Derived.Test.YtjoplnkagfkffaaMakeMath
namespace Go.Proofs.Ytjoplnkagfkffaa
def cpl : List Bs → List Bs → Nat
  | x :: a, y :: b => if x = y then cpl a b + 1 else 0
  | _, _ => 0
theorem cpl_le (a : List Bs) : ∀ b, cpl a b ≤ a.length ∧ cpl a b ≤ b.length := by
  induction a with
  | nil => intro b; simp [cpl]
  | cons x a ih =>
    intro b
    cases b with
    | nil => simp [cpl]
    | cons y b =>
      have := ih b
      simp only [cpl, List.length_cons]
      split <;> omega
theorem cpl_same (a : List Bs) : ∀ b j, j < cpl a b → a.getD j [] = b.getD j [] := by
  induction a with
  | nil => intro b j h; simp [cpl] at h
  | cons x a ih =>
    intro b j h
    cases b with
    | nil => simp [cpl] at h
    | cons y b =>
      simp only [cpl] at h
      split at h
      · rename_i e
        cases j with
        | zero => simpa using e
        | succ j => simpa using ih b j (by omega)
      · omega
theorem cpl_stop (a : List Bs) : ∀ b k, k < a.length → k < b.length → (∀ j, j < k → a.getD j [] = b.getD j []) → a.getD k [] ≠ b.getD k [] → cpl a b = k := by
  induction a with
  | nil => intro b k h; simp at h
  | cons x a ih =>
    intro b k h1 h2 h3 h4
    cases b with
    | nil => simp at h2
    | cons y b =>
      cases k with
      | zero =>
        simp at h4
        simp only [cpl]; rw [if_neg h4]
      | succ k =>
        have e : x = y := by simpa using h3 0 (by omega)
        simp only [cpl]; rw [if_pos e]
        have := ih b k (by simpa using h1) (by simpa using h2) (fun j hj => by simpa using h3 (j + 1) (by omega)) (by simpa using h4)
        omega
theorem cpl_full (a : List Bs) : ∀ b k, k = a.length ∨ k = b.length → k ≤ a.length → k ≤ b.length → (∀ j, j < k → a.getD j [] = b.getD j []) → cpl a b = k := by
  induction a with
  | nil => intro b k h h1 h2 h3; simp at h1; simp [cpl, h1]
  | cons x a ih =>
    intro b k h h1 h2 h3
    cases b with
    | nil => simp at h2; simp [cpl, h2]
    | cons y b =>
      cases k with
      | zero => simp at h
      | succ k =>
        have e : x = y := by simpa using h3 0 (by omega)
        simp only [cpl]; rw [if_pos e]
        have := ih b k (by simpa using h) (by simpa using h1) (by simpa using h2) (fun j hj => by simpa using h3 (j + 1) (by omega))
        omega
theorem cpl_next (a b : List Bs) (h1 : cpl a b < a.length) (h2 : cpl a b < b.length) : a.getD (cpl a b) [] ≠ b.getD (cpl a b) [] := by
  intro h
  have h3 : ∀ j, j < cpl a b + 1 → a.getD j [] = b.getD j [] := by
    intro j hj
    by_cases e : j < cpl a b
    · exact cpl_same a b j e
    · obtain rfl : j = cpl a b := by omega
      exact h
  have : ∀ (a b : List Bs) (k : Nat), k ≤ a.length → k ≤ b.length → (∀ j, j < k → a.getD j [] = b.getD j []) → k ≤ cpl a b := by
    intro a
    induction a with
    | nil => intro b k h1; simp at h1; omega
    | cons x a ih =>
      intro b k h1 h2 h3
      cases b with
      | nil => simp at h2; omega
      | cons y b =>
        cases k with
        | zero => omega
        | succ k =>
          have e : x = y := by simpa using h3 0 (by omega)
          simp only [cpl]; rw [if_pos e]
          have := ih b k (by simpa using h1) (by simpa using h2) (fun j hj => by simpa using h3 (j + 1) (by omega))
          omega
  have := this a b (cpl a b + 1) h1 h2 h3
  omega
end Go.Proofs.Ytjoplnkagfkffaa

/-
  Plain facts on the product of two polynomials modulo the checksum's one, on natural numbers; no statement is proved here.
-/
import Derived.Test.YtnlgijihfkkmgaaMath
namespace Go.Proofs.Ytnlgijihfkkmgaa

theorem split_xor {i b : Nat} (a : Nat) (h : b < 2 ^ i) : 2 ^ i * a + b = 2 ^ i * a ^^^ b := by
  apply Nat.eq_of_testBit_eq
  intro j
  rw [Nat.testBit_two_pow_mul_add a h, Nat.testBit_xor, Nat.testBit_two_pow_mul]
  by_cases hj : j < i
  · rw [if_pos hj]; simp [Nat.not_le.2 hj]
  · rw [if_neg hj]
    have hb : b.testBit j = false := Nat.testBit_lt_two_pow (Nat.lt_of_lt_of_le h (Nat.pow_le_pow_right (by omega) (by omega)))
    simp [hb, Nat.not_lt.1 hj]

def Lin (f : Nat → Nat) : Prop := ∀ a b, f (a ^^^ b) = f a ^^^ f b
theorem Lin.zero {f : Nat → Nat} (h : Lin f) : f 0 = 0 := by
  have h1 := h 0 0
  rw [Nat.xor_self, Nat.xor_self] at h1
  exact h1
theorem lin_ext {f g : Nat → Nat} (hf : Lin f) (hg : Lin g) (n : Nat) (h : ∀ i, i < n → f (2 ^ i) = g (2 ^ i)) : ∀ a, a < 2 ^ n → f a = g a := by
  induction n with
  | zero =>
    intro a ha
    obtain rfl : a = 0 := by simpa using ha
    rw [hf.zero, hg.zero]
  | succ n ih =>
    intro a ha
    have ih' := ih (fun i hi => h i (by omega))
    by_cases hl : a < 2 ^ n
    · exact ih' a hl
    · have hp : 2 ^ (n + 1) = 2 ^ n + 2 ^ n := by rw [Nat.pow_succ]; omega
      have e : a = 2 ^ n ^^^ (a - 2 ^ n) := by
        have := split_xor (i := n) (b := a - 2 ^ n) 1 (by omega)
        rw [Nat.mul_one] at this
        rw [← this]; omega
      rw [e, hf, hg, h n (by omega), ih' (a - 2 ^ n) (by omega)]

/-- The product's sum, so many terms of it. -/
def mulp (a b : Nat) : Nat → Nat
  | 0 => 0
  | k + 1 => if b.testBit (31 - k) then mulp a b k ^^^ stn k a else mulp a b k
def mul (a b : Nat) : Nat := mulp a b 32
theorem xor_swap (a b c d : Nat) : (a ^^^ b) ^^^ (c ^^^ d) = (a ^^^ c) ^^^ (b ^^^ d) := by
  rw [Nat.xor_assoc, Nat.xor_assoc, ← Nat.xor_assoc b, Nat.xor_comm b c, Nat.xor_assoc c]
theorem mulp_lin_left (b k : Nat) : Lin fun a => mulp a b k := by
  intro x y
  induction k with
  | zero => show (0 : Nat) = 0 ^^^ 0; rw [Nat.xor_self]
  | succ k ih =>
    simp only [mulp] at ih ⊢
    split
    · rw [ih, stn_xor, xor_swap]
    · exact ih
theorem mulp_lin_right (a k : Nat) : Lin fun b => mulp a b k := by
  intro x y
  induction k with
  | zero => show (0 : Nat) = 0 ^^^ 0; rw [Nat.xor_self]
  | succ k ih =>
    simp only [mulp] at ih ⊢
    rw [ih, Nat.testBit_xor]
    cases x.testBit (31 - k) <;> cases y.testBit (31 - k)
    · rw [if_neg (by decide), if_neg (by decide), if_neg (by decide)]
    · rw [if_pos (by decide), if_neg (by decide), if_pos (by decide), Nat.xor_assoc]
    · rw [if_pos (by decide), if_pos (by decide), if_neg (by decide), Nat.xor_assoc, Nat.xor_assoc, Nat.xor_comm (mulp a y k)]
    · rw [if_neg (by decide), if_pos (by decide), if_pos (by decide), xor_swap, Nat.xor_self, Nat.xor_zero]
theorem mulp_pow (a i : Nat) (hi : i < 32) (k : Nat) (hk : k ≤ 32) : mulp a (2 ^ i) k = if k ≤ 31 - i then 0 else stn (31 - i) a := by
  induction k with
  | zero => rw [if_pos (by omega)]; rfl
  | succ k ih =>
    simp only [mulp]
    rw [ih (by omega), Nat.testBit_two_pow]
    by_cases h1 : k + 1 ≤ 31 - i
    · rw [if_neg (by simp; omega), if_pos (by omega), if_pos h1]
    · by_cases h2 : k = 31 - i
      · rw [if_pos (by simp; omega), if_pos (by omega), if_neg h1, Nat.zero_xor, h2]
      · rw [if_neg (by simp; omega), if_neg (by omega), if_neg h1]
theorem mul_pow (a i : Nat) (hi : i < 32) : mul a (2 ^ i) = stn (31 - i) a := by
  unfold mul; rw [mulp_pow a i hi 32 (by omega), if_neg (by omega)]
theorem stn_lin (k : Nat) : Lin (stn k) := stn_xor k
theorem mul_top (a : Nat) (ha : a < 4294967296) : mul a 3988292384 = stn 32 a :=
  lin_ext (f := fun a => mul a 3988292384) (mulp_lin_left 3988292384 32) (stn_lin 32) 32 (by decide +kernel) a (by omega)
theorem st_pow (i : Nat) : st (2 ^ (i + 1)) = 2 ^ i := by
  rw [Nat.pow_succ, Nat.mul_comm, st_two]
theorem mul_st (a b : Nat) (ha : a < 4294967296) (hb : b < 4294967296) : mul a (st b) = st (mul a b) := by
  refine lin_ext (f := fun b => mul a (st b)) (g := fun b => st (mul a b)) ?_ ?_ 32 ?_ b (by omega)
  · intro x y; show mul a (st (x ^^^ y)) = _; rw [st_xor]; exact mulp_lin_right a 32 _ _
  · intro x y; show st (mul a (x ^^^ y)) = _
    rw [show mul a (x ^^^ y) = mul a x ^^^ mul a y from mulp_lin_right a 32 x y, st_xor]
  · intro i hi
    show mul a (st (2 ^ i)) = st (mul a (2 ^ i))
    rw [mul_pow a i hi]
    match i, hi with
    | 0, _ =>
      have e : st (2 ^ 0) = 3988292384 := by decide +kernel
      rw [e, mul_top a ha, ← stn_succ]
    | i + 1, hi =>
      rw [st_pow, mul_pow a i (by omega), ← stn_succ]
      congr 1
      omega
theorem mul_stn (a : Nat) (ha : a < 4294967296) (j : Nat) : mul a (stn j 2147483648) = stn j a := by
  induction j with
  | zero =>
    have := mul_pow a 31 (by omega)
    exact this
  | succ j ih =>
    rw [stn_succ, mul_st a _ ha (stn_lt j (by omega)), ih, ← stn_succ]
theorem mulp_lt (a b k : Nat) (ha : a < 4294967296) : mulp a b k < 4294967296 := by
  induction k with
  | zero => simp only [mulp]; omega
  | succ k ih =>
    simp only [mulp]
    split
    · exact xor_u32 ih (stn_lt k ha)
    · exact ih
end Go.Proofs.Ytnlgijihfkkmgaa

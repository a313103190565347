/-
  Plain facts on a text some of whose bits are turned; no statement is proved here.
-/
import Derived.Test.YtpiiknbjllgaoaaCMath
namespace Go.Proofs.Ytpiiknbjllgaoaa

theorem two_pow_mul_xor (i a b : Nat) : 2 ^ i * (a ^^^ b) = 2 ^ i * a ^^^ 2 ^ i * b := by
  apply Nat.eq_of_testBit_eq
  intro j
  simp only [Nat.testBit_xor, Nat.testBit_two_pow_mul]
  by_cases h : j ≥ i <;> simp [h]
theorem nm_set (l : List UInt8) (j : Nat) (h : j < l.length) (x : UInt8) : nm (l.set j (l[j] ^^^ x)) = nm l ^^^ 2 ^ (8 * j) * x.toNat := by
  induction l generalizing j with
  | nil => exact absurd h (by simp)
  | cons b r ih =>
    match j, h with
    | 0, _ =>
      show (b ^^^ x).toNat ^^^ 2 ^ 8 * nm r = (b.toNat ^^^ 2 ^ 8 * nm r) ^^^ 2 ^ (8 * 0) * x.toNat
      rw [UInt8.toNat_xor, Nat.mul_zero, Nat.pow_zero, Nat.one_mul, Nat.xor_assoc, Nat.xor_assoc, Nat.xor_comm x.toNat]
    | j + 1, h =>
      show b.toNat ^^^ 2 ^ 8 * nm (r.set j (r[j]'(by simpa using h) ^^^ x)) = (b.toNat ^^^ 2 ^ 8 * nm r) ^^^ 2 ^ (8 * (j + 1)) * x.toNat
      rw [ih j (by simpa using h), two_pow_mul_xor, Nat.xor_assoc, ← Nat.mul_assoc, ← Nat.pow_add, show 8 + 8 * j = 8 * (j + 1) by omega]
theorem mod_succ_xor (b i : Nat) : b % 2 ^ (i + 1) = (b % 2 ^ i) ^^^ (if b.testBit i then 2 ^ i else 0) := by
  apply Nat.eq_of_testBit_eq
  intro j
  rw [Nat.testBit_xor, Nat.testBit_mod_two_pow, Nat.testBit_mod_two_pow]
  by_cases hb : b.testBit i = true
  · rw [if_pos hb, Nat.testBit_two_pow]
    by_cases hj : i = j
    · subst hj; simp [hb]
    · by_cases h2 : j < i
      · simp [hj, h2, show j < i + 1 by omega]
      · simp [hj, h2, show ¬ j < i + 1 by omega]
  · rw [if_neg hb, Nat.zero_testBit]
    by_cases hj : i = j
    · subst hj; simp [hb]
    · by_cases h2 : j < i
      · simp [h2, show j < i + 1 by omega]
      · simp [h2, show ¬ j < i + 1 by omega]
/-- The bit that is turned in a byte. -/
def bt (k : Nat) : UInt8 := UInt8.ofNat (2 ^ (k % 8))
theorem bt_nat (k : Nat) : (bt k).toNat = 2 ^ (k % 8) := by
  have h : 2 ^ (k % 8) ≤ 2 ^ 7 := Nat.pow_le_pow_right (by omega) (by omega)
  unfold bt
  rw [UInt8.toNat_ofNat']
  exact Nat.mod_eq_of_lt (by omega)
/-- The text, so many bits of it turned or not. -/
def trn (l : List UInt8) (n b : Nat) : Nat → List UInt8
  | 0 => l
  | i + 1 => if b.testBit i then (trn l n b i).set ((n + i) / 8) ((trn l n b i).getD ((n + i) / 8) 0 ^^^ bt (n + i)) else trn l n b i
theorem trn_length (l : List UInt8) (n b i : Nat) : (trn l n b i).length = l.length := by
  induction i with
  | zero => rfl
  | succ i ih =>
    simp only [trn]
    split
    · rw [List.length_set, ih]
    · exact ih
theorem trn_nm (l : List UInt8) (n b i : Nat) (h : n + i ≤ 8 * l.length) : nm (trn l n b i) = nm l ^^^ 2 ^ n * (b % 2 ^ i) := by
  induction i with
  | zero => simp only [trn, Nat.pow_zero, Nat.mod_one, Nat.mul_zero, Nat.xor_zero]
  | succ i ih =>
    have hl : (n + i) / 8 < (trn l n b i).length := by rw [trn_length]; omega
    rw [mod_succ_xor, two_pow_mul_xor, ← Nat.xor_assoc, ← ih (by omega)]
    simp only [trn]
    split
    · have e : (trn l n b i).getD ((n + i) / 8) 0 = (trn l n b i)[(n + i) / 8] := by simp [hl]
      rw [e, nm_set _ _ hl, bt_nat, ← Nat.pow_add, ← Nat.pow_add, show 8 * ((n + i) / 8) + (n + i) % 8 = n + i by omega]
    · rw [Nat.mul_zero, Nat.xor_zero]
theorem xor_cancel_zero {a d : Nat} (h : a ^^^ d = a) : d = 0 := by
  have e : a ^^^ (a ^^^ d) = a ^^^ a := by rw [h]
  rwa [← Nat.xor_assoc, Nat.xor_self, Nat.zero_xor] at e
theorem nt_inj {a b : Nat} (h : nt a = nt b) : a = b := by
  rw [← nt_nt a, h, nt_nt]
/-- THE TURNED TEXT's SUM IS ANOTHER ONE. -/
theorem trn_cs (l : List UInt8) (n b : Nat) (h : n + 32 ≤ 8 * l.length) (hb : b < 4294967296) (h0 : b ≠ 0) : cs (trn l n b 32) ≠ cs l := by
  have key : ∀ o : Nat, fd o (trn l n b 32) = fd o l → False := by
    intro o e
    rw [fd_eq, fd_eq, trn_length, trn_nm l n b 32 h, Nat.mod_eq_of_lt (show b < 2 ^ 32 by omega), ← Nat.xor_assoc, stn_xor] at e
    have e2 := xor_cancel_zero e
    have e3 : 8 * l.length = n + (8 * l.length - n) := by omega
    rw [e3, stn_add, stn_shl] at e2
    exact stn_pos _ hb h0 e2
  intro e
  exact key _ (nt_inj e)
end Go.Proofs.Ytpiiknbjllgaoaa

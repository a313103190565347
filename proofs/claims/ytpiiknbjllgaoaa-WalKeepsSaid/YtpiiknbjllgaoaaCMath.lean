/-
  Plain facts on the checksum's steps, on natural numbers; no statement is proved here.
-/
import Derived.Lib.Hide
namespace Go.Proofs.Ytpiiknbjllgaoaa

/-- A step, on any number. -/
def st (c : Nat) : Nat := if c % 2 = 1 then (c / 2) ^^^ 3988292384 else c / 2
theorem xor4 (a b p : Nat) : a ^^^ b = a ^^^ p ^^^ (b ^^^ p) := by
  rw [Nat.xor_comm b p, ← Nat.xor_assoc, Nat.xor_assoc a p p, Nat.xor_self, Nat.xor_zero]
theorem st_xor (a b : Nat) : st (a ^^^ b) = st a ^^^ st b := by
  have h := @Nat.xor_mod_two_eq_one a b
  have e : (a ^^^ b) / 2 = a / 2 ^^^ b / 2 := Nat.xor_div_two
  unfold st
  rw [e]
  by_cases ha : a % 2 = 1 <;> by_cases hb : b % 2 = 1
  · rw [if_neg (by rw [h]; simp [ha, hb]), if_pos ha, if_pos hb, ← xor4]
  · rw [if_pos (by rw [h]; simp [ha, hb]), if_pos ha, if_neg hb, Nat.xor_assoc, Nat.xor_comm (b / 2), Nat.xor_assoc]
  · rw [if_pos (by rw [h]; simp [ha, hb]), if_neg ha, if_pos hb, Nat.xor_assoc]
  · rw [if_neg (by rw [h]; simp [ha, hb]), if_neg ha, if_neg hb]
theorem st_zero : st 0 = 0 := rfl
theorem st_two (x : Nat) : st (2 * x) = x := by
  unfold st; rw [if_neg (by omega)]; omega
theorem st_lt {c : Nat} (h : c < 4294967296) : st c < 4294967296 := by
  unfold st; split
  · exact Nat.xor_lt_two_pow (n := 32) (by omega) (by omega)
  · omega
theorem xor_zero_eq {a b : Nat} (h : a ^^^ b = 0) : a = b := by
  have e : (a ^^^ b) ^^^ b = a := by rw [Nat.xor_assoc, Nat.xor_self, Nat.xor_zero]
  rw [← e, h, Nat.zero_xor]
theorem xor_u32 {a b : Nat} (ha : a < 4294967296) (hb : b < 4294967296) : a ^^^ b < 4294967296 := by
  have h := Nat.xor_lt_two_pow (n := 32) (x := a) (y := b) (by omega) (by omega)
  omega
theorem st_pos {c : Nat} (h : c < 4294967296) (h0 : c ≠ 0) : st c ≠ 0 := by
  unfold st; split
  · intro e
    have e2 : c / 2 = 3988292384 := xor_zero_eq e
    omega
  · omega

/-- So many steps. -/
def stn : Nat → Nat → Nat
  | 0, c => c
  | k + 1, c => stn k (st c)
theorem stn_add (i j c : Nat) : stn (i + j) c = stn j (stn i c) := by
  induction i generalizing c with
  | zero => simp [stn]
  | succ i ih => rw [Nat.succ_add]; exact ih (st c)
theorem stn_succ (k c : Nat) : stn (k + 1) c = st (stn k c) := by
  rw [stn_add]; rfl
theorem stn_st (k c : Nat) : stn k (st c) = st (stn k c) := stn_succ k c
theorem stn_comm (i j c : Nat) : stn i (stn j c) = stn j (stn i c) := by
  rw [← stn_add, ← stn_add, Nat.add_comm]
theorem stn_xor (k a b : Nat) : stn k (a ^^^ b) = stn k a ^^^ stn k b := by
  induction k generalizing a b with
  | zero => rfl
  | succ k ih => show stn k (st (a ^^^ b)) = _; rw [st_xor, ih]; rfl
theorem stn_zero (k : Nat) : stn k 0 = 0 := by
  induction k with
  | zero => rfl
  | succ k ih => exact ih
theorem stn_lt (k : Nat) {c : Nat} (h : c < 4294967296) : stn k c < 4294967296 := by
  induction k generalizing c with
  | zero => exact h
  | succ k ih => exact ih (st_lt h)
theorem stn_pos (k : Nat) {c : Nat} (h : c < 4294967296) (h0 : c ≠ 0) : stn k c ≠ 0 := by
  induction k generalizing c with
  | zero => exact h0
  | succ k ih => exact ih (st_lt h) (st_pos h h0)
theorem stn_shl (k x : Nat) : stn k (2 ^ k * x) = x := by
  induction k with
  | zero => simp [stn]
  | succ k ih =>
    show stn k (st (2 ^ (k + 1) * x)) = x
    rw [show 2 ^ (k + 1) * x = 2 * (2 ^ k * x) by rw [Nat.pow_succ]; simp [Nat.mul_comm, Nat.mul_left_comm], st_two, ih]

/-- The state behind a text, from a state on. -/
def fd (c : Nat) : List UInt8 → Nat
  | [] => c
  | b :: r => fd (stn 8 (c ^^^ b.toNat)) r
/-- The number that a text's bytes make, the first one the least. -/
def nm : List UInt8 → Nat
  | [] => 0
  | b :: r => b.toNat ^^^ 2 ^ 8 * nm r
theorem fd_eq (c : Nat) (l : List UInt8) : fd c l = stn (8 * l.length) (c ^^^ nm l) := by
  induction l generalizing c with
  | nil => show c = c ^^^ 0; rw [Nat.xor_zero]
  | cons b r ih =>
    show fd (stn 8 (c ^^^ b.toNat)) r = stn (8 * (r.length + 1)) (c ^^^ (b.toNat ^^^ 2 ^ 8 * nm r))
    rw [ih, Nat.mul_succ, Nat.add_comm, stn_add, ← Nat.xor_assoc, stn_xor 8 (c ^^^ b.toNat), stn_shl 8 (nm r)]
theorem fd_append (c : Nat) (l m : List UInt8) : fd c (l ++ m) = fd (fd c l) m := by
  induction l generalizing c with
  | nil => rfl
  | cons b r ih => exact ih _
theorem fd_lt {c : Nat} (l : List UInt8) (h : c < 4294967296) : fd c l < 4294967296 := by
  induction l generalizing c with
  | nil => exact h
  | cons b r ih => exact ih (stn_lt 8 (xor_u32 h (by have := b.toNat_lt; omega)))
theorem fd_xor (c d : Nat) (l : List UInt8) : fd (c ^^^ d) l = fd c l ^^^ stn (8 * l.length) d := by
  rw [fd_eq, fd_eq, Nat.xor_assoc, Nat.xor_comm d, ← Nat.xor_assoc, stn_xor]

/-- The complement of a number below 2^32. -/
def nt (c : Nat) : Nat := c ^^^ 4294967295
theorem xor_twice (c m : Nat) : (c ^^^ m) ^^^ m = c := by
  rw [Nat.xor_assoc, Nat.xor_self, Nat.xor_zero]
theorem nt_nt (c : Nat) : nt (nt c) = c := xor_twice c _
theorem nt_lt {c : Nat} (h : c < 4294967296) : nt c < 4294967296 := by
  unfold nt; exact xor_u32 h (by omega)
/-- The checksum of a text. -/
def cs (l : List UInt8) : Nat := nt (fd 4294967295 l)
/-- That of a text of checksum c with another one behind it. -/
def ad (c : Nat) (l : List UInt8) : Nat := nt (fd (nt c) l)
theorem cs_lt (l : List UInt8) : cs l < 4294967296 := nt_lt (fd_lt l (by omega))
theorem ad_lt {c : Nat} (l : List UInt8) (h : c < 4294967296) : ad c l < 4294967296 := nt_lt (fd_lt l (nt_lt h))
theorem ad_cs (l m : List UInt8) : ad (cs l) m = cs (l ++ m) := by
  unfold ad cs; rw [nt_nt, fd_append]
theorem ad_zero (l : List UInt8) : ad 0 l = cs l := by
  unfold ad cs; have e : nt 0 = 4294967295 := by
    unfold nt; rw [Nat.zero_xor]
  rw [e]
theorem join_cs (l m : List UInt8) : stn (8 * m.length) (cs l) ^^^ cs m = cs (l ++ m) := by
  have key : ∀ (k F G o : Nat), (∀ c d, fd (c ^^^ d) m = fd c m ^^^ stn k d) → stn k (F ^^^ o) ^^^ (fd o m ^^^ o) = fd F m ^^^ o := by
    intro k F G o h
    have h1 := h o (F ^^^ o)
    rw [show o ^^^ (F ^^^ o) = F by rw [Nat.xor_comm F, ← Nat.xor_assoc, Nat.xor_self, Nat.zero_xor]] at h1
    rw [h1, ← Nat.xor_assoc, Nat.xor_comm (stn k _)]
  unfold cs nt
  rw [fd_append]
  exact key _ _ 0 _ (fun c d => fd_xor c d m)
theorem split_xor {i b : Nat} (a : Nat) (h : b < 2 ^ i) : 2 ^ i * a + b = 2 ^ i * a ^^^ b := by
  apply Nat.eq_of_testBit_eq
  intro j
  rw [Nat.testBit_two_pow_mul_add a h, Nat.testBit_xor, Nat.testBit_two_pow_mul]
  by_cases hj : j < i
  · rw [if_pos hj]; simp [Nat.not_le.2 hj]
  · rw [if_neg hj]
    have hb : b.testBit j = false := Nat.testBit_lt_two_pow (Nat.lt_of_lt_of_le h (Nat.pow_le_pow_right (by omega) (by omega)))
    simp [hb, Nat.not_lt.1 hj]

end Go.Proofs.Ytpiiknbjllgaoaa

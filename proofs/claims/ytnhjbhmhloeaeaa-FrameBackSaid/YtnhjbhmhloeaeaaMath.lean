/-
  Texts on a stream, each with its length ahead of it: lists of bytes alone; no program is imported.
-/
import Init
namespace Go.Proofs.Ytnhjbhmhloeaeaa
/-- Bytes. -/
abbrev Bs := List UInt8
/-- How many bytes the first two say. -/
def sz (R : Bs) : Nat := match R with
  | a :: b :: _ => a.toNat * 256 + b.toNat
  | _ => 0
/-- How many bytes the frame has with which these begin; 0: it is not whole. -/
def fl (R : Bs) : Nat := if 2 + sz R ≤ R.length ∧ 2 ≤ R.length then 2 + sz R else 0
/-- The text of the frame, and what is left behind it. -/
def hd (R : Bs) : Bs := (R.take (fl R)).drop 2
def tl (R : Bs) : Bs := R.drop (fl R)
theorem fl_le (R : Bs) : fl R ≤ R.length := by unfold fl; split <;> omega
theorem fl_two (R : Bs) (h : fl R ≠ 0) : 2 ≤ fl R := by
  unfold fl at h ⊢
  split <;> simp_all <;> omega
theorem fl_yes {R : Bs} (h1 : 2 + sz R ≤ R.length) (h2 : 2 ≤ R.length) : fl R = 2 + sz R := by unfold fl; rw [if_pos ⟨h1, h2⟩]
theorem fl_no {R : Bs} (h : ¬ (2 + sz R ≤ R.length ∧ 2 ≤ R.length)) : fl R = 0 := by unfold fl; rw [if_neg h]
theorem sz_two {R : Bs} (h : 2 ≤ R.length) : sz R = (R[0]'(by omega)).toNat * 256 + (R[1]'(by omega)).toNat := by
  match R, h with
  | a :: b :: r, _ => rfl
theorem sz_lt (R : Bs) : sz R < 65536 := by
  match R with
  | a :: b :: r => have := a.toNat_lt; have := b.toNat_lt; simp only [sz]; omega
  | [] => simp [sz]
  | [a] => simp [sz]
theorem tl_length (R : Bs) : (tl R).length = R.length - fl R := by simp [tl]
theorem hd_length (R : Bs) : (hd R).length = fl R - 2 := by have := fl_le R; simp [hd]; omega
/-- The frame of a text. -/
def pre (n : Nat) : Bs := [UInt8.ofNat (n / 256), UInt8.ofNat n]
def fr (s : Bs) : Bs := pre s.length ++ s
def frs (l : List Bs) : Bs := (l.map fr).flatten
theorem pre_length (n : Nat) : (pre n).length = 2 := rfl
theorem fr_length (s : Bs) : (fr s).length = 2 + s.length := by simp [fr, pre]; omega
theorem frs_cons (x : Bs) (l : List Bs) : frs (x :: l) = fr x ++ frs l := by simp [frs]
theorem frs_snoc (l : List Bs) (x : Bs) : frs (l ++ [x]) = frs l ++ fr x := by simp [frs]
theorem frs_append (l m : List Bs) : frs (l ++ m) = frs l ++ frs m := by simp [frs]
theorem sz_fr {s : Bs} (h : s.length ≤ 65535) (r : Bs) : sz (fr s ++ r) = s.length := by
  simp only [fr, pre, List.cons_append, List.nil_append, sz, UInt8.toNat_ofNat']
  omega
theorem fl_fr {s : Bs} (h : s.length ≤ 65535) (r : Bs) : fl (fr s ++ r) = 2 + s.length := by
  have h1 := sz_fr h r
  rw [fl_yes (by rw [h1, List.length_append, fr_length]; omega) (by rw [List.length_append, fr_length]; omega), h1]
theorem hd_fr {s : Bs} (h : s.length ≤ 65535) (r : Bs) : hd (fr s ++ r) = s := by
  unfold hd
  rw [fl_fr h, show 2 + s.length = (fr s).length from (fr_length s).symm, List.take_left]
  simp [fr, pre]
theorem tl_fr {s : Bs} (h : s.length ≤ 65535) (r : Bs) : tl (fr s ++ r) = r := by
  unfold tl
  rw [fl_fr h, show 2 + s.length = (fr s).length from (fr_length s).symm, List.drop_left]
/-- A frame that is cut off is not whole. -/
theorem fl_cut {s : Bs} (h : s.length ≤ 65535) (k : Nat) (hk : k < (fr s).length) (r : Bs) : fl ((fr s ++ r).take k) = 0 := by
  have e : (fr s ++ r).take k = (fr s).take k := by rw [List.take_append_of_le_length (by omega)]
  rw [e]
  rw [fr_length] at hk
  match k, hk with
  | 0, _ => rfl
  | 1, _ => simp [fr, pre, fl, sz]
  | k + 2, hk =>
    have h1 : sz ((fr s).take (k + 2)) = s.length := by
      simp only [fr, pre, List.cons_append, List.nil_append, List.take_succ_cons, sz, UInt8.toNat_ofNat']
      omega
    refine fl_no fun h2 => ?_
    have h3 := h2.1
    rw [h1, List.length_take, fr_length] at h3
    omega
theorem nil_fl : fl [] = 0 := by simp [fl]
end Go.Proofs.Ytnhjbhmhloeaeaa

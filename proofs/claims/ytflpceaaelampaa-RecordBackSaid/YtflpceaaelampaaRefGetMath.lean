/-
  The document's reader of records goes the same ways as the program's: plain mathematics.
-/
import Derived.Test.YtflpceaaelampaaGet
import Derived.Test.YtflpceaaelampaaRefCheck
namespace Go.Proofs.Ytflpceaaelampaa
open Go.RowKit
/-- Bytes that came first, and what is read behind them. -/
def jr (x : Bs) (R : List Part × Int × Int) : Bs × Int × Int := if R.2.2 = 0 then (x ++ joinP R.1, R.2.1, 0) else ([], 0, R.2.2)
theorem jr_cmb (x : Bs) (ps : List Part) (R : List Part × Int × Int) : jr x (cmb ps R) = jr (x ++ joinP ps) R := by
  unfold jr cmb
  by_cases h : R.2.2 = 0
  · simp [h, joinP]
  · simp [h]
theorem jr_go {s x t : Bs} {z : Int} {zs : List Int} {a b : Int} (h : rd1 s a z = (t, b, 0)) : jr x (rdP s (z :: zs) a) = jr (x ++ t) (rdP s zs b) := by
  rw [rdP_cons_yes h, jr_cmb]; simp [joinP]
theorem jr_bad {s x : Bs} {z : Int} {zs : List Int} {a : Int} (h : (rd1 s a z).2.2 ≠ 0) : jr x (rdP s (z :: zs) a) = ([], 0, (rd1 s a z).2.2) := by
  rw [rdP_cons_no h]; unfold jr; simp [h]
theorem jr_end {s x : Bs} {a : Int} : jr x (rdP s [] a) = (x, a, 0) := by simp [jr, rdP, joinP]
theorem rd1_zero {s : Bs} {a : Int} (h0 : 0 ≤ a) (h1 : a ≤ (s.length : Int)) : rd1 s a 0 = ([], a, 0) := by
  obtain ⟨k, rfl⟩ : ∃ k : Nat, a = (k : Int) := ⟨a.toNat, by omega⟩
  have := rd1_cut (s := s) (a := k) (z := 0) (by omega)
  simpa using this
/-- The document's layout: bytes ahead, names, bytes behind. -/
def lx (t : Nat) : List Int := (nhA t : Int) :: (List.replicate (nhN t) (-1) ++ [(nhB t : Int)])
theorem lx_end (s : Bs) (zs : List Int) : ∀ (x : Bs) (a : Int), 0 ≤ a → a ≤ (s.length : Int) → jr x (rdP s (zs ++ [0]) a) = jr x (rdP s zs a) := by
  induction zs with
  | nil => intro x a h0 h1; rw [List.nil_append, jr_go (rd1_zero h0 h1), List.append_nil]
  | cons z zs ih =>
    intro x a h0 h1
    have hb := rd1_bd s a z
    rw [List.cons_append]
    generalize hq : rd1 s a z = q at hb
    obtain ⟨t, b, e⟩ := q
    by_cases he : e = 0
    · subst he
      rw [jr_go hq, jr_go hq, ih _ _ hb.1 hb.2]
    · rw [jr_bad (by rw [hq]; exact he), jr_bad (by rw [hq]; exact he)]
/-- Both layouts come to the same. -/
theorem lx_lay {t z : Nat} {s : Bs} {a : Int} (h : named t = true) (h0 : 0 ≤ a) (h1 : a ≤ (s.length : Int)) : jr [] (rdP s (lx t) a) = jr [] (rdP s (lay t z) a) := by
  unfold named at h
  simp only [decide_eq_true_eq] at h
  by_cases g1 : t = 15
  · subst g1
    have e1 : lx 15 = [2, -1] ++ [0] := rfl
    have e2 : lay 15 z = [2, -1] := rfl
    rw [e1, e2, lx_end s _ _ _ h0 h1]
  · by_cases g2 : t = 6
    · subst g2
      have e1 : lx 6 = 0 :: [-1, -1, 20] := rfl
      have e2 : lay 6 z = [-1, -1, 20] := rfl
      rw [e1, e2, jr_go (rd1_zero h0 h1)]
      rfl
    · have e1 : lx t = 0 :: ([-1] ++ [0]) := by
        unfold lx nhA nhN nhB; rw [if_neg g1, if_pos (by omega), if_neg g2]; rfl
      have e2 : lay t z = [-1] := by unfold lay; rw [if_pos (by omega)]
      rw [e1, e2, jr_go (rd1_zero h0 h1), lx_end s _ _ _ h0 h1]
      rfl
theorem lay_plain {t z : Nat} (h : named t = false) : lay t z = [(z : Int)] := by
  unfold named at h
  simp only [decide_eq_false_iff_not, not_or] at h
  obtain ⟨g1, g2, g3, g4, g5⟩ := h
  unfold lay; rw [if_neg (by omega), if_neg g4, if_neg g5]
theorem pi_pi {s : Bs} {p i z : Nat} (h : p + 10 ≤ s.length) (hz : i + z ≤ 10) : piS (piS s (p : Int) 10) (i : Int) (z : Int) = piS s ((p + i : Nat) : Int) (z : Int) := by
  rw [show (10 : Int) = ((10 : Nat) : Int) from rfl, (pi_cut h).1, (pi_cut (s := (s.drop p).take 10) (by rw [List.length_take, List.length_drop]; omega)).1, (pi_cut (s := s) (a := p + i) (z := z) (by omega)).1]
  rw [List.drop_take, List.take_take, List.drop_drop, Nat.min_eq_left (by omega)]
theorem hd_numbers {s : Bs} {a : Int} {p : Nat} (hp : (nmI s a).2.1 = p) (h : p + 10 ≤ s.length) :
    gT (hdF s a) = numB (piS s (p : Int) 2) ∧ gC (hdF s a) = numB (piS s ((p + 2 : Nat) : Int) 2) ∧ gL (hdF s a) = numB (piS s ((p + 4 : Nat) : Int) 4) ∧ gZ (hdF s a) = numB (piS s ((p + 8 : Nat) : Int) 2) := by
  unfold gT gC gL gZ hdF
  rw [hp]
  refine ⟨?_, ?_, ?_, ?_⟩
  · have := pi_pi (i := 0) (z := 2) h (by omega); rw [Nat.add_zero] at this; exact congrArg numB this
  · exact congrArg numB (pi_pi (i := 2) (z := 2) h (by omega))
  · exact congrArg numB (pi_pi (i := 4) (z := 4) h (by omega))
  · exact congrArg numB (pi_pi (i := 8) (z := 2) h (by omega))
theorem hd_far {s : Bs} {a : Int} {p : Nat} (he : (nmI s a).2.2 = 0) (hp : (nmI s a).2.1 = p) (h : ¬ p + 10 ≤ s.length) : gt s a = (zeroR, 0, 10) := by
  have e : hdE s a = 10 := by
    unfold hdE; rw [if_pos he, hp]
    exact (pi_no (piE_no (by omega))).2.2
  unfold gt; rw [if_neg (by omega), e]
end Go.Proofs.Ytflpceaaelampaa

/-
  How a text is read; plain mathematics.
-/
import Derived.Test.YtpeojicimmofjaaDoorTextMath
namespace Go.Proofs.YtpeojicimmofjaaDoor
def dig (b : UInt8) : Bool := decide (48 ≤ b.toNat ∧ b.toNat ≤ 57)
/-- The byte that three digits at the beginning stand for. -/
def num : Bs → Option UInt8
  | a :: b :: c :: _ => if dig a = true ∧ dig b = true ∧ dig c = true ∧ 100 * (a.toNat - 48) + 10 * (b.toNat - 48) + (c.toNat - 48) ≤ 255 then some (UInt8.ofNat (100 * (a.toNat - 48) + 10 * (b.toNat - 48) + (c.toNat - 48))) else none
  | _ => none
/-- The byte that the beginning of a text stands for, and how many of its bytes do so. -/
def rd : Bs → Option (UInt8 × Nat)
  | [] => none
  | c :: r => if c.toNat = 92 then (match r with
      | [] => none
      | d :: r' => if dig d = true then (num (d :: r')).map (fun v => (v, 4)) else some (d, 2)) else some (c, 1)
theorem num_len {l : Bs} {v : UInt8} (h : num l = some v) : 3 ≤ l.length := by
  match l, h with
  | a :: b :: c :: r, _ => simp
theorem rd_len {l : Bs} {b : UInt8} {n : Nat} (h : rd l = some (b, n)) : 1 ≤ n ∧ n ≤ l.length := by
  cases l with
  | nil => simp [rd] at h
  | cons c r =>
    simp only [rd] at h
    split at h
    · cases r with
      | nil => simp at h
      | cons d r =>
        simp only at h
        split at h
        · cases hn : num (d :: r) with
          | none => rw [hn] at h; simp at h
          | some v =>
            rw [hn] at h
            simp at h
            have := num_len hn
            simp at this ⊢
            omega
        · simp at h; simp; omega
    · simp at h; simp; omega
def prsF : Nat → List Bs → Bs → Bs → Option (List Bs × Bs)
  | 0, ls, cur, _ => some (ls, cur)
  | _ + 1, ls, cur, [] => some (ls, cur)
  | f + 1, ls, cur, c :: r => if c.toNat = 46 then prsF f (ls ++ [cur]) [] r else match rd (c :: r) with
      | none => none
      | some (b, n) => if cur.length = 63 then none else prsF f ls (cur ++ [b]) ((c :: r).drop n)
/-- What has been read when all of a text has been: labels, and one that is not ended. -/
def prs (ls : List Bs) (cur : Bs) (l : Bs) : Option (List Bs × Bs) := prsF l.length ls cur l
theorem prsF_more (f : Nat) : ∀ (g : Nat) (ls : List Bs) (cur l : Bs), l.length ≤ f → l.length ≤ g → prsF f ls cur l = prsF g ls cur l := by
  induction f with
  | zero =>
    intro g ls cur l h1 h2
    obtain rfl : l = [] := List.length_eq_zero_iff.1 (by omega)
    cases g <;> rfl
  | succ f ih =>
    intro g ls cur l h1 h2
    cases l with
    | nil => cases g <;> rfl
    | cons c r =>
      cases g with
      | zero => simp at h2
      | succ g =>
        simp only [prsF]
        simp only [List.length_cons] at h1 h2
        split
        · exact ih g _ _ r (by omega) (by omega)
        · cases hr : rd (c :: r) with
          | none => rfl
          | some p =>
            obtain ⟨b, n⟩ := p
            simp only
            split
            · rfl
            · obtain ⟨h3, h4⟩ := rd_len hr
              exact ih g _ _ _ (by simp; omega) (by simp; omega)
theorem prs_nil (ls : List Bs) (cur : Bs) : prs ls cur [] = some (ls, cur) := rfl
theorem prs_dot (ls : List Bs) (cur : Bs) (c : UInt8) (r : Bs) (h : c.toNat = 46) : prs ls cur (c :: r) = prs (ls ++ [cur]) [] r := by
  simp only [prs, List.length_cons, prsF, if_pos h]
theorem prs_none (ls : List Bs) (cur : Bs) (c : UInt8) (r : Bs) (h : ¬ c.toNat = 46) (h2 : rd (c :: r) = none ∨ cur.length = 63) : prs ls cur (c :: r) = none := by
  simp only [prs, List.length_cons, prsF, if_neg h]
  rcases h2 with h2 | h2
  · rw [h2]
  · cases rd (c :: r) with
    | none => rfl
    | some p => simp only [if_pos h2]
theorem prs_byte (ls : List Bs) (cur : Bs) (c : UInt8) (r : Bs) (b : UInt8) (n : Nat) (h : ¬ c.toNat = 46) (h2 : rd (c :: r) = some (b, n)) (h3 : ¬ cur.length = 63) : prs ls cur (c :: r) = prs ls (cur ++ [b]) ((c :: r).drop n) := by
  have := rd_len h2
  simp only [prs, List.length_cons, prsF, if_neg h, h2, if_neg h3]
  exact prsF_more _ _ _ _ _ (by simp; omega) (Nat.le_refl _)
/-- All labels that have been read. -/
def fin (p : List Bs × Bs) : List Bs := if p.2 = [] then p.1 else p.1 ++ [p.2]
def psE (t : Bs) : Int := if t = [] then 10 else if t = [46] then 0 else match prs [] [] t with
  | none => 10
  | some p => mkE (fin p)
def psS (t : Bs) : Bs := if t = [] then [] else if t = [46] then [0] else match prs [] [] t with
  | none => []
  | some p => mkS (fin p)
end Go.Proofs.YtpeojicimmofjaaDoor

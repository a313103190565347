/-
  What labels make: a name, or an error; plain mathematics.
-/
import Derived.Test.YtjoplnkagfkffaaMath
namespace Go.Proofs.Ytjoplnkagfkffaa
/-- The error that labels make. -/
def mkE (ls : List Bs) : Int := if ∀ x ∈ ls, OkL x then (if 255 < (enc ls).length + 1 then 11 else 0) else 10
/-- The name that labels make. -/
def mkS (ls : List Bs) : Bs := if mkE ls = 0 then enc ls ++ [0] else []
theorem mkE_nil : mkE [] = 0 := by decide
theorem mkE_bad {ls : List Bs} {x : Bs} (h : ¬ OkL x) : 10 = mkE (ls ++ [x]) := by
  unfold mkE
  rw [if_neg]
  intro h2
  exact h (h2 x (by simp))
theorem mkE_keep {ls : List Bs} {x : Bs} (hx : OkL x) (h : ¬ mkE ls = 0) : mkE ls = mkE (ls ++ [x]) := by
  unfold mkE at h ⊢
  by_cases h1 : ∀ y ∈ ls, OkL y
  · rw [if_pos h1] at h ⊢
    have h2 : ∀ y ∈ ls ++ [x], OkL y := by
      intro y hy
      rcases List.mem_append.1 hy with hy | hy
      · exact h1 y hy
      · rw [List.mem_singleton.1 hy]; exact hx
    rw [if_pos h2, enc_snoc_length]
    by_cases h3 : 255 < (enc ls).length + 1
    · rw [if_pos h3, if_pos (by omega)]
    · rw [if_neg h3] at h; exact absurd rfl h
  · rw [if_neg h1, if_neg]
    intro h2
    exact h1 fun y hy => h2 y (by simp [hy])
theorem mkE_ok {ls : List Bs} (h : mkE ls = 0) : (∀ x ∈ ls, OkL x) ∧ (enc ls).length ≤ 254 := by
  unfold mkE at h
  by_cases h1 : ∀ y ∈ ls, OkL y
  · rw [if_pos h1] at h
    by_cases h3 : 255 < (enc ls).length + 1
    · rw [if_pos h3] at h; omega
    · exact ⟨h1, by omega⟩
  · rw [if_neg h1] at h; omega
theorem ok_snoc {ls : List Bs} {x : Bs} (h : ∀ y ∈ ls, OkL y) (hx : OkL x) : ∀ y ∈ ls ++ [x], OkL y := by
  intro y hy
  rcases List.mem_append.1 hy with hy | hy
  · exact h y hy
  · rw [List.mem_singleton.1 hy]; exact hx
theorem mkE_long {ls : List Bs} {x : Bs} (hx : OkL x) (h : mkE ls = 0) (h2 : 255 < (enc ls).length + 1 + x.length + 1) : 11 = mkE (ls ++ [x]) := by
  obtain ⟨h1, h3⟩ := mkE_ok h
  unfold mkE
  rw [if_pos (ok_snoc h1 hx), enc_snoc_length, if_pos h2]
theorem mkE_more {ls : List Bs} {x : Bs} (hx : OkL x) (h : mkE ls = 0) (h2 : (enc ls).length + 1 + x.length + 1 ≤ 255) : 0 = mkE (ls ++ [x]) := by
  obtain ⟨h1, h3⟩ := mkE_ok h
  unfold mkE
  rw [if_pos (ok_snoc h1 hx), enc_snoc_length, if_neg (by omega)]
theorem mkS_zero {ls : List Bs} (h : mkE ls = 0) : mkS ls = enc ls ++ [0] := by unfold mkS; rw [if_pos h]
theorem mkS_no {ls : List Bs} (h : ¬ mkE ls = 0) : mkS ls = [] := by unfold mkS; rw [if_neg h]
theorem enc_snoc (ls : List Bs) (x : Bs) : enc (ls ++ [x]) = enc ls ++ [UInt8.ofNat x.length] ++ x := by
  rw [enc_append]; simp [enc, enc1]
end Go.Proofs.Ytjoplnkagfkffaa

/-
  The ring as what stands in an array of truth values.
-/
import Derived.Test.YtjoplnkagfkffaaAddRem
namespace Go.Proofs.Ytjoplnkagfkffaa
open Go.RowKit
def inZ (l : List Nat) : List Int := l.map fun n : Nat => (n : Int)
def ringOf (on : Nat → Bool) : List Int := inZ ((List.range 64).filter on)
def rA (on : Nat → Bool) (k : Nat) : List Int := inZ ((List.range k).filter on)
def rB (on : Nat → Bool) (k : Nat) : List Int := inZ ((List.range' (k + 1) (63 - k)).filter on)
theorem range_split {k : Nat} (h : k < 64) : List.range 64 = List.range k ++ k :: List.range' (k + 1) (63 - k) := by
  rw [List.range_eq_range', List.range_eq_range']
  have e : List.range' 0 64 = List.range' 0 k ++ List.range' (0 + 1 * k) (64 - k) := by
    rw [List.range'_append]; congr 1; omega
  rw [e]
  have e2 : 64 - k = (63 - k) + 1 := by omega
  rw [e2, List.range'_succ]
  simp
theorem ringOf_split {on : Nat → Bool} {k : Nat} (h : k < 64) : ringOf on = rA on k ++ (if on k then [(k : Int)] else []) ++ rB on k := by
  unfold ringOf rA rB inZ
  rw [range_split h, List.filter_append, List.filter_cons, List.map_append]
  cases on k <;> simp
theorem rA_lt {on : Nat → Bool} {k : Nat} : ∀ x ∈ rA on k, x < (k : Int) := by
  intro x hx
  obtain ⟨n, hn, rfl⟩ := List.mem_map.1 hx
  have := List.mem_range.1 (List.mem_filter.1 hn).1
  omega
theorem rB_gt {on : Nat → Bool} {k : Nat} : ∀ x ∈ rB on k, (k : Int) < x := by
  intro x hx
  obtain ⟨n, hn, rfl⟩ := List.mem_map.1 hx
  obtain ⟨h1, _⟩ := List.mem_range'_1.1 (List.mem_filter.1 hn).1
  omega
def turn (on : Nat → Bool) (k : Nat) : Nat → Bool := fun i => if i = k then !on k else on i
theorem rA_turn {on : Nat → Bool} {k : Nat} : rA (turn on k) k = rA on k := by
  unfold rA
  congr 1
  apply List.filter_congr
  intro i hi
  have := List.mem_range.1 hi
  unfold turn
  rw [if_neg (by omega)]
theorem rB_turn {on : Nat → Bool} {k : Nat} : rB (turn on k) k = rB on k := by
  unfold rB
  congr 1
  apply List.filter_congr
  intro i hi
  obtain ⟨h1, _⟩ := List.mem_range'_1.1 hi
  unfold turn
  rw [if_neg (by omega)]
theorem turn_at (on : Nat → Bool) (k : Nat) : turn on k k = !on k := by unfold turn; rw [if_pos rfl]
theorem ringOf_join {on : Nat → Bool} {k : Nat} (h : k < 64) (hk : on k = false) : ringOf on = rA on k ++ rB on k ∧ ringOf (turn on k) = rA on k ++ [(k : Int)] ++ rB on k := by
  refine ⟨?_, ?_⟩
  · rw [ringOf_split h, hk]; simp
  · rw [ringOf_split h, turn_at, hk, rA_turn, rB_turn]; rfl
theorem ringOf_leave {on : Nat → Bool} {k : Nat} (h : k < 64) (hk : on k = true) : ringOf on = rA on k ++ (k : Int) :: rB on k ∧ ringOf (turn on k) = rA on k ++ rB on k := by
  refine ⟨?_, ?_⟩
  · rw [ringOf_split h, hk]; simp
  · rw [ringOf_split h, turn_at, hk, rA_turn, rB_turn]; simp
theorem mem_ringOf {on : Nat → Bool} {k : Nat} (h : k < 64) : (k : Int) ∈ ringOf on ↔ on k = true := by
  unfold ringOf inZ
  rw [List.mem_map]
  constructor
  · rintro ⟨n, hn, e⟩
    have e : n = k := by omega
    subst e
    exact (List.mem_filter.1 hn).2
  · intro hk
    exact ⟨k, List.mem_filter.2 ⟨List.mem_range.2 h, hk⟩, rfl⟩
def cnt (on : Nat → Bool) (j : Nat) : Nat := ((List.range j).filter on).length
theorem cnt_succ (on : Nat → Bool) (j : Nat) : cnt on (j + 1) = cnt on j + (if on j then 1 else 0) := by
  unfold cnt
  rw [List.range_succ, List.filter_append, List.length_append]
  congr 1
  cases h : on j <;> simp [h]
theorem ringOf_at {on : Nat → Bool} {j : Nat} (h : j < 64) (hj : on j = true) : (ringOf on)[cnt on j]? = some (j : Int) := by
  have hl : (rA on j).length = cnt on j := by unfold rA inZ cnt; rw [List.length_map]
  rw [ringOf_split h, hj, if_pos rfl, List.append_assoc, List.getElem?_append_right (by rw [hl]; exact Nat.le_refl _), hl, Nat.sub_self]
  rfl
theorem ringOf_len (on : Nat → Bool) : (ringOf on).length = cnt on 64 := by unfold ringOf inZ cnt; rw [List.length_map]
theorem ringOf_le (on : Nat → Bool) : (ringOf on).length ≤ 64 := by
  rw [ringOf_len]
  have := List.length_filter_le on (List.range 64)
  rw [List.length_range] at this
  exact this
end Go.Proofs.Ytjoplnkagfkffaa

/-
  Plain facts on rows of numbers in memory, and on the table of a byte's steps; no statement is proved here.
-/
import Derived.Test.YtnlgijihfkkmgaaStep
import Derived.Deep.WholeRow
import Derived.BigRegion
import Derived.StillTailTactics
import Derived.Deep.RegionHeld3
import Derived.Laws.Rows
namespace Go.Proofs.Ytnlgijihfkkmgaa
open Go.RowKit
/-- A row of 32-bit numbers as cells. -/
def ua (xs : List Nat) : Array Value := (xs.map fun n : Nat => Value.int .u32 (n : Int)).toArray
theorem ua_one (xs : List Nat) : (ua xs).all (·.oneCell') = true := by
  rw [Array.all_eq_true_iff_forall_mem]; intro v hv
  obtain ⟨n, _, rfl⟩ := List.mem_map.1 (by simpa [ua] using hv); rfl
theorem cell_ua {w : World} {g t : Nat} {xs : List Nat} (hg : w.heap[g]? = some (.cells (ua xs) t (0, 0))) (j n : Nat) (hj : xs[j]? = some n) : w.cell? ⟨g, j, none⟩ = some (.int .u32 (n : Int)) := by
  rw [cell_of_row w g j _ t _ hg]; simp [ua, hj]
theorem set_ua {w : World} {g t i : Nat} {L : List Nat} {v : Nat} (hg : w.heap[g]? = some (.cells (ua L) t (0, 0))) : (w.setCell ⟨g, i, none⟩ (.int .u32 (v : Int))).heap[g]? = some (.cells (ua (L.set i v)) t (0, 0)) := by
  rw [heap_setCell_same w g i _ t _ hg]; simp [ua]
theorem und45 : Try.prog.underlying 45 = some (.array 256 38) := by kernel_rfl
theorem info45 : (Try.prog.info? 45).map (·.size) = some 256 := by kernel_rfl
theorem size45 {xs : List Nat} (h : xs.length = 256) : (Try.prog.info? 45).map (·.size) = some (ua xs).size := by rw [info45]; simp [ua, h]
theorem same_ua {xs ys : List Nat} (h : xs.length = ys.length) : (ua xs).size = (ua ys).size := by simp [ua, h]

/-- The table, as far as it is made. -/
def tb (m : Nat) : List Nat := (List.range 256).map fun j => if j < m then stn 8 j else 0
theorem tb_length (m : Nat) : (tb m).length = 256 := by simp [tb]
theorem tb_get (m j : Nat) (hj : j < 256) (hm : j < m) : (tb m)[j]? = some (stn 8 j) := by
  simp [tb, hj, hm]
theorem tb_set (m : Nat) : (tb m).set m (stn 8 m) = tb (m + 1) := by
  apply List.ext_getElem
  · simp [tb]
  · intro j h1 h2
    simp only [List.getElem_set, tb, List.getElem_map, List.getElem_range]
    by_cases h : m = j
    · rw [if_pos h, if_pos (by omega), h]
    · rw [if_neg h]
      by_cases h3 : j < m
      · rw [if_pos h3, if_pos (by omega)]
      · rw [if_neg h3, if_neg (by omega)]
theorem tb_sum (k l : Nat) (h : l < 2 ^ k) : stn 8 (2 ^ k) ^^^ stn 8 l = stn 8 (2 ^ k + l) := by
  rw [← stn_xor]
  have := split_xor (i := k) (b := l) 1 h
  rw [Nat.mul_one] at this
  rw [this]
end Go.Proofs.Ytnlgijihfkkmgaa

/-
  Two arrays of the same numbers are equal, in a walk. No statement is proved here.
-/
import Derived.Test.YtiagngggnhdefaaDoorSumMath
import Derived.DeepKeys
import Derived.Laws.StructEq
namespace Go.Proofs.YtiagngggnhdefaaDoor
open Go.RowKit

theorem eqItems_same (k : IntKind) (e : TypeId) (he : Tryd.prog.underlying e = some (.int k)) (d : Nat) (xs : List Int) (w : World) : ∀ is : List Nat, (∀ i ∈ is, i < xs.length) →
    (Op.eqItems (d + 1) e 1 (xs.map (Value.int k)).toArray (xs.map (Value.int k)).toArray is).run Tryd.prog w = .ok true w
  | [], _ => by simp [Op.eqItems]
  | i :: is, h => by
    have hi : i < xs.length := h i (by simp)
    have hp : (part e (xs.map (Value.int k)).toArray (i * 1)).run Tryd.prog w = .ok (.int k xs[i]) w := by
      have ha : (isAgg e).run Tryd.prog w = .ok false w := by
        unfold isAgg
        rw [Sem.run_bind, run_underlying he w]
        simp
      unfold part
      rw [Sem.run_bind, ha]
      simp [hi]
    have he2 := run_equalIn_int (P := Tryd.prog) w d e k k xs[i] xs[i] he
    have ih := eqItems_same k e he d xs w is (fun j hj => h j (by simp [hj]))
    simp only [Op.eqItems, Sem.run_bind, hp, he2, Result.andThen_ok]
    simpa using ih
theorem eq_arr (k : IntKind) (t e : TypeId) (n : Nat) (ht : Tryd.prog.underlying t = some (.array n e)) (he : Tryd.prog.underlying e = some (.int k)) (hc : Tryd.prog.cellsOf e = 1) (xs : List Int) (hl : xs.length = n) (w : World) :
    (Op.equalIn 10000 t (.agg (xs.map (Value.int k)).toArray) (.agg (xs.map (Value.int k)).toArray)).run Tryd.prog w = .ok true w := by
  obtain ⟨i, hi⟩ := info_of_underlying he
  rw [show (10000 : Nat) = 9999 + 1 from rfl, run_equalIn_array w 9999 _ _ ht hi, hc, show (9999 : Nat) = 9998 + 1 from rfl]
  exact eqItems_same k e he 9998 xs w _ (fun j hj => by have := List.mem_range.1 hj; omega)
theorem c22 : Tryd.prog.cellsOf 22 = 1 := by kernel_rfl
theorem c5' : Tryd.prog.cellsOf 5 = 1 := by kernel_rfl
theorem u22 : Tryd.prog.underlying 22 = some (.int .u32) := by kernel_rfl
theorem eq25 (xs : List Int) (hl : xs.length = 64) (w : World) : (Op.equalIn 10000 25 (.agg (ua xs)) (.agg (ua xs))).run Tryd.prog w = .ok true w := eq_arr .u32 25 22 64 und25a u22 c22 xs hl w
theorem eq28 (xs : List Int) (hl : xs.length = 8) (w : World) : (Op.equalIn 10000 28 (.agg (ua xs)) (.agg (ua xs))).run Tryd.prog w = .ok true w := eq_arr .u32 28 22 8 und28 u22 c22 xs hl w
theorem eq33 (xs : List Int) (hl : xs.length = 32) (w : World) : (Op.equalIn 10000 33 (.agg (ub xs)) (.agg (ub xs))).run Tryd.prog w = .ok true w := eq_arr .u8 33 5 32 und33 und5 c5' xs hl w
theorem gt25 : Tryd.prog.eqGuardType Tryd.prog.depth 25 = false := by kernel_rfl
theorem gt28 : Tryd.prog.eqGuardType Tryd.prog.depth 28 = false := by kernel_rfl
theorem gt33 : Tryd.prog.eqGuardType Tryd.prog.depth 33 = false := by kernel_rfl
theorem ui_range {w : World} {g t : Nat} {xs : List Int} (hg : w.heap[g]? = some (.cells (ua xs) t (0, 0))) : w.rangeAt g 0 (ui xs) := by
  intro j v hj
  rw [Nat.zero_add, cell_of_row w g j _ _ _ hg]
  simpa [ua] using hj
theorem range_below {B : Nat} {w w' : World} {g : Nat} {vs : List Value} (h : w.rangeAt g 0 vs) (hb : Below B w w') (hg : g < B) : w'.rangeAt g 0 vs := fun j v hj => (hb.cell (by exact hg)).trans (h j v hj)
end Go.Proofs.YtiagngggnhdefaaDoor

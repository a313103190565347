/-
  The bytes of a state, the hash of a list of bytes, its point, as plain lists. No statement is proved here.
-/
import Derived.Test.YtomghpielgkigaaDoorHashMath
import Derived.Deep.WholeRow
namespace Go.Proofs.YtomghpielgkigaaDoor
open Go.RowKit

def outB (S : List Int) (k : Nat) : List Int := (List.range 32).map fun i => if i < k then S.getD (i / 4) 0 / 2 ^ (24 - 8 * (i % 4)) % 256 else 0
theorem outB_length (S : List Int) (k : Nat) : (outB S k).length = 32 := by simp [outB]
theorem outB_set (S : List Int) (k : Nat) : (outB S k).set k (S.getD (k / 4) 0 / 2 ^ (24 - 8 * (k % 4)) % 256) = outB S (k + 1) := by
  apply List.ext_getElem
  · simp [outB]
  · intro i h1 h2
    simp only [outB, List.getElem_set, List.getElem_map, List.getElem_range]
    by_cases h : k = i
    · subst h; simp
    · rw [if_neg h]
      by_cases h3 : i < k
      · rw [if_pos h3, if_pos (by omega)]
      · rw [if_neg h3, if_neg (by omega)]
theorem outB_bytes (S : List Int) (k : Nat) : IsBytes (outB S k) := by
  intro b hb
  obtain ⟨i, _, rfl⟩ := List.mem_map.1 hb
  split <;> omega
def sumI (ms : List UInt8) : List Int := outB (hstate (ms ++ padL ms.length)) 32
theorem sumI_length (ms : List UInt8) : (sumI ms).length = 32 := outB_length _ _
theorem sumI_bytes (ms : List UInt8) : IsBytes (sumI ms) := outB_bytes _ _
theorem outB_zero (S : List Int) : outB S 0 = zs 32 := by
  have : (fun i : Nat => if i < 0 then S.getD (i / 4) 0 / 2 ^ (24 - 8 * (i % 4)) % 256 else 0) = fun _ => (0 : Int) := by
    funext i; rw [if_neg (by omega)]
  unfold outB
  rw [this]
  rfl
/-- The first k bytes as a number. -/
def pnt (bs : List Int) : Nat → Int
  | 0 => 0
  | k + 1 => (pnt bs k * 256 + bs.getD k 0) % 18446744073709551616
theorem pnt_lo (bs : List Int) (k : Nat) : 0 ≤ pnt bs k ∧ pnt bs k < 18446744073709551616 := by
  cases k with
  | zero => simp [pnt]
  | succ k => simp only [pnt]; omega
theorem or_byte64 (x b : Int) (h0 : 0 ≤ x) (hb : 0 ≤ b) (hb2 : b < 256) : bits .or .u64 (x * 256 % 18446744073709551616) b = (x * 256 + b) % 18446744073709551616 := by
  obtain ⟨X, rfl⟩ := Int.eq_ofNat_of_zero_le h0
  obtain ⟨B, rfl⟩ := Int.eq_ofNat_of_zero_le hb
  have e1 : ((X : Int) * 256 % 18446744073709551616) = (((X % 72057594037927936) * 256 : Nat) : Int) := by omega
  have e2 : (X % 72057594037927936) * 256 ||| B = (X % 72057594037927936) * 256 + B := by
    have := Nat.shiftLeft_add_eq_or_of_lt (i := 8) (b := B) (by omega) (X % 72057594037927936)
    rw [Nat.shiftLeft_eq] at this
    exact this.symm
  rw [e1, u64_or_nat _ _ (by omega) (by omega), e2]
  omega
def pntI (ms : List UInt8) : Int := pnt (sumI ms) 8

theorem und33 : Tryd.prog.underlying 68 = some (.array 32 5) := by kernel_rfl
theorem info33 : (Tryd.prog.info? 68).map (·.size) = some 32 := by kernel_rfl
theorem size33 {s : List Int} (h : s.length = 32) : (Tryd.prog.info? 68).map (·.size) = some (ub s).size := by rw [info33, ub_size, h]
theorem same_ub {a b : List Int} (h : a.length = b.length) : (ub a).size = (ub b).size := by rw [ub_size, ub_size, h]
theorem built52 : Tryd.prog.built 82 [(0, .agg (ua ii))] = some (hl ii (zs 64) 0).toArray := by kernel_rfl
theorem info52 : (Tryd.prog.info? 82).map (fun i => (i.zero, i.size)) = some (some (.agg (hl (zs 8) (zs 64) 0).toArray), 73) := by kernel_rfl
theorem inH_nil {w : World} {hb : Nat} (h : w.heap[hb]? = some (.cells (hl ii (zs 64) 0).toArray 82 (0, 0))) : InH w hb [] :=
  ⟨zs 64, rfl, fun b hb => by have := List.eq_of_mem_replicate hb; omega, rfl, h⟩
/-- The package-level variable 'initial' holds its numbers. -/
def InitIn (w : World) : Prop := ∃ t fr, w.heap[0]? = some (.cells (ua ii) t fr)
theorem InitIn.below {B : Nat} {w w' : World} (h : InitIn w) (hb : Below B w w') (hB : 1 < B) : InitIn w' := by
  obtain ⟨t, fr, h⟩ := h
  exact ⟨t, fr, (hb.block 0 (by omega)).trans h⟩
theorem InitIn.pos {w : World} (h : InitIn w) : 0 < w.heap.size := by
  obtain ⟨t, fr, h⟩ := h
  exact (Array.getElem?_eq_some_iff.1 h).1
end Go.Proofs.YtomghpielgkigaaDoor

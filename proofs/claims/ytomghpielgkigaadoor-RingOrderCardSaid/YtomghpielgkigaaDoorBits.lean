/-
  What the two programs' rotations and small sigmas hand back, for any number.
-/
import Derived.Test.YtomghpielgkigaaDoorChecked
import Derived.WalkKit
import Derived.Deep.QuietTactic
import Derived.BigQuiet
import Derived.Lib.Hide
namespace Go.Proofs.YtomghpielgkigaaDoor
open Go.RowKit

/-- x rotated right by n, as both programs reckon it. -/
def rt (x n : Int) : Int := bits .or .u32 (x / 2 ^ n.toNat) (x * 2 ^ (32 - n).toNat % 4294967296)
theorem bits_lo (op : BinOp) (x y : Int) : 0 ≤ bits op .u32 x y := by
  unfold bits; exact wrap_u32_nonneg _
theorem bits_hi (op : BinOp) (x y : Int) : bits op .u32 x y < 4294967296 := by
  unfold bits; rw [IntKind.wrap_u32']; omega
theorem rt_lo (x n : Int) : 0 ≤ rt x n := bits_lo _ _ _
theorem rt_hi (x n : Int) : rt x n < 4294967296 := bits_hi _ _ _
def sg0 (x : Int) : Int := bits .xor .u32 (bits .xor .u32 (rt x 7) (rt x 18)) (x / 8)
def sg1 (x : Int) : Int := bits .xor .u32 (bits .xor .u32 (rt x 17) (rt x 19)) (x / 1024)

theorem ret_eq {k : IntKind} {a b : Int} (h : a = b) : Ending.returned (.int k a) = .returned (.int k b) := by rw [h]

set_option maxRecDepth 100000 in
set_option maxHeartbeats 400000 in
theorem rot_any (x n : Int) (w : World) (hn : 0 ≤ n) (hn2 : n ≤ 32) :
    Calls Tryd.prog 90 #[.int .u32 x, .int .i64 n] w fun e w' => e = .returned (.int .u32 (rt x n)) ∧ ∃ k, w' = w.drewN k := by
  go_enter Tryd.func90, Tryd.ntmps90
  go_wp2
  go_quiet (fail)
  go_wp2
  go_ret
  exact ⟨rfl, _, rfl⟩

set_option maxRecDepth 100000 in
set_option maxHeartbeats 400000 in
theorem small1_any (x : Int) (w : World) :
    Calls Tryd.prog 81 #[.int .u32 x] w fun e w' => e = .returned (.int .u32 (sg1 x)) ∧ ∃ k, w' = w.drewN k := by
  go_enter Tryd.func81, Tryd.ntmps81
  go_wp2_with (go_at_call 90; refine (rot_any _ _ _ (by omega) (by omega)).mono ?_; rintro e w' ⟨rfl, k, rfl⟩)
  go_ret
  exact ⟨rfl, _, rfl⟩

set_option maxRecDepth 100000 in
set_option maxHeartbeats 400000 in
theorem small0_any (x : Int) (w : World) :
    Calls Tryd.prog 82 #[.int .u32 x] w fun e w' => e = .returned (.int .u32 (sg0 x)) ∧ ∃ k, w' = w.drewN k := by
  go_enter Tryd.func82, Tryd.ntmps82
  go_wp2_with (go_at_call 90; refine (rot_any _ _ _ (by omega) (by omega)).mono ?_; rintro e w' ⟨rfl, k, rfl⟩)
  go_ret
  exact ⟨rfl, _, rfl⟩
end Go.Proofs.YtomghpielgkigaaDoor

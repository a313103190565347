/-
  What the document's Of and Add hand back, for any number and any text of at most a million bytes.
-/
import Derived.Test.YtnlgijihfkkmgaaRef
namespace Go.Proofs.Ytnlgijihfkkmgaa
open Go.RowKit
theorem not_u32 (c : Nat) (hc : c < 4294967296) : bits .xor .u32 IntKind.u32.max (c : Int) = (nt c : Nat) := by
  have h := u32_xor_nat 4294967295 c (by decide) hc
  have e : IntKind.u32.max = ((4294967295 : Nat) : Int) := by decide
  rw [e, h]
  unfold nt
  rw [Nat.xor_comm]
set_option maxHeartbeats 400000 in
theorem rof_any (s : ByteArray) (hs : s.size ≤ 1000000) (w : World) :
    Calls Try.prog 11 #[.string s] w fun e w' => e = .returned (.int .u32 (cs s.data.toList : Nat)) ∧ w = w' := by
  have HX := Lib.hid (not_u32 _ (fd_lt s.data.toList (c := 4294967295) (by omega)))
  go_enter Try.func11, Try.ntmps11
  go_wp2_with fail
  refine (behind_any 4294967295 (by omega) s hs _).mono ?_
  rintro e w' ⟨rfl, rfl⟩
  go_wp2
  go_ret
  exact ⟨ret_u32 HX.out, rfl⟩
set_option maxHeartbeats 400000 in
theorem radd_any (c : Nat) (hc : c < 4294967296) (s : ByteArray) (hs : s.size ≤ 1000000) (w : World) :
    Calls Try.prog 13 #[.int .u32 (c : Int), .string s] w fun e w' => e = .returned (.int .u32 (ad c s.data.toList : Nat)) ∧ w = w' := by
  have HX := Lib.hid (not_u32 _ (fd_lt s.data.toList (nt_lt hc)))
  have HN := Lib.hid (not_u32 c hc)
  go_enter Try.func13, Try.ntmps13
  go_wp2_with fail
  rw [HN.out]
  refine (behind_any (nt c) (nt_lt hc) s hs _).mono ?_
  rintro e w' ⟨rfl, rfl⟩
  go_wp2
  go_ret
  exact ⟨ret_u32 HX.out, rfl⟩
end Go.Proofs.Ytnlgijihfkkmgaa

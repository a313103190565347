/-
  What the document's functions hand back, for any numbers and texts.
-/
import Derived.Test.YtpiiknbjllgaoaaCStep
import Derived.BigRegion
import Derived.BigGuardPart
import Derived.Lib.Strings
namespace Go.Proofs.Ytpiiknbjllgaoaa
open Go.RowKit

theorem eight (k j c : Nat) : st (stn (8 * k + j) c) = stn (8 * k + (j + 1)) c := (stn_succ _ _).symm
theorem byte_at (al : ByteArray) (i : Nat) (h : i < al.size) : al[i].toNat = (al.data.toList.getD i 0).toNat := by
  have h2 : i < al.data.toList.length := by rw [← Lib.size_eq]; exact h
  obtain ⟨⟨l⟩⟩ := al
  have h3 : i < l.length := h2
  show l[i].toNat = (l.getD i 0).toNat
  simp [h3]
theorem take_snoc (s : ByteArray) (k : Nat) (h : k < s.size) : s.data.toList.take (k + 1) = s.data.toList.take k ++ [s[k]] := by
  rw [List.take_succ_eq_append_getElem (by simpa using h)]; rfl
theorem fd_snoc (c : Nat) (s : ByteArray) (k : Nat) (h : k < s.size) : fd c (s.data.toList.take (k + 1)) = stn 8 (fd c (s.data.toList.take k) ^^^ s[k].toNat) := by
  rw [take_snoc s k h, fd_append]; rfl
set_option maxHeartbeats 800000 in
theorem behind_any (c : Nat) (hc : c < 4294967296) (s : ByteArray) (hs : s.size ≤ 1000000) (w : World) :
    Calls Try.prog 53 #[.int .u32 (c : Int), .string s] w fun e w' => e = .returned (.int .u32 (fd c s.data.toList : Nat)) ∧ w = w' := by
  go_enter Try.func53, Try.ntmps53
  go_wp2
  go_loop [0, 5, 6] (fun v i _j => ∃ k : Nat, k ≤ s.size ∧ i = .int .i64 k ∧ v = .int .u32 (fd c (s.data.toList.take k) : Nat)) (fun _ i _ => s.size - (intOf i).toNat)
  case atStart => exact ⟨0, by omega, rfl, rfl⟩
  case round =>
    obtain ⟨k, hk, rfl, rfl⟩ := hrel
    by_cases hlt : k < s.size
    · have hf := fd_lt (s.data.toList.take k) hc
      have hb : s[k].toNat < 256 := s[k].toNat_lt
      have hx0 := u32_xor_nat _ _ hf (show s[k].toNat < 4294967296 by omega)
      have hx : bits .xor .u32 (fd c (s.data.toList.take k) : Nat) ((s[k].toNat : Int) % 4294967296) = (fd c (s.data.toList.take k) ^^^ s[k].toNat : Nat) := by rw [show (s[k].toNat : Int) % 4294967296 = s[k].toNat by omega]; exact hx0
      clear hx0
      have hz : fd c (s.data.toList.take k) ^^^ s[k].toNat < 4294967296 := xor_u32 hf (by omega)
      have HF := Lib.hid (fd_snoc c s k hlt)
      obtain ⟨z, hze⟩ : ∃ z, z = fd c (s.data.toList.take k) ^^^ s[k].toNat := ⟨_, rfl⟩
      rw [← hze] at hz hx HF
      have HX := Lib.hid hx
      clear hze hx hb hf
      go_wp2
      rw [HX.out]
      go_loopw [0, 6] (fun v i wr => w = wr ∧ ∃ j : Nat, j ≤ 8 ∧ i = .int .i64 j ∧ v = .int .u32 (stn j z : Nat)) (fun _ i _ => 8 - (intOf i).toNat)
      case atStart => exact ⟨rfl, 0, by omega, rfl, rfl⟩
      case round =>
        obtain ⟨rfl, j, hj, rfl, rfl⟩ := hrel
        by_cases hlj : j < 8
        · have hs := stn_lt j hz
          have he := Lib.hid (stn_succ j z)
          go_wp2_with fail
          refine (rstep_any _ hs _).mono ?_
          rintro e w' ⟨rfl, rfl⟩
          go_wp2
          go_roundw
          case rel => exact ⟨trivial, j + 1, by omega, by go_num, by rw [he.out]⟩
          case measure => simp [intOf]; omega
        · obtain rfl : j = 8 := by omega
          go_wp2
          go_round
          case rel => exact ⟨k + 1, by omega, by go_num, by rw [HF.out]⟩
          case measure => simp [intOf]; omega
    · go_wp2
      go_ret
      obtain rfl : k = s.size := by omega
      exact ⟨ret_u32 (by rw [List.take_of_length_le (by simp)]), rfl⟩
theorem not_u32 (c : Nat) (hc : c < 4294967296) : bits .xor .u32 IntKind.u32.max (c : Int) = (nt c : Nat) := by
  have h := u32_xor_nat 4294967295 c (by decide) hc
  have e : IntKind.u32.max = ((4294967295 : Nat) : Int) := by decide
  rw [e, h]
  unfold nt
  rw [Nat.xor_comm]
set_option maxHeartbeats 400000 in
theorem rof_any (s : ByteArray) (hs : s.size ≤ 1000000) (w : World) :
    Calls Try.prog 32 #[.string s] w fun e w' => e = .returned (.int .u32 (cs s.data.toList : Nat)) ∧ w = w' := by
  have HX := Lib.hid (not_u32 _ (fd_lt s.data.toList (c := 4294967295) (by omega)))
  go_enter Try.func32, Try.ntmps32
  go_wp2_with fail
  refine (behind_any 4294967295 (by omega) s hs _).mono ?_
  rintro e w' ⟨rfl, rfl⟩
  go_wp2
  go_ret
  exact ⟨ret_u32 HX.out, rfl⟩
end Go.Proofs.Ytpiiknbjllgaoaa

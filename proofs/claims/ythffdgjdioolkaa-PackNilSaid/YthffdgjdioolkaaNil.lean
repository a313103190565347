/-
  The walk of the law PackNil: for every text it returns true; no older memory is changed.
-/
import Derived.Test.YthffdgjdioolkaaAwake
namespace Go.Proofs.Ythffdgjdioolkaa
open Go.RowKit
set_option maxHeartbeats 800000 in
theorem put_nil (v : Value) (w : World) : Calls Try.prog 38 #[.pointer none, v] w fun e w' => (∃ v, e = .returned v) ∧ w = w' := by
  go_enter Try.func38, Try.ntmps38
  go_wp2
  go_end0
  exact ⟨⟨_, rfl⟩, rfl⟩
set_option maxHeartbeats 800000 in
theorem byte_nil (w : World) : Calls Try.prog 23 #[.pointer none, .int .u8 1] w fun e w' => (∃ v, e = .returned v) ∧ Below w.heap.size w w' := by
  go_enter Try.func23, Try.ntmps23
  go_wp2_with (go_at_call 38; refine (put_nil _ _).mono ?_; rintro e w' ⟨⟨v, rfl⟩, rfl⟩)
  go_end0
  exact ⟨⟨_, rfl⟩, (Below.refl _ _).alloc (Nat.le_refl _) _⟩
set_option maxHeartbeats 800000 in
theorem word_nil (w : World) : Calls Try.prog 22 #[.pointer none, .int .u16 1] w fun e w' => (∃ v, e = .returned v) ∧ Below w.heap.size w w' := by
  go_enter Try.func22, Try.ntmps22
  go_wp2_with (go_at_call 38; refine (put_nil _ _).mono ?_; rintro e w' ⟨⟨v, rfl⟩, rfl⟩)
  go_end0
  exact ⟨⟨_, rfl⟩, (Below.refl _ _).alloc (Nat.le_refl _) _⟩
set_option maxHeartbeats 800000 in
theorem long_nil (w : World) : Calls Try.prog 25 #[.pointer none, .int .u32 1] w fun e w' => (∃ v, e = .returned v) ∧ Below w.heap.size w w' := by
  go_enter Try.func25, Try.ntmps25
  go_wp2_with (go_at_call 38; refine (put_nil _ _).mono ?_; rintro e w' ⟨⟨v, rfl⟩, rfl⟩)
  go_end0
  exact ⟨⟨_, rfl⟩, (Below.refl _ _).alloc (Nat.le_refl _) _⟩
set_option maxHeartbeats 800000 in
theorem raw_nil (s : ByteArray) (w : World) : Calls Try.prog 21 #[.pointer none, .string s] w fun e w' => (∃ v, e = .returned v) ∧ w = w' := by
  go_enter Try.func21, Try.ntmps21
  go_wp2
  go_end0
  exact ⟨⟨_, rfl⟩, rfl⟩
set_option maxHeartbeats 800000 in
theorem name_nil (s : ByteArray) (p : Bool) (w : World) : Calls Try.prog 28 #[.pointer none, .string s, .bool p] w fun e w' => e = .returned (.int .i64 1) ∧ w = w' := by
  go_enter Try.func28, Try.ntmps28
  go_wp2
  go_ret
  exact ⟨rfl, rfl⟩
set_option maxHeartbeats 800000 in
theorem patch_nil (w : World) : Calls Try.prog 26 #[.pointer none, .int .i64 0, .int .u16 1] w fun e w' => e = .returned (.int .i64 1) ∧ w = w' := by
  go_enter Try.func26, Try.ntmps26
  go_wp2
  go_ret
  exact ⟨rfl, rfl⟩
set_option maxHeartbeats 800000 in
theorem len_nil (w : World) : Calls Try.prog 30 #[.pointer none] w fun e w' => e = .returned (.int .i64 0) ∧ w = w' := by
  go_enter Try.func30, Try.ntmps30
  go_wp2
  go_ret
  exact ⟨rfl, rfl⟩
set_option maxHeartbeats 800000 in
theorem bytes_nil (w : World) : Calls Try.prog 31 #[.pointer none] w fun e w' => e = .returned (.string ⟨#[]⟩) ∧ w = w' := by
  go_enter Try.func31, Try.ntmps31
  go_wp2
  go_ret
  exact ⟨rfl, rfl⟩
theorem nil1 : chk [1, 97, 0] = 0 ∧ pkB true [] [] [1, 97, 0] = [1, 97, 0] := by decide +kernel
set_option maxRecDepth 100000 in
set_option maxHeartbeats 6400000 in
theorem lawNil_any (s : ByteArray) (w : World) :
    Calls Try.prog 8 #[.string s] w fun e w' => e = .returned (.bool true) ∧ Below w.heap.size w w' := by
  have H1 := Lib.hid nil1
  have HP := Lib.hid (pk_new w (w.heap.size ≤ ·) (Nat.le_refl _))
  have hB : Below w.heap.size w (w.alloc (.cells #[.slice none 0 0, .map none] 67)) := (Below.refl _ _).alloc (Nat.le_refl _) _
  have HB := Lib.hid hB
  clear hB
  go_enter Try.func8, Try.ntmps8
  go_wp2_with fail
  obtain ⟨w0, hw0⟩ : ∃ w0, w0 = w.alloc (.cells #[.slice none 0 0, .map none] 67) := ⟨_, rfl⟩
  rw [← hw0]
  have h0 : Below w.heap.size w w0 := by rw [hw0]; exact HB.out
  have hp0 : PK (w.heap.size ≤ ·) w.heap.size [] [] w0 := by rw [hw0]; exact HP.out
  clear hw0 HP HB
  refine (byte_nil w0).mono ?_
  rintro e w1 ⟨⟨v1, rfl⟩, h1⟩
  have k1 := h0.trans (h1.mono h0.size)
  have hp1 := hp0.below h1
  clear h0 hp0 h1
  go_wp2_with fail
  refine (word_nil w1).mono ?_
  rintro e w2 ⟨⟨v2, rfl⟩, h2⟩
  have k2 := k1.trans (h2.mono k1.size)
  have hp2 := hp1.below h2
  clear k1 hp1 h2
  go_wp2_with fail
  refine (long_nil w2).mono ?_
  rintro e w3 ⟨⟨v3, rfl⟩, h3⟩
  have k3 := k2.trans (h3.mono k2.size)
  have hp3 := hp2.below h3
  clear k2 hp2 h3
  go_wp2_with fail
  refine (raw_nil s w3).mono ?_
  rintro e w' ⟨⟨v4, rfl⟩, rfl⟩
  go_wp2_with fail
  refine (pname_any ⟨#[1, 97, 0]⟩ (by decide) true _ _ _ _ _ hp3 (by decide) (by decide) okK_nil).mono ?_
  rintro e w4 ⟨rfl, hl4⟩
  rw [show chk (⟨#[1, 97, 0]⟩ : ByteArray).data.toList = 0 from H1.out.1]
  obtain ⟨hp4, hb4⟩ := hl4.one k3.size
  rw [show pkB true [] [] (⟨#[1, 97, 0]⟩ : ByteArray).data.toList = [1, 97, 0] from H1.out.2] at hp4
  have k4 := k3.trans hb4
  clear k3 hp3 hl4 hb4
  go_wp2_with fail
  refine (awake_any _).mono ?_
  rintro e w5 ⟨rfl, h5⟩
  have k5 := k4.trans (h5.mono k4.size)
  have hp5 := hp4.below h5
  clear k4 hp4 h5
  go_wp2_with fail
  refine (name_nil _ _ _).mono ?_
  rintro e w' ⟨rfl, rfl⟩
  go_wp2_with fail
  refine (patch_nil _).mono ?_
  rintro e w' ⟨rfl, rfl⟩
  go_wp2_with fail
  refine (len_nil _).mono ?_
  rintro e w' ⟨rfl, rfl⟩
  go_wp2_with fail
  refine (bytes_nil _).mono ?_
  rintro e w' ⟨rfl, rfl⟩
  go_wp2_with fail
  refine (pbytes_any _ _ _ _ _ hp5).mono ?_
  rintro e w' ⟨rfl, rfl⟩
  go_wp2
  go_ret
  exact ⟨rfl, k5⟩
end Go.Proofs.Ythffdgjdioolkaa

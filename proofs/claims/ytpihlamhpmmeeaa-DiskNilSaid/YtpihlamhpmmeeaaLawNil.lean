/-
  The law DiskNil comes out true; no older memory is changed.
-/
import Derived.Test.YtpihlamhpmmeeaaAwake
import Derived.Test.YtpihlamhpmmeeaaNil
namespace Go.Proofs.Ytpihlamhpmmeeaa
open Go.RowKit
def z0 : Dk := newD 0
def z1 : Dk := appD z0 nA [120]
theorem ez0 : appE z0 [120] = 15 := by decide +kernel
theorem ez1 : appE z1 [] = 0 := by decide +kernel
set_option maxRecDepth 100000 in
set_option maxHeartbeats 16000000 in
theorem lawNil_any (s : ByteArray) (w : World) : Calls Try.prog 6 #[.string s] w fun e w' => e = .returned (.bool true) ∧ Below w.heap.size w w' := by
  have hnew := pd_new w (w.heap.size ≤ ·) (Nat.le_refl _) 0
  have hb0 : Below w.heap.size w (w.alloc (.cells #[.map none, .int .i64 0, .int .i64 0, .int .i64 0, .bool false, .bool false] 41)) := (Below.refl _ _).alloc (Nat.le_refl _) _
  obtain ⟨S0, hn0, _⟩ := NA.new (d := z0) hnew hb0 (Below.refl w.heap.size w) (Nat.le_refl _)
  obtain ⟨w1, hw1⟩ : ∃ w1, w1 = w.alloc (.cells #[.map none, .int .i64 0, .int .i64 0, .int .i64 0, .bool false, .bool false] 41) := ⟨_, rfl⟩
  have hn0 : NA w.heap.size S0 w w.heap.size z0 w1 := by rw [hw1]; exact hn0
  have H1 := Lib.hid hn0
  have HW := Lib.hid hw1
  clear hnew hb0 hn0 hw1
  go_enter Try.func6, Try.ntmps6
  go_upto_region 3 with fail
  rw [← HW.out]
  obtain ⟨b, hb⟩ : ∃ b, b = w.heap.size := ⟨_, rfl⟩
  have H1 : Hid (NA w.heap.size S0 w b z0 w1) := Lib.hid (by rw [hb]; exact H1.out)
  rw [← hb]
  clear hb HW
  go_wp2_with fail
  refine (limit_nil w1).mono ?_
  rintro e w2 ⟨⟨u2, rfl⟩, rfl⟩
  go_wp2_with fail
  refine (arm_nil w1).mono ?_
  rintro e w2 ⟨⟨u3, rfl⟩, rfl⟩
  have H2 := Lib.hid (H1.out.mv (w' := w1.alloc (.cells #[.int .i64 1] 3)) ((Below.refl _ _).alloc (Nat.le_refl _) _))
  go_wp2_with fail
  refine (crash_nil _ _ _ _).mono ?_
  rintro e w3 ⟨⟨u4, rfl⟩, hb⟩
  have H3 := Lib.hid (H2.out.mv hb)
  clear hb H2 H1
  go_wp2_with fail
  refine (read_nil s w3).mono ?_
  rintro e w4 ⟨rfl, hb⟩
  have H4 := Lib.hid (H3.out.mv hb)
  clear hb H3
  go_wp2_with fail
  refine (awake_any w4).mono ?_
  rintro e w5 ⟨rfl, hb⟩
  have H5 := Lib.hid (H4.out.mv hb)
  clear hb H4
  go_wp2_with fail
  refine (append_nil ⟨#[97]⟩ s w5).mono ?_
  rintro e w6 ⟨rfl, hb⟩
  have H6 := Lib.hid (H5.out.mv hb)
  clear hb H5
  go_wp2_with fail
  refine (sync_nil ⟨#[97]⟩ w6).mono ?_
  rintro e w7 ⟨rfl, hb⟩
  have H7 := Lib.hid (H6.out.mv hb)
  clear hb H6
  go_wp2_with fail
  refine (rename_nil ⟨#[97]⟩ ⟨#[98]⟩ w7).mono ?_
  rintro e w8 ⟨rfl, hb⟩
  have H8 := Lib.hid (H7.out.mv hb)
  clear hb H7
  go_wp2_with fail
  refine (remove_nil ⟨#[97]⟩ w8).mono ?_
  rintro e w9 ⟨rfl, hb⟩
  have H9 := Lib.hid (H8.out.mv hb)
  clear hb H8
  go_wp2_with fail
  refine (cut_nil ⟨#[97]⟩ 0 w9).mono ?_
  rintro e w10 ⟨rfl, hb⟩
  have H10 := Lib.hid (H9.out.mv hb)
  clear hb H9
  go_wp2_with fail
  refine (names_nil w10).mono ?_
  rintro e w11 ⟨rfl, rfl⟩
  go_wp2_with fail
  refine (used_nil w10).mono ?_
  rintro e w11 ⟨rfl, rfl⟩
  go_wp2_with fail
  refine (steps_nil w10).mono ?_
  rintro e w11 ⟨rfl, rfl⟩
  go_wp2_with fail
  refine (on_nil w10).mono ?_
  rintro e w11 ⟨rfl, rfl⟩
  go_wp2_with fail
  refine (copy_nil w10).mono ?_
  rintro e w11 ⟨rfl, rfl⟩
  have A1 := Lib.hid (append_any H10.out.p nA gA ⟨#[120]⟩ (by decide +kernel) (by decide +kernel) (by decide +kernel) (by decide +kernel) (by decide +kernel) (by decide +kernel))
  rw [show appE z0 (⟨#[120]⟩ : ByteArray).data.toList = 15 from ez0] at A1
  go_wp2_with fail
  refine A1.out.mono ?_
  rintro e w12 ⟨rfl, hl⟩
  obtain ⟨S12, hn12, _⟩ := H10.out.step hl
  have H12 : Hid (NA w.heap.size S12 w b z1 w12) := Lib.hid hn12
  clear hl hn12 A1 H10
  have A2 := Lib.hid (append_any H12.out.p nA gA ⟨#[]⟩ (by decide +kernel) (by decide +kernel) (by decide +kernel) (by decide +kernel) (by decide +kernel) (by decide +kernel))
  rw [show appE z1 (⟨#[]⟩ : ByteArray).data.toList = 0 from ez1] at A2
  go_wp2_with fail
  refine A2.out.mono ?_
  rintro e w13 ⟨rfl, hl⟩
  obtain ⟨S13, hn13, _⟩ := H12.out.step hl
  have H13 := Lib.hid hn13.bel
  clear hl hn13 A2 H12
  go_wp2
  go_ret
  exact ⟨rfl, H13.out⟩
end Go.Proofs.Ytpihlamhpmmeeaa

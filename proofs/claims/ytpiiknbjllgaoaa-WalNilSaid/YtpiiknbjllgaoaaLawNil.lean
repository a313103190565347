/-
  The walk of the law WalNil: for any text it returns true; no older memory is changed.
-/
import Derived.Test.YtpiiknbjllgaoaaWAwake
namespace Go.Proofs.Ytpiiknbjllgaoaa
open Go.RowKit
set_option maxRecDepth 100000 in
set_option maxHeartbeats 12800000 in
theorem lawNil_any (s : ByteArray) (w : World) : Calls Try.prog 7 #[.string s] w fun e w' => e = .returned (.bool true) ∧ Below w.heap.size w w' := by
  have hz := WB.new w nop 0 0 0
  have hb1 : Below w.heap.size w (w.alloc (.cells #[nop, .int .i64 0, .int .i64 0, .int .i64 0] 52)) := (Below.refl _ _).alloc (Nat.le_refl _) _
  have HZ : Hid (WB w.heap.size nop 0 0 0 (w.alloc (.cells #[nop, .int .i64 0, .int .i64 0, .int .i64 0] 52))) := Lib.hid hz
  have HB1 := Lib.hid hb1
  obtain ⟨w1, hw1⟩ : ∃ w1, w1 = w.alloc (.cells #[nop, .int .i64 0, .int .i64 0, .int .i64 0] 52) := ⟨_, rfl⟩
  have HW1 := Lib.hid hw1
  rw [← hw1] at HZ HB1
  clear hz hb1 hw1
  go_enter Try.func7, Try.ntmps7
  go_wp2_with fail
  rw [← HW1.out]
  refine (open_nil w1).mono ?_
  rintro e w2 ⟨rfl, hb⟩
  have HB2 := Lib.hid (HB1.out.trans (hb.mono HB1.out.size))
  have HZ2 := Lib.hid (HZ.out.below hb)
  clear hb HZ HB1 HW1
  obtain ⟨B, hB⟩ : ∃ B, B = w.heap.size := ⟨_, rfl⟩
  rw [← hB] at HZ2 ⊢
  have HBB := Lib.hid hB
  clear hB
  go_wp2_with fail
  refine (awake_any w2).mono ?_
  rintro e w3 ⟨rfl, hb⟩
  have HB3 := Lib.hid (HB2.out.trans (hb.mono HB2.out.size))
  have HZ3 := Lib.hid (HZ2.out.below hb)
  clear hb HZ2 HB2
  go_wp2_with fail
  have hba : Below w3.heap.size w3 (w3.alloc (.cells #[.string s] 9)) := (Below.refl _ _).alloc (Nat.le_refl _) _
  refine (append_none ⟨_, _, _, rfl⟩).mono ?_
  rintro e w4 ⟨rfl, rfl⟩
  have HB4 := Lib.hid (HB3.out.trans (hba.mono HB3.out.size))
  have HZ4 := Lib.hid (HZ3.out.below hba)
  clear hba HZ3 HB3
  obtain ⟨w4, hw4⟩ : ∃ w4, w4 = w3.alloc (.cells #[.string s] 9) := ⟨_, rfl⟩
  rw [← hw4] at HB4 HZ4 ⊢
  clear hw4
  go_wp2_with fail
  refine (sync_none (w := w4)).mono ?_
  rintro e w5 ⟨rfl, hb⟩
  have HB5 := Lib.hid (HB4.out.trans (hb.mono HB4.out.size))
  have HZ5 := Lib.hid (HZ4.out.below hb)
  clear hb HZ4 HB4
  go_wp2_with fail
  have hba : Below w5.heap.size w5 (w5.alloc (.cells #[.string s] 9)) := (Below.refl _ _).alloc (Nat.le_refl _) _
  refine (rewrite_none ⟨_, _, _, rfl⟩).mono ?_
  rintro e w6 ⟨rfl, rfl⟩
  have HB6 := Lib.hid (HB5.out.trans (hba.mono HB5.out.size))
  have HZ6 := Lib.hid (HZ5.out.below hba)
  clear hba HZ5 HB5
  obtain ⟨w6, hw6⟩ : ∃ w6, w6 = w5.alloc (.cells #[.string s] 9) := ⟨_, rfl⟩
  rw [← hw6] at HB6 HZ6 ⊢
  clear hw6
  go_wp2_with fail
  refine (len_none w6).mono ?_
  rintro e w7 ⟨rfl, hb⟩
  have HB7 := Lib.hid (HB6.out.trans (hb.mono HB6.out.size))
  have HZ7 := Lib.hid (HZ6.out.below hb)
  clear hb HZ6 HB6
  go_wp2_with fail
  refine (firm_none w7).mono ?_
  rintro e w8 ⟨rfl, hb⟩
  have HB8 := Lib.hid (HB7.out.trans (hb.mono HB7.out.size))
  have HZ8 := Lib.hid (HZ7.out.below hb)
  clear hb HZ7 HB7
  go_wp2_with fail
  refine (size_none w8).mono ?_
  rintro e w9 ⟨rfl, hb⟩
  have HB9 := Lib.hid (HB8.out.trans (hb.mono HB8.out.size))
  have HZ9 := Lib.hid (HZ8.out.below hb)
  clear hb HZ8 HB8
  go_wp2_with fail
  refine (broken_none w9).mono ?_
  rintro e w10 ⟨rfl, hb⟩
  have HB10 := Lib.hid (HB9.out.trans (hb.mono HB9.out.size))
  have HZ10 := Lib.hid (HZ9.out.below hb)
  clear hb HZ9 HB9
  go_wp2_with fail
  refine (broken_any HZ10.out (.inl rfl)).mono ?_
  rintro e w11 ⟨rfl, hb⟩
  have HB11 := Lib.hid (HB10.out.trans (hb.mono HB10.out.size))
  have HZ11 := Lib.hid (HZ10.out.below hb)
  clear hb HZ10 HB10
  simp only [brk]
  go_wp2_with fail
  have hba : Below w11.heap.size w11 (w11.alloc (.cells #[.string s] 9)) := (Below.refl _ _).alloc (Nat.le_refl _) _
  refine (append_bro (HZ11.out.below hba) ⟨_, _, _, rfl⟩).mono ?_
  rintro e w12 ⟨rfl, hb⟩
  have HB12 := Lib.hid ((HB11.out.trans (hba.mono HB11.out.size)).trans (hb.mono (Nat.le_trans HB11.out.size hba.size)))
  have HZ12 := Lib.hid ((HZ11.out.below hba).below hb)
  clear hb hba HZ11 HB11
  go_wp2_with fail
  refine (len_any HZ12.out (.inl rfl)).mono ?_
  rintro e w13 ⟨rfl, hb⟩
  have HB13 := Lib.hid (HB12.out.trans (hb.mono HB12.out.size))
  clear hb HZ12 HB12
  go_wp2
  go_ret
  exact ⟨rfl, HB13.out⟩
end Go.Proofs.Ytpiiknbjllgaoaa

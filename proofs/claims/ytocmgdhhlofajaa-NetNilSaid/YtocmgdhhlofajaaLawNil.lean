/-
  The walk of the law NetNil: for any two numbers it returns true; no older memory is changed.
-/
import Derived.Test.YtocmgdhhlofajaaNil
namespace Go.Proofs.Ytocmgdhhlofajaa
open Go.RowKit
set_option maxRecDepth 100000 in
set_option maxHeartbeats 16000000 in
theorem lawNil_any (a b : Int) (ha : I64 a) (w : World) : Calls Try.prog 7 #[.int .i64 a, .int .i64 b] w fun e w' => e = .returned (.bool true) ∧ Below w.heap.size w w' := by
  have hz0 : Below w.heap.size w (w.alloc (.cells #[.slice none 0 0, .slice none 0 0, .int .i64 0, .int .i64 0] 61)) := (Below.refl _ w).alloc (Nat.le_refl _) _
  have HZ := Lib.hid (pn_new w 61 74 64 (by decide))
  have HA := Lib.hid ha
  obtain ⟨w1, hw1⟩ : ∃ w1, w1 = w.alloc (.cells #[.slice none 0 0, .slice none 0 0, .int .i64 0, .int .i64 0] 61) := ⟨_, rfl⟩
  rw [← hw1] at hz0 HZ
  have HZ0 := Lib.hid hz0
  have HW1 := Lib.hid hw1
  clear ha hz0 hw1
  go_enter Try.func7, Try.ntmps7
  go_upto_region 3 with fail
  rw [show w.alloc (.cells #[.slice none 0 0, .slice none 0 0, .int .i64 0, .int .i64 0] 61) = w1 from HW1.out.symm]
  obtain ⟨z, hz⟩ : ∃ z, z = w.heap.size := ⟨_, rfl⟩
  have HZP : Hid (Pn (w.heap.size ≤ ·) z St.empty w1) := Lib.hid (by rw [hz]; exact HZ.out)
  rw [← hz]
  clear hz
  go_wp2_with fail
  refine (open_nil a b w1).mono ?_
  rintro e w2 ⟨rfl, h⟩
  have B2 := Lib.hid h
  clear h
  go_wp2_with fail
  refine (take_nil a HA.out w2).mono ?_
  rintro e w3 ⟨rfl, h⟩
  have h3 := B2.out.trans (h.mono B2.out.size)
  have B3 := Lib.hid (h3.alloc h3.size (.cells (ic zi).toArray 52))
  clear h h3
  go_wp2_with fail
  refine (peer_nil a b _).mono ?_
  rintro e w4 ⟨rfl, h⟩
  have B4 : Hid (Below w1.heap.size w1 w4) := Lib.hid (B3.out.trans (h.mono B3.out.size))
  clear h
  go_wp2_with fail
  refine (awake_any w4).mono ?_
  rintro e w5 ⟨rfl, h⟩
  have B5 := Lib.hid (B4.out.trans (h.mono B4.out.size))
  clear h
  go_wp2_with fail
  refine (send_nil a b _ w5).mono ?_
  rintro e w6 ⟨rfl, h⟩
  have B6 := Lib.hid (B5.out.trans (h.mono B5.out.size))
  clear h
  go_wp2_with fail
  refine (write_nil a b _ w6).mono ?_
  rintro e w7 ⟨rfl, h⟩
  have B7 := Lib.hid (B6.out.trans (h.mono B6.out.size))
  clear h
  go_wp2_with fail
  refine (close_nil a w7).mono ?_
  rintro e w8 ⟨rfl, h⟩
  have B8 := Lib.hid (B7.out.trans (h.mono B7.out.size))
  clear h
  go_wp2_with fail
  refine (lose_nil a w8).mono ?_
  rintro e w9 ⟨rfl, h⟩
  have B9 := Lib.hid (B8.out.trans (h.mono B8.out.size))
  clear h
  go_wp2_with fail
  refine (ready_nil w9).mono ?_
  rintro e w10 ⟨rfl, h⟩
  have B10 := Lib.hid (B9.out.trans (h.mono B9.out.size))
  clear h
  go_wp2_with fail
  refine (drop_nil a HA.out w10).mono ?_
  rintro e w11 ⟨rfl, h⟩
  have B11 := Lib.hid (B10.out.trans (h.mono B10.out.size))
  clear h
  go_wp2_with fail
  refine (double_nil a HA.out w11).mono ?_
  rintro e w12 ⟨rfl, h⟩
  have B12 := Lib.hid (B11.out.trans (h.mono B11.out.size))
  clear h
  go_wp2_with fail
  refine (waits_nil w12).mono ?_
  rintro e w13 ⟨rfl, h⟩
  have B13 := Lib.hid (B12.out.trans (h.mono B12.out.size))
  clear h B2 B3 B4 B5 B6 B7 B8 B9 B10 B11 B12
  go_wp2_with fail
  refine (send_any 1 2 tA _ z St.empty w13 (HZP.out.below B13.out) (b_put s0).1 (b_put s0).2.2.1).mono ?_
  rintro e w14 ⟨rfl, hl⟩
  have HL := Lib.hid hl
  clear hl
  go_wp2_with fail
  refine (waits_any _ z _ w14 HL.out.1).mono ?_
  rintro e w15 ⟨rfl, rfl⟩
  go_wp2
  go_ret
  refine ⟨rfl, (HZ0.out.trans (B13.out.mono HZ0.out.size)).trans (HL.out.2.below (Nat.le_trans HZ0.out.size B13.out.size) fun k hk => hk)⟩
end Go.Proofs.Ytocmgdhhlofajaa

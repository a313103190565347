/-
  Of no network nothing comes.
-/
import Derived.Test.YtocmgdhhlofajaaAwake
namespace Go.Proofs.Ytocmgdhhlofajaa
open Go.RowKit
abbrev nop : Value := .pointer none
set_option maxRecDepth 100000 in
set_option maxHeartbeats 4000000 in
theorem waits_nil (w : World) : Calls Try.prog 14 #[nop] w fun e w' => e = .returned (.int .i64 0) ∧ Below w.heap.size w w' := by
  go_enter Try.func14, Try.ntmps14
  go_wp2
  go_ret
  exact ⟨rfl, Below.refl _ _⟩
set_option maxRecDepth 100000 in
set_option maxHeartbeats 4000000 in
theorem send_nil (f t : Int) (x : ByteArray) (w : World) : Calls Try.prog 20 #[nop, .int .i64 f, .int .i64 t, .string x] w fun e w' => e = .returned (.bool false) ∧ Below w.heap.size w w' := by
  go_enter Try.func20, Try.ntmps20
  go_wp2
  go_ret
  exact ⟨rfl, Below.refl _ _⟩
set_option maxRecDepth 100000 in
set_option maxHeartbeats 4000000 in
theorem open_nil (f t : Int) (w : World) : Calls Try.prog 19 #[nop, .int .i64 f, .int .i64 t] w fun e w' => e = .returned (.tuple #[.int .i64 0, .bool false]) ∧ Below w.heap.size w w' := by
  go_enter Try.func19, Try.ntmps19
  go_wp2
  go_ret2
  exact ⟨rfl, Below.refl _ _⟩
set_option maxRecDepth 100000 in
set_option maxHeartbeats 4000000 in
theorem lose_nil (f : Int) (w : World) : Calls Try.prog 21 #[nop, .int .i64 f] w fun e w' => e = .returned (.int .i64 0) ∧ Below w.heap.size w w' := by
  have hb : Below w.heap.size w ((w.alloc (.cells #[nop] 24)).alloc (.cells #[.int .i64 f] 3)) := ((Below.refl _ w).alloc (Nat.le_refl _) _).alloc (by simp) _
  have HB := Lib.hid hb
  clear hb
  go_enter Try.func21, Try.ntmps21
  go_wp2
  go_ret
  exact ⟨rfl, HB.out⟩
set_option maxRecDepth 100000 in
set_option maxHeartbeats 4000000 in
theorem chosen_nil (fv : Value) (w : World) : Calls Try.prog 38 #[nop, fv] w fun e w' => e = .returned (.slice none 0 0) ∧ Below w.heap.size w w' := by
  go_enter Try.func38, Try.ntmps38
  go_wp2
  go_ret
  exact ⟨rfl, Below.refl _ _⟩
set_option maxRecDepth 100000 in
set_option maxHeartbeats 4000000 in
theorem ready_nil (w : World) : Calls Try.prog 16 #[nop] w fun e w' => e = .returned (.slice none 0 0) ∧ Below w.heap.size w w' := by
  go_enter Try.func16, Try.ntmps16
  go_wp2_with fail
  refine (firsts_any w).mono ?_
  rintro e w1 ⟨rfl, _, _, hb1⟩
  have HB1 := Lib.hid hb1
  clear hb1
  go_wp2_with fail
  refine (chosen_nil _ w1).mono ?_
  rintro e w2 ⟨rfl, hb2⟩
  have HB2 := Lib.hid (HB1.out.trans (hb2.mono HB1.out.size))
  clear hb2
  go_wp2
  go_ret
  exact ⟨rfl, HB2.out⟩
set_option maxRecDepth 100000 in
set_option maxHeartbeats 4000000 in
theorem dgs_nil (w : World) : Calls Try.prog 51 #[nop] w fun e w' => e = .returned (.slice none 0 0) ∧ Below w.heap.size w w' := by
  go_enter Try.func51, Try.ntmps51
  go_wp2_with fail
  refine (chosen_nil _ w).mono ?_
  rintro e w2 ⟨rfl, hb2⟩
  have HB2 := Lib.hid hb2
  clear hb2
  go_wp2
  go_ret
  exact ⟨rfl, HB2.out⟩
set_option maxRecDepth 100000 in
set_option maxHeartbeats 4000000 in
theorem find_nil (c : Int) (w : World) : Calls Try.prog 35 #[nop, .int .i64 c] w fun e w' => e = .returned (.tuple #[la zl, .bool false]) ∧ Below w.heap.size w w' := by
  have hb0 : Below w.heap.size w (w.alloc (.cells (lc zl).toArray 64)) := (Below.refl _ w).alloc (Nat.le_refl _) _
  have hce := ce_new w (lc zl).toArray 64
  obtain ⟨w1, hw1⟩ : ∃ w1, w1 = w.alloc (.cells (lc zl).toArray 64) := ⟨_, rfl⟩
  rw [← hw1] at hb0 hce
  obtain ⟨z0, z1, z2⟩ := c3 hce
  obtain ⟨y0, y1, y2⟩ := f3 hce
  have HE := Lib.hid hce
  have HB := Lib.hid hb0
  have HW := Lib.hid hw1
  clear hw1 hb0 hce
  go_enter Try.func35, Try.ntmps35
  go_upto_region 1 with fail
  rw [show w.alloc (.cells #[.int .i64 0, .int .i64 0, .int .i64 0] 64) = w1 from HW.out.symm]
  obtain ⟨B0, hB0⟩ : ∃ B0, B0 = w.heap.size := ⟨_, rfl⟩
  rw [← hB0] at z0 z1 z2 y0 y1 y2 HE ⊢
  have HBE := Lib.hid hB0
  clear hB0
  go_wp2
  refine bodyPost_ret (res3t rfl rfl (set3_ce HE.out)) rfl ?_
  exact ⟨rfl, set3_below HB.out (Nat.le_of_eq HBE.out.symm) _ _ _⟩
set_option maxRecDepth 100000 in
set_option maxHeartbeats 4000000 in
theorem peer_nil (c n : Int) (w : World) : Calls Try.prog 12 #[nop, .int .i64 c, .int .i64 n] w fun e w' => e = .returned (.tuple #[.int .i64 0, .bool false]) ∧ Below w.heap.size w w' := by
  go_enter Try.func12, Try.ntmps12
  go_wp2_with fail
  refine (find_nil c w).mono ?_
  rintro e w1 ⟨rfl, hb1⟩
  have HB1 := Lib.hid hb1
  clear hb1
  go_wp2
  go_ret2
  exact ⟨rfl, HB1.out.alloc HB1.out.size _⟩
set_option maxRecDepth 100000 in
set_option maxHeartbeats 4000000 in
theorem write_nil (c n : Int) (x : ByteArray) (w : World) : Calls Try.prog 22 #[nop, .int .i64 c, .int .i64 n, .string x] w fun e w' => e = .returned (.bool false) ∧ Below w.heap.size w w' := by
  go_enter Try.func22, Try.ntmps22
  go_wp2_with fail
  refine (peer_nil c n w).mono ?_
  rintro e w1 ⟨rfl, hb1⟩
  have HB1 := Lib.hid hb1
  clear hb1
  go_wp2
  go_ret
  exact ⟨rfl, HB1.out⟩
set_option maxRecDepth 100000 in
set_option maxHeartbeats 4000000 in
theorem close_nil (c : Int) (w : World) : Calls Try.prog 23 #[nop, .int .i64 c] w fun e w' => e = .returned (.bool false) ∧ Below w.heap.size w w' := by
  have hb0 : Below w.heap.size w (w.alloc (.cells #[.int .i64 c] 3)) := (Below.refl _ w).alloc (Nat.le_refl _) _
  have HB0 := Lib.hid hb0
  clear hb0
  go_enter Try.func23, Try.ntmps23
  go_wp2_with fail
  refine (find_nil c _).mono ?_
  rintro e w1 ⟨rfl, hb1⟩
  have HB1 := Lib.hid (HB0.out.trans (hb1.mono HB0.out.size))
  clear hb1
  go_wp2
  go_ret
  exact ⟨rfl, HB1.out.alloc HB1.out.size _⟩
set_option maxRecDepth 100000 in
set_option maxHeartbeats 4000000 in
theorem pull_nil (p : Int) (hp : I64 p) (w : World) : Calls Try.prog 52 #[nop, .slice none 0 0, .int .i64 p] w fun e w' => e = .returned (.tuple #[.agg #[.int .i64 0, .int .i64 0, .int .i64 0, .int .i64 0, .int .i64 0, .string ⟨#[]⟩], .bool false]) ∧ Below w.heap.size w w' := by
  have hb0 : Below w.heap.size w (w.alloc (.cells (ic zi).toArray 52)) := (Below.refl _ w).alloc (Nat.le_refl _) _
  have hce0 := ce_new w (ic zi).toArray 52
  obtain ⟨w1, hw1⟩ : ∃ w1, w1 = w.alloc (.cells (ic zi).toArray 52) := ⟨_, rfl⟩
  rw [← hw1] at hb0 hce0
  have HB0 := Lib.hid hb0
  have HW1 := Lib.hid hw1
  have HE0 := Lib.hid hce0
  have HPI := Lib.hid hp
  clear hb0 hce0 hw1 hp
  go_enter Try.func52, Try.ntmps52
  go_upto_region 1 with fail
  rw [show w.alloc (.cells #[.int .i64 0, .int .i64 0, .int .i64 0, .int .i64 0, .int .i64 0, .string ⟨#[]⟩] 52) = w1 from HW1.out.symm]
  obtain ⟨B0, hB0⟩ : ∃ B0, B0 = w.heap.size := ⟨_, rfl⟩
  rw [← hB0] at HE0 ⊢
  have HBE := Lib.hid hB0
  clear hB0
  go_wp2_with fail
  refine (picked_any [] p HPI.out 0 _ w1 (World.ownsRow_nil _ _ _ _) (by simp)).mono ?_
  rintro e w2 ⟨rfl, hb2⟩
  rw [pick_nil]
  have HB2 := Lib.hid (HB0.out.trans (hb2.mono HB0.out.size))
  have HE2 := Lib.hid (HE0.out.below hb2 HE0.out.lt)
  obtain ⟨y0, y1, y2, y3, y4, y5⟩ := f6 HE2.out
  obtain ⟨z0, z1, z2, z3, z4, z5⟩ := c6 HE2.out
  have hBl := HE2.out.lt
  have hBn : B0 ≠ w2.heap.size := by omega
  clear hb2
  go_wp2
  refine bodyPost_ret (res6t rfl rfl ((set6_ce HE2.out).alloc _)) rfl ?_
  have hsb := set6_below HB2.out (Nat.le_of_eq HBE.out.symm) (.int .i64 0) (.int .i64 0) (.int .i64 0) (.int .i64 0) (.int .i64 0) (.string ⟨#[]⟩)
  exact ⟨rfl, hsb.alloc hsb.size _⟩
set_option maxRecDepth 100000 in
set_option maxHeartbeats 4000000 in
theorem take_nil (p : Int) (hp : I64 p) (w : World) : Calls Try.prog 25 #[nop, .int .i64 p] w fun e w' => e = .returned (.tuple #[.agg #[.int .i64 0, .int .i64 0, .int .i64 0, .int .i64 0, .int .i64 0, .string ⟨#[]⟩], .bool false]) ∧ Below w.heap.size w w' := by
  have hb0 : Below w.heap.size w (w.alloc (.cells (ic zi).toArray 52)) := (Below.refl _ w).alloc (Nat.le_refl _) _
  have hce0 := ce_new w (ic zi).toArray 52
  obtain ⟨w1, hw1⟩ : ∃ w1, w1 = w.alloc (.cells (ic zi).toArray 52) := ⟨_, rfl⟩
  rw [← hw1] at hb0 hce0
  have HB0 := Lib.hid hb0
  have HW1 := Lib.hid hw1
  have HE0 := Lib.hid hce0
  have HPI := Lib.hid hp
  clear hb0 hce0 hw1 hp
  go_enter Try.func25, Try.ntmps25
  go_upto_region 1 with fail
  rw [show w.alloc (.cells #[.int .i64 0, .int .i64 0, .int .i64 0, .int .i64 0, .int .i64 0, .string ⟨#[]⟩] 52) = w1 from HW1.out.symm]
  obtain ⟨B0, hB0⟩ : ∃ B0, B0 = w.heap.size := ⟨_, rfl⟩
  rw [← hB0] at HE0 ⊢
  have HBE := Lib.hid hB0
  clear hB0
  go_wp2_with fail
  refine (ready_nil w1).mono ?_
  rintro e w2 ⟨rfl, hb2⟩
  have HB2 := Lib.hid (HB0.out.trans (hb2.mono HB0.out.size))
  have HE2 := Lib.hid (HE0.out.below hb2 HE0.out.lt)
  clear hb2
  go_wp2_with fail
  refine (pull_nil p HPI.out w2).mono ?_
  rintro e w3 ⟨rfl, hb3⟩
  have HB3 := Lib.hid (HB2.out.trans (hb3.mono HB2.out.size))
  have HE3 := Lib.hid (HE2.out.below hb3 HE2.out.lt)
  obtain ⟨y0, y1, y2, y3, y4, y5⟩ := f6 HE3.out
  obtain ⟨z0, z1, z2, z3, z4, z5⟩ := c6 HE3.out
  clear hb3
  go_wp2
  refine bodyPost_ret (res6t rfl rfl (set6_ce HE3.out)) rfl ?_
  exact ⟨rfl, set6_below HB3.out (Nat.le_of_eq HBE.out.symm) _ _ _ _ _ _⟩
set_option maxRecDepth 100000 in
set_option maxHeartbeats 4000000 in
theorem drop_nil (p : Int) (hp : I64 p) (w : World) : Calls Try.prog 26 #[nop, .int .i64 p] w fun e w' => e = .returned (.bool false) ∧ Below w.heap.size w w' := by
  have HPI := Lib.hid hp
  clear hp
  go_enter Try.func26, Try.ntmps26
  go_wp2_with fail
  refine (dgs_nil w).mono ?_
  rintro e w2 ⟨rfl, hb2⟩
  have HB2 := Lib.hid hb2
  clear hb2
  go_wp2_with fail
  refine (pull_nil p HPI.out w2).mono ?_
  rintro e w3 ⟨rfl, hb3⟩
  have HB3 := Lib.hid (HB2.out.trans (hb3.mono HB2.out.size))
  clear hb3
  go_wp2
  go_ret
  exact ⟨rfl, HB3.out.alloc HB3.out.size _⟩
set_option maxRecDepth 100000 in
set_option maxHeartbeats 4000000 in
theorem double_nil (p : Int) (hp : I64 p) (w : World) : Calls Try.prog 24 #[nop, .int .i64 p] w fun e w' => e = .returned (.bool false) ∧ Below w.heap.size w w' := by
  have HPI := Lib.hid hp
  clear hp
  go_enter Try.func24, Try.ntmps24
  go_wp2_with fail
  refine (dgs_nil w).mono ?_
  rintro e w2 ⟨rfl, hb2⟩
  have HB2 := Lib.hid hb2
  clear hb2
  go_wp2_with fail
  refine (picked_any [] p HPI.out 0 _ w2 (World.ownsRow_nil _ _ _ _) (by simp)).mono ?_
  rintro e w3 ⟨rfl, hb3⟩
  rw [pick_nil]
  have HB3 := Lib.hid (HB2.out.trans (hb3.mono HB2.out.size))
  clear hb3
  go_wp2
  go_ret
  exact ⟨rfl, HB3.out.alloc HB3.out.size _⟩
end Go.Proofs.Ytocmgdhhlofajaa

/-
  What a disk's New, On, power, Steps, Limit, Arm and count leave and answer; all else is as it was.
-/
import Derived.Test.YtpiiknbjllgaoaaDisk
namespace Go.Proofs.Ytpiiknbjllgaoaa
open Go.RowKit
def newD (k : Nat) : Dk := ⟨[], k, 0, 0, false, false⟩
theorem pd_new (w : World) (S : Nat → Prop) (hS : S w.heap.size) (k : Nat) : PD S w.heap.size (newD k) (w.alloc (.cells #[.map none, .int .i64 (k : Int), .int .i64 0, .int .i64 0, .bool false, .bool false] 64)) :=
  ⟨[], none, heap_alloc_new w _, List.Perm.refl _, List.nodup_nil, (fun _ h => by cases h), (fun _ h => by cases h), .inl ⟨rfl, rfl⟩, hS⟩
set_option maxRecDepth 100000 in
set_option maxHeartbeats 1600000 in
theorem new_any (k : Nat) (hk : k ≤ 1000000000) (w : World) :
    Calls Try.prog 16 #[.int .i64 (k : Int)] w fun e w' => e = .returned (ptr w.heap.size) ∧ PD (w.heap.size ≤ ·) w.heap.size (newD k) w' ∧ Below w.heap.size w w' := by
  have H := Lib.hid (pd_new w (w.heap.size ≤ ·) (Nat.le_refl _) k)
  go_enter Try.func16, Try.ntmps16
  go_wp2
  go_ret
  exact ⟨rfl, H.out, (Below.refl _ _).alloc (Nat.le_refl _) _⟩
section
variable {S : Nat → Prop} {b : Nat} {d : Dk} {w : World}
set_option maxRecDepth 100000 in
set_option maxHeartbeats 1600000 in
theorem on_any (h : PD S b d w) : Calls Try.prog 23 #[ptr b] w fun e w' => e = .returned (.bool (!d.off)) ∧ w = w' := by
  obtain ⟨G, mv, h⟩ := h
  have c4 := h.cell 4 _ rfl
  clear h
  go_enter Try.func23, Try.ntmps23
  go_wp2
  go_ret
  exact ⟨rfl, rfl⟩
set_option maxRecDepth 100000 in
set_option maxHeartbeats 1600000 in
theorem on_nil (w : World) : Calls Try.prog 23 #[nop] w fun e w' => e = .returned (.bool false) ∧ w = w' := by
  go_enter Try.func23, Try.ntmps23
  go_wp2
  go_ret
  exact ⟨rfl, rfl⟩
set_option maxRecDepth 100000 in
set_option maxHeartbeats 1600000 in
theorem power_any (h : PD S b d w) : Calls Try.prog 57 #[ptr b] w fun e w' => e = .returned (.int .i64 (if d.off then 14 else 0)) ∧ w = w' := by
  have H := Lib.hid (on_any h)
  clear h
  generalize d.off = o at H ⊢
  cases o
  all_goals
    go_enter Try.func57, Try.ntmps57
    go_wp2_with fail
    refine H.out.mono ?_
    rintro e w' ⟨rfl, rfl⟩
    go_wp2
    go_ret
    exact ⟨rfl, rfl⟩
set_option maxRecDepth 100000 in
set_option maxHeartbeats 1600000 in
theorem power_nil (w : World) : Calls Try.prog 57 #[nop] w fun e w' => e = .returned (.int .i64 14) ∧ w = w' := by
  go_enter Try.func57, Try.ntmps57
  go_wp2_with fail
  refine (on_nil w).mono ?_
  rintro e w' ⟨rfl, rfl⟩
  go_wp2
  go_ret
  exact ⟨rfl, rfl⟩
set_option maxRecDepth 100000 in
set_option maxHeartbeats 1600000 in
theorem arm_nil (w : World) : Calls Try.prog 19 #[nop, .int .i64 1] w fun e w' => (∃ v, e = .returned v) ∧ w = w' := by
  go_enter Try.func19, Try.ntmps19
  go_wp2
  go_end0
  exact ⟨⟨_, rfl⟩, rfl⟩
set_option maxRecDepth 100000 in
set_option maxHeartbeats 1600000 in
theorem arm_any (k : Nat) (hk : k ≤ 1000000000) (h : PD S b d w) : Calls Try.prog 19 #[ptr b, .int .i64 (k : Int)] w fun e w' => (∃ v, e = .returned v) ∧ PD S b { d with sch := true, left := k } w' ∧ Tr (fun j => j = b) w w' := by
  obtain ⟨G, mv, h⟩ := h
  have f3 := h.fz 3
  have f5 := h.fz 5
  have c3 := h.cell 3 _ rfl
  have c5 := h.cell 5 _ rfl
  have HB := Lib.hid (fun v u => heap_setCell_same _ b 3 _ _ u (heap_setCell_same w b 5 _ _ v h.blk))
  have HP := Lib.hid h
  clear h
  go_enter Try.func19, Try.ntmps19
  go_wp2
  go_end0
  have ht := ((Tr.refl (fun j => j = b) w).setCell (b := b) (i := 5) (.inl rfl) (.bool true)).setCell (b := b) (i := 3) (.inl rfl) (.int .i64 (k : Int))
  exact ⟨⟨_, rfl⟩, ⟨G, mv, HP.out.nums (d' := { d with sch := true, left := k }) rfl ht (HB.out _ _)⟩, ht⟩
def stopsD (d : Dk) : Bool := d.sch && decide (d.left = 0)
def stepD (d : Dk) : Dk := { d with left := if d.sch then d.left - 1 else d.left, steps := d.steps + 1 }
def offD (d : Dk) : Dk := { d with off := true }
set_option maxRecDepth 100000 in
set_option maxHeartbeats 1600000 in
theorem count_no (h : PD S b d w) (hs : stopsD d = true) : Calls Try.prog 61 #[ptr b] w fun e w' => e = .returned (.int .i64 14) ∧ PD S b (offD d) w' ∧ Tr (fun j => j = b) w w' := by
  obtain ⟨G, mv, h⟩ := h
  obtain ⟨fs, room, steps, left, off, sch⟩ := d
  simp only [stopsD, Bool.and_eq_true, decide_eq_true_eq] at hs
  obtain ⟨rfl, rfl⟩ := hs
  have f4 := h.fz 4
  have c3 := h.cell 3 _ rfl
  have c4 := h.cell 4 _ rfl
  have c5 := h.cell 5 _ rfl
  have HB := Lib.hid (heap_setCell_same w b 4 _ _ (.bool true) h.blk)
  have HP := Lib.hid h
  clear h
  go_enter Try.func61, Try.ntmps61
  go_wp2
  go_ret
  have ht := (Tr.refl (fun j => j = b) w).setCell (b := b) (i := 4) (.inl rfl) (.bool true)
  exact ⟨rfl, ⟨G, mv, HP.out.nums (d' := offD ⟨fs, room, steps, 0, off, true⟩) rfl ht HB.out⟩, ht⟩
/-- As many steps as may be left. -/
def mostL : Nat := 9223372036854775807
set_option maxRecDepth 100000 in
set_option maxHeartbeats 1600000 in
theorem count_yes (h : PD S b d w) (hs : stopsD d = false) (h1 : d.steps ≤ 1000000000) (h2 : d.left ≤ mostL) : Calls Try.prog 61 #[ptr b] w fun e w' => e = .returned (.int .i64 0) ∧ PD S b (stepD d) w' ∧ Tr (fun j => j = b) w w' := by
  obtain ⟨G, mv, h⟩ := h
  obtain ⟨fs, room, steps, left, off, sch⟩ := d
  simp only at h1 h2
  have f2 := h.fz 2
  have f3 := h.fz 3
  have c2 := h.cell 2 _ rfl
  have c3 := h.cell 3 _ rfl
  have c5 := h.cell 5 _ rfl
  have HP := Lib.hid h
  cases sch with
  | false =>
    have HB := Lib.hid (fun v => heap_setCell_same w b 2 _ _ v h.blk)
    clear h
    go_enter Try.func61, Try.ntmps61
    go_wp2
    go_ret
    have ht := (Tr.refl (fun j => j = b) w).setCell (b := b) (i := 2) (.inl rfl) (.int .i64 ((steps : Int) + 1))
    exact ⟨rfl, ⟨G, mv, HP.out.nums (d' := stepD ⟨fs, room, steps, left, off, false⟩) rfl ht (HB.out _)⟩, ht⟩
  | true =>
    have hl : left ≠ 0 := by simpa [stopsD] using hs
    have q0 : ((left : Int) == 0) = false := by simp; omega
    have h2' : (left : Int) ≤ 9223372036854775807 := by unfold mostL at h2; omega
    clear h2
    have HB := Lib.hid (fun u v => heap_setCell_same _ b 2 _ _ v (heap_setCell_same w b 3 _ _ u h.blk))
    have HL := Lib.hid (show ((left - 1 : Nat) : Int) = (left : Int) - 1 by omega)
    clear h
    go_enter Try.func61, Try.ntmps61
    go_wp2
    go_ret
    have ht := ((Tr.refl (fun j => j = b) w).setCell (b := b) (i := 3) (.inl rfl) (.int .i64 ((left : Int) - 1))).setCell (b := b) (i := 2) (.inl rfl) (.int .i64 ((steps : Int) + 1))
    refine ⟨rfl, ⟨G, mv, HP.out.nums (d' := stepD ⟨fs, room, steps, left, off, true⟩) rfl ht ?_⟩, ht⟩
    show _ = some (Obj.cells #[.map mv, .int .i64 (room : Int), .int .i64 ((steps + 1 : Nat) : Int), .int .i64 ((left - 1 : Nat) : Int), .bool off, .bool true] 64 (0, 0))
    rw [HL.out]
    exact HB.out _ _
end
end Go.Proofs.Ytpiiknbjllgaoaa

/-
  How a log stands in memory; what its questions answer.
-/
import Derived.Test.YtpiiknbjllgaoaaWLd
import Derived.Test.YtpiiknbjllgaoaaWRecs
namespace Go.Proofs.Ytpiiknbjllgaoaa
open Go.RowKit
/-- A log's four cells: its disk, or none; how many records, how many of them are durable, how many bytes. -/
def WB (B : Nat) (dv : Value) (c f z : Nat) (w : World) : Prop := w.heap[B]? = some (.cells #[dv, .int .i64 (c : Int), .int .i64 (f : Int), .int .i64 (z : Int)] 52 (0, 0))
section
variable {B : Nat} {dv : Value} {c f z : Nat} {w : World} (h : WB B dv c f z w)
include h
theorem WB.lt : B < w.heap.size := (Array.getElem?_eq_some_iff.1 h).1
theorem WB.cell (i : Nat) (v : Value) (hv : (#[dv, .int .i64 (c : Int), .int .i64 (f : Int), .int .i64 (z : Int)] : Array Value)[i]? = some v) : w.cell? ⟨B, i, none⟩ = some v := by
  rw [cell_of_row w B i _ 52 (0, 0) h, hv]
theorem WB.fz (i : Nat) : w.frozen? ⟨B, i, none⟩ = false := by simp [World.frozen?, show w.heap[B]? = _ from h]
theorem WB.tr {S : Nat → Prop} {w' : World} (ht : Tr S w w') (hS : ¬ S B) : WB B dv c f z w' := (ht.block B h.lt hS).trans h
theorem WB.below {w' : World} (hb : Below w.heap.size w w') : WB B dv c f z w' := (hb.block B h.lt).trans h
theorem WB.set0 (v : Value) : WB B v c f z (w.setCell ⟨B, 0, none⟩ v) := heap_setCell_same w B 0 _ _ v h
theorem WB.set1 (v : Nat) : WB B dv v f z (w.setCell ⟨B, 1, none⟩ (.int .i64 (v : Int))) := heap_setCell_same w B 1 _ _ _ h
theorem WB.set2 (v : Nat) : WB B dv c v z (w.setCell ⟨B, 2, none⟩ (.int .i64 (v : Int))) := heap_setCell_same w B 2 _ _ _ h
theorem WB.set3 (v : Nat) : WB B dv c f v (w.setCell ⟨B, 3, none⟩ (.int .i64 (v : Int))) := heap_setCell_same w B 3 _ _ _ h
end
theorem WB.new (w : World) (dv : Value) (c f z : Nat) : WB w.heap.size dv c f z (w.alloc (.cells #[dv, .int .i64 (c : Int), .int .i64 (f : Int), .int .i64 (z : Int)] 52)) := heap_alloc_new w _
theorem info52 : (Try.prog.info? 52).map (·.size) = some 4 := by kernel_rfl
set_option maxRecDepth 100000 in
set_option maxHeartbeats 1600000 in
theorem state_any {B : Nat} {dv : Value} {c f z : Nat} {w : World} (h : WB B dv c f z w) (hd : dv = nop ∨ ∃ b, dv = ptr b) :
    Calls Try.prog 50 #[ptr B] w fun e w' => e = .returned (.agg #[dv, .int .i64 (c : Int), .int .i64 (f : Int), .int .i64 (z : Int)]) ∧ Below w.heap.size w w' := by
  have c0 := h.cell 0 _ rfl
  have c1 := h.cell 1 _ rfl
  have c2 := h.cell 2 _ rfl
  have c3 := h.cell 3 _ rfl
  have hl := h.lt
  have H := Lib.hid h
  clear h
  rcases hd with rfl | ⟨b, rfl⟩
  all_goals
    go_enter Try.func50, Try.ntmps50
    go_wp2
    refine bodyPost_ret (results_cell_row rfl _ _ w.heap.size 52 _ (0, 0) _ rfl (heap_alloc_new w _) Try.underlying52 rfl info52) rfl ⟨rfl, (Below.refl _ _).alloc (Nat.le_refl _) _⟩
set_option maxRecDepth 100000 in
set_option maxHeartbeats 1600000 in
theorem state_nil (w : World) : Calls Try.prog 50 #[nop] w fun e w' => e = .returned (.agg #[nop, .int .i64 0, .int .i64 0, .int .i64 0]) ∧ Below w.heap.size w w' := by
  go_enter Try.func50, Try.ntmps50
  go_wp2
  refine bodyPost_ret (results_cell_row rfl _ _ w.heap.size 52 _ (0, 0) _ rfl (heap_alloc_new w _) Try.underlying52 rfl info52) rfl ⟨rfl, (Below.refl _ _).alloc (Nat.le_refl _) _⟩
/-- Is it broken? -/
def brk (dv : Value) : Bool := match dv with
  | .pointer none => true
  | _ => false
set_option maxRecDepth 100000 in
set_option maxHeartbeats 1600000 in
theorem len_any {B : Nat} {dv : Value} {c f z : Nat} {w : World} (h : WB B dv c f z w) (hd : dv = nop ∨ ∃ b, dv = ptr b) :
    Calls Try.prog 26 #[ptr B] w fun e w' => e = .returned (.int .i64 (c : Int)) ∧ Below w.heap.size w w' := by
  have HS := Lib.hid (state_any h hd)
  clear h
  have hfn : ∀ w : World, (Instr.field 52 (.agg #[nop, .int .i64 (c : Int), .int .i64 (f : Int), .int .i64 (z : Int)]) 1).run Try.prog w = .ok (.int .i64 (c : Int)) w := fun _ => by kernel_rfl
  have hfp : ∀ (b : Nat) (w : World), (Instr.field 52 (.agg #[ptr b, .int .i64 (c : Int), .int .i64 (f : Int), .int .i64 (z : Int)]) 1).run Try.prog w = .ok (.int .i64 (c : Int)) w := fun _ _ => by kernel_rfl
  rcases hd with rfl | ⟨b, rfl⟩
  all_goals
    go_enter Try.func26, Try.ntmps26
    go_wp2_with fail
    refine HS.out.mono ?_
    rintro e w1 ⟨rfl, hb⟩
    have HB := Lib.hid hb
    clear hb
    go_wp2
    go_ret
    exact ⟨rfl, HB.out⟩
set_option maxRecDepth 100000 in
set_option maxHeartbeats 1600000 in
theorem len_none (w : World) : Calls Try.prog 26 #[nop] w fun e w' => e = .returned (.int .i64 0) ∧ Below w.heap.size w w' := by
  have hfn : ∀ w : World, (Instr.field 52 (.agg #[nop, .int .i64 0, .int .i64 0, .int .i64 0]) 1).run Try.prog w = .ok (.int .i64 0) w := fun _ => by kernel_rfl
  go_enter Try.func26, Try.ntmps26
  go_wp2_with fail
  refine (state_nil w).mono ?_
  rintro e w1 ⟨rfl, hb⟩
  have HB := Lib.hid hb
  clear hb
  go_wp2
  go_ret
  exact ⟨rfl, HB.out⟩
set_option maxRecDepth 100000 in
set_option maxHeartbeats 1600000 in
theorem firm_any {B : Nat} {dv : Value} {c f z : Nat} {w : World} (h : WB B dv c f z w) (hd : dv = nop ∨ ∃ b, dv = ptr b) :
    Calls Try.prog 27 #[ptr B] w fun e w' => e = .returned (.int .i64 (f : Int)) ∧ Below w.heap.size w w' := by
  have HS := Lib.hid (state_any h hd)
  clear h
  have hfn : ∀ w : World, (Instr.field 52 (.agg #[nop, .int .i64 (c : Int), .int .i64 (f : Int), .int .i64 (z : Int)]) 2).run Try.prog w = .ok (.int .i64 (f : Int)) w := fun _ => by kernel_rfl
  have hfp : ∀ (b : Nat) (w : World), (Instr.field 52 (.agg #[ptr b, .int .i64 (c : Int), .int .i64 (f : Int), .int .i64 (z : Int)]) 2).run Try.prog w = .ok (.int .i64 (f : Int)) w := fun _ _ => by kernel_rfl
  rcases hd with rfl | ⟨b, rfl⟩
  all_goals
    go_enter Try.func27, Try.ntmps27
    go_wp2_with fail
    refine HS.out.mono ?_
    rintro e w1 ⟨rfl, hb⟩
    have HB := Lib.hid hb
    clear hb
    go_wp2
    go_ret
    exact ⟨rfl, HB.out⟩
set_option maxRecDepth 100000 in
set_option maxHeartbeats 1600000 in
theorem firm_none (w : World) : Calls Try.prog 27 #[nop] w fun e w' => e = .returned (.int .i64 0) ∧ Below w.heap.size w w' := by
  have hfn : ∀ w : World, (Instr.field 52 (.agg #[nop, .int .i64 0, .int .i64 0, .int .i64 0]) 2).run Try.prog w = .ok (.int .i64 0) w := fun _ => by kernel_rfl
  go_enter Try.func27, Try.ntmps27
  go_wp2_with fail
  refine (state_nil w).mono ?_
  rintro e w1 ⟨rfl, hb⟩
  have HB := Lib.hid hb
  clear hb
  go_wp2
  go_ret
  exact ⟨rfl, HB.out⟩
set_option maxRecDepth 100000 in
set_option maxHeartbeats 1600000 in
theorem size_any {B : Nat} {dv : Value} {c f z : Nat} {w : World} (h : WB B dv c f z w) (hd : dv = nop ∨ ∃ b, dv = ptr b) :
    Calls Try.prog 28 #[ptr B] w fun e w' => e = .returned (.int .i64 (z : Int)) ∧ Below w.heap.size w w' := by
  have HS := Lib.hid (state_any h hd)
  clear h
  have hfn : ∀ w : World, (Instr.field 52 (.agg #[nop, .int .i64 (c : Int), .int .i64 (f : Int), .int .i64 (z : Int)]) 3).run Try.prog w = .ok (.int .i64 (z : Int)) w := fun _ => by kernel_rfl
  have hfp : ∀ (b : Nat) (w : World), (Instr.field 52 (.agg #[ptr b, .int .i64 (c : Int), .int .i64 (f : Int), .int .i64 (z : Int)]) 3).run Try.prog w = .ok (.int .i64 (z : Int)) w := fun _ _ => by kernel_rfl
  rcases hd with rfl | ⟨b, rfl⟩
  all_goals
    go_enter Try.func28, Try.ntmps28
    go_wp2_with fail
    refine HS.out.mono ?_
    rintro e w1 ⟨rfl, hb⟩
    have HB := Lib.hid hb
    clear hb
    go_wp2
    go_ret
    exact ⟨rfl, HB.out⟩
set_option maxRecDepth 100000 in
set_option maxHeartbeats 1600000 in
theorem size_none (w : World) : Calls Try.prog 28 #[nop] w fun e w' => e = .returned (.int .i64 0) ∧ Below w.heap.size w w' := by
  have hfn : ∀ w : World, (Instr.field 52 (.agg #[nop, .int .i64 0, .int .i64 0, .int .i64 0]) 3).run Try.prog w = .ok (.int .i64 0) w := fun _ => by kernel_rfl
  go_enter Try.func28, Try.ntmps28
  go_wp2_with fail
  refine (state_nil w).mono ?_
  rintro e w1 ⟨rfl, hb⟩
  have HB := Lib.hid hb
  clear hb
  go_wp2
  go_ret
  exact ⟨rfl, HB.out⟩
set_option maxRecDepth 100000 in
set_option maxHeartbeats 1600000 in
theorem broken_any {B : Nat} {dv : Value} {c f z : Nat} {w : World} (h : WB B dv c f z w) (hd : dv = nop ∨ ∃ b, dv = ptr b) :
    Calls Try.prog 29 #[ptr B] w fun e w' => e = .returned (.bool (brk dv)) ∧ Below w.heap.size w w' := by
  have HS := Lib.hid (state_any h hd)
  clear h
  have hfn : ∀ w : World, (Instr.field 52 (.agg #[nop, .int .i64 (c : Int), .int .i64 (f : Int), .int .i64 (z : Int)]) 0).run Try.prog w = .ok nop w := fun _ => by kernel_rfl
  have hfp : ∀ (b : Nat) (w : World), (Instr.field 52 (.agg #[ptr b, .int .i64 (c : Int), .int .i64 (f : Int), .int .i64 (z : Int)]) 0).run Try.prog w = .ok (ptr b) w := fun _ _ => by kernel_rfl
  rcases hd with rfl | ⟨b, rfl⟩
  all_goals
    go_enter Try.func29, Try.ntmps29
    go_wp2_with fail
    refine HS.out.mono ?_
    rintro e w1 ⟨rfl, hb⟩
    have HB := Lib.hid hb
    clear hb
    go_wp2
    go_ret
    exact ⟨rfl, HB.out⟩
set_option maxRecDepth 100000 in
set_option maxHeartbeats 1600000 in
theorem broken_none (w : World) : Calls Try.prog 29 #[nop] w fun e w' => e = .returned (.bool true) ∧ Below w.heap.size w w' := by
  have hfn : ∀ w : World, (Instr.field 52 (.agg #[nop, .int .i64 0, .int .i64 0, .int .i64 0]) 0).run Try.prog w = .ok (nop) w := fun _ => by kernel_rfl
  go_enter Try.func29, Try.ntmps29
  go_wp2_with fail
  refine (state_nil w).mono ?_
  rintro e w1 ⟨rfl, hb⟩
  have HB := Lib.hid hb
  clear hb
  go_wp2
  go_ret
  exact ⟨rfl, HB.out⟩
set_option maxRecDepth 100000 in
set_option maxHeartbeats 1600000 in
theorem ready_any {B : Nat} {dv : Value} {c f z : Nat} {w : World} (h : WB B dv c f z w) (hd : dv = nop ∨ ∃ b, dv = ptr b) :
    Calls Try.prog 42 #[ptr B] w fun e w' => e = .returned (.int .i64 (if brk dv then 13 else 0)) ∧ Below w.heap.size w w' := by
  have HS := Lib.hid (broken_any h hd)
  clear h
  rcases hd with rfl | ⟨b, rfl⟩
  all_goals
    go_enter Try.func42, Try.ntmps42
    go_wp2_with fail
    refine HS.out.mono ?_
    rintro e w1 ⟨rfl, hb⟩
    have HB := Lib.hid hb
    clear hb
    simp only [brk]
    go_wp2
    go_ret
    exact ⟨rfl, HB.out⟩
set_option maxRecDepth 100000 in
set_option maxHeartbeats 1600000 in
theorem ready_none (w : World) : Calls Try.prog 42 #[nop] w fun e w' => e = .returned (.int .i64 1) ∧ w = w' := by
  go_enter Try.func42, Try.ntmps42
  go_wp2
  go_ret
  exact ⟨rfl, rfl⟩
end Go.Proofs.Ytpiiknbjllgaoaa

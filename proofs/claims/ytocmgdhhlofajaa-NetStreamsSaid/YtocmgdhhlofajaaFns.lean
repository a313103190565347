/-
  The functions that choose: of a connection, from or to a node, of a number, a connection itself, datagrams.
-/
import Derived.Test.YtocmgdhhlofajaaRemove
namespace Go.Proofs.Ytocmgdhhlofajaa
open Go.RowKit
set_option maxRecDepth 100000 in
set_option maxHeartbeats 1600000 in
theorem conn_any (x : It) (c : Int) (C : Nat) (w : World) (hc : w.cell? ⟨C, 0, none⟩ = some (.int .i64 c)) :
    Calls Try.prog 48 #[ia x, ptr C] w fun e w' => e = .returned (.bool (x.conn == c)) ∧ Below w.heap.size w w' := by
  have hl : C < w.heap.size := w.block_lt_of_cell? _ hc
  have HB : Hid (Below w.heap.size w (w.alloc (.cells (ic x).toArray 74))) := Lib.hid ((Below.refl _ w).alloc (Nat.le_refl _) _)
  go_enter Try.func48, Try.ntmps48
  go_wp2
  go_ret
  exact ⟨rfl, HB.out⟩
set_option maxRecDepth 100000 in
set_option maxHeartbeats 1600000 in
theorem num_any (x : It) (c : Int) (C : Nat) (w : World) (hc : w.cell? ⟨C, 0, none⟩ = some (.int .i64 c)) :
    Calls Try.prog 60 #[ia x, ptr C] w fun e w' => e = .returned (.bool (x.num == c)) ∧ Below w.heap.size w w' := by
  have hl : C < w.heap.size := w.block_lt_of_cell? _ hc
  have HB : Hid (Below w.heap.size w (w.alloc (.cells (ic x).toArray 74))) := Lib.hid ((Below.refl _ w).alloc (Nat.le_refl _) _)
  go_enter Try.func60, Try.ntmps60
  go_wp2
  go_ret
  exact ⟨rfl, HB.out⟩
set_option maxRecDepth 100000 in
set_option maxHeartbeats 1600000 in
theorem datagram_any (x : It) (w : World) :
    Calls Try.prog 58 #[ia x] w fun e w' => e = .returned (.bool (isD x)) ∧ Below w.heap.size w w' := by
  have HB : Hid (Below w.heap.size w (w.alloc (.cells (ic x).toArray 74))) := Lib.hid ((Below.refl _ w).alloc (Nat.le_refl _) _)
  unfold isD
  go_enter Try.func58, Try.ntmps58
  go_wp2
  go_ret
  exact ⟨rfl, HB.out⟩
set_option maxRecDepth 100000 in
set_option maxHeartbeats 1600000 in
theorem touch_any (x : It) (c : Int) (C : Nat) (w : World) (hc : w.cell? ⟨C, 0, none⟩ = some (.int .i64 c)) :
    Calls Try.prog 44 #[ia x, ptr C] w fun e w' => e = .returned (.bool (touch c x)) ∧ Below w.heap.size w w' := by
  have hl : C < w.heap.size := w.block_lt_of_cell? _ hc
  have HB : Hid (Below w.heap.size w (w.alloc (.cells (ic x).toArray 74))) := Lib.hid ((Below.refl _ w).alloc (Nat.le_refl _) _)
  unfold touch
  by_cases h1 : x.frm = c
  · subst h1
    rw [show (x.frm == x.frm || x.dst == x.frm) = true by simp]
    go_enter Try.func44, Try.ntmps44
    go_wp2
    go_ret
    exact ⟨rfl, HB.out⟩
  · have q1 : (x.frm == c) = false := by simpa using h1
    rw [q1, Bool.false_or]
    go_enter Try.func44, Try.ntmps44
    go_wp2
    go_ret
    exact ⟨rfl, HB.out⟩
theorem eq48 (a b c d : Int) (w : World) : (Op.equalIn 9999 48 (.agg #[.int .i64 a, .int .i64 b]) (.agg #[.int .i64 c, .int .i64 d])).run Try.prog w = .ok (a == c && b == d) w := by
  obtain ⟨i0, hi, hz0, hz1, hz2⟩ := info_parts info3
  have e : ∀ (a b : Int) (w : World), (Op.equalIn 9998 3 (.int .i64 a) (.int .i64 b)).run Try.prog w = .ok (a == b) w := fun a b w => run_equalIn_int w 9997 3 .i64 .i64 a b Try.underlying3
  show (Op.equalIn (9998 + 1) 48 _ _).run _ _ = _
  unfold Op.equalIn
  have hr : List.range' 0 2 = [0, 1] := rfl
  cases h1 : (a == c) <;> cases h2 : (b == d) <;> simp [run_underlying Try.underlying48, run_underlying Try.underlying3, sizeOf, typeInfo, hi, hz1, part, e, hr, isAgg, h1, h2]
theorem lk_beq (x l : Lk) : (x == l) = (x.num == l.num && (x.a == l.a && x.b == l.b)) := by
  obtain ⟨a, b, c⟩ := x
  obtain ⟨d, e, f⟩ := l
  rw [Bool.eq_iff_iff]
  simp
set_option maxRecDepth 100000 in
set_option maxHeartbeats 1600000 in
theorem same_l (x l : Lk) (C : Nat) (w : World) (h : Ce w C 64 (lc l).toArray) :
    Calls Try.prog 49 #[la x, ptr C] w fun e w' => e = .returned (.bool (x == l)) ∧ Below w.heap.size w w' := by
  have HB : Hid (Below w.heap.size w (w.alloc (.cells (lc x).toArray 64))) := Lib.hid ((Below.refl _ w).alloc (Nat.le_refl _) _)
  have hl := h.lt
  obtain ⟨c0, c1, c2⟩ := c3 h
  have hq := eq48 x.a x.b l.a l.b
  rw [lk_beq]
  clear h
  by_cases h1 : x.num = l.num
  · have q1 : (x.num == l.num) = true := by simpa using h1
    rw [q1, Bool.true_and]
    clear q1
    generalize (x.a == l.a && x.b == l.b) = v at hq ⊢
    rw [← h1] at c0
    clear h1
    cases v with
    | true =>
      go_enter Try.func49, Try.ntmps49
      go_wp2
      go_ret
      exact ⟨rfl, HB.out⟩
    | false =>
      go_enter Try.func49, Try.ntmps49
      go_wp2
      go_ret
      exact ⟨rfl, HB.out⟩
  · have q1 : (x.num == l.num) = false := by simpa using h1
    rw [q1, Bool.false_and]
    clear hq
    go_enter Try.func49, Try.ntmps49
    go_wp2
    go_ret
    exact ⟨rfl, HB.out⟩
end Go.Proofs.Ytocmgdhhlofajaa

/-
  What the document's Check, Labels and Depth answer, for every text; no older memory is changed.
-/
import Derived.Test.YtjoplnkagfkffaaRRow
import Derived.Test.YtjoplnkagfkffaaMake
namespace Go.Proofs.Ytjoplnkagfkffaa
open Go.RowKit
set_option maxRecDepth 100000 in
set_option maxHeartbeats 1600000 in
theorem rcheck_any (s : ByteArray) (hs : s.size ≤ 1000000) (w : World) :
    Calls Try.prog 10 #[.string s] w fun e w' => e = .returned (.int .i64 (chk s.data.toList)) ∧ Below w.heap.size w w' := by
  by_cases g : rest s.data.toList = [0]
  · have q : (rest s.data.toList == [0]) = true := by simpa using g
    have q' : (!rest s.data.toList == [0]) = false := by simpa using g
    have f1 := chk_size s q'
    have f2 := chk_ok s q'
    have F1 := Lib.hid f1
    have F2 := Lib.hid f2
    have Q := Lib.hid q
    clear g q q' f1 f2
    by_cases g2 : 255 < s.size
    · have q2 : (255 : Int) < (s.size : Int) := by omega
      go_enter Try.func10, Try.ntmps10
      go_wp2_with (go_at_call 19; refine (rrow_any s hs _).mono ?_; rintro e w2 ⟨v, rfl, _, hb2⟩; rw [Q.out])
      go_ret
      exact ⟨ret_i64 (F1.out q2), hb2⟩
    · have q2 : decide ((255 : Int) < (s.size : Int)) = false := by simp; omega
      go_enter Try.func10, Try.ntmps10
      go_wp2_with (go_at_call 19; refine (rrow_any s hs _).mono ?_; rintro e w2 ⟨v, rfl, _, hb2⟩; rw [Q.out])
      go_ret
      exact ⟨ret_i64 (F2.out (by omega)), hb2⟩
  · have q : (rest s.data.toList == [0]) = false := by simpa using g
    have q' : (!rest s.data.toList == [0]) = true := by simpa using g
    have F := Lib.hid (chk_form s q')
    have Q := Lib.hid q
    clear g q q'
    go_enter Try.func10, Try.ntmps10
    go_wp2_with (go_at_call 19; refine (rrow_any s hs _).mono ?_; rintro e w2 ⟨v, rfl, _, hb2⟩; rw [Q.out])
    go_ret
    exact ⟨ret_i64 F.out, hb2⟩
theorem ret_vi {v : Value} {a b : Int} (h : a = b) : Ending.returned (.tuple #[v, .int .i64 a]) = .returned (.tuple #[v, .int .i64 b]) := by rw [h]
set_option maxRecDepth 100000 in
set_option maxHeartbeats 1600000 in
theorem rlabels_yes (s : ByteArray) (hs : s.size ≤ 1000000) (g : chk s.data.toList = 0) (w : World) :
    Calls Try.prog 35 #[.string s] w fun e w' => ∃ v, e = .returned (.tuple #[v, .int .i64 0]) ∧ Own9 w' w.heap.size v (labs s.data.toList) ∧ Below w.heap.size w w' := by
  have G := Lib.hid g
  have R := Lib.hid (chk_zero.1 g).1
  clear g
  go_enter Try.func35, Try.ntmps35
  go_wp2_with (first | (go_at_call 10; refine (rcheck_any s hs _).mono ?_; rintro e w1 ⟨rfl, hb1⟩; rw [G.out]) | (go_at_call 19; refine (rrow_any s hs _).mono ?_; rintro e w2 ⟨v, rfl, hown, hb2⟩))
  go_ret2
  exact ⟨v, rfl, (hown R.out).mono hb1.size, hb1.trans (hb2.mono hb1.size)⟩
set_option maxRecDepth 100000 in
set_option maxHeartbeats 1600000 in
theorem rlabels_no (s : ByteArray) (hs : s.size ≤ 1000000) (g : ¬ chk s.data.toList = 0) (w : World) :
    Calls Try.prog 35 #[.string s] w fun e w' => e = .returned (.tuple #[.slice none 0 0, .int .i64 (chk s.data.toList)]) ∧ Below w.heap.size w w' := by
  have q : (chk s.data.toList == 0) = false := by simpa using g
  have q' : (chk s.data.toList != 0) = true := by simpa using g
  clear g
  go_enter Try.func35, Try.ntmps35
  go_wp2_with (go_at_call 10; refine (rcheck_any s hs _).mono ?_; rintro e w1 ⟨rfl, hb1⟩)
  go_ret2
  exact ⟨rfl, hb1⟩
set_option maxRecDepth 100000 in
set_option maxHeartbeats 1600000 in
theorem rdepth_any (s : ByteArray) (hs : s.size ≤ 1000000) (w : World) :
    Calls Try.prog 21 #[.string s] w fun e w' => e = .returned (.int .i64 (dep s.data.toList)) ∧ Below w.heap.size w w' := by
  by_cases g : chk s.data.toList = 0
  · have D := Lib.hid (dep_yes g)
    have G := Lib.hid g
    clear g
    go_enter Try.func21, Try.ntmps21
    go_wp2_with (go_at_call 35; refine (rlabels_yes s hs G.out _).mono ?_; rintro e w1 ⟨v, rfl, hown, hb1⟩; obtain ⟨a, cap, rfl⟩ := row_slice hown)
    go_ret
    exact ⟨ret_i64 D.out, hb1⟩
  · have D := Lib.hid (dep_no g)
    have G := Lib.hid g
    have q : (chk s.data.toList == 0) = false := by simpa using g
    have q' : (chk s.data.toList != 0) = true := by simpa using g
    clear g
    go_enter Try.func21, Try.ntmps21
    go_wp2_with (go_at_call 35; refine (rlabels_no s hs G.out _).mono ?_; rintro e w1 ⟨rfl, hb1⟩)
    go_ret
    exact ⟨ret_i64 D.out, hb1⟩
end Go.Proofs.Ytjoplnkagfkffaa

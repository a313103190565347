/-
  What follow answers, for every text and place; no older memory is changed.
-/
import Derived.Test.YtflpceaaelampaaSeq
namespace Go.Proofs.Ytflpceaaelampaa
open Go.RowKit
theorem not_mark (x : Nat) (hx : x < 65536) : bits .andNot .u16 (x : Int) 49152 = ((x % 16384 : Nat) : Int) := by
  have h := u16_andNot_nat x 49152 hx (by decide)
  have e : x &&& (65535 - 49152) = x % 16384 := Nat.and_two_pow_sub_one_eq_mod x 14
  rw [e] at h
  exact h
theorem ret_three {a b c x y z : Int} (h1 : a = x) (h2 : b = y) (h3 : c = z) : Ending.returned (.tuple #[.int .i64 a, .int .i64 b, .int .i64 c]) = .returned (.tuple #[.int .i64 x, .int .i64 y, .int .i64 z]) := by rw [h1, h2, h3]
set_option maxRecDepth 100000 in
set_option maxHeartbeats 1600000 in
theorem follow_yes (s : ByteArray) (hs : s.size ≤ 140737488351232) (p st t : Nat) (hp : p + 1 < s.size) (ht : numB (piS s.data.toList p 2) % 16384 = t) (h : t < st) (w : World) :
    Calls Try.prog 85 #[.string s, .int .i64 (p : Int), .int .i64 (st : Int)] w fun e w' => e = .returned (.tuple #[.int .i64 (t : Int), .int .i64 ((p : Int) + 2), .int .i64 0]) ∧ w = w' := by
  have C := word_any s hs (p : Int) (by omega) w
  have hx : numB (piS s.data.toList p 2) < 65536 := piS_len' s.data.toList p 2
  obtain ⟨e1, e2, e3⟩ := pi_yes (s := s.data.toList) (piE_yes (a := (p : Int)) (n := 2) (by omega) (by omega) (by rw [← size_list]; omega))
  unfold nuV at C
  rw [e2, e3] at C
  obtain ⟨x, hx0⟩ : ∃ x, x = numB (piS s.data.toList p 2) := ⟨_, rfl⟩
  rw [← hx0] at C hx ht
  have hb := not_mark x hx
  rw [ht] at hb
  have hx1 : (x : Int) < 65536 := by omega
  have ht1 : (t : Int) < 16384 := by omega
  have hc : decide (((st : Nat) : Int) ≤ ((t : Nat) : Int)) = false := by simp; omega
  have hc' : decide (st ≤ t) = false := by simp; omega
  have HC := Lib.hid C
  clear C hx hx0 e1 e2 e3 ht
  go_enter Try.func85, Try.ntmps85
  go_wp2_with fail
  refine HC.out.mono ?_
  rintro e w' ⟨rfl, rfl⟩
  go_wp2
  go_ret3
  exact ⟨rfl, rfl⟩
set_option maxRecDepth 100000 in
set_option maxHeartbeats 1600000 in
theorem follow_no (s : ByteArray) (hs : s.size ≤ 140737488351232) (p st : Nat) (hpb : (p : Int) ≤ 9223372036854775807) (h : ¬ (p + 1 < s.size ∧ numB (piS s.data.toList p 2) % 16384 < st)) (w : World) :
    Calls Try.prog 85 #[.string s, .int .i64 (p : Int), .int .i64 (st : Int)] w fun e w' => e = .returned (.tuple #[.int .i64 0, .int .i64 0, .int .i64 10]) ∧ w = w' := by
  have C := word_any s hs (p : Int) (by omega) w
  have hx : numB (piS s.data.toList p 2) < 65536 := piS_len' s.data.toList p 2
  unfold nuV at C
  by_cases hp : p + 1 < s.size
  · obtain ⟨e1, e2, e3⟩ := pi_yes (s := s.data.toList) (piE_yes (a := (p : Int)) (n := 2) (by omega) (by omega) (by rw [← size_list]; omega))
    rw [e2, e3] at C
    obtain ⟨x, hx0⟩ : ∃ x, x = numB (piS s.data.toList p 2) := ⟨_, rfl⟩
    rw [← hx0] at C hx h
    have hb := not_mark x hx
    obtain ⟨t, ht⟩ : ∃ t, x % 16384 = t := ⟨_, rfl⟩
    rw [ht] at hb h
    have hx1 : (x : Int) < 65536 := by omega
    have ht1 : (t : Int) < 16384 := by omega
    have hc : decide (((st : Nat) : Int) ≤ ((t : Nat) : Int)) = true := by simp; omega
    have hc' : decide (st ≤ t) = true := by simp; omega
    have HC := Lib.hid C
    clear C hx hx0 e1 e2 e3 ht h
    go_enter Try.func85, Try.ntmps85
    go_wp2_with fail
    refine HC.out.mono ?_
    rintro e w' ⟨rfl, rfl⟩
    go_wp2
    go_ret3
    exact ⟨rfl, rfl⟩
  · obtain ⟨e1, e2, e3⟩ := pi_no (s := s.data.toList) (a := (p : Int)) (n := 2) (piE_no (by rw [← size_list]; omega))
    rw [e1, e2, e3] at C
    have HC := Lib.hid C
    clear C hx e1 e2 e3 h
    go_enter Try.func85, Try.ntmps85
    go_wp2_with fail
    refine HC.out.mono ?_
    rintro e w' ⟨rfl, rfl⟩
    rw [show numB [] = 0 from rfl]
    go_wp2
    go_ret3
    exact ⟨rfl, rfl⟩
end Go.Proofs.Ytflpceaaelampaa

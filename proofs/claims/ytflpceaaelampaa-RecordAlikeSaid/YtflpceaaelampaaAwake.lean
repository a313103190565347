/-
  What the statements' own look 'awake' and their 'short' hand back; no older memory is changed.
-/
import Derived.Test.YtflpceaaelampaaPName
import Derived.Test.YtflpceaaelampaaName
namespace Go.Proofs.Ytflpceaaelampaa
open Go.RowKit
theorem Lft.one {n b : Nat} {B : Bs} {L : Kn} {w w' : World} (h : Lft (n ≤ ·) b B L w w') (hn : n ≤ w.heap.size) : PK (n ≤ ·) b B L w' ∧ Below n w w' := by
  refine ⟨h.1.mono fun k hk => ?_, h.2.below hn fun k hk => hk⟩
  rcases hk with hk | hk
  · exact hk
  · exact Nat.le_trans hn hk
set_option maxHeartbeats 400000 in
theorem short_cut (s : ByteArray) (n : Nat) (h : n < s.size) (w : World) :
    Calls Try.prog 19 #[.string s, .int .i64 (n : Int)] w fun e w' => e = .returned (.string (s.extract 0 n)) ∧ w = w' := by
  have hd : decide ((n : Int) < (s.size : Int)) = true := by simp; omega
  go_enter Try.func19, Try.ntmps19
  go_wp2
  go_ret
  exact ⟨rfl, rfl⟩
set_option maxHeartbeats 400000 in
theorem short_all (s : ByteArray) (n : Nat) (h : s.size ≤ n) (w : World) :
    Calls Try.prog 19 #[.string s, .int .i64 (n : Int)] w fun e w' => e = .returned (.string s) ∧ w = w' := by
  go_enter Try.func19, Try.ntmps19
  go_wp2
  go_ret
  exact ⟨rfl, rfl⟩
/-- THE CUT: what stands there behind it is of no more than so many bytes. -/
theorem short_any (s : ByteArray) (n : Nat) :
    ∃ t : ByteArray, t.size ≤ n ∧ ∀ w : World, Calls Try.prog 19 #[.string s, .int .i64 (n : Int)] w fun e w' => e = .returned (.string t) ∧ w = w' := by
  by_cases h : s.size ≤ n
  · exact ⟨s, h, fun w => short_all s n h w⟩
  · exact ⟨s.extract 0 n, by simp; omega, fun w => short_cut s n (by omega) w⟩
end Go.Proofs.Ytflpceaaelampaa

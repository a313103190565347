/-
  What first answers: the first error of some tests, behind which none is made.
-/
import Derived.Test.YtpiiknbjllgaoaaUsed
namespace Go.Proofs.Ytpiiknbjllgaoaa
open Go.RowKit
/-- A test: a function, with what stands ahead of and behind its arguments. -/
structure Tst where
  N : FuncId
  fs : Array Value
  cs : Array Value
abbrev Tst.val (t : Tst) : Value := .func (.func t.N) t.fs t.cs
set_option maxRecDepth 100000 in
set_option maxHeartbeats 1600000 in
theorem first_any (F : List Tst) (g n : Nat) (hn : n = F.length) (hB : n ≤ 10) (w : World) (K : Nat → World → Prop) (Z : Int → World → Prop)
    (hc : ∀ (k : Nat) (t : Tst) w1, F[k]? = some t → K k w1 → w1.cell? ⟨g, k, none⟩ = some t.val)
    (hN : ∀ (k : Nat) (t : Tst), F[k]? = some t → ∀ args w, (callFunc t.N args).run Try.prog w = .ok (.enter t.N args) w)
    (hcall : ∀ (k : Nat) (t : Tst) w1, F[k]? = some t → K k w1 → Calls Try.prog t.N (t.fs ++ t.cs) w1 fun e w2 => (e = .returned (.int .i64 0) ∧ K (k + 1) w2) ∨ ∃ z, z ≠ 0 ∧ e = .returned (.int .i64 z) ∧ Z z w2)
    (h0 : K 0 w) :
    Calls Try.prog 56 #[.slice (some ⟨g, 0, none⟩) n n] w fun e w' => (e = .returned (.int .i64 0) ∧ K n w') ∨ ∃ z, z ≠ 0 ∧ e = .returned (.int .i64 z) ∧ Z z w' := by
  have HC := Lib.hid hc
  have HN := Lib.hid hN
  have HL := Lib.hid hcall
  have H0 := Lib.hid h0
  have HE := Lib.hid hn
  clear hc hN hcall h0 hn
  go_enter Try.func56, Try.ntmps56
  go_wp2
  go_loopw [5, 8] (fun _ i wr => ∃ k : Nat, k ≤ n ∧ i = .int .i64 (k : Int) ∧ K k wr) (fun _ i _ => n - (intOf i).toNat)
  case atStart => exact ⟨0, by omega, rfl, H0.out⟩
  case round =>
    obtain ⟨k, hk, rfl, hK⟩ := hrel
    by_cases hlt : k < n
    · have q1 : (k : Int) < (n : Int) := by omega
      obtain ⟨t, ht⟩ : ∃ t, F[k]? = some t := ⟨_, List.getElem?_eq_getElem (by rw [← HE.out]; exact hlt)⟩
      have c0 := HC.out k t _ ht hK
      have hN := HN.out k t ht
      have HLL := Lib.hid (HL.out k t _ ht hK)
      obtain ⟨N, fs, cs⟩ := t
      clear hK ht
      go_wp2_with fail
      refine HLL.out.mono ?_
      rintro e w2 (⟨rfl, hk2⟩ | ⟨z, hz, rfl, hz2⟩)
      · have HK2 := Lib.hid hk2
        clear hk2
        go_wp2
        go_roundw
        case rel => exact ⟨k + 1, by omega, by go_num, HK2.out⟩
        case measure => simp [intOf]; omega
      · have HZ := Lib.hid hz2
        have q2 : (z == 0) = false := by simpa using hz
        have q3 : (z != 0) = true := by simpa using hz
        clear hz2
        go_wp2
        go_ret
        exact .inr ⟨z, hz, rfl, HZ.out⟩
    · have q1 : decide ((k : Int) < (n : Int)) = false := by simp; omega
      obtain rfl : k = n := by omega
      have HK := Lib.hid hK
      clear hK
      go_wp2
      go_ret
      exact .inl ⟨rfl, HK.out⟩
/-- Names of files. -/
def Gn (s : ByteArray) : Prop := 1 ≤ s.size ∧ s.size ≤ 40
set_option maxRecDepth 100000 in
set_option maxHeartbeats 1600000 in
theorem namedf_any (N : Nat → ByteArray) (C g n cap : Nat) (w : World) (hB : n ≤ 10) (hC : w.cell? ⟨C, 0, none⟩ = some (.slice (some ⟨g, 0, none⟩) n cap)) (hN : ∀ k, k < n → Gn (N k) ∧ w.cell? ⟨g, k, none⟩ = some (.string (N k))) :
    Calls Try.prog 76 #[ptr C] w fun e w' => e = .returned (.int .i64 0) ∧ w = w' := by
  have HN := Lib.hid hN
  clear hN
  go_enter Try.func76, Try.ntmps76
  go_wp2
  go_loopw [3, 6] (fun _ i wr => ∃ k : Nat, k ≤ n ∧ i = .int .i64 (k : Int) ∧ w = wr) (fun _ i _ => n - (intOf i).toNat)
  case atStart => exact ⟨0, by omega, rfl, rfl⟩
  case round =>
    obtain ⟨k, hk, rfl, rfl⟩ := hrel
    by_cases hlt : k < n
    · have q1 : (k : Int) < (n : Int) := by omega
      obtain ⟨⟨h1, h2⟩, c0⟩ := HN.out k hlt
      generalize N k = s at *
      have q2 : decide ((s.size : Int) < 1) = false := by simp; omega
      have q3 : decide (40 < (s.size : Int)) = false := by simp; omega
      go_wp2
      go_roundw
      case rel => exact ⟨k + 1, by omega, by go_num, trivial⟩
      case measure => simp [intOf]; omega
    · have q1 : decide ((k : Int) < (n : Int)) = false := by simp; omega
      go_wp2
      go_ret
      exact ⟨rfl, rfl⟩
set_option maxRecDepth 100000 in
set_option maxHeartbeats 1600000 in
theorem named_any (v : Value) (w : World) (hv : ∃ a n cap, v = .slice a n cap) : Calls Try.prog 58 #[v] w fun e w' => e = .returned (.func (.func 76) #[] #[ptr w.heap.size]) ∧ w' = w.alloc (.cells #[v] 27) := by
  obtain ⟨a, n, cap, rfl⟩ := hv
  have hmf : ∀ (fn : Fn) (first cap : Array Value) (w : World), (Instr.makeFunc fn first cap).run Try.prog w = .ok (.func fn first cap) w := fun _ _ _ _ => rfl
  go_enter Try.func58, Try.ntmps58
  go_wp2
  go_ret
  exact ⟨rfl, rfl⟩
set_option maxRecDepth 100000 in
set_option maxHeartbeats 1600000 in
theorem fits_any (v : Value) (hv : v = nop ∨ ∃ b, v = ptr b) (n : Nat) (w : World) : Calls Try.prog 80 #[v, .int .i64 (n : Int)] w fun e w' => e = .returned (.func (.func 83) #[] #[ptr (w.heap.size + 1), ptr w.heap.size]) ∧ w' = (w.alloc (.cells #[v] 34)).alloc (.cells #[.int .i64 (n : Int)] 3) := by
  have hmf : ∀ (fn : Fn) (first cap : Array Value) (w : World), (Instr.makeFunc fn first cap).run Try.prog w = .ok (.func fn first cap) w := fun _ _ _ _ => rfl
  rcases hv with rfl | ⟨b, rfl⟩
  all_goals
    go_enter Try.func80, Try.ntmps80
    go_wp2
    go_ret
    exact ⟨rfl, rfl⟩
set_option maxRecDepth 100000 in
set_option maxHeartbeats 1600000 in
theorem has_any (v : Value) (hv : v = nop ∨ ∃ b, v = ptr b) (k : ByteArray) (w : World) : Calls Try.prog 59 #[v, .string k] w fun e w' => e = .returned (.func (.func 77) #[] #[ptr w.heap.size, ptr (w.heap.size + 1)]) ∧ w' = (w.alloc (.cells #[v] 34)).alloc (.cells #[.string k] 9) := by
  have hmf : ∀ (fn : Fn) (first cap : Array Value) (w : World), (Instr.makeFunc fn first cap).run Try.prog w = .ok (.func fn first cap) w := fun _ _ _ _ => rfl
  rcases hv with rfl | ⟨b, rfl⟩
  all_goals
    go_enter Try.func59, Try.ntmps59
    go_wp2
    go_ret
    exact ⟨rfl, rfl⟩
end Go.Proofs.Ytpiiknbjllgaoaa

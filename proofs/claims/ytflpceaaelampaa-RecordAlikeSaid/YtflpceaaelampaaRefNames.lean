/-
  What the document's look at data answers: the first name, the names, whether data are right; for every text. No older memory is changed.
-/
import Derived.Test.YtflpceaaelampaaCheckRec
import Derived.Test.YtflpceaaelampaaRLabels
import Derived.Test.YtflpceaaelampaaAwake
namespace Go.Proofs.Ytflpceaaelampaa
open Go.RowKit
theorem slice_to (s : ByteArray) (j : Int) (h0 : 0 ≤ j) (h1 : j ≤ s.size) (w : World) : (Instr.slice 9 (.string s) none (some (.int .i64 j)) none).run Try.prog w = .ok (str (s.data.toList.take j.toNat)) w := by
  have h := run_slice_string_h (P := Try.prog) w 9 s Try.underlying9 .i64 j h0 h1
  rw [h, extract_piece s 0 j.toNat (Nat.zero_le _)]
  simp
theorem slice_from (s : ByteArray) (j : Int) (h0 : 0 ≤ j) (h1 : j ≤ s.size) (w : World) : (Instr.slice 9 (.string s) (some (.int .i64 j)) none none).run Try.prog w = .ok (str (s.data.toList.drop j.toNat)) w := by
  have h := run_slice_string_l (P := Try.prog) w 9 s Try.underlying9 .i64 j h0 h1
  rw [h, extract_piece s j.toNat s.size (by omega), List.take_of_length_le (by rw [List.length_drop, ← size_list]; omega)]
def fsV (x : Option (Bs × Bs)) : Value := match x with
  | some (n, r) => .tuple #[str n, str r, .bool true]
  | none => .tuple #[str [], str [], .bool false]
set_option maxRecDepth 100000 in
set_option maxHeartbeats 3200000 in
theorem first_any (s : ByteArray) (hs : s.size ≤ 1000000) (w : World) :
    Calls Try.prog 57 #[.string s] w fun e w' => e = .returned (fsV (fst1 s.data.toList)) ∧ Below w.heap.size w w' := by
  have HS := Lib.hid (size_list s)
  have hsi : (s.size : Int) ≤ 1000000 := by omega
  go_enter Try.func57, Try.ntmps57
  go_wp2
  go_loopw [5] (fun i wr => ∃ p : Nat, p ≤ s.size + 256 ∧ i = .int .i64 p ∧ jF s.data.toList 0 = jF s.data.toList p ∧ w = wr) (fun i _ => s.size - (intOf i).toNat)
  case atStart => exact ⟨0, by omega, rfl, rfl, rfl⟩
  case round =>
    obtain ⟨p, hp, rfl, hj, rfl⟩ := hrel
    by_cases hlt : p < s.size
    · have q1 : (p : Int) < (s.size : Int) := by omega
      have hga := get_at s p hlt
      obtain ⟨c, hc⟩ : ∃ c, s[p].toNat = c := ⟨_, rfl⟩
      have hcb : (c : Int) < 256 := by have := s[p].toNat_lt; omega
      by_cases g : c = 0
      · rw [jF_stop (p := p) (by rw [← hga, hc]; omega)] at hj
        have q2 : ((c : Int) == 0) = true := by simp; omega
        have q2' : ((c : Int) != 0) = false := by simp; omega
        have q3 : decide ((s.size : Int) ≤ (p : Int)) = false := by simp; omega
        have s1 := slice_to s ((p : Int) + 1) (by omega) (by omega)
        have s2 := slice_from s ((p : Int) + 1) (by omega) (by omega)
        rw [show ((p : Int) + 1).toNat = p + 1 by omega] at s1 s2
        have C := fun w => rcheck_any ⟨(s.data.toList.take (p + 1)).toArray⟩ (by show (s.data.toList.take (p + 1)).length ≤ _; rw [List.length_take]; have := HS.out; omega) w
        have E : fst1 s.data.toList = if chk (s.data.toList.take (p + 1)) = 0 then some (s.data.toList.take (p + 1), s.data.toList.drop (p + 1)) else none := by
          unfold fst1 fstOk
          rw [hj]
          by_cases hk : chk (s.data.toList.take (p + 1)) = 0
          · rw [if_pos hk, if_pos]; simp only [decide_eq_true_eq]; exact ⟨by rw [← HS.out]; exact hlt, hk⟩
          · rw [if_neg hk, if_neg]; simp only [decide_eq_true_eq]; exact fun h => hk h.2
        have C' : ∀ w : World, Calls Try.prog 38 #[str (s.data.toList.take (p + 1))] w fun e w' => e = .returned (.int .i64 (chk (s.data.toList.take (p + 1)))) ∧ Below w.heap.size w w' := C
        have HE := Lib.hid E
        clear C E hga hj
        generalize s.data.toList.take (p + 1) = X at s1 C' HE
        generalize s.data.toList.drop (p + 1) = Y at s2 HE
        have HC := Lib.hid C'
        clear C'
        by_cases hk : chk X = 0
        · have R : Hid (fst1 s.data.toList = some (X, Y)) := Lib.hid (by rw [HE.out, if_pos hk])
          rw [hk] at HC
          clear hk g
          go_wp2_with fail
          refine (HC.out _).mono ?_
          rintro e w1 ⟨rfl, hb1⟩
          go_wp2
          go_quiet (fail)
          go_wp2
          go_ret3
          rw [R.out]
          exact ⟨rfl, hb1.trans ((drewN_below w1 _).mono hb1.size)⟩
        · have q4 : (chk X == 0) = false := by simpa using hk
          have q4' : (chk X != 0) = true := by simpa using hk
          have R : Hid (fst1 s.data.toList = none) := Lib.hid (by rw [HE.out, if_neg hk])
          clear hk g
          go_wp2_with fail
          refine (HC.out _).mono ?_
          rintro e w1 ⟨rfl, hb1⟩
          go_wp2
          go_ret3
          rw [R.out]
          exact ⟨rfl, hb1⟩
      · rw [jF_go (p := p) (by rw [← HS.out]; exact hlt) (by rw [← hga, hc]; exact g), ← hga, hc] at hj
        have q2 : ((c : Int) == 0) = false := by simp; omega
        have q2' : ((c : Int) != 0) = true := by simp; omega
        have HJ := Lib.hid hj
        clear hj hga g
        go_wp2
        go_roundw
        case rel => exact ⟨p + 1 + c, by omega, by go_num, HJ.out, trivial⟩
        case measure => simp [intOf]; omega
    · have q1 : decide ((p : Int) < (s.size : Int)) = false := by simp; omega
      have q3 : (s.size : Int) ≤ (p : Int) := by omega
      rw [jF_stop (p := p) (by rw [← HS.out]; omega)] at hj
      have R : Hid (fst1 s.data.toList = none) := Lib.hid (by unfold fst1 fstOk; rw [hj, if_neg]; simp only [decide_eq_true_eq]; rw [← HS.out]; omega)
      clear hj
      go_wp2
      go_ret3
      rw [R.out]
      exact ⟨rfl, Below.refl _ _⟩
/-- What the document's head says of a type: bytes ahead, names, bytes behind, whether it has names. -/
def nhA (t : Nat) : Nat := if t = 15 then 2 else 0
def nhN (t : Nat) : Nat := if t = 2 ∨ t = 5 ∨ t = 12 ∨ t = 15 then 1 else if t = 6 then 2 else 0
def nhB (t : Nat) : Nat := if t = 6 then 20 else 0
set_option maxRecDepth 100000 in
set_option maxHeartbeats 3200000 in
theorem rhead_any (t : Nat) (ht : t < 65536) (w : World) :
    Calls Try.prog 47 #[.int .u16 (t : Int)] w fun e w' => e = .returned (.tuple #[.int .i64 (nhA t : Int), .int .i64 (nhN t : Int), .int .i64 (nhB t : Int), .bool (named t)]) ∧ w = w' := by
  by_cases g1 : t = 2
  · subst g1
    go_enter Try.func47, Try.ntmps47
    go_wp2
    refine bodyPost_ret (by simp [results, Try.results47]; rfl) rfl ?_
    exact ⟨rfl, rfl⟩
  · have q1 : ((t : Int) == 2) = false := by simp; omega
    by_cases g2 : t = 5
    · subst g2
      go_enter Try.func47, Try.ntmps47
      go_wp2
      refine bodyPost_ret (by simp [results, Try.results47]; rfl) rfl ?_
      exact ⟨rfl, rfl⟩
    · have q2 : ((t : Int) == 5) = false := by simp; omega
      by_cases g3 : t = 12
      · subst g3
        go_enter Try.func47, Try.ntmps47
        go_wp2
        refine bodyPost_ret (by simp [results, Try.results47]; rfl) rfl ?_
        exact ⟨rfl, rfl⟩
      · have q3 : ((t : Int) == 12) = false := by simp; omega
        by_cases g4 : t = 15
        · subst g4
          go_enter Try.func47, Try.ntmps47
          go_wp2
          refine bodyPost_ret (by simp [results, Try.results47]; rfl) rfl ?_
          exact ⟨rfl, rfl⟩
        · have q4 : ((t : Int) == 15) = false := by simp; omega
          by_cases g5 : t = 6
          · subst g5
            go_enter Try.func47, Try.ntmps47
            go_wp2
            refine bodyPost_ret (by simp [results, Try.results47]; rfl) rfl ?_
            exact ⟨rfl, rfl⟩
          · have q5 : ((t : Int) == 6) = false := by simp; omega
            have e1 : nhA t = 0 := by unfold nhA; rw [if_neg g4]
            have e2 : nhN t = 0 := by unfold nhN; rw [if_neg (by omega), if_neg g5]
            have e3 : nhB t = 0 := by unfold nhB; rw [if_neg g5]
            have e4 : named t = false := by unfold named; simp; omega
            rw [e1, e2, e3, e4]
            clear g1 g2 g3 g4 g5 e1 e2 e3 e4
            go_enter Try.func47, Try.ntmps47
            go_wp2
            refine bodyPost_ret (by simp [results, Try.results47]; rfl) rfl ?_
            exact ⟨rfl, rfl⟩
end Go.Proofs.Ytflpceaaelampaa

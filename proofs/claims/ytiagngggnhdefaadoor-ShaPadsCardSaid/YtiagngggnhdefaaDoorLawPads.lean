/-
  The walk of the law ShaPads: for every number it returns true, where the two tables hold their numbers; no older memory is changed.
-/
import Derived.Test.YtiagngggnhdefaaDoorAwake
import Derived.Test.YtiagngggnhdefaaDoorRPad
namespace Go.Proofs.YtiagngggnhdefaaDoor
open Go.RowKit

set_option maxRecDepth 100000 in
set_option maxHeartbeats 3200000 in
theorem pads_lo (n : Int) (w : World) (hI : InitIn w) (hK : KeysIn w) (hn : n < 0) :
    Calls Tryd.prog 5 #[.int .i64 n] w fun e w' => e = .returned (.bool true) ∧ Below w.heap.size w w' := by
  have HI := Lib.hid hI
  have HK := Lib.hid hK
  clear hI hK
  go_enter Tryd.func5, Tryd.ntmps5
  go_wp2_with fail
  refine (awake_any w HI.out HK.out).mono ?_
  rintro e w1 ⟨rfl, hb1⟩
  go_wp2_with fail
  refine (pad_lo n w1 hn).mono ?_
  rintro e w2 ⟨rfl, rfl⟩
  go_wp2_with fail
  refine (rpad_lo n w1 hn).mono ?_
  rintro e w2 ⟨rfl, rfl⟩
  go_wp2
  go_ret
  exact ⟨rfl, hb1⟩
set_option maxRecDepth 100000 in
set_option maxHeartbeats 3200000 in
theorem pads_hi (n : Int) (w : World) (hI : InitIn w) (hK : KeysIn w) (hn : 1152921504606846976 < n) (hn2 : n ≤ 9223372036854775807) :
    Calls Tryd.prog 5 #[.int .i64 n] w fun e w' => e = .returned (.bool true) ∧ Below w.heap.size w w' := by
  have HI := Lib.hid hI
  have HK := Lib.hid hK
  have h0 : ¬ n < 0 := by omega
  clear hI hK
  go_enter Tryd.func5, Tryd.ntmps5
  go_wp2_with fail
  refine (awake_any w HI.out HK.out).mono ?_
  rintro e w1 ⟨rfl, hb1⟩
  go_wp2_with fail
  refine (pad_hi n w1 hn hn2).mono ?_
  rintro e w2 ⟨rfl, rfl⟩
  go_wp2_with fail
  refine (rpad_hi n w1 hn).mono ?_
  rintro e w2 ⟨rfl, rfl⟩
  go_wp2
  go_ret
  exact ⟨rfl, hb1⟩
set_option maxRecDepth 100000 in
set_option maxHeartbeats 3200000 in
theorem pads_mid (N : Nat) (w : World) (hI : InitIn w) (hK : KeysIn w) (hn : N ≤ 1152921504606846976) :
    Calls Tryd.prog 5 #[.int .i64 (N : Int)] w fun e w' => e = .returned (.bool true) ∧ Below w.heap.size w w' := by
  have HI := Lib.hid hI
  have HK := Lib.hid hK
  have h0 : ¬ (N : Int) < 0 := by omega
  have h2 : ¬ (1152921504606846976 < (N : Int)) := by omega
  have hd : decide ((N : Int) < 0) = false := by simp
  clear hI hK
  go_enter Tryd.func5, Tryd.ntmps5
  go_wp2_with fail
  refine (awake_any w HI.out HK.out).mono ?_
  rintro e w1 ⟨rfl, hb1⟩
  go_wp2_with fail
  refine (pad_mid N w1 hn).mono ?_
  rintro e w2 ⟨rfl, hb2⟩
  obtain ⟨t, ht⟩ : ∃ t : ByteArray, t = ⟨(padL N).toArray⟩ := ⟨_, rfl⟩
  have hts : t.size = padZ N + 9 := by rw [ht, Lib.size_eq]; exact padL_length N
  have HT := Lib.hid ht
  unfold str
  rw [← ht]
  clear ht
  have HTS := Lib.hid hts
  clear hts
  go_wp2_with fail
  refine (rpad_mid N w2 hn).mono ?_
  rintro e w3 ⟨rfl, hb3⟩
  unfold str
  rw [← HT.out]
  have hb : Below w.heap.size w w3 := hb1.trans ((hb2.mono hb1.size).trans (hb3.mono (Nat.le_trans hb1.size hb2.size)))
  clear hb1 hb2 hb3
  have hts := HTS.out
  have hz := padZ_lt N
  have h9 : 9 ≤ t.size := by omega
  have h72 : t.size ≤ 72 := by omega
  have hm : (((N : Int) + (t.size : Int)) % 64 == 0) = true := by
    have := padZ_full N
    rw [padL_length] at this
    simp only [beq_iff_eq]
    omega
  have HM := Lib.hid hm
  clear hts hz hm
  go_wp2
  go_ret
  exact ⟨congrArg (fun b => Ending.returned (Value.bool b)) HM.out, hb⟩
theorem pads_any (n : Int) (w : World) (hI : InitIn w) (hK : KeysIn w) (hn : -9223372036854775808 ≤ n ∧ n ≤ 9223372036854775807) :
    Calls Tryd.prog 5 #[.int .i64 n] w fun e w' => e = .returned (.bool true) ∧ Below w.heap.size w w' := by
  by_cases h0 : n < 0
  · exact pads_lo n w hI hK h0
  · by_cases h1 : 1152921504606846976 < n
    · exact pads_hi n w hI hK h1 hn.2
    · obtain ⟨N, rfl⟩ := Int.eq_ofNat_of_zero_le (show 0 ≤ n by omega)
      exact pads_mid N w hI hK (by omega)
end Go.Proofs.YtiagngggnhdefaaDoor

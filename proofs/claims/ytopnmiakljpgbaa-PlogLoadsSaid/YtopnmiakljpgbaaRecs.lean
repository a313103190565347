/-
  The records of a state.
-/
import Derived.Test.YtopnmiakljpgbaaDifI
import Derived.Test.YtopnmiakljpgbaaOps
namespace Go.Proofs.Ytopnmiakljpgbaa
open Go.RowKit
theorem numsB_len (L : List Int) : (numsB L).length = 8 * L.length := by
  unfold numsB
  rw [List.length_flatMap]
  have e : (L.map fun a => (nb8 a).length) = L.map fun _ => 8 := rfl
  rw [e, List.map_const', List.sum_replicate_nat]
  omega
set_option maxRecDepth 100000 in
set_option maxHeartbeats 3200000 in
theorem termRec_any (H : Hd) (w : World) : Calls Try.prog 54 #[H.v] w fun e w' => e = .returned (str (84 :: numsB [H.t, H.vo])) ∧ Below w.heap.size w w' := by
  go_enter Try.func54, Try.ntmps54
  go_wp2_with fail
  obtain ⟨w1, hw1⟩ : ∃ w1, w1 = w.alloc (.cells #[it H.t, it H.vo, H.vs, .string H.sn, it H.ba, it H.bt, .slice H.a H.n H.cap] 42) := ⟨_, rfl⟩
  have hs : w.heap.size + 1 = w1.heap.size := by rw [hw1]; simp
  have hb := (two_new w #[it H.t, it H.vo, H.vs, .string H.sn, it H.ba, it H.bt, .slice H.a H.n H.cap] #[it H.t, it H.vo] 42 3).2.2.2
  rw [← hw1] at hb ⊢
  rw [hs]
  have hc := nums_any (rdN_new w1 [H.t, H.vo] (by simp)) (by simp)
  obtain ⟨N, hN⟩ : ∃ N, N = numsB [H.t, H.vo] := ⟨_, rfl⟩
  rw [← hN] at hc
  have hl : N.length = 16 := by rw [hN, numsB_len]; rfl
  have HN := Lib.hid hN
  refine hc.mono ?_
  rintro e w2 ⟨rfl, hb2⟩
  have HB := Lib.hid (hb.trans (hb2.mono hb.size))
  clear hb hb2 hw1 hs hc hN
  go_wp2
  go_ret
  refine ⟨?_, HB.out⟩
  refine congrArg (fun b => Ending.returned (Value.string b)) ?_
  rw [← HN.out]
  apply ByteArray.ext
  simp
end Go.Proofs.Ytopnmiakljpgbaa

/-
  Whether two states differ in nothing that only a full record tells.
-/
import Derived.Test.YtopnmiakljpgbaaRecs
namespace Go.Proofs.Ytopnmiakljpgbaa
open Go.RowKit
def alk (H G : Hd) : Bool := decide (H.ba = G.ba) && decide (H.bt = G.bt) && decide (H.sn = G.sn) && decide (H.V.length = G.V.length) && decide (dif eqI H.V G.V = H.V.length)
set_option maxRecDepth 100000 in
set_option maxHeartbeats 3200000 in
theorem alike_any {H G : Hd} {w : World} (hH : RdN w H.vs H.V) (hG : RdN w G.vs G.V) (l1 : H.V.length ≤ 1000000) (l2 : G.V.length ≤ 1000000) :
    Calls Try.prog 51 #[H.v, G.v] w fun e w' => e = .returned (.bool (alk H G)) ∧ Below w.heap.size w w' := by
  obtain ⟨t, vo, vs, sn, ba, bt, a, n, cap, V, L⟩ := H
  obtain ⟨t', vo', vs', sn', ba', bt', a', n', cap', V', L'⟩ := G
  dsimp only at hH hG l1 l2
  obtain ⟨va, vc, rfl, _⟩ := hH.shape
  obtain ⟨ua, uc, rfl, _⟩ := hG.shape
  have HC : Hid (∀ w', Below w.heap.size w w' → Calls Try.prog 67 #[.slice va V.length vc, .slice ua V'.length uc, .func (.func 68) #[] #[]] w' fun e w'' => e = .returned (it (dif eqI V V' : Nat)) ∧ Below w'.heap.size w' w'') :=
    Lib.hid (fun w' hb => difI_any (hH.below hb) (hG.below hb) l1 l2)
  obtain ⟨m, hm⟩ : ∃ m, m = V.length := ⟨_, rfl⟩
  obtain ⟨m', hm'⟩ : ∃ m', m' = V'.length := ⟨_, rfl⟩
  obtain ⟨R, hR⟩ : ∃ R, R = dif eqI V V' := ⟨_, rfl⟩
  obtain ⟨A, hA⟩ : ∃ A, A = alk ⟨t, vo, .slice va V.length vc, sn, ba, bt, a, n, cap, V, L⟩ ⟨t', vo', .slice ua V'.length uc, sn', ba', bt', a', n', cap', V', L'⟩ := ⟨_, rfl⟩
  rw [← hA]
  have hA2 : A = (decide (ba = ba') && decide (bt = bt') && decide (sn = sn') && decide (m = m') && decide (R = m)) := by rw [hA, hm, hm', hR]; rfl
  rw [← hR, ← hm, ← hm'] at HC
  dsimp only [Hd.v]
  rw [← hm, ← hm']
  have HA := Lib.hid hA2
  rw [← hm] at l1
  rw [← hm'] at l2
  clear hA hA2 hH hG hm hm' hR
  have hw : ∀ c c' : Array Value, Below w.heap.size w ((w.alloc (.cells c 42)).alloc (.cells c' 42)) := fun c c' => (two_new w c c' 42 42).2.2.2
  have HW := Lib.hid hw
  clear hw
  go_enter Try.func51, Try.ntmps51
  go_wp2_with fail
  all_goals
    try
      refine (HC.out _ (HW.out _ _)).mono ?_
      rintro e w2 ⟨rfl, hb2⟩
      have HB2 := Lib.hid ((HW.out _ _).trans (hb2.mono (HW.out _ _).size))
      clear hb2
      go_wp2
  all_goals
    go_ret
    have hA := HA.out
    refine ⟨congrArg (fun b => Ending.returned (Value.bool b)) ?_, by first | exact HB2.out | exact HW.out _ _⟩
    rw [hA]
    have key : ∀ x y : Nat, ((x : Int) == (y : Int)) = decide (x = y) := fun x y => by
      by_cases h : x = y
      · subst h; simp
      · have : ((x : Int) == (y : Int)) = false := by simpa using fun e : (x : Int) = y => h (by omega)
        rw [this, decide_eq_false h]
    clear hA HA HC HW
    simp_all [tl_eq]
    all_goals first | omega | (have e : m = m' := by omega
                               subst e
                               simp)
end Go.Proofs.Ytopnmiakljpgbaa

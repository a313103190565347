/-
  The full record of a state.
-/
import Derived.Test.YtopnmiakljpgbaaNumber
namespace Go.Proofs.Ytopnmiakljpgbaa
open Go.RowKit
def fullB (H : Hd) : Bs := 87 :: (numsB [H.t, H.vo, H.ba, H.bt, (H.V.length : Int)] ++ dataB H.V ++ numsB [(H.sn.size : Int)] ++ H.sn.data.toList)
theorem add_str {a b c : ByteArray} (h : c = a ++ b) (ha : a.size ≤ 1000000000) (hb : b.size ≤ 1000000000) : ∀ w : World, (Op.stringOp .add a b).run Try.prog w = .ok (.string c) w := fun w => by
  rw [h]; exact run_string_add_sum w a b (by omega)
theorem ba_app (x y : Bs) : (⟨x.toArray⟩ : ByteArray) ++ ⟨y.toArray⟩ = ⟨(x ++ y).toArray⟩ := by
  apply ByteArray.ext
  simp
theorem ba_len (x : Bs) : (⟨x.toArray⟩ : ByteArray).size = x.length := by simp [size_list]
theorem ba_of (s : ByteArray) : s = ⟨s.data.toList.toArray⟩ := by cases s; simp
set_option maxRecDepth 100000 in
set_option maxHeartbeats 6400000 in
theorem fullRec_any {H : Hd} {w : World} (hH : RdN w H.vs H.V) (l1 : H.V.length ≤ 1000) (l2 : H.sn.size ≤ 100000) :
    Calls Try.prog 52 #[H.v] w fun e w' => e = .returned (str (fullB H)) ∧ Below w.heap.size w w' := by
  obtain ⟨t, vo, vs, sn, ba, bt, a, n, cap, V, L⟩ := H
  dsimp only at hH l1 l2
  obtain ⟨va, vc, rfl, _⟩ := hH.shape
  dsimp only [Hd.v]
  obtain ⟨R, hR⟩ : ∃ R : ByteArray, R = ⟨(fullB ⟨t, vo, .slice va V.length vc, sn, ba, bt, a, n, cap, V, L⟩).toArray⟩ := ⟨_, rfl⟩
  have hR2 : R = ⟨(([87] ++ numsB [t, vo, ba, bt, (V.length : Int)]) ++ dataB V ++ numsB [(sn.size : Int)] ++ sn.data.toList).toArray⟩ := by rw [hR]; simp [fullB]
  unfold str
  rw [← hR]
  obtain ⟨sN, hN⟩ : ∃ N : ByteArray, N = ⟨(numsB [t, vo, ba, bt, (V.length : Int)]).toArray⟩ := ⟨_, rfl⟩
  obtain ⟨sM, hM⟩ : ∃ M : ByteArray, M = ⟨(numsB [(sn.size : Int)]).toArray⟩ := ⟨_, rfl⟩
  obtain ⟨sD, hD⟩ : ∃ D : ByteArray, D = ⟨(dataB V).toArray⟩ := ⟨_, rfl⟩
  have hNl : sN.size = 40 := by rw [hN, ba_len, numsB_len]; rfl
  have hMl : sM.size = 8 := by rw [hM, ba_len, numsB_len]; rfl
  have hDl : sD.size ≤ 1000 := by rw [hD, ba_len]; unfold dataB; simpa using l1
  have hR3 : R = (((⟨#[87]⟩ ++ sN) ++ sD) ++ sM) ++ sn := by
    rw [hR2, hN, hM, hD, ba_of sn, show (⟨#[87]⟩ : ByteArray) = ⟨([87] : Bs).toArray⟩ from rfl, ba_app, ba_app, ba_app, ba_app]
  obtain ⟨s1, h1⟩ : ∃ s : ByteArray, s = ⟨#[87]⟩ ++ sN := ⟨_, rfl⟩
  have z1 : s1.size = 41 := by rw [h1, ByteArray.size_append, hNl]; rfl
  obtain ⟨s2, h2⟩ : ∃ s : ByteArray, s = s1 ++ sD := ⟨_, rfl⟩
  have z2 : s2.size ≤ 1041 := by rw [h2, ByteArray.size_append, z1]; omega
  obtain ⟨s3, h3⟩ : ∃ s : ByteArray, s = s2 ++ sM := ⟨_, rfl⟩
  have z3 : s3.size ≤ 1049 := by rw [h3, ByteArray.size_append, hMl]; omega
  rw [← h1, ← h2, ← h3] at hR3
  have add1 := add_str h1 (by decide) (by omega)
  have add2 := add_str h2 (by omega) (by omega)
  have add3 := add_str h3 (by omega) (by omega)
  have add4 := add_str hR3 (by omega) (by omega)
  have HD : Hid (∀ w', Below w.heap.size w w' → Calls Try.prog 29 #[.slice va V.length vc] w' fun e w'' => e = .returned (.string sD) ∧ Below w'.heap.size w' w'') := Lib.hid (fun w' hb => by rw [hD]; exact data_any (hH.below hb) (by omega))
  have H5 : Hid (∀ w' v, RdN w' v [t, vo, ba, bt, (V.length : Int)] → Calls Try.prog 69 #[v] w' fun e w'' => e = .returned (.string sN) ∧ Below w'.heap.size w' w'') := Lib.hid (fun w' v hb => by rw [hN]; exact nums_any hb (by simp))
  have H1 : Hid (∀ w' v, RdN w' v [(sn.size : Int)] → Calls Try.prog 69 #[v] w' fun e w'' => e = .returned (.string sM) ∧ Below w'.heap.size w' w'') := Lib.hid (fun w' v hb => by rw [hM]; exact nums_any hb (by simp))
  obtain ⟨z, hz⟩ : ∃ z, z = V.length := ⟨_, rfl⟩
  rw [← hz] at HD H5 ⊢
  have l1' : z ≤ 1000 := by omega
  clear hR hR2 hN hM hD hH hz h1 h2 h3 hR3 l1 z1 z2 z3 hNl hMl hDl
  go_enter Try.func52, Try.ntmps52
  go_wp2_with fail
  obtain ⟨w1, hw1⟩ : ∃ w1, w1 = w.alloc (.cells #[it t, it vo, .slice va z vc, .string sn, it ba, it bt, .slice a n cap] 42) := ⟨_, rfl⟩
  obtain ⟨B, hB⟩ : ∃ B, B = w.heap.size := ⟨_, rfl⟩
  have hs : w1.heap.size = B + 1 := by rw [hw1, hB, alloc_size]
  have hce : Ce w1 B 42 #[it t, it vo, .slice va z vc, .string sn, it ba, it bt, .slice a n cap] := by rw [hw1, hB]; exact Ce.new _ _ _
  have hb1 : Below w.heap.size w w1 := by rw [hw1]; exact one_new _ _
  have HN5 := Lib.hid (rdN_new w1 [t, vo, ba, bt, (z : Int)] (by simp))
  have HB1 := Lib.hid hb1
  have HCE := Lib.hid hce
  rw [← hw1, ← hB]
  rw [hs] at HN5
  clear hce hb1 hB hw1
  refine (H5.out _ _ HN5.out).mono ?_
  rintro e w2 ⟨rfl, hb⟩
  have hbn : Below w1.heap.size w1 w2 := (one_new w1 (.cells (ivs [t, vo, ba, bt, (z : Int)]).toArray 3)).trans (hb.mono (by rw [alloc_size]; omega))
  have HC2 := Lib.hid (HCE.out.below hbn)
  have HB2 := Lib.hid (HB1.out.trans (hbn.mono HB1.out.size))
  clear hb hbn HN5 HCE H5 hs HB1
  go_upto_region 2 with fail
  have H0 : Hid (Below w2.heap.size w2 w2.drew) := Lib.hid (Below.refl _ w2).drew
  have HK := Lib.hid (fun w' (hb : Below w2.heap.size w2 w') => c7 (HC2.out.below hb))
  have H00 : Hid (Below w2.heap.size w2 (w2.alloc (.cells #[it (sn.size : Int)] 3)).drew) := Lib.hid (one_new w2 (.cells #[it (sn.size : Int)] 3)).drew
  have HNa := Lib.hid ((rdN_new w2 [(sn.size : Int)] (by simp)).below (Below.refl _ _).drew)
  go_region_held3 (fun w' => w'.cell? ⟨B, 0, none⟩ = some (it t) ∧ w'.cell? ⟨B, 1, none⟩ = some (it vo) ∧ w'.cell? ⟨B, 2, none⟩ = some (.slice va z vc) ∧ w'.cell? ⟨B, 3, none⟩ = some (.string sn) ∧ w'.cell? ⟨B, 4, none⟩ = some (it ba) ∧ w'.cell? ⟨B, 5, none⟩ = some (it bt) ∧ w'.cell? ⟨B, 6, none⟩ = some (.slice a n cap))
    (first | with_reducible exact HK.out _ B2.out | with_reducible exact HK.out _ B1n.out | with_reducible exact HK.out _ B1.out | with_reducible exact HK.out _ H00.out | with_reducible exact HK.out _ H0.out | fail)
    (first
      | (go_at_call 29; refine (HD.out _ (HB2.out.trans (H0.out.mono HB2.out.size))).mono ?_; rintro e w3 ⟨rfl, hb⟩; have B1 : Hid (Below w2.heap.size w2 w3) := Lib.hid (H0.out.trans (hb.mono H0.out.size)); have B1n : Hid (Below w2.heap.size w2 (w3.alloc (.cells #[it (sn.size : Int)] 3))) := Lib.hid (B1.out.trans ((one_new w3 (.cells #[it (sn.size : Int)] 3)).mono B1.out.size)); have HNb := Lib.hid (rdN_new w3 [(sn.size : Int)] (by simp)); clear hb)
      | (go_at_call 29; refine (HD.out _ (HB2.out.trans (H00.out.mono HB2.out.size))).mono ?_; rintro e w3 ⟨rfl, hb⟩; have B1 : Hid (Below w2.heap.size w2 w3) := Lib.hid (H00.out.trans (hb.mono H00.out.size)); have HNb := Lib.hid (HNa.out.below hb); clear hb)
      | (go_at_call 69; refine (H1.out _ _ HNb.out).mono ?_; rintro e w4 ⟨rfl, hb⟩; have B2 : Hid (Below w2.heap.size w2 w4) := Lib.hid (B1n.out.trans (hb.mono B1n.out.size)); clear hb)
      | (go_at_call 69; refine (H1.out _ _ HNb.out).mono ?_; rintro e w4 ⟨rfl, hb⟩; have B2 : Hid (Below w2.heap.size w2 w4) := Lib.hid (B1.out.trans (hb.mono B1.out.size)); clear hb)
      | fail)
  all_goals
    go_wp2
    go_ret
    exact ⟨rfl, HB2.out.trans (B2.out.mono HB2.out.size)⟩
end Go.Proofs.Ytopnmiakljpgbaa

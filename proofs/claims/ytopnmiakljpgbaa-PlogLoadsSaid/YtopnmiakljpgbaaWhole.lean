/-
  The document's records of all anew.
-/
import Derived.Test.YtopnmiakljpgbaaEntry
namespace Go.Proofs.Ytopnmiakljpgbaa
open Go.RowKit
theorem fullB_eight (H : Hd) : fullB H = [87] ++ nb8 H.t ++ nb8 H.vo ++ nb8 H.ba ++ nb8 H.bt ++ nb8 (H.V.length : Int) ++ dataB H.V ++ nb8 (H.sn.size : Int) ++ H.sn.data.toList := by simp [fullB, numsB]
theorem OwnV.one (w : World) (base : Nat) (e : TypeId) (x : Value) (hb : base ≤ w.heap.size) : OwnV (w.alloc (.cells #[x] e)) base e (.slice (some ⟨w.heap.size, 0, none⟩) 1 1) [x] :=
  ⟨rfl, .inr ⟨w.heap.size, 1, #[x], rfl, hb, heap_alloc_new w _, Nat.le_refl _, by unfold maxLen; omega, rfl, rfl⟩⟩
set_option maxRecDepth 100000 in
set_option maxHeartbeats 12800000 in
theorem whole_any {H : Hd} {w : World} (hH : H.Rd w) (hb : -1000 ≤ H.ba ∧ H.ba ≤ 1125899906842624) (l1 : H.V.length ≤ 1000) (l2 : H.sn.size ≤ 100000) (l3 : H.L.length ≤ 100000) (hd : ∀ e ∈ H.L, e.data.size ≤ 100000) :
    Calls Try.prog 55 #[H.v] w fun e w' => ∃ v, e = .returned v ∧ OwnV w' w.heap.size 9 v (tv (fullB H :: entsB H.ba H.L)) ∧ Below w.heap.size w w' := by
  obtain ⟨t, vo, vs, sn, ba, bt, a, n, cap, V, L⟩ := H
  obtain ⟨hV, hE⟩ := hH
  dsimp only at hV hE l1 l2 l3 hd hb
  obtain ⟨va, vc, rfl, _⟩ := hV.shape
  have hE0 := hE
  obtain ⟨_, _, he, _⟩ := hE0
  cases he
  dsimp only [Hd.v]
  obtain ⟨R, hR⟩ : ∃ R : ByteArray, R = ⟨(fullB ⟨t, vo, .slice va V.length vc, sn, ba, bt, a, L.length, cap, V, L⟩).toArray⟩ := ⟨_, rfl⟩
  obtain ⟨sT, hT⟩ : ∃ N : ByteArray, N = ⟨(nb8 t).toArray⟩ := ⟨_, rfl⟩
  obtain ⟨sO, hO⟩ : ∃ N : ByteArray, N = ⟨(nb8 vo).toArray⟩ := ⟨_, rfl⟩
  obtain ⟨sA, hA⟩ : ∃ N : ByteArray, N = ⟨(nb8 ba).toArray⟩ := ⟨_, rfl⟩
  obtain ⟨sB, hB⟩ : ∃ N : ByteArray, N = ⟨(nb8 bt).toArray⟩ := ⟨_, rfl⟩
  obtain ⟨sL, hL⟩ : ∃ N : ByteArray, N = ⟨(nb8 (V.length : Int)).toArray⟩ := ⟨_, rfl⟩
  obtain ⟨sD, hD⟩ : ∃ N : ByteArray, N = ⟨(dataB V).toArray⟩ := ⟨_, rfl⟩
  obtain ⟨sS, hS⟩ : ∃ N : ByteArray, N = ⟨(nb8 (sn.size : Int)).toArray⟩ := ⟨_, rfl⟩
  have y1 : sT.size = 8 := by rw [hT, ba_len]; rfl
  have y2 : sO.size = 8 := by rw [hO, ba_len]; rfl
  have y3 : sA.size = 8 := by rw [hA, ba_len]; rfl
  have y4 : sB.size = 8 := by rw [hB, ba_len]; rfl
  have y5 : sL.size = 8 := by rw [hL, ba_len]; rfl
  have y6 : sD.size ≤ 1000 := by rw [hD, ba_len]; unfold dataB; simpa using l1
  have y7 : sS.size = 8 := by rw [hS, ba_len]; rfl
  have hR2 : R = ⟨#[87]⟩ ++ sT ++ sO ++ sA ++ sB ++ sL ++ sD ++ sS ++ sn := by
    rw [hR, fullB_eight, hT, hO, hA, hB, hL, hD, hS, ba_of sn, show (⟨#[87]⟩ : ByteArray) = ⟨([87] : Bs).toArray⟩ from rfl]
    simp only [ba_app]
  obtain ⟨s1, h1⟩ : ∃ s : ByteArray, s = ⟨#[87]⟩ ++ sT := ⟨_, rfl⟩
  have z1 : s1.size = 9 := by rw [h1, ByteArray.size_append, y1]; rfl
  rw [← h1] at hR2
  obtain ⟨s2, h2⟩ : ∃ s : ByteArray, s = s1 ++ sO := ⟨_, rfl⟩
  have z2 : s2.size = 17 := by rw [h2, ByteArray.size_append, y2, z1]
  rw [← h2] at hR2
  obtain ⟨s3, h3⟩ : ∃ s : ByteArray, s = s2 ++ sA := ⟨_, rfl⟩
  have z3 : s3.size = 25 := by rw [h3, ByteArray.size_append, y3, z2]
  rw [← h3] at hR2
  obtain ⟨s4, h4⟩ : ∃ s : ByteArray, s = s3 ++ sB := ⟨_, rfl⟩
  have z4 : s4.size = 33 := by rw [h4, ByteArray.size_append, y4, z3]
  rw [← h4] at hR2
  obtain ⟨s5, h5⟩ : ∃ s : ByteArray, s = s4 ++ sL := ⟨_, rfl⟩
  have z5 : s5.size = 41 := by rw [h5, ByteArray.size_append, y5, z4]
  rw [← h5] at hR2
  obtain ⟨s6, h6⟩ : ∃ s : ByteArray, s = s5 ++ sD := ⟨_, rfl⟩
  have z6 : s6.size ≤ 1041 := by rw [h6, ByteArray.size_append]; omega
  rw [← h6] at hR2
  obtain ⟨s7, h7⟩ : ∃ s : ByteArray, s = s6 ++ sS := ⟨_, rfl⟩
  have z7 : s7.size ≤ 1049 := by rw [h7, ByteArray.size_append]; omega
  rw [← h7] at hR2
  have add1 := add_str h1 (by decide) (by omega)
  have add2 := add_str h2 (by omega) (by omega)
  have add3 := add_str h3 (by omega) (by omega)
  have add4 := add_str h4 (by omega) (by omega)
  have add5 := add_str h5 (by omega) (by omega)
  have add6 := add_str h6 (by omega) (by omega)
  have add7 := add_str h7 (by omega) (by omega)
  have add8 := add_str hR2 (by omega) (by omega)
  have NT : Hid (∀ w', Calls Try.prog 56 #[it t] w' fun e w'' => e = .returned (.string sT) ∧ Below w'.heap.size w' w'') := Lib.hid (fun w' => by rw [hT]; exact number_any _ w')
  have NO : Hid (∀ w', Calls Try.prog 56 #[it vo] w' fun e w'' => e = .returned (.string sO) ∧ Below w'.heap.size w' w'') := Lib.hid (fun w' => by rw [hO]; exact number_any _ w')
  have NA : Hid (∀ w', Calls Try.prog 56 #[it ba] w' fun e w'' => e = .returned (.string sA) ∧ Below w'.heap.size w' w'') := Lib.hid (fun w' => by rw [hA]; exact number_any _ w')
  have NB : Hid (∀ w', Calls Try.prog 56 #[it bt] w' fun e w'' => e = .returned (.string sB) ∧ Below w'.heap.size w' w'') := Lib.hid (fun w' => by rw [hB]; exact number_any _ w')
  have NL : Hid (∀ w', Calls Try.prog 56 #[it (V.length : Int)] w' fun e w'' => e = .returned (.string sL) ∧ Below w'.heap.size w' w'') := Lib.hid (fun w' => by rw [hL]; exact number_any _ w')
  have ND : Hid (∀ w', Below w.heap.size w w' → Calls Try.prog 30 #[.slice va V.length vc] w' fun e w'' => e = .returned (.string sD) ∧ Below w'.heap.size w' w'') := Lib.hid (fun w' hb => by rw [hD]; exact rdata_any (hV.below hb) (by omega))
  have NS : Hid (∀ w', Calls Try.prog 56 #[it (sn.size : Int)] w' fun e w'' => e = .returned (.string sS) ∧ Below w'.heap.size w' w'') := Lib.hid (fun w' => by rw [hS]; exact number_any _ w')
  have HTV : Hid (∀ k, tv (fullB ⟨t, vo, .slice va V.length vc, sn, ba, bt, a, L.length, cap, V, L⟩ :: entsB ba (L.take k)) = .string R :: tv (entsB ba (L.take k))) := Lib.hid (fun k => by rw [hR]; rfl)
  obtain ⟨TT, hTT⟩ : ∃ TT, TT = tv (fullB ⟨t, vo, .slice va V.length vc, sn, ba, bt, a, L.length, cap, V, L⟩ :: entsB ba L) := ⟨_, rfl⟩
  have HTT : Hid (TT = .string R :: tv (entsB ba L)) := Lib.hid (by rw [hTT, hR]; rfl)
  rw [← hTT]
  obtain ⟨z, hz⟩ : ∃ z, z = V.length := ⟨_, rfl⟩
  obtain ⟨m, hm⟩ : ∃ m, m = L.length := ⟨_, rfl⟩
  rw [← hz] at ND NL ⊢
  rw [← hm] at hE ⊢
  have HE := Lib.hid hE
  have HM := Lib.hid hm
  have HBA := Lib.hid hb
  have HL3 : Hid (m ≤ 100000) := Lib.hid (by omega)
  have HDD := Lib.hid hd
  clear hTT hR hT hO hA hB hL hD hS y1 y2 y3 y4 y5 y6 y7 h1 h2 h3 h4 h5 h6 h7 z1 z2 z3 z4 z5 z6 z7 hR2 hV hE hz hm l1 l2 l3 hd hb HTV
  go_enter Try.func55, Try.ntmps55
  go_upto_region 1 with fail
  obtain ⟨w1, hw1⟩ : ∃ w1, w1 = w.alloc (.cells #[it t, it vo, .slice va z vc, .string sn, it ba, it bt, .slice a m cap] 42) := ⟨_, rfl⟩
  obtain ⟨B, hB⟩ : ∃ B, B = w.heap.size := ⟨_, rfl⟩
  have hs : w1.heap.size = B + 1 := by rw [hw1, hB, alloc_size]
  have hce : Ce w1 B 42 #[it t, it vo, .slice va z vc, .string sn, it ba, it bt, .slice a m cap] := by rw [hw1, hB]; exact Ce.new _ _ _
  have HB1 := Lib.hid (show Below w.heap.size w w1 by rw [hw1]; exact one_new _ _)
  have HCE := Lib.hid hce
  rw [← hw1, ← hB]
  have HBB := Lib.hid hB
  have HS := Lib.hid hs
  clear hce hB hw1 hs
  have H0 : Hid (Below w1.heap.size w1 w1.drew) := Lib.hid (Below.refl _ w1).drew
  have HK := Lib.hid (fun w' (hb : Below w1.heap.size w1 w') => c7 (HCE.out.below hb))
  go_region_held3 (fun w' => w'.cell? ⟨B, 0, none⟩ = some (it t) ∧ w'.cell? ⟨B, 1, none⟩ = some (it vo) ∧ w'.cell? ⟨B, 2, none⟩ = some (.slice va z vc) ∧ w'.cell? ⟨B, 3, none⟩ = some (.string sn) ∧ w'.cell? ⟨B, 4, none⟩ = some (it ba) ∧ w'.cell? ⟨B, 5, none⟩ = some (it bt) ∧ w'.cell? ⟨B, 6, none⟩ = some (.slice a m cap))
    (first | with_reducible exact HK.out _ B7n.out | with_reducible exact HK.out _ B7.out | with_reducible exact HK.out _ B6.out | with_reducible exact HK.out _ B5.out | with_reducible exact HK.out _ B4.out | with_reducible exact HK.out _ B3.out | with_reducible exact HK.out _ B2.out | with_reducible exact HK.out _ B1.out | with_reducible exact HK.out _ H0.out | fail)
    (first
      | (go_at_call 56; with_reducible refine (NT.out _).mono ?_; rintro e w2 ⟨rfl, hb⟩; have B1 : Hid (Below w1.heap.size w1 w2) := Lib.hid (H0.out.trans (hb.mono H0.out.size)); clear hb)
      | (go_at_call 56; with_reducible refine (NO.out _).mono ?_; rintro e w3 ⟨rfl, hb⟩; have B2 : Hid (Below w1.heap.size w1 w3) := Lib.hid (B1.out.trans (hb.mono B1.out.size)); clear hb)
      | (go_at_call 56; with_reducible refine (NA.out _).mono ?_; rintro e w4 ⟨rfl, hb⟩; have B3 : Hid (Below w1.heap.size w1 w4) := Lib.hid (B2.out.trans (hb.mono B2.out.size)); clear hb)
      | (go_at_call 56; with_reducible refine (NB.out _).mono ?_; rintro e w5 ⟨rfl, hb⟩; have B4 : Hid (Below w1.heap.size w1 w5) := Lib.hid (B3.out.trans (hb.mono B3.out.size)); clear hb)
      | (go_at_call 56; with_reducible refine (NL.out _).mono ?_; rintro e w6 ⟨rfl, hb⟩; have B5 : Hid (Below w1.heap.size w1 w6) := Lib.hid (B4.out.trans (hb.mono B4.out.size)); clear hb)
      | (go_at_call 30; with_reducible refine (ND.out _ (HB1.out.trans (B5.out.mono HB1.out.size))).mono ?_; rintro e w7 ⟨rfl, hb⟩; have B6 : Hid (Below w1.heap.size w1 w7) := Lib.hid (B5.out.trans (hb.mono B5.out.size)); clear hb)
      | (go_at_call 56; with_reducible refine (NS.out _).mono ?_; rintro e w8 ⟨rfl, hb⟩; have B7 : Hid (Below w1.heap.size w1 w8) := Lib.hid (B6.out.trans (hb.mono B6.out.size)); have B7n := Lib.hid (B7.out.trans ((one_new w8 (.cells #[.string R] 9)).mono B7.out.size)); clear hb)
      | fail)
  have HOW := Lib.hid (OwnV.one w8 (B + 1) 9 (.string R) (by have := B7.out.size; have := HS.out; omega))
  obtain ⟨w9, hw9⟩ : ∃ w9, w9 = w8.alloc (.cells #[.string R] 9) := ⟨_, rfl⟩
  obtain ⟨g9, hg9⟩ : ∃ g9, g9 = w8.heap.size := ⟨_, rfl⟩
  rw [← hw9, ← hg9] at HOW ⊢
  rw [← hw9] at B7n
  clear hw9 hg9
  go_upto_region 3 with fail
  go_loopw [3, 4] (fun ov i wr => ∃ k : Nat, k ≤ m ∧ i = it (k : Int) ∧ OwnV wr (B + 1) 9 ov (.string R :: tv (entsB ba (L.take k))) ∧ Below w1.heap.size w1 wr) (fun _ i _ => m - (intOf i).toNat)
  case atStart => exact ⟨0, by omega, rfl, HOW.out, B7n.out⟩
  case round =>
    obtain ⟨k, hk, rfl, ho, hbr⟩ := hrel
    have HB2 := Lib.hid hbr
    obtain ⟨d0, d1, d2, d3, d4, d5, d6⟩ := HK.out _ HB2.out
    by_cases hlt : k < m
    · have p1 : (k : Int) < (m : Int) := by omega
      obtain ⟨x, hx⟩ : ∃ x, L[k]? = some x := ⟨_, List.getElem?_eq_getElem (by have := HM.out; omega)⟩
      have hxd : x.data.size ≤ 100000 := HDD.out x (List.mem_of_getElem? hx)
      have hlen : (Value.string R :: tv (entsB ba (L.take k))).length = k + 1 := by simp [entsB_len]; have := HM.out; omega
      have hend : (Value.string R :: tv (entsB ba (L.take k))) ++ [str (entB (ba + k + 1) x)] = .string R :: tv (entsB ba (L.take (k + 1))) := by
        rw [take_succ_of hx, entsB_snoc]
        have : (L.take k).length = k := by rw [List.length_take]; have := HM.out; omega
        simp [this]
      have hml := HL3.out
      have hcall := entry_any (bt := bt) (HE.out.below (HB1.out.trans (HB2.out.mono HB1.out.size))) HBA.out k x hx (by have := HM.out; omega) hxd
      obtain ⟨sX, hsX⟩ : ∃ N : ByteArray, N = ⟨(entB (ba + k + 1) x).toArray⟩ := ⟨_, rfl⟩
      unfold str at hcall hend
      rw [← hsX] at hcall hend
      obtain ⟨oa, oc, rfl, _⟩ := ho.shape
      obtain ⟨T, hT⟩ : ∃ T, T = Value.string R :: tv (entsB ba (L.take k)) := ⟨_, rfl⟩
      rw [hlen] at ho ⊢
      rw [← hT] at ho hlen hend
      have HO := Lib.hid ho
      have HEND := Lib.hid hend
      have HCALL := Lib.hid hcall
      have HLN : Hid (T.length ≤ 1000000) := Lib.hid (by omega)
      have hwk : IntKind.i64.wrap ((k : Int) + 1) = ((k + 1 : Nat) : Int) := by unfold IntKind.wrap; simp only [IntKind.bits, IntKind.signed]; simp; omega
      have HBR := Lib.hid hbr
      clear hx hxd hlen hend hml hcall hsX ho hbr hT
      go_upto_region 5 with fail
      go_wp2_with fail
      refine HCALL.out.mono ?_
      rintro e w10 ⟨rfl, hb⟩
      have HO2 := Lib.hid (HO.out.below hb)
      have HBX := Lib.hid (HBR.out.trans (hb.mono HBR.out.size))
      have hs : B + 1 ≤ w10.heap.size := by have := HBX.out.size; have := HS.out; omega
      clear hb d0 d1 d2 d3 d4 d5 d6
      go_wp2_with (at_builtin; refine wp_app_one 50 9 _ 16 Try.underlying50 info9 rfl (by decide) rfl (.tmp 49) (.tmp 54) rfl (B + 1) _ T rfl HO2.out _ rfl rfl HLN.out hs ?_)
      intro v' w11 ho3 hb5
      rw [HEND.out] at ho3
      have HO3 := Lib.hid ho3
      have HB5 := Lib.hid (HBX.out.trans (hb5.mono (by rw [HS.out]; exact Nat.le_refl _)))
      clear ho3 hb5 hs
      go_wp2
      go_roundw
      case rel => exact ⟨k + 1, by omega, rfl, HO3.out, HB5.out⟩
      case measure => simp [intOf]; omega
    · have p1 : decide ((k : Int) < (m : Int)) = false := decide_eq_false (by omega)
      have p2 : decide (k < m) = false := decide_eq_false (by omega)
      rw [show L.take k = L from List.take_of_length_le (by have := HM.out; omega)] at ho
      rw [← HTT.out] at ho
      have HO := Lib.hid (ho.weak (base' := B) (by omega))
      have HB := Lib.hid (HB1.out.trans (HB2.out.mono HB1.out.size))
      clear ho hbr
      go_wp2
      go_ret
      exact ⟨_, rfl, by rw [← HBB.out]; exact HO.out, HB.out⟩
end Go.Proofs.Ytopnmiakljpgbaa

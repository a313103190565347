/-
  What has changed is put into records as the document says: the law's function returns true, whatever two states come in.
-/
import Derived.Test.YtopnmiakljpgbaaRSave
import Derived.Test.YtopnmiakljpgbaaAwake
namespace Go.Proofs.Ytopnmiakljpgbaa
open Go.RowKit
theorem svT_len (H G : Hd) (h : G.L.length ≤ 40) : (svT H G).length ≤ 100 := by
  unfold svT
  split
  · unfold svW; simp [entsB_len]; omega
  · unfold svP svR
    rw [List.length_append, entsB_len, List.length_drop]
    split <;> simp <;> omega
set_option maxRecDepth 100000 in
set_option maxHeartbeats 12800000 in
theorem lawSaves_any {H G : Hd} {w : World} (hH : H.Rd w) (hG : G.Rd w) : Calls Try.prog 5 #[H.v, G.v] w fun e w' => e = .returned (.bool true) ∧ Below w.heap.size w w' := by
  have HH := Lib.hid (fun w' (hb : Below w.heap.size w w') => tame_any (H := H) (w0 := w) hH.1 (hH.2.below hb))
  have HG := Lib.hid (fun w' (hb : Below w.heap.size w w') => tame_any (H := G) (w0 := w) hG.1 (hG.2.below hb))
  obtain ⟨t, vo, vs, sn, ba, bt, a, nh, cap, V, L⟩ := H
  obtain ⟨t', vo', vs', sn', ba', bt', a', ng, cap', V', L'⟩ := G
  dsimp only [Hd.v] at *
  have HA := Lib.hid (two_new w #[it t, it vo, vs, .string sn, it ba, it bt, .slice a nh cap] #[it t', it vo', vs', .string sn', it ba', it bt', .slice a' ng cap'] 42 42)
  clear hH hG
  go_enter Try.func5, Try.ntmps5
  go_upto_region 1 with fail
  generalize (w.alloc _).alloc _ = wA at *
  obtain ⟨B, hB⟩ : ∃ B, B = w.heap.size := ⟨_, rfl⟩
  have HBB := Lib.hid hB
  rw [← hB] at HA ⊢
  have HW : Hid (Below B w wA) := Lib.hid HA.out.2.2.2
  have HZ : Hid (wA.heap.size = B + 2) := Lib.hid HA.out.2.2.1
  have HC := Lib.hid HA.out.1
  have HD := Lib.hid HA.out.2.1
  clear hB HA
  go_wp2_with fail
  refine (awake_any wA).mono ?_
  rintro e w1 ⟨rfl, hb⟩
  have HW1 : Hid (Below B w w1) := Lib.hid (HW.out.trans (hb.mono (by have := HZ.out; omega)))
  have HC1 := Lib.hid (HC.out.below hb)
  have HD1 := Lib.hid (HD.out.below hb)
  have HZ1 : Hid (B + 2 ≤ w1.heap.size) := Lib.hid (by have := HZ.out; have := hb.size; omega)
  clear hb HW HC HD HZ
  obtain ⟨c0, c1, c2, c3', c4, c5, c6⟩ := c7 HC1.out
  go_wp2_with fail
  refine (HH.out _ (by rw [← HBB.out]; exact HW1.out)).mono ?_
  rintro e w2 ⟨M, rfl, hV, hO, hT, hb⟩
  obtain ⟨mt, mvo, mvs, msn, mba, mbt, ma, mn, mcap, MV, ML⟩ := M
  dsimp only at hV hO
  obtain ⟨xa, mz, xc, rfl⟩ : ∃ x y z, mvs = .slice x y z := let ⟨x, z, e, _⟩ := hV.shape; ⟨x, _, z, e⟩
  have HW2 : Hid (Below B w w2) := Lib.hid (HW1.out.trans (hb.mono (by have := HZ1.out; omega)))
  have HC2 := Lib.hid (HC1.out.below hb)
  have HD2 := Lib.hid (HD1.out.below hb)
  have HZ2 : Hid (B + 2 ≤ w2.heap.size) := Lib.hid (by have := HZ1.out; have := hb.size; omega)
  have HV2 := Lib.hid hV
  have HO2 := Lib.hid (hO.weak HZ1.out)
  have HT2 := Lib.hid hT
  clear hb hV hO hT c0 c1 c2 c3' c4 c5 c6 HC1 HD1 HW1 HZ1 HH
  obtain ⟨c0, c1, c2, c3', c4, c5, c6⟩ := c7 HC2.out
  obtain ⟨f2, f3', f4, f5, f6⟩ := f7 HC2.out
  obtain ⟨f0, f1⟩ := f7a HC2.out
  go_upto_region 3 with fail
  generalize hwD : World.setCell (World.setCell (World.setCell (World.setCell (World.setCell (World.setCell (World.setCell w2 _ _) _ _) _ _) _ _) _ _) _ _) _ _ = wD
  have HC3 : Hid (Ce wD B 42 #[it mt, it mvo, (.slice xa mz xc), .string msn, it mba, it mbt, .slice ma mn mcap]) := Lib.hid (by rw [← hwD]; exact set7_ce HC2.out _ _ _ _ _ _ _)
  have HD3 : Hid (Ce wD (B + 1) 42 #[it t', it vo', vs', .string sn', it ba', it bt', .slice a' ng cap']) := Lib.hid (by rw [← hwD]; exact set7_keep HD2.out (by omega) _ _ _ _ _ _ _)
  have HO3 : Hid (OwnE wD (B + 2) (.slice ma mn mcap) ML) := Lib.hid (by rw [← hwD]; exact HO2.out.set7 (by omega) _ _ _ _ _ _ _)
  have HW3 : Hid (Below B w wD) := Lib.hid (by rw [← hwD]; have := set7_below (w := w) (w2 := w2) (n := B) (by rw [← HBB.out]; exact HW2.out) (by rw [← HBB.out]; exact Nat.le_refl _) (it mt) (it mvo) (.slice xa mz xc) (.string msn) (it mba) (it mbt) (.slice ma mn mcap); rw [← HBB.out] at this; exact this)
  have HZ3 : Hid (B + 2 ≤ wD.heap.size) := Lib.hid (by rw [← hwD]; simpa using HZ2.out)
  clear hwD c0 c1 c2 c3' c4 c5 c6 f0 f1 f2 f3' f4 f5 f6 HC2 HD2 HO2 HW2 HZ2
  obtain ⟨d0, d1, d2, d3, d4, d5, d6⟩ := c7 HD3.out
  go_wp2_with fail
  refine (HG.out _ (by rw [← HBB.out]; exact HW3.out)).mono ?_
  rintro e w4 ⟨N, rfl, hV, hO, hT, hb⟩
  obtain ⟨gt, gvo, gvs, gsn, gba, gbt, ga, gn, gcap, GV, GL⟩ := N
  dsimp only at hV hO
  obtain ⟨ya, gz, yc, rfl⟩ : ∃ x y z, gvs = .slice x y z := let ⟨x, z, e, _⟩ := hV.shape; ⟨x, _, z, e⟩
  have HW4 : Hid (Below B w w4) := Lib.hid (HW3.out.trans (hb.mono (by have := HZ3.out; omega)))
  have HC4 := Lib.hid (HC3.out.below hb)
  have HD4 := Lib.hid (HD3.out.below hb)
  have HZ4 : Hid (B + 2 ≤ w4.heap.size) := Lib.hid (by have := HZ3.out; have := hb.size; omega)
  have HX4 := Lib.hid hV
  have HP4 := Lib.hid (hO.weak HZ3.out)
  have HO4 := Lib.hid (HO3.out.below hb)
  have HT4 := Lib.hid hT
  clear hb hV hO hT d0 d1 d2 d3 d4 d5 d6 HC3 HD3 HW3 HZ3 HO3 HG
  obtain ⟨d0, d1, d2, d3, d4, d5, d6⟩ := c7 HD4.out
  obtain ⟨f2, f3', f4, f5, f6⟩ := f7 HD4.out
  obtain ⟨f0, f1⟩ := f7a HD4.out
  go_upto_region 4 with fail
  generalize hwE : World.setCell (World.setCell (World.setCell (World.setCell (World.setCell (World.setCell (World.setCell w4 _ _) _ _) _ _) _ _) _ _) _ _) _ _ = wE
  have HC5 : Hid (Ce wE B 42 #[it mt, it mvo, (.slice xa mz xc), .string msn, it mba, it mbt, .slice ma mn mcap]) := Lib.hid (by rw [← hwE]; exact set7_keep HC4.out (by omega) _ _ _ _ _ _ _)
  have HD5 : Hid (Ce wE (B + 1) 42 #[it gt, it gvo, (.slice ya gz yc), .string gsn, it gba, it gbt, .slice ga gn gcap]) := Lib.hid (by rw [← hwE]; exact set7_ce HD4.out _ _ _ _ _ _ _)
  have HO5 : Hid (OwnE wE (B + 2) (.slice ma mn mcap) ML) := Lib.hid (by rw [← hwE]; exact HO4.out.set7 (by omega) _ _ _ _ _ _ _)
  have HP5 : Hid (OwnE wE (B + 2) (.slice ga gn gcap) GL) := Lib.hid (by rw [← hwE]; exact HP4.out.set7 (by omega) _ _ _ _ _ _ _)
  have HW5 : Hid (Below B w wE) := Lib.hid (by rw [← hwE]; have := set7_below (w := w) (w2 := w4) (n := B + 1) (by rw [← HBB.out]; exact HW4.out) (by rw [← HBB.out]; exact Nat.le_succ _) (it gt) (it gvo) (.slice ya gz yc) (.string gsn) (it gba) (it gbt) (.slice ga gn gcap); rw [← HBB.out] at this; exact this)
  have HZ5 : Hid (B + 2 ≤ wE.heap.size) := Lib.hid (by rw [← hwE]; simpa using HZ4.out)
  clear hwE d0 d1 d2 d3 d4 d5 d6 f0 f1 f2 f3' f4 f5 f6 HC4 HD4 HO4 HW4 HZ4 HP4
  have HWE : Hid (Below w.heap.size w wE) := Lib.hid (by rw [← HBB.out]; exact HW5.out)
  have S1 := Lib.hid (fun w' => sound_any (base := mba) (bt := mbt) (a := ma) (n := mn) (cap := mcap) w')
  have S2 := Lib.hid (fun w' => sound_any (base := gba) (bt := gbt) (a := ga) (n := gn) (cap := gcap) w')
  have SV := Lib.hid (fun w' (hb : Below wE.heap.size wE w') h => save_any (H := ⟨mt, mvo, (.slice xa mz xc), msn, mba, mbt, ma, mn, mcap, MV, ML⟩) (G := ⟨gt, gvo, (.slice ya gz yc), gsn, gba, gbt, ga, gn, gcap, GV, GL⟩) (w := w') ⟨(HV2.out.below HWE.out).below hb, HO5.out.rd.below hb⟩ ⟨(HX4.out.below HWE.out).below hb, HP5.out.rd.below hb⟩ HT2.out HT4.out h)
  have RV := Lib.hid (fun w' (hb : Below wE.heap.size wE w') h => rsave_any (H := ⟨mt, mvo, (.slice xa mz xc), msn, mba, mbt, ma, mn, mcap, MV, ML⟩) (G := ⟨gt, gvo, (.slice ya gz yc), gsn, gba, gbt, ga, gn, gcap, GV, GL⟩) (w := w') ⟨(HV2.out.below HWE.out).below hb, HO5.out.rd.below hb⟩ ⟨(HX4.out.below HWE.out).below hb, HP5.out.rd.below hb⟩ HT2.out HT4.out h)
  have hTL := svT_len ⟨mt, mvo, (.slice xa mz xc), msn, mba, mbt, ma, mn, mcap, MV, ML⟩ ⟨gt, gvo, (.slice ya gz yc), gsn, gba, gbt, ga, gn, gcap, GV, GL⟩ HT4.out.2.2.1
  dsimp only [Hd.v] at SV RV
  obtain ⟨T, hT⟩ : ∃ T, T = svT ⟨mt, mvo, (.slice xa mz xc), msn, mba, mbt, ma, mn, mcap, MV, ML⟩ ⟨gt, gvo, (.slice ya gz yc), gsn, gba, gbt, ga, gn, gcap, GV, GL⟩ := ⟨_, rfl⟩
  obtain ⟨bb, hbb⟩ : ∃ bb, bb = svB ⟨mt, mvo, (.slice xa mz xc), msn, mba, mbt, ma, mn, mcap, MV, ML⟩ ⟨gt, gvo, (.slice ya gz yc), gsn, gba, gbt, ga, gn, gcap, GV, GL⟩ := ⟨_, rfl⟩
  rw [← hT, ← hbb] at SV RV
  rw [← hT] at hTL
  have HTL := Lib.hid hTL
  clear hT hbb hTL
  obtain ⟨qa, hqa⟩ : ∃ q, q = decide (-1000 ≤ mba ∧ mba ≤ 1125899906842624) := ⟨_, rfl⟩
  obtain ⟨qg, hqg⟩ : ∃ q, q = decide (-1000 ≤ gba ∧ gba ≤ 1125899906842624) := ⟨_, rfl⟩
  rw [← hqa] at S1
  rw [← hqg] at S2
  have HQ := Lib.hid hqg
  clear hqa hqg
  obtain ⟨c0, c1, c2, c3', c4, c5, c6⟩ := c7 HC5.out
  go_wp2_with fail
  refine (S1.out _).mono ?_
  rintro e w6 ⟨rfl, hb⟩
  have H6 := Lib.hid hb
  clear hb c0 c1 c2 c3' c4 c5 c6
  obtain ⟨d0, d1, d2, d3, d4, d5, d6⟩ := c7 (HD5.out.below H6.out)
  go_wp2_with fail
  refine (S2.out _).mono ?_
  rintro e w7 ⟨rfl, hb⟩
  have H7 := Lib.hid (H6.out.trans (hb.mono H6.out.size))
  clear hb d0 d1 d2 d3 d4 d5 d6
  cases qa with
  | false =>
    have HF := Lib.hid (HWE.out.trans (H7.out.mono HWE.out.size))
    go_wp2
    all_goals
      go_ret
      exact ⟨rfl, HF.out⟩
  | true =>
    cases qg with
    | false =>
      have HF := Lib.hid (HWE.out.trans (H7.out.mono HWE.out.size))
      go_wp2
      all_goals
        go_ret
        exact ⟨rfl, HF.out⟩
    | true =>
      have hq := Lib.hid (of_decide_eq_true HQ.out.symm)
      obtain ⟨c0, c1, c2, c3', c4, c5, c6⟩ := c7 (HC5.out.below H7.out)
      obtain ⟨d0, d1, d2, d3, d4, d5, d6⟩ := c7 (HD5.out.below H7.out)
      go_wp2_with fail
      refine (SV.out _ H7.out hq.out).mono ?_
      rintro e w8 ⟨v8, rfl, hr, hb⟩
      have H8 := Lib.hid (H7.out.trans (hb.mono H7.out.size))
      have HR8 := Lib.hid hr
      clear hb hr c0 c1 c2 c3' c4 c5 c6 d0 d1 d2 d3 d4 d5 d6
      obtain ⟨c0, c1, c2, c3', c4, c5, c6⟩ := c7 (HC5.out.below H8.out)
      obtain ⟨d0, d1, d2, d3, d4, d5, d6⟩ := c7 (HD5.out.below H8.out)
      go_wp2_with fail
      refine (RV.out _ H8.out hq.out).mono ?_
      rintro e w9 ⟨v9, rfl, hr, hb⟩
      have H9 := Lib.hid (H8.out.trans (hb.mono H8.out.size))
      have HT9 := Lib.hid (fun w' (hb : Below w9.heap.size w9 w') => sameTexts_any (T := T.map fun b => ⟨b.toArray⟩) (by rw [List.map_map]; exact hr.below hb) (by rw [List.map_map]; exact hr.below hb) (by rw [List.length_map]; have := HTL.out; omega))
      have HTT : Hid (Calls Try.prog 34 #[v8, v9] w9 fun e w' => e = .returned (.bool true) ∧ Below w9.heap.size w9 w') := Lib.hid (sameTexts_any (T := T.map fun b => ⟨b.toArray⟩) (by rw [List.map_map]; exact HR8.out.below hb) (by rw [List.map_map]; exact hr) (by rw [List.length_map]; have := HTL.out; omega))
      clear hb hr c0 c1 c2 c3' c4 c5 c6 d0 d1 d2 d3 d4 d5 d6 HT9
      go_wp2_with fail
      refine HTT.out.mono ?_
      rintro e w10 ⟨rfl, hb⟩
      have H10 := Lib.hid (HWE.out.trans ((H9.out.trans (hb.mono H9.out.size)).mono HWE.out.size))
      clear hb
      have qq : (bb == bb) = true := by simp
      go_wp2
      all_goals
        go_ret
        exact ⟨rfl, H10.out⟩
end Go.Proofs.Ytopnmiakljpgbaa

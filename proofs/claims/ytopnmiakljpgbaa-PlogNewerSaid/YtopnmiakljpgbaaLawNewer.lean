/-
  The walk of the law PlogNewer: it returns true; no older memory is changed.
-/
import Derived.Test.YtopnmiakljpgbaaAwake
namespace Go.Proofs.Ytopnmiakljpgbaa
open Go.RowKit
/-- A number's last digit. -/
def dg (x : Int) : Nat := x.natAbs % 10
theorem tmod_dg (x : Int) : (x.tmod 10 < 0 → -(x.tmod 10) = (dg x : Int)) ∧ (¬ x.tmod 10 < 0 → x.tmod 10 = (dg x : Int)) ∧ -10 < x.tmod 10 ∧ x.tmod 10 < 10 := by
  have h : (x.tmod 10).natAbs = x.natAbs % 10 := Int.natAbs_tmod x 10
  unfold dg
  omega
theorem dg_lt (x : Int) : dg x < 10 := Nat.mod_lt _ (by decide)
def gk (x : Int) (b : Bool) : Int := if b = true then (dg x : Int) else x
def nw (K T K' T' : Nat) : Bool := decide (T < T' ∨ (T = T' ∧ K ≤ K'))
theorem newer0 (K T K' T' : Nat) (h1 : K < 10) (h2 : K' < 10) (w : World) : Calls Try.prog 42 #[lv (K : Int) (T : Int) (.slice none 0 0), it (K' : Int), it (T' : Int)] w fun e w' => e = .returned (.bool (nw K T K' T')) ∧ Below w.heap.size w w' := by
  have h := newer_any (base := (K : Int)) (bt := (T : Int)) (last := (K' : Int)) (RdE.nil w) ⟨by omega, by omega⟩ ⟨by omega, by omega⟩ (T' : Int) (by decide)
  have e : decide ((T' : Int) > atT (T : Int) [] ([] : List En).length ∨ ((T' : Int) = atT (T : Int) [] ([] : List En).length ∧ (K' : Int) ≥ (K : Int) + (([] : List En).length : Int))) = nw K T K' T' := by
    unfold nw
    rw [decide_eq_decide]
    simp [atT]
    omega
  rw [e] at h
  exact h
set_option maxRecDepth 100000 in
set_option maxHeartbeats 12800000 in
theorem lawNewer_any (x0 x1 x2 y0 y1 y2 n : Int) (w : World) :
    Calls Try.prog 9 #[.agg #[it x0, it x1, it x2], .agg #[it y0, it y1, it y2], it n] w fun e w' => e = .returned (.bool true) ∧ Below w.heap.size w w' := by
  have H2 := Lib.hid (two_new w #[it x0, it x1, it x2] #[it y0, it y1, it y2] 67 67)
  go_enter Try.func9, Try.ntmps9
  go_wp2_with fail
  obtain ⟨wA, hwA⟩ : ∃ wA, wA = (w.alloc (.cells #[it x0, it x1, it x2] 67)).alloc (.cells #[it y0, it y1, it y2] 67) := ⟨_, rfl⟩
  rw [← hwA] at H2 ⊢
  refine (awake_any wA).mono ?_
  rintro e w1 ⟨rfl, hb1⟩
  obtain ⟨a1, a2, a3, a4⟩ := H2.out
  have hc1 := a1.below hb1
  have hc2 := a2.below hb1
  have hb2 := a4.trans (hb1.mono a4.size)
  have hn1 := hb1.size
  have hn := one_new w1 (.cells #[it 0, it 0, .slice none 0 0, it 0, it 0, .slice none 0 0, it 0, it 0, .slice none 0 0] 68)
  have HL := Lib.hid (Ce.new w1 68 #[it 0, it 0, .slice none 0 0, it 0, it 0, .slice none 0 0, it 0, it 0, .slice none 0 0])
  have HX := Lib.hid (hc1.below hn)
  have HY := Lib.hid (hc2.below hn)
  have HB := Lib.hid (hb2.trans (hn.mono hb2.size))
  have hsz : w.heap.size + 2 ≤ w1.heap.size := by omega
  clear H2 a1 a2 a3 a4 hc1 hc2 hb1 hb2 hn hn1 hwA
  go_upto_region 3 with fail
  obtain ⟨wB, hwB⟩ : ∃ wB, wB = w1.alloc (.cells #[it 0, it 0, .slice none 0 0, it 0, it 0, .slice none 0 0, it 0, it 0, .slice none 0 0] 68) := ⟨_, rfl⟩
  obtain ⟨C, hC⟩ : ∃ C, C = w1.heap.size := ⟨_, rfl⟩
  rw [← hwB, ← hC]
  rw [← hwB] at HL HX HY HB
  rw [← hC] at HL hsz
  clear hwB hC
  go_wp2
  go_loopw [9, 10, 11] (fun i _ _ wr => ∃ k : Nat, k ≤ 3 ∧ i = it (k : Int) ∧ Ce wr w.heap.size 67 #[it (gk x0 (decide (0 < k))), it (gk x1 (decide (1 < k))), it (gk x2 (decide (2 < k)))] ∧ Ce wr (w.heap.size + 1) 67 #[it (gk y0 (decide (0 < k))), it (gk y1 (decide (1 < k))), it (gk y2 (decide (2 < k)))] ∧
    Ce wr C 68 #[it (if 0 < k then dg x0 else 0), it (if 0 < k then dg y0 else 0), .slice none 0 0, it (if 1 < k then dg x1 else 0), it (if 1 < k then dg y1 else 0), .slice none 0 0, it (if 2 < k then dg x2 else 0), it (if 2 < k then dg y2 else 0), .slice none 0 0] ∧ Below w.heap.size w wr) (fun i _ _ _ => 3 - (intOf i).toNat)
  case atStart => exact ⟨0, by omega, rfl, HX.out, HY.out, HL.out, HB.out⟩
  case round =>
    clear HX HY HL HB
    obtain ⟨k, hk, rfl, hX, hY, hL, hb⟩ := hrel
    rcases (by omega : k = 0 ∨ k = 1 ∨ k = 2 ∨ k = 3) with rfl | rfl | rfl | rfl
    · simp [gk] at hX hY hL
      obtain ⟨rx, hrx⟩ : ∃ r, (x0).tmod 10 = r := ⟨_, rfl⟩
      obtain ⟨ry, hry⟩ : ∃ r, (y0).tmod 10 = r := ⟨_, rfl⟩
      obtain ⟨gx1, gx2, gx3, gx4⟩ := tmod_dg x0
      obtain ⟨gy1, gy2, gy3, gy4⟩ := tmod_dg y0
      rw [hrx] at gx1 gx2 gx3 gx4
      rw [hry] at gy1 gy2 gy3 gy4
      obtain ⟨tx, htx⟩ : ∃ t, t = dg x0 := ⟨_, rfl⟩
      obtain ⟨ty, hty⟩ : ∃ t, t = dg y0 := ⟨_, rfl⟩
      rw [← htx] at gx1 gx2
      rw [← hty] at gy1 gy2
      have HX := Lib.hid hX
      have HY := Lib.hid hY
      have HL := Lib.hid hL
      have HB := Lib.hid hb
      have HTX := Lib.hid htx
      have HTY := Lib.hid hty
      obtain ⟨c0, c1, c2⟩ := c3 hX
      obtain ⟨d0, d1, d2⟩ := c3 hY
      obtain ⟨e0, e1, e2⟩ := f3 hX
      obtain ⟨f0, f1, f2⟩ := f3 hY
      have l0 : wr.cell? ⟨C, 0, none⟩ = some (it 0) := by rw [hL.cell]; rfl
      have l1 : wr.cell? ⟨C, 1, none⟩ = some (it 0) := by rw [hL.cell]; rfl
      have l2 : wr.cell? ⟨C, 2, none⟩ = some (.slice none 0 0) := by rw [hL.cell]; rfl
      have z0 := hL.frozen 0
      have z1 := hL.frozen 1
      have z2 := hL.frozen 2
      clear hX hY hL hb htx hty
      go_upto_if 27 with fail
      clear hry
      go_cut [10] from 18 to 48 (fun v wx => v = it (ty : Int) ∧ wr = wx)
      case first =>
        by_cases g : ry < 0
        · have g' := gy1 g
          go_wp2
          go_meet
          exact ⟨rfl, rfl⟩
        · have g' := gy2 g
          have g'' : decide (ry < 0) = false := by simpa using g
          go_wp2
          go_meet
          exact ⟨rfl, rfl⟩
      case rest =>
        obtain ⟨rfl, rfl⟩ := hcut
        go_upto_if 35 with fail
        clear hrx
        go_cut [11] from 18 to 48 (fun v wx => v = it (tx : Int) ∧ wr = wx)
        case first =>
          by_cases g : rx < 0
          · have g' := gx1 g
            go_wp2
            go_meet
            exact ⟨rfl, rfl⟩
          · have g' := gx2 g
            have g'' : decide (rx < 0) = false := by simpa using g
            go_wp2
            go_meet
            exact ⟨rfl, rfl⟩
        case rest =>
          obtain ⟨rfl, rfl⟩ := hcut
          clear gx1 gx2 gx3 gx4 gy1 gy2 gy3 gy4
          go_wp2
          go_roundw
          case rel =>
            refine ⟨0 + 1, by omega, rfl, ?_, ?_, ?_, ?_⟩
            · rw [show gk x0 (decide (0 < 0 + 1)) = (tx : Int) by rw [HTX.out]; rfl]
              exact ((((HX.out.other (by omega) _ (i := 0)).set _ (i := 0)).other (by omega) _ (i := 0)).other (by omega) _ (i := 1)).other (by omega) _ (i := 2)
            · rw [show gk y0 (decide (0 < 0 + 1)) = (ty : Int) by rw [HTY.out]; rfl]
              exact ((((HY.out.set _ (i := 0)).other (by omega) _ (i := 0)).other (by omega) _ (i := 0)).other (by omega) _ (i := 1)).other (by omega) _ (i := 2)
            · rw [← HTX.out, ← HTY.out]
              exact ((((HL.out.other (by omega) _ (i := 0)).other (by omega) _ (i := 0)).set _ (i := 0)).set _ (i := 1)).set _ (i := 2)
            · exact ((((HB.out.setCell (p := ⟨w.heap.size + 1, 0, none⟩) (Nat.le_succ _) _).setCell (p := ⟨w.heap.size, 0, none⟩) (Nat.le_refl _) _).setCell (p := ⟨C, 0, none⟩) (by show w.heap.size ≤ C; omega) _).setCell (p := ⟨C, 1, none⟩) (by show w.heap.size ≤ C; omega) _).setCell (p := ⟨C, 2, none⟩) (by show w.heap.size ≤ C; omega) _
          case measure => simp [intOf]
    · simp [gk] at hX hY hL
      obtain ⟨rx, hrx⟩ : ∃ r, (x1).tmod 10 = r := ⟨_, rfl⟩
      obtain ⟨ry, hry⟩ : ∃ r, (y1).tmod 10 = r := ⟨_, rfl⟩
      obtain ⟨gx1, gx2, gx3, gx4⟩ := tmod_dg x1
      obtain ⟨gy1, gy2, gy3, gy4⟩ := tmod_dg y1
      rw [hrx] at gx1 gx2 gx3 gx4
      rw [hry] at gy1 gy2 gy3 gy4
      obtain ⟨tx, htx⟩ : ∃ t, t = dg x1 := ⟨_, rfl⟩
      obtain ⟨ty, hty⟩ : ∃ t, t = dg y1 := ⟨_, rfl⟩
      rw [← htx] at gx1 gx2
      rw [← hty] at gy1 gy2
      have HX := Lib.hid hX
      have HY := Lib.hid hY
      have HL := Lib.hid hL
      have HB := Lib.hid hb
      have HTX := Lib.hid htx
      have HTY := Lib.hid hty
      obtain ⟨c0, c1, c2⟩ := c3 hX
      obtain ⟨d0, d1, d2⟩ := c3 hY
      obtain ⟨e0, e1, e2⟩ := f3 hX
      obtain ⟨f0, f1, f2⟩ := f3 hY
      have l0 : wr.cell? ⟨C, 3, none⟩ = some (it 0) := by rw [hL.cell]; rfl
      have l1 : wr.cell? ⟨C, 4, none⟩ = some (it 0) := by rw [hL.cell]; rfl
      have l2 : wr.cell? ⟨C, 5, none⟩ = some (.slice none 0 0) := by rw [hL.cell]; rfl
      have z0 := hL.frozen 3
      have z1 := hL.frozen 4
      have z2 := hL.frozen 5
      clear hX hY hL hb htx hty
      go_upto_if 27 with fail
      clear hry
      go_cut [10] from 18 to 48 (fun v wx => v = it (ty : Int) ∧ wr = wx)
      case first =>
        by_cases g : ry < 0
        · have g' := gy1 g
          go_wp2
          go_meet
          exact ⟨rfl, rfl⟩
        · have g' := gy2 g
          have g'' : decide (ry < 0) = false := by simpa using g
          go_wp2
          go_meet
          exact ⟨rfl, rfl⟩
      case rest =>
        obtain ⟨rfl, rfl⟩ := hcut
        go_upto_if 35 with fail
        clear hrx
        go_cut [11] from 18 to 48 (fun v wx => v = it (tx : Int) ∧ wr = wx)
        case first =>
          by_cases g : rx < 0
          · have g' := gx1 g
            go_wp2
            go_meet
            exact ⟨rfl, rfl⟩
          · have g' := gx2 g
            have g'' : decide (rx < 0) = false := by simpa using g
            go_wp2
            go_meet
            exact ⟨rfl, rfl⟩
        case rest =>
          obtain ⟨rfl, rfl⟩ := hcut
          clear gx1 gx2 gx3 gx4 gy1 gy2 gy3 gy4
          go_wp2
          go_roundw
          case rel =>
            refine ⟨1 + 1, by omega, rfl, ?_, ?_, ?_, ?_⟩
            · rw [show gk x1 (decide (1 < 1 + 1)) = (tx : Int) by rw [HTX.out]; rfl]
              exact ((((HX.out.other (by omega) _ (i := 1)).set _ (i := 1)).other (by omega) _ (i := 3)).other (by omega) _ (i := 4)).other (by omega) _ (i := 5)
            · rw [show gk y1 (decide (1 < 1 + 1)) = (ty : Int) by rw [HTY.out]; rfl]
              exact ((((HY.out.set _ (i := 1)).other (by omega) _ (i := 1)).other (by omega) _ (i := 3)).other (by omega) _ (i := 4)).other (by omega) _ (i := 5)
            · rw [← HTX.out, ← HTY.out]
              exact ((((HL.out.other (by omega) _ (i := 1)).other (by omega) _ (i := 1)).set _ (i := 3)).set _ (i := 4)).set _ (i := 5)
            · exact ((((HB.out.setCell (p := ⟨w.heap.size + 1, 1, none⟩) (Nat.le_succ _) _).setCell (p := ⟨w.heap.size, 1, none⟩) (Nat.le_refl _) _).setCell (p := ⟨C, 3, none⟩) (by show w.heap.size ≤ C; omega) _).setCell (p := ⟨C, 4, none⟩) (by show w.heap.size ≤ C; omega) _).setCell (p := ⟨C, 5, none⟩) (by show w.heap.size ≤ C; omega) _
          case measure => simp [intOf]
    · simp [gk] at hX hY hL
      obtain ⟨rx, hrx⟩ : ∃ r, (x2).tmod 10 = r := ⟨_, rfl⟩
      obtain ⟨ry, hry⟩ : ∃ r, (y2).tmod 10 = r := ⟨_, rfl⟩
      obtain ⟨gx1, gx2, gx3, gx4⟩ := tmod_dg x2
      obtain ⟨gy1, gy2, gy3, gy4⟩ := tmod_dg y2
      rw [hrx] at gx1 gx2 gx3 gx4
      rw [hry] at gy1 gy2 gy3 gy4
      obtain ⟨tx, htx⟩ : ∃ t, t = dg x2 := ⟨_, rfl⟩
      obtain ⟨ty, hty⟩ : ∃ t, t = dg y2 := ⟨_, rfl⟩
      rw [← htx] at gx1 gx2
      rw [← hty] at gy1 gy2
      have HX := Lib.hid hX
      have HY := Lib.hid hY
      have HL := Lib.hid hL
      have HB := Lib.hid hb
      have HTX := Lib.hid htx
      have HTY := Lib.hid hty
      obtain ⟨c0, c1, c2⟩ := c3 hX
      obtain ⟨d0, d1, d2⟩ := c3 hY
      obtain ⟨e0, e1, e2⟩ := f3 hX
      obtain ⟨f0, f1, f2⟩ := f3 hY
      have l0 : wr.cell? ⟨C, 6, none⟩ = some (it 0) := by rw [hL.cell]; rfl
      have l1 : wr.cell? ⟨C, 7, none⟩ = some (it 0) := by rw [hL.cell]; rfl
      have l2 : wr.cell? ⟨C, 8, none⟩ = some (.slice none 0 0) := by rw [hL.cell]; rfl
      have z0 := hL.frozen 6
      have z1 := hL.frozen 7
      have z2 := hL.frozen 8
      clear hX hY hL hb htx hty
      go_upto_if 27 with fail
      clear hry
      go_cut [10] from 18 to 48 (fun v wx => v = it (ty : Int) ∧ wr = wx)
      case first =>
        by_cases g : ry < 0
        · have g' := gy1 g
          go_wp2
          go_meet
          exact ⟨rfl, rfl⟩
        · have g' := gy2 g
          have g'' : decide (ry < 0) = false := by simpa using g
          go_wp2
          go_meet
          exact ⟨rfl, rfl⟩
      case rest =>
        obtain ⟨rfl, rfl⟩ := hcut
        go_upto_if 35 with fail
        clear hrx
        go_cut [11] from 18 to 48 (fun v wx => v = it (tx : Int) ∧ wr = wx)
        case first =>
          by_cases g : rx < 0
          · have g' := gx1 g
            go_wp2
            go_meet
            exact ⟨rfl, rfl⟩
          · have g' := gx2 g
            have g'' : decide (rx < 0) = false := by simpa using g
            go_wp2
            go_meet
            exact ⟨rfl, rfl⟩
        case rest =>
          obtain ⟨rfl, rfl⟩ := hcut
          clear gx1 gx2 gx3 gx4 gy1 gy2 gy3 gy4
          go_wp2
          go_roundw
          case rel =>
            refine ⟨2 + 1, by omega, rfl, ?_, ?_, ?_, ?_⟩
            · rw [show gk x2 (decide (2 < 2 + 1)) = (tx : Int) by rw [HTX.out]; rfl]
              exact ((((HX.out.other (by omega) _ (i := 2)).set _ (i := 2)).other (by omega) _ (i := 6)).other (by omega) _ (i := 7)).other (by omega) _ (i := 8)
            · rw [show gk y2 (decide (2 < 2 + 1)) = (ty : Int) by rw [HTY.out]; rfl]
              exact ((((HY.out.set _ (i := 2)).other (by omega) _ (i := 2)).other (by omega) _ (i := 6)).other (by omega) _ (i := 7)).other (by omega) _ (i := 8)
            · rw [← HTX.out, ← HTY.out]
              exact ((((HL.out.other (by omega) _ (i := 2)).other (by omega) _ (i := 2)).set _ (i := 6)).set _ (i := 7)).set _ (i := 8)
            · exact ((((HB.out.setCell (p := ⟨w.heap.size + 1, 2, none⟩) (Nat.le_succ _) _).setCell (p := ⟨w.heap.size, 2, none⟩) (Nat.le_refl _) _).setCell (p := ⟨C, 6, none⟩) (by show w.heap.size ≤ C; omega) _).setCell (p := ⟨C, 7, none⟩) (by show w.heap.size ≤ C; omega) _).setCell (p := ⟨C, 8, none⟩) (by show w.heap.size ≤ C; omega) _
          case measure => simp [intOf]
    · simp [gk] at hX hY hL
      obtain ⟨K0, hK0⟩ : ∃ k, k = dg x0 := ⟨_, rfl⟩
      obtain ⟨K1, hK1⟩ : ∃ k, k = dg x1 := ⟨_, rfl⟩
      obtain ⟨K2, hK2⟩ : ∃ k, k = dg x2 := ⟨_, rfl⟩
      obtain ⟨T0, hT0⟩ : ∃ k, k = dg y0 := ⟨_, rfl⟩
      obtain ⟨T1, hT1⟩ : ∃ k, k = dg y1 := ⟨_, rfl⟩
      obtain ⟨T2, hT2⟩ : ∃ k, k = dg y2 := ⟨_, rfl⟩
      rw [← hK0, ← hK1, ← hK2] at hX hL
      rw [← hT0, ← hT1, ← hT2] at hY hL
      have b0 : K0 < 10 := by rw [hK0]; exact dg_lt _
      have b1 : K1 < 10 := by rw [hK1]; exact dg_lt _
      have b2 : K2 < 10 := by rw [hK2]; exact dg_lt _
      clear hK0 hK1 hK2 hT0 hT1 hT2
      have HX := Lib.hid hX
      have HY := Lib.hid hY
      have HL := Lib.hid hL
      have HB := Lib.hid hb
      have HA := Lib.hid (fun w' => newer0 K0 T0 K1 T1 b0 b1 w')
      have HBB := Lib.hid (fun w' => newer0 K1 T1 K0 T0 b1 b0 w')
      have HC := Lib.hid (fun w' => newer0 K1 T1 K2 T2 b1 b2 w')
      have HD := Lib.hid (fun w' => newer0 K0 T0 K2 T2 b0 b2 w')
      obtain ⟨va, hva⟩ : ∃ v, v = nw K0 T0 K1 T1 := ⟨_, rfl⟩
      obtain ⟨vb, hvb⟩ : ∃ v, v = nw K1 T1 K0 T0 := ⟨_, rfl⟩
      obtain ⟨vc, hvc⟩ : ∃ v, v = nw K1 T1 K2 T2 := ⟨_, rfl⟩
      obtain ⟨vd, hvd⟩ : ∃ v, v = nw K0 T0 K2 T2 := ⟨_, rfl⟩
      rw [← hva] at HA
      rw [← hvb] at HBB
      rw [← hvc] at HC
      rw [← hvd] at HD
      have hf1 : (va || vb) = true := by rw [hva, hvb]; unfold nw; simp; omega
      have hf2 : (va && vb) = (decide (K0 = K1) && decide (T0 = T1)) := by
        rw [hva, hvb]; unfold nw; rw [Bool.eq_iff_iff]; simp; omega
      have hf3 : (!va || !vc || vd) = true := by
        rw [hva, hvc, hvd]; unfold nw; simp; omega
      have HF1 := Lib.hid hf1
      have HF2 := Lib.hid hf2
      have HF3 := Lib.hid hf3
      clear hX hY hL hva hvb hvc hvd hf1 hf2 hf3 b0 b1 b2
      have HXwr := HX
      have HYwr := HY
      have HLwr := HL
      have c0 : wr.cell? ⟨w.heap.size, 0, none⟩ = some (it (K0 : Int)) := by rw [HXwr.out.cell]; rfl
      have d0 : wr.cell? ⟨w.heap.size + 1, 0, none⟩ = some (it (T0 : Int)) := by rw [HYwr.out.cell]; rfl
      have l0 : wr.cell? ⟨C, 0, none⟩ = some (it (K0 : Int)) := by rw [HLwr.out.cell]; rfl
      have l1 : wr.cell? ⟨C, 1, none⟩ = some (it (T0 : Int)) := by rw [HLwr.out.cell]; rfl
      have l2 : wr.cell? ⟨C, 2, none⟩ = some (.slice none 0 0) := by rw [HLwr.out.cell]; rfl
      have c1 : wr.cell? ⟨w.heap.size, 1, none⟩ = some (it (K1 : Int)) := by rw [HXwr.out.cell]; rfl
      have d1 : wr.cell? ⟨w.heap.size + 1, 1, none⟩ = some (it (T1 : Int)) := by rw [HYwr.out.cell]; rfl
      have l3 : wr.cell? ⟨C, 3, none⟩ = some (it (K1 : Int)) := by rw [HLwr.out.cell]; rfl
      have l4 : wr.cell? ⟨C, 4, none⟩ = some (it (T1 : Int)) := by rw [HLwr.out.cell]; rfl
      have l5 : wr.cell? ⟨C, 5, none⟩ = some (.slice none 0 0) := by rw [HLwr.out.cell]; rfl
      have c2 : wr.cell? ⟨w.heap.size, 2, none⟩ = some (it (K2 : Int)) := by rw [HXwr.out.cell]; rfl
      have d2 : wr.cell? ⟨w.heap.size + 1, 2, none⟩ = some (it (T2 : Int)) := by rw [HYwr.out.cell]; rfl
      have l6 : wr.cell? ⟨C, 6, none⟩ = some (it (K2 : Int)) := by rw [HLwr.out.cell]; rfl
      have l7 : wr.cell? ⟨C, 7, none⟩ = some (it (T2 : Int)) := by rw [HLwr.out.cell]; rfl
      have l8 : wr.cell? ⟨C, 8, none⟩ = some (.slice none 0 0) := by rw [HLwr.out.cell]; rfl
      go_wp2_with fail
      refine (HA.out _).mono ?_
      rintro e v0w ⟨rfl, hb0⟩
      have HXv0w := Lib.hid (HXwr.out.below hb0)
      have HYv0w := Lib.hid (HYwr.out.below hb0)
      have HLv0w := Lib.hid (HLwr.out.below hb0)
      have HB0 := Lib.hid (HB.out.trans (hb0.mono HB.out.size))
      clear c0 d0 c1 d1 c2 d2 l0 l1 l2 l3 l4 l5 l6 l7 l8 hb0
      have c0 : v0w.cell? ⟨w.heap.size, 0, none⟩ = some (it (K0 : Int)) := by rw [HXv0w.out.cell]; rfl
      have d0 : v0w.cell? ⟨w.heap.size + 1, 0, none⟩ = some (it (T0 : Int)) := by rw [HYv0w.out.cell]; rfl
      have l0 : v0w.cell? ⟨C, 0, none⟩ = some (it (K0 : Int)) := by rw [HLv0w.out.cell]; rfl
      have l1 : v0w.cell? ⟨C, 1, none⟩ = some (it (T0 : Int)) := by rw [HLv0w.out.cell]; rfl
      have l2 : v0w.cell? ⟨C, 2, none⟩ = some (.slice none 0 0) := by rw [HLv0w.out.cell]; rfl
      have c1 : v0w.cell? ⟨w.heap.size, 1, none⟩ = some (it (K1 : Int)) := by rw [HXv0w.out.cell]; rfl
      have d1 : v0w.cell? ⟨w.heap.size + 1, 1, none⟩ = some (it (T1 : Int)) := by rw [HYv0w.out.cell]; rfl
      have l3 : v0w.cell? ⟨C, 3, none⟩ = some (it (K1 : Int)) := by rw [HLv0w.out.cell]; rfl
      have l4 : v0w.cell? ⟨C, 4, none⟩ = some (it (T1 : Int)) := by rw [HLv0w.out.cell]; rfl
      have l5 : v0w.cell? ⟨C, 5, none⟩ = some (.slice none 0 0) := by rw [HLv0w.out.cell]; rfl
      have c2 : v0w.cell? ⟨w.heap.size, 2, none⟩ = some (it (K2 : Int)) := by rw [HXv0w.out.cell]; rfl
      have d2 : v0w.cell? ⟨w.heap.size + 1, 2, none⟩ = some (it (T2 : Int)) := by rw [HYv0w.out.cell]; rfl
      have l6 : v0w.cell? ⟨C, 6, none⟩ = some (it (K2 : Int)) := by rw [HLv0w.out.cell]; rfl
      have l7 : v0w.cell? ⟨C, 7, none⟩ = some (it (T2 : Int)) := by rw [HLv0w.out.cell]; rfl
      have l8 : v0w.cell? ⟨C, 8, none⟩ = some (.slice none 0 0) := by rw [HLv0w.out.cell]; rfl
      go_wp2_with fail
      refine (HBB.out _).mono ?_
      rintro e v1w ⟨rfl, hb1⟩
      have HXv1w := Lib.hid (HXv0w.out.below hb1)
      have HYv1w := Lib.hid (HYv0w.out.below hb1)
      have HLv1w := Lib.hid (HLv0w.out.below hb1)
      have HB1 := Lib.hid (HB0.out.trans (hb1.mono HB0.out.size))
      clear c0 d0 c1 d1 c2 d2 l0 l1 l2 l3 l4 l5 l6 l7 l8 hb1
      have c0 : v1w.cell? ⟨w.heap.size, 0, none⟩ = some (it (K0 : Int)) := by rw [HXv1w.out.cell]; rfl
      have d0 : v1w.cell? ⟨w.heap.size + 1, 0, none⟩ = some (it (T0 : Int)) := by rw [HYv1w.out.cell]; rfl
      have l0 : v1w.cell? ⟨C, 0, none⟩ = some (it (K0 : Int)) := by rw [HLv1w.out.cell]; rfl
      have l1 : v1w.cell? ⟨C, 1, none⟩ = some (it (T0 : Int)) := by rw [HLv1w.out.cell]; rfl
      have l2 : v1w.cell? ⟨C, 2, none⟩ = some (.slice none 0 0) := by rw [HLv1w.out.cell]; rfl
      have c1 : v1w.cell? ⟨w.heap.size, 1, none⟩ = some (it (K1 : Int)) := by rw [HXv1w.out.cell]; rfl
      have d1 : v1w.cell? ⟨w.heap.size + 1, 1, none⟩ = some (it (T1 : Int)) := by rw [HYv1w.out.cell]; rfl
      have l3 : v1w.cell? ⟨C, 3, none⟩ = some (it (K1 : Int)) := by rw [HLv1w.out.cell]; rfl
      have l4 : v1w.cell? ⟨C, 4, none⟩ = some (it (T1 : Int)) := by rw [HLv1w.out.cell]; rfl
      have l5 : v1w.cell? ⟨C, 5, none⟩ = some (.slice none 0 0) := by rw [HLv1w.out.cell]; rfl
      have c2 : v1w.cell? ⟨w.heap.size, 2, none⟩ = some (it (K2 : Int)) := by rw [HXv1w.out.cell]; rfl
      have d2 : v1w.cell? ⟨w.heap.size + 1, 2, none⟩ = some (it (T2 : Int)) := by rw [HYv1w.out.cell]; rfl
      have l6 : v1w.cell? ⟨C, 6, none⟩ = some (it (K2 : Int)) := by rw [HLv1w.out.cell]; rfl
      have l7 : v1w.cell? ⟨C, 7, none⟩ = some (it (T2 : Int)) := by rw [HLv1w.out.cell]; rfl
      have l8 : v1w.cell? ⟨C, 8, none⟩ = some (.slice none 0 0) := by rw [HLv1w.out.cell]; rfl
      go_wp2_with fail
      refine (HC.out _).mono ?_
      rintro e v2w ⟨rfl, hb2⟩
      have HXv2w := Lib.hid (HXv1w.out.below hb2)
      have HYv2w := Lib.hid (HYv1w.out.below hb2)
      have HLv2w := Lib.hid (HLv1w.out.below hb2)
      have HB2 := Lib.hid (HB1.out.trans (hb2.mono HB1.out.size))
      clear c0 d0 c1 d1 c2 d2 l0 l1 l2 l3 l4 l5 l6 l7 l8 hb2
      have c0 : v2w.cell? ⟨w.heap.size, 0, none⟩ = some (it (K0 : Int)) := by rw [HXv2w.out.cell]; rfl
      have d0 : v2w.cell? ⟨w.heap.size + 1, 0, none⟩ = some (it (T0 : Int)) := by rw [HYv2w.out.cell]; rfl
      have l0 : v2w.cell? ⟨C, 0, none⟩ = some (it (K0 : Int)) := by rw [HLv2w.out.cell]; rfl
      have l1 : v2w.cell? ⟨C, 1, none⟩ = some (it (T0 : Int)) := by rw [HLv2w.out.cell]; rfl
      have l2 : v2w.cell? ⟨C, 2, none⟩ = some (.slice none 0 0) := by rw [HLv2w.out.cell]; rfl
      have c1 : v2w.cell? ⟨w.heap.size, 1, none⟩ = some (it (K1 : Int)) := by rw [HXv2w.out.cell]; rfl
      have d1 : v2w.cell? ⟨w.heap.size + 1, 1, none⟩ = some (it (T1 : Int)) := by rw [HYv2w.out.cell]; rfl
      have l3 : v2w.cell? ⟨C, 3, none⟩ = some (it (K1 : Int)) := by rw [HLv2w.out.cell]; rfl
      have l4 : v2w.cell? ⟨C, 4, none⟩ = some (it (T1 : Int)) := by rw [HLv2w.out.cell]; rfl
      have l5 : v2w.cell? ⟨C, 5, none⟩ = some (.slice none 0 0) := by rw [HLv2w.out.cell]; rfl
      have c2 : v2w.cell? ⟨w.heap.size, 2, none⟩ = some (it (K2 : Int)) := by rw [HXv2w.out.cell]; rfl
      have d2 : v2w.cell? ⟨w.heap.size + 1, 2, none⟩ = some (it (T2 : Int)) := by rw [HYv2w.out.cell]; rfl
      have l6 : v2w.cell? ⟨C, 6, none⟩ = some (it (K2 : Int)) := by rw [HLv2w.out.cell]; rfl
      have l7 : v2w.cell? ⟨C, 7, none⟩ = some (it (T2 : Int)) := by rw [HLv2w.out.cell]; rfl
      have l8 : v2w.cell? ⟨C, 8, none⟩ = some (.slice none 0 0) := by rw [HLv2w.out.cell]; rfl
      go_wp2_with fail
      refine (HD.out _).mono ?_
      rintro e v3w ⟨rfl, hb3⟩
      have HXv3w := Lib.hid (HXv2w.out.below hb3)
      have HYv3w := Lib.hid (HYv2w.out.below hb3)
      have HLv3w := Lib.hid (HLv2w.out.below hb3)
      have HB3 := Lib.hid (HB2.out.trans (hb3.mono HB2.out.size))
      clear c0 d0 c1 d1 c2 d2 l0 l1 l2 l3 l4 l5 l6 l7 l8 hb3
      have c0 : v3w.cell? ⟨w.heap.size, 0, none⟩ = some (it (K0 : Int)) := by rw [HXv3w.out.cell]; rfl
      have d0 : v3w.cell? ⟨w.heap.size + 1, 0, none⟩ = some (it (T0 : Int)) := by rw [HYv3w.out.cell]; rfl
      have l0 : v3w.cell? ⟨C, 0, none⟩ = some (it (K0 : Int)) := by rw [HLv3w.out.cell]; rfl
      have l1 : v3w.cell? ⟨C, 1, none⟩ = some (it (T0 : Int)) := by rw [HLv3w.out.cell]; rfl
      have l2 : v3w.cell? ⟨C, 2, none⟩ = some (.slice none 0 0) := by rw [HLv3w.out.cell]; rfl
      have c1 : v3w.cell? ⟨w.heap.size, 1, none⟩ = some (it (K1 : Int)) := by rw [HXv3w.out.cell]; rfl
      have d1 : v3w.cell? ⟨w.heap.size + 1, 1, none⟩ = some (it (T1 : Int)) := by rw [HYv3w.out.cell]; rfl
      have l3 : v3w.cell? ⟨C, 3, none⟩ = some (it (K1 : Int)) := by rw [HLv3w.out.cell]; rfl
      have l4 : v3w.cell? ⟨C, 4, none⟩ = some (it (T1 : Int)) := by rw [HLv3w.out.cell]; rfl
      have l5 : v3w.cell? ⟨C, 5, none⟩ = some (.slice none 0 0) := by rw [HLv3w.out.cell]; rfl
      have c2 : v3w.cell? ⟨w.heap.size, 2, none⟩ = some (it (K2 : Int)) := by rw [HXv3w.out.cell]; rfl
      have d2 : v3w.cell? ⟨w.heap.size + 1, 2, none⟩ = some (it (T2 : Int)) := by rw [HYv3w.out.cell]; rfl
      have l6 : v3w.cell? ⟨C, 6, none⟩ = some (it (K2 : Int)) := by rw [HLv3w.out.cell]; rfl
      have l7 : v3w.cell? ⟨C, 7, none⟩ = some (it (T2 : Int)) := by rw [HLv3w.out.cell]; rfl
      have l8 : v3w.cell? ⟨C, 8, none⟩ = some (.slice none 0 0) := by rw [HLv3w.out.cell]; rfl
      obtain ⟨vs, hvs⟩ : ∃ v, v = (decide (K0 = K1) && decide (T0 = T1)) := ⟨_, rfl⟩
      rw [← hvs] at HF2
      go_upto_region 19 with fail
      go_cut [16] from 77 to 88 (fun c wx => c = .bool vs ∧ v3w = wx)
      case first =>
        by_cases g : K0 = K1
        · by_cases g2 : T0 = T1
          · have r1 : ((K0 : Int) == (K1 : Int)) = true := by simp; omega
            have r2 : ((T0 : Int) == (T1 : Int)) = true := by simp; omega
            have r3 : vs = true := by rw [hvs]; simp [g, g2]
            clear hvs g g2
            go_wp2
            go_meet
            exact ⟨congrArg Value.bool r3.symm, rfl⟩
          · have r1 : ((K0 : Int) == (K1 : Int)) = true := by simp; omega
            have r2 : ((T0 : Int) == (T1 : Int)) = false := by simp; omega
            have r3 : vs = false := by rw [hvs]; simp [g, g2]
            clear hvs g g2
            go_wp2
            go_meet
            exact ⟨congrArg Value.bool r3.symm, rfl⟩
        · have r1 : ((K0 : Int) == (K1 : Int)) = false := by simp; omega
          have r3 : vs = false := by rw [hvs]; simp [g]
          clear hvs g
          go_wp2
          go_meet
          exact ⟨congrArg Value.bool r3.symm, rfl⟩
      case rest =>
        obtain ⟨rfl, rfl⟩ := hcut
        have hf1 := HF1.out
        have hf2 := HF2.out
        have hf3 := HF3.out
        clear hvs HF1 HF2 HF3 c0 d0 c1 d1 c2 d2 l0 l1 l2 l3 l4 l5 l6 l7 l8
        cases va <;> cases vb <;> cases vc <;> cases vd <;> cases vs <;> first | exact absurd hf1 (by decide) | exact absurd hf2 (by decide) | exact absurd hf3 (by decide) | skip
        all_goals
          clear hf1 hf2 hf3
          go_wp2
          go_ret
          exact ⟨rfl, HB3.out⟩
end Go.Proofs.Ytopnmiakljpgbaa

/-
  One call on both networks: they answer alike.
-/
import Derived.Test.YtocmgdhhlofajaaPair
namespace Go.Proofs.Ytocmgdhhlofajaa
open Go.RowKit
set_option maxRecDepth 100000 in
set_option maxHeartbeats 32000000 in
theorem does_any (n b br k : Nat) (w0 : World) (x0 x1 x2 x3 : Int) (x4 : ByteArray) (a1 : I64 x1) (a2 : I64 x2) (a3 : I64 x3) (hk : k < 100) (S Q : Nat → Prop) (s : St) (w : World) (h : P2 n b br w0 S Q s s w) (hb : Bd k s) :
    Calls Try.prog 11 #[ptr b, ptr br, .agg #[.int .i64 x0, .int .i64 x1, .int .i64 x2, .int .i64 x3, .string x4]] w fun e w' => e = .returned (.bool true) ∧ ∃ S1 Q1 s1, P2 n b br w0 S1 Q1 s1 s1 w' ∧ Bd (k + 1) s1 ∧ KP S Q S1 Q1 w w' := by
  have hal : Below w.heap.size w (w.alloc (.cells #[.int .i64 x0, .int .i64 x1, .int .i64 x2, .int .i64 x3, .string x4] 32)) := (Below.refl _ w).alloc (Nat.le_refl _) _
  have hce := ce_new w #[.int .i64 x0, .int .i64 x1, .int .i64 x2, .int .i64 x3, .string x4] 32
  have hmv := h.mv hal
  have hkp := KP.of_below (S := S) (Q := Q) hal
  have hfar1 := h.p.far (Nat.le_refl _)
  have hfar2 := h.r.far (Nat.le_refl _)
  obtain ⟨wA, hwA⟩ : ∃ wA, wA = w.alloc (.cells #[.int .i64 x0, .int .i64 x1, .int .i64 x2, .int .i64 x3, .string x4] 32) := ⟨_, rfl⟩
  rw [← hwA] at hce hmv hkp
  obtain ⟨B, hB⟩ : ∃ B, B = w.heap.size := ⟨_, rfl⟩
  rw [← hB] at hce hfar1 hfar2
  have HA := Lib.hid hmv
  have HKA := Lib.hid hkp
  have HBX := Lib.hid (show BX B #[.int .i64 x0, .int .i64 x1, .int .i64 x2, .int .i64 x3, .string x4] 32 S Q wA from ⟨hce, hfar1, hfar2⟩)
  have HWA := Lib.hid hwA
  have HBB := Lib.hid hB
  have HBD := Lib.hid hb
  have A1 := Lib.hid a1
  have A2 := Lib.hid a2
  have A3 := Lib.hid a3
  have hr0 : (x0.tmod 12).natAbs = x0.natAbs % 12 := Int.natAbs_tmod x0 12
  obtain ⟨r, hr⟩ : ∃ r, x0.tmod 12 = r := ⟨_, rfl⟩
  rw [hr] at hr0
  have hr1 : -12 < r := by omega
  have hr2 : r < 12 := by omega
  have d0 : wA.cell? ⟨B, 0, none⟩ = some (.int .i64 x0) := by rw [hce.cell]; rfl
  clear h hal hce hmv hkp hfar1 hfar2 hwA hB hb a1 a2 a3 hr0
  go_enter Try.func11, Try.ntmps11
  go_upto_region 1 with fail
  rw [show w.alloc (.cells #[.int .i64 x0, .int .i64 x1, .int .i64 x2, .int .i64 x3, .string x4] 32) = wA from HWA.out.symm, ← HBB.out]
  go_upto_if 21 with fail
  go_cut [7] from 20 to 23 (fun kv wx => ∃ kk : Int, kv = .int .i64 kk ∧ 0 ≤ kk ∧ kk < 12 ∧ wA = wx)
  case first =>
    by_cases g : r < 0
    · go_wp2
      go_meet
      case rel => exact ⟨_, rfl, by omega, by omega, rfl⟩
    · have g' : decide (r < 0) = false := by simpa using g
      go_wp2
      go_meet
      case rel => exact ⟨_, rfl, by omega, by omega, rfl⟩
  case rest =>
    obtain ⟨kk, rfl, hk0, hk12, rfl⟩ := hcut
    have HBD1 := Lib.hid (show BX B #[.int .i64 x0, .int .i64 x1, .int .i64 x2, .int .i64 x3, .string x4] 32 S Q wA.drew from HBX.out)
    have HAD := Lib.hid (HA.out.mv ((Below.refl _ wA).drew))
    obtain ⟨c1, c2, c3, c4⟩ := HBX.out.five
    obtain ⟨d1, d2, d3, d4⟩ := HBD1.out.five
    clear hr hr1 hr2 d0
    rcases (by omega : kk = 0 ∨ kk = 1 ∨ kk = 2 ∨ kk = 3 ∨ kk = 4 ∨ kk = 5 ∨ kk = 6 ∨ kk = 7 ∨ kk = 8 ∨ kk = 9 ∨ kk = 10 ∨ kk = 11) with rfl | rfl | rfl | rfl | rfl | rfl | rfl | rfl | rfl | rfl | rfl | rfl
    · obtain ⟨v, hv⟩ : ∃ v, v = !full s := ⟨_, rfl⟩
      have hT := two_send (n := n) (b := b) (br := br) (w0 := w0) HBD.out (by omega) x1 x2 x4
      rw [← hv] at hT
      have HT := Lib.hid hT
      have HBN := Lib.hid (bd_send HBD.out x1 x2 x4 A2.out)
      clear hT hv c1 c2 c3 c4
      go_wp2
      go_region_held3 (fun w' => w'.cell? ⟨B, 1, none⟩ = some (.int .i64 x1) ∧ w'.cell? ⟨B, 2, none⟩ = some (.int .i64 x2) ∧ w'.cell? ⟨B, 3, none⟩ = some (.int .i64 x3) ∧ w'.cell? ⟨B, 4, none⟩ = some (.string x4)) (first | with_reducible exact ⟨d1, d2, d3, d4⟩ | with_reducible exact ⟨e1, e2, e3, e4⟩ | with_reducible exact ⟨g1, g2, g3, g4⟩)
        (first
        | (go_at_call 20; (first | (refine (HT.out.l _ _ _ _ HH.out).mono ?_; rintro e w8 ⟨rfl, SL, hh, kq⟩; have HF := Lib.hid hh; have KF := Lib.hid (KK.out.trans kq); have GX := Lib.hid (EX.out.step kq); obtain ⟨g1, g2, g3, g4⟩ := GX.out.five; clear hh kq) | (refine (HT.out.l _ _ _ _ HAD.out).mono ?_; rintro e w7 ⟨rfl, SL, hh, kq⟩; have HH := Lib.hid hh; have KK := Lib.hid kq; have EX := Lib.hid (HBD1.out.step kq); obtain ⟨e1, e2, e3, e4⟩ := EX.out.five; clear hh kq)))
        | (go_at_call 34; (first | (refine (HT.out.r _ _ _ _ HH.out).mono ?_; rintro e w8 ⟨rfl, QR, hh, kq⟩; have HF := Lib.hid hh; have KF := Lib.hid (KK.out.trans kq); have GX := Lib.hid (EX.out.step kq); obtain ⟨g1, g2, g3, g4⟩ := GX.out.five; clear hh kq) | (refine (HT.out.r _ _ _ _ HAD.out).mono ?_; rintro e w7 ⟨rfl, QR, hh, kq⟩; have HH := Lib.hid hh; have KK := Lib.hid kq; have EX := Lib.hid (HBD1.out.step kq); obtain ⟨e1, e2, e3, e4⟩ := EX.out.five; clear hh kq)))
        | fail)
      all_goals
        go_wp2
        go_ret
        exact ⟨rfl, SL, QR, _, HF.out, HBN.out, HKA.out.trans ((KP.of_below ((Below.refl _ wA).drew)).trans KF.out)⟩
    · obtain ⟨v, hv⟩ : ∃ v, v = !full s := ⟨_, rfl⟩
      have hT := two_send (n := n) (b := b) (br := br) (w0 := w0) HBD.out (by omega) x1 x2 x4
      rw [← hv] at hT
      have HT := Lib.hid hT
      have HBN := Lib.hid (bd_send HBD.out x1 x2 x4 A2.out)
      clear hT hv c1 c2 c3 c4
      go_wp2
      go_region_held3 (fun w' => w'.cell? ⟨B, 1, none⟩ = some (.int .i64 x1) ∧ w'.cell? ⟨B, 2, none⟩ = some (.int .i64 x2) ∧ w'.cell? ⟨B, 3, none⟩ = some (.int .i64 x3) ∧ w'.cell? ⟨B, 4, none⟩ = some (.string x4)) (first | with_reducible exact ⟨d1, d2, d3, d4⟩ | with_reducible exact ⟨e1, e2, e3, e4⟩ | with_reducible exact ⟨g1, g2, g3, g4⟩)
        (first
        | (go_at_call 20; (first | (refine (HT.out.l _ _ _ _ HH.out).mono ?_; rintro e w8 ⟨rfl, SL, hh, kq⟩; have HF := Lib.hid hh; have KF := Lib.hid (KK.out.trans kq); have GX := Lib.hid (EX.out.step kq); obtain ⟨g1, g2, g3, g4⟩ := GX.out.five; clear hh kq) | (refine (HT.out.l _ _ _ _ HAD.out).mono ?_; rintro e w7 ⟨rfl, SL, hh, kq⟩; have HH := Lib.hid hh; have KK := Lib.hid kq; have EX := Lib.hid (HBD1.out.step kq); obtain ⟨e1, e2, e3, e4⟩ := EX.out.five; clear hh kq)))
        | (go_at_call 34; (first | (refine (HT.out.r _ _ _ _ HH.out).mono ?_; rintro e w8 ⟨rfl, QR, hh, kq⟩; have HF := Lib.hid hh; have KF := Lib.hid (KK.out.trans kq); have GX := Lib.hid (EX.out.step kq); obtain ⟨g1, g2, g3, g4⟩ := GX.out.five; clear hh kq) | (refine (HT.out.r _ _ _ _ HAD.out).mono ?_; rintro e w7 ⟨rfl, QR, hh, kq⟩; have HH := Lib.hid hh; have KK := Lib.hid kq; have EX := Lib.hid (HBD1.out.step kq); obtain ⟨e1, e2, e3, e4⟩ := EX.out.five; clear hh kq)))
        | fail)
      all_goals
        go_wp2
        go_ret
        exact ⟨rfl, SL, QR, _, HF.out, HBN.out, HKA.out.trans ((KP.of_below ((Below.refl _ wA).drew)).trans KF.out)⟩
    · obtain ⟨v1, v2, hT⟩ := two_open (n := n) (b := b) (br := br) (w0 := w0) HBD.out (by omega) x1 x2
      have HT := Lib.hid hT
      have HBN := Lib.hid (bd_open HBD.out x1 x2 A1.out A2.out)
      clear hT d1 d2 d3 d4
      go_wp2_with fail
      refine (HT.out.l _ _ _ _ HA.out).mono ?_
      rintro e w7 ⟨rfl, SL, hh, kq⟩
      have HH := Lib.hid hh
      have KK := Lib.hid kq
      have EX := Lib.hid (HBX.out.step kq)
      obtain ⟨e1, e2, e3, e4⟩ := EX.out.five
      clear hh kq
      go_wp2_with fail
      refine (HT.out.r _ _ _ _ HH.out).mono ?_
      rintro e w8 ⟨rfl, QR, hh, kq⟩
      have HF := Lib.hid hh
      have KF := Lib.hid (KK.out.trans kq)
      clear hh kq
      go_wp2
      go_ret
      exact ⟨rfl, SL, QR, _, HF.out, HBN.out, HKA.out.trans KF.out⟩
    · obtain ⟨v, hv⟩ : ∃ v, v = writeB s x3 x1 := ⟨_, rfl⟩
      have hT := two_write (n := n) (b := b) (br := br) (w0 := w0) HBD.out (by omega) x3 x1 x4
      rw [← hv] at hT
      have HT := Lib.hid hT
      have HBN := Lib.hid (bd_write HBD.out x3 x1 x4)
      clear hT hv c1 c2 c3 c4
      go_wp2
      go_region_held3 (fun w' => w'.cell? ⟨B, 1, none⟩ = some (.int .i64 x1) ∧ w'.cell? ⟨B, 2, none⟩ = some (.int .i64 x2) ∧ w'.cell? ⟨B, 3, none⟩ = some (.int .i64 x3) ∧ w'.cell? ⟨B, 4, none⟩ = some (.string x4)) (first | with_reducible exact ⟨d1, d2, d3, d4⟩ | with_reducible exact ⟨e1, e2, e3, e4⟩ | with_reducible exact ⟨g1, g2, g3, g4⟩)
        (first
        | (go_at_call 22; (first | (refine (HT.out.l _ _ _ _ HH.out).mono ?_; rintro e w8 ⟨rfl, SL, hh, kq⟩; have HF := Lib.hid hh; have KF := Lib.hid (KK.out.trans kq); have GX := Lib.hid (EX.out.step kq); obtain ⟨g1, g2, g3, g4⟩ := GX.out.five; clear hh kq) | (refine (HT.out.l _ _ _ _ HAD.out).mono ?_; rintro e w7 ⟨rfl, SL, hh, kq⟩; have HH := Lib.hid hh; have KK := Lib.hid kq; have EX := Lib.hid (HBD1.out.step kq); obtain ⟨e1, e2, e3, e4⟩ := EX.out.five; clear hh kq)))
        | (go_at_call 28; (first | (refine (HT.out.r _ _ _ _ HH.out).mono ?_; rintro e w8 ⟨rfl, QR, hh, kq⟩; have HF := Lib.hid hh; have KF := Lib.hid (KK.out.trans kq); have GX := Lib.hid (EX.out.step kq); obtain ⟨g1, g2, g3, g4⟩ := GX.out.five; clear hh kq) | (refine (HT.out.r _ _ _ _ HAD.out).mono ?_; rintro e w7 ⟨rfl, QR, hh, kq⟩; have HH := Lib.hid hh; have KK := Lib.hid kq; have EX := Lib.hid (HBD1.out.step kq); obtain ⟨e1, e2, e3, e4⟩ := EX.out.five; clear hh kq)))
        | fail)
      all_goals
        go_wp2
        go_ret
        exact ⟨rfl, SL, QR, _, HF.out, HBN.out, HKA.out.trans ((KP.of_below ((Below.refl _ wA).drew)).trans KF.out)⟩
    · obtain ⟨v, hv⟩ : ∃ v, v = writeB s x3 x1 := ⟨_, rfl⟩
      have hT := two_write (n := n) (b := b) (br := br) (w0 := w0) HBD.out (by omega) x3 x1 x4
      rw [← hv] at hT
      have HT := Lib.hid hT
      have HBN := Lib.hid (bd_write HBD.out x3 x1 x4)
      clear hT hv c1 c2 c3 c4
      go_wp2
      go_region_held3 (fun w' => w'.cell? ⟨B, 1, none⟩ = some (.int .i64 x1) ∧ w'.cell? ⟨B, 2, none⟩ = some (.int .i64 x2) ∧ w'.cell? ⟨B, 3, none⟩ = some (.int .i64 x3) ∧ w'.cell? ⟨B, 4, none⟩ = some (.string x4)) (first | with_reducible exact ⟨d1, d2, d3, d4⟩ | with_reducible exact ⟨e1, e2, e3, e4⟩ | with_reducible exact ⟨g1, g2, g3, g4⟩)
        (first
        | (go_at_call 22; (first | (refine (HT.out.l _ _ _ _ HH.out).mono ?_; rintro e w8 ⟨rfl, SL, hh, kq⟩; have HF := Lib.hid hh; have KF := Lib.hid (KK.out.trans kq); have GX := Lib.hid (EX.out.step kq); obtain ⟨g1, g2, g3, g4⟩ := GX.out.five; clear hh kq) | (refine (HT.out.l _ _ _ _ HAD.out).mono ?_; rintro e w7 ⟨rfl, SL, hh, kq⟩; have HH := Lib.hid hh; have KK := Lib.hid kq; have EX := Lib.hid (HBD1.out.step kq); obtain ⟨e1, e2, e3, e4⟩ := EX.out.five; clear hh kq)))
        | (go_at_call 28; (first | (refine (HT.out.r _ _ _ _ HH.out).mono ?_; rintro e w8 ⟨rfl, QR, hh, kq⟩; have HF := Lib.hid hh; have KF := Lib.hid (KK.out.trans kq); have GX := Lib.hid (EX.out.step kq); obtain ⟨g1, g2, g3, g4⟩ := GX.out.five; clear hh kq) | (refine (HT.out.r _ _ _ _ HAD.out).mono ?_; rintro e w7 ⟨rfl, QR, hh, kq⟩; have HH := Lib.hid hh; have KK := Lib.hid kq; have EX := Lib.hid (HBD1.out.step kq); obtain ⟨e1, e2, e3, e4⟩ := EX.out.five; clear hh kq)))
        | fail)
      all_goals
        go_wp2
        go_ret
        exact ⟨rfl, SL, QR, _, HF.out, HBN.out, HKA.out.trans ((KP.of_below ((Below.refl _ wA).drew)).trans KF.out)⟩
    · obtain ⟨v, hv⟩ : ∃ v, v = (findL s.lks x3).isSome := ⟨_, rfl⟩
      have hT := two_close (n := n) (b := b) (br := br) (w0 := w0) HBD.out (by omega) x3
      rw [← hv] at hT
      have HT := Lib.hid hT
      have HBN := Lib.hid (bd_close HBD.out x3)
      clear hT hv c1 c2 c3 c4
      go_wp2
      go_region_held3 (fun w' => w'.cell? ⟨B, 1, none⟩ = some (.int .i64 x1) ∧ w'.cell? ⟨B, 2, none⟩ = some (.int .i64 x2) ∧ w'.cell? ⟨B, 3, none⟩ = some (.int .i64 x3) ∧ w'.cell? ⟨B, 4, none⟩ = some (.string x4)) (first | with_reducible exact ⟨d1, d2, d3, d4⟩ | with_reducible exact ⟨e1, e2, e3, e4⟩ | with_reducible exact ⟨g1, g2, g3, g4⟩)
        (first
        | (go_at_call 23; (first | (refine (HT.out.l _ _ _ _ HH.out).mono ?_; rintro e w8 ⟨rfl, SL, hh, kq⟩; have HF := Lib.hid hh; have KF := Lib.hid (KK.out.trans kq); have GX := Lib.hid (EX.out.step kq); obtain ⟨g1, g2, g3, g4⟩ := GX.out.five; clear hh kq) | (refine (HT.out.l _ _ _ _ HAD.out).mono ?_; rintro e w7 ⟨rfl, SL, hh, kq⟩; have HH := Lib.hid hh; have KK := Lib.hid kq; have EX := Lib.hid (HBD1.out.step kq); obtain ⟨e1, e2, e3, e4⟩ := EX.out.five; clear hh kq)))
        | (go_at_call 29; (first | (refine (HT.out.r _ _ _ _ HH.out).mono ?_; rintro e w8 ⟨rfl, QR, hh, kq⟩; have HF := Lib.hid hh; have KF := Lib.hid (KK.out.trans kq); have GX := Lib.hid (EX.out.step kq); obtain ⟨g1, g2, g3, g4⟩ := GX.out.five; clear hh kq) | (refine (HT.out.r _ _ _ _ HAD.out).mono ?_; rintro e w7 ⟨rfl, QR, hh, kq⟩; have HH := Lib.hid hh; have KK := Lib.hid kq; have EX := Lib.hid (HBD1.out.step kq); obtain ⟨e1, e2, e3, e4⟩ := EX.out.five; clear hh kq)))
        | fail)
      all_goals
        go_wp2
        go_ret
        exact ⟨rfl, SL, QR, _, HF.out, HBN.out, HKA.out.trans ((KP.of_below ((Below.refl _ wA).drew)).trans KF.out)⟩
    · obtain ⟨v, hv⟩ : ∃ v, v = (loseN s x1 : Int) := ⟨_, rfl⟩
      have hT := two_lose (n := n) (b := b) (br := br) (w0 := w0) HBD.out (by omega) x1
      rw [← hv] at hT
      have HT := Lib.hid hT
      have HBN := Lib.hid (bd_lose HBD.out x1 (by omega))
      clear hT hv c1 c2 c3 c4
      go_wp2
      go_region_held3 (fun w' => w'.cell? ⟨B, 1, none⟩ = some (.int .i64 x1) ∧ w'.cell? ⟨B, 2, none⟩ = some (.int .i64 x2) ∧ w'.cell? ⟨B, 3, none⟩ = some (.int .i64 x3) ∧ w'.cell? ⟨B, 4, none⟩ = some (.string x4)) (first | with_reducible exact ⟨d1, d2, d3, d4⟩ | with_reducible exact ⟨e1, e2, e3, e4⟩ | with_reducible exact ⟨g1, g2, g3, g4⟩)
        (first
        | (go_at_call 21; (first | (refine (HT.out.l _ _ _ _ HH.out).mono ?_; rintro e w8 ⟨rfl, SL, hh, kq⟩; have HF := Lib.hid hh; have KF := Lib.hid (KK.out.trans kq); have GX := Lib.hid (EX.out.step kq); obtain ⟨g1, g2, g3, g4⟩ := GX.out.five; clear hh kq) | (refine (HT.out.l _ _ _ _ HAD.out).mono ?_; rintro e w7 ⟨rfl, SL, hh, kq⟩; have HH := Lib.hid hh; have KK := Lib.hid kq; have EX := Lib.hid (HBD1.out.step kq); obtain ⟨e1, e2, e3, e4⟩ := EX.out.five; clear hh kq)))
        | (go_at_call 30; (first | (refine (HT.out.r _ _ _ _ HH.out).mono ?_; rintro e w8 ⟨rfl, QR, hh, kq⟩; have HF := Lib.hid hh; have KF := Lib.hid (KK.out.trans kq); have GX := Lib.hid (EX.out.step kq); obtain ⟨g1, g2, g3, g4⟩ := GX.out.five; clear hh kq) | (refine (HT.out.r _ _ _ _ HAD.out).mono ?_; rintro e w7 ⟨rfl, QR, hh, kq⟩; have HH := Lib.hid hh; have KK := Lib.hid kq; have EX := Lib.hid (HBD1.out.step kq); obtain ⟨e1, e2, e3, e4⟩ := EX.out.five; clear hh kq)))
        | fail)
      all_goals
        go_wp2
        go_ret
        exact ⟨rfl, SL, QR, _, HF.out, HBN.out, HKA.out.trans ((KP.of_below ((Below.refl _ wA).drew)).trans KF.out)⟩
    · obtain ⟨y, hy⟩ : ∃ y, y = (pick (ready s) x3).getD zi := ⟨_, rfl⟩
      obtain ⟨v, hv⟩ : ∃ v, v = (pick (ready s) x3).isSome := ⟨_, rfl⟩
      have hT := two_take (n := n) (b := b) (br := br) (w0 := w0) HBD.out (by omega) x3 A3.out
      rw [← hy, ← hv] at hT
      have HT := Lib.hid hT
      have HBN := Lib.hid (bd_take HBD.out (pick (ready s) x3))
      clear hT hy hv d1 d2 d3 d4
      go_wp2_with fail
      refine (HT.out.l _ _ _ _ HA.out).mono ?_
      rintro e w7 ⟨rfl, SL, hh, kq⟩
      have hal := (Below.refl w7.heap.size w7).alloc (Nat.le_refl _) (.cells (ic y).toArray 52)
      have HH := Lib.hid (hh.mv hal)
      have hkk := kq.trans (KP.of_below hal)
      have KK := Lib.hid hkk
      have EX := Lib.hid (HBX.out.step hkk)
      have HY := Lib.hid (show BX w7.heap.size (ic y).toArray 52 SL Q (w7.alloc (.cells (ic y).toArray 52)) from ⟨ce_new _ _ _, hh.p.far (Nat.le_refl _), hh.r.far (Nat.le_refl _)⟩)
      obtain ⟨e1, e2, e3, e4⟩ := EX.out.five
      go_upto_region 19 with fail
      obtain ⟨w9, hw9⟩ : ∃ w9, w9 = w7.alloc (.cells (ic y).toArray 52) := ⟨_, rfl⟩
      obtain ⟨C, hC⟩ : ∃ C, C = w7.heap.size := ⟨_, rfl⟩
      rw [← hC] at HY ⊢
      rw [← hw9] at HH KK EX HY e1 e2 e3 e4
      rw [show w7.alloc (.cells #[.int .i64 y.num, .int .i64 y.kind, .int .i64 y.frm, .int .i64 y.dst, .int .i64 y.conn, .string y.body] 52) = w9 from hw9.symm]
      clear hh kq hal hkk hw9 hC
      go_wp2_with fail
      refine (HT.out.r _ _ _ _ HH.out).mono ?_
      rintro e w8 ⟨rfl, QR, hh, kq⟩
      have hal := (Below.refl w8.heap.size w8).alloc (Nat.le_refl _) (.cells (ic y).toArray 52)
      have HF := Lib.hid (hh.mv hal)
      have KF := Lib.hid (KK.out.trans (kq.trans (KP.of_below hal)))
      have hY2 := HY.out.step kq
      obtain ⟨y0, y1, y2, y3, y4, y5⟩ := c6 hY2.1
      have hCl := hY2.1.lt
      have hCn : C ≠ w8.heap.size := by omega
      clear hh kq hal hY2
      cases v with
      | true =>
        go_wp2
        go_ret
        exact ⟨rfl, SL, QR, _, HF.out, HBN.out, HKA.out.trans KF.out⟩
      | false =>
        go_wp2
        go_ret
        exact ⟨rfl, SL, QR, _, HF.out, HBN.out, HKA.out.trans KF.out⟩
    · obtain ⟨y, hy⟩ : ∃ y, y = (pick (ready s) x3).getD zi := ⟨_, rfl⟩
      obtain ⟨v, hv⟩ : ∃ v, v = (pick (ready s) x3).isSome := ⟨_, rfl⟩
      have hT := two_take (n := n) (b := b) (br := br) (w0 := w0) HBD.out (by omega) x3 A3.out
      rw [← hy, ← hv] at hT
      have HT := Lib.hid hT
      have HBN := Lib.hid (bd_take HBD.out (pick (ready s) x3))
      clear hT hy hv d1 d2 d3 d4
      go_wp2_with fail
      refine (HT.out.l _ _ _ _ HA.out).mono ?_
      rintro e w7 ⟨rfl, SL, hh, kq⟩
      have hal := (Below.refl w7.heap.size w7).alloc (Nat.le_refl _) (.cells (ic y).toArray 52)
      have HH := Lib.hid (hh.mv hal)
      have hkk := kq.trans (KP.of_below hal)
      have KK := Lib.hid hkk
      have EX := Lib.hid (HBX.out.step hkk)
      have HY := Lib.hid (show BX w7.heap.size (ic y).toArray 52 SL Q (w7.alloc (.cells (ic y).toArray 52)) from ⟨ce_new _ _ _, hh.p.far (Nat.le_refl _), hh.r.far (Nat.le_refl _)⟩)
      obtain ⟨e1, e2, e3, e4⟩ := EX.out.five
      go_upto_region 19 with fail
      obtain ⟨w9, hw9⟩ : ∃ w9, w9 = w7.alloc (.cells (ic y).toArray 52) := ⟨_, rfl⟩
      obtain ⟨C, hC⟩ : ∃ C, C = w7.heap.size := ⟨_, rfl⟩
      rw [← hC] at HY ⊢
      rw [← hw9] at HH KK EX HY e1 e2 e3 e4
      rw [show w7.alloc (.cells #[.int .i64 y.num, .int .i64 y.kind, .int .i64 y.frm, .int .i64 y.dst, .int .i64 y.conn, .string y.body] 52) = w9 from hw9.symm]
      clear hh kq hal hkk hw9 hC
      go_wp2_with fail
      refine (HT.out.r _ _ _ _ HH.out).mono ?_
      rintro e w8 ⟨rfl, QR, hh, kq⟩
      have hal := (Below.refl w8.heap.size w8).alloc (Nat.le_refl _) (.cells (ic y).toArray 52)
      have HF := Lib.hid (hh.mv hal)
      have KF := Lib.hid (KK.out.trans (kq.trans (KP.of_below hal)))
      have hY2 := HY.out.step kq
      obtain ⟨y0, y1, y2, y3, y4, y5⟩ := c6 hY2.1
      have hCl := hY2.1.lt
      have hCn : C ≠ w8.heap.size := by omega
      clear hh kq hal hY2
      cases v with
      | true =>
        go_wp2
        go_ret
        exact ⟨rfl, SL, QR, _, HF.out, HBN.out, HKA.out.trans KF.out⟩
      | false =>
        go_wp2
        go_ret
        exact ⟨rfl, SL, QR, _, HF.out, HBN.out, HKA.out.trans KF.out⟩
    · obtain ⟨v, hv⟩ : ∃ v, v = (pick (dgs s) x3).isSome := ⟨_, rfl⟩
      have hT := two_drop (n := n) (b := b) (br := br) (w0 := w0) HBD.out (by omega) x3 A3.out
      rw [← hv] at hT
      have HT := Lib.hid hT
      have HBN := Lib.hid (bd_take HBD.out (pick (dgs s) x3))
      clear hT hv c1 c2 c3 c4
      go_wp2
      go_region_held3 (fun w' => w'.cell? ⟨B, 1, none⟩ = some (.int .i64 x1) ∧ w'.cell? ⟨B, 2, none⟩ = some (.int .i64 x2) ∧ w'.cell? ⟨B, 3, none⟩ = some (.int .i64 x3) ∧ w'.cell? ⟨B, 4, none⟩ = some (.string x4)) (first | with_reducible exact ⟨d1, d2, d3, d4⟩ | with_reducible exact ⟨e1, e2, e3, e4⟩ | with_reducible exact ⟨g1, g2, g3, g4⟩)
        (first
        | (go_at_call 26; (first | (refine (HT.out.l _ _ _ _ HH.out).mono ?_; rintro e w8 ⟨rfl, SL, hh, kq⟩; have HF := Lib.hid hh; have KF := Lib.hid (KK.out.trans kq); have GX := Lib.hid (EX.out.step kq); obtain ⟨g1, g2, g3, g4⟩ := GX.out.five; clear hh kq) | (refine (HT.out.l _ _ _ _ HAD.out).mono ?_; rintro e w7 ⟨rfl, SL, hh, kq⟩; have HH := Lib.hid hh; have KK := Lib.hid kq; have EX := Lib.hid (HBD1.out.step kq); obtain ⟨e1, e2, e3, e4⟩ := EX.out.five; clear hh kq)))
        | (go_at_call 32; (first | (refine (HT.out.r _ _ _ _ HH.out).mono ?_; rintro e w8 ⟨rfl, QR, hh, kq⟩; have HF := Lib.hid hh; have KF := Lib.hid (KK.out.trans kq); have GX := Lib.hid (EX.out.step kq); obtain ⟨g1, g2, g3, g4⟩ := GX.out.five; clear hh kq) | (refine (HT.out.r _ _ _ _ HAD.out).mono ?_; rintro e w7 ⟨rfl, QR, hh, kq⟩; have HH := Lib.hid hh; have KK := Lib.hid kq; have EX := Lib.hid (HBD1.out.step kq); obtain ⟨e1, e2, e3, e4⟩ := EX.out.five; clear hh kq)))
        | fail)
      all_goals
        go_wp2
        go_ret
        exact ⟨rfl, SL, QR, _, HF.out, HBN.out, HKA.out.trans ((KP.of_below ((Below.refl _ wA).drew)).trans KF.out)⟩
    · obtain ⟨v, hv⟩ : ∃ v, v = dblB s x3 := ⟨_, rfl⟩
      have hT := two_double (n := n) (b := b) (br := br) (w0 := w0) HBD.out (by omega) x3 A3.out
      rw [← hv] at hT
      have HT := Lib.hid hT
      have HBN := Lib.hid (bd_double HBD.out x3)
      clear hT hv c1 c2 c3 c4
      go_wp2
      go_region_held3 (fun w' => w'.cell? ⟨B, 1, none⟩ = some (.int .i64 x1) ∧ w'.cell? ⟨B, 2, none⟩ = some (.int .i64 x2) ∧ w'.cell? ⟨B, 3, none⟩ = some (.int .i64 x3) ∧ w'.cell? ⟨B, 4, none⟩ = some (.string x4)) (first | with_reducible exact ⟨d1, d2, d3, d4⟩ | with_reducible exact ⟨e1, e2, e3, e4⟩ | with_reducible exact ⟨g1, g2, g3, g4⟩)
        (first
        | (go_at_call 24; (first | (refine (HT.out.l _ _ _ _ HH.out).mono ?_; rintro e w8 ⟨rfl, SL, hh, kq⟩; have HF := Lib.hid hh; have KF := Lib.hid (KK.out.trans kq); have GX := Lib.hid (EX.out.step kq); obtain ⟨g1, g2, g3, g4⟩ := GX.out.five; clear hh kq) | (refine (HT.out.l _ _ _ _ HAD.out).mono ?_; rintro e w7 ⟨rfl, SL, hh, kq⟩; have HH := Lib.hid hh; have KK := Lib.hid kq; have EX := Lib.hid (HBD1.out.step kq); obtain ⟨e1, e2, e3, e4⟩ := EX.out.five; clear hh kq)))
        | (go_at_call 33; (first | (refine (HT.out.r _ _ _ _ HH.out).mono ?_; rintro e w8 ⟨rfl, QR, hh, kq⟩; have HF := Lib.hid hh; have KF := Lib.hid (KK.out.trans kq); have GX := Lib.hid (EX.out.step kq); obtain ⟨g1, g2, g3, g4⟩ := GX.out.five; clear hh kq) | (refine (HT.out.r _ _ _ _ HAD.out).mono ?_; rintro e w7 ⟨rfl, QR, hh, kq⟩; have HH := Lib.hid hh; have KK := Lib.hid kq; have EX := Lib.hid (HBD1.out.step kq); obtain ⟨e1, e2, e3, e4⟩ := EX.out.five; clear hh kq)))
        | fail)
      all_goals
        go_wp2
        go_ret
        exact ⟨rfl, SL, QR, _, HF.out, HBN.out, HKA.out.trans ((KP.of_below ((Below.refl _ wA).drew)).trans KF.out)⟩
    · go_wp2
      go_loopw [16] (fun i wr => ∃ (j : Nat) (S1 Q1 : Nat → Prop) (s1 : St), j ≤ 40 ∧ i = .int .i64 (j : Int) ∧ P2 n b br w0 S1 Q1 s1 s1 wr ∧ KP S Q S1 Q1 w wr ∧ BX B #[.int .i64 x0, .int .i64 x1, .int .i64 x2, .int .i64 x3, .string x4] 32 S1 Q1 wr ∧ Good s1 ∧ s1.puts ≤ 200 * k + j ∧ s1.opens ≤ k) (fun i _ => 40 - (intOf i).toNat)
      case atStart => exact ⟨0, S, Q, s, by omega, rfl, HA.out, HKA.out, HBX.out, HBD.out.g, by have := HBD.out.puts; omega, HBD.out.opens⟩
      case round =>
        clear HBD1 HAD HBX HA HKA c1 c2 c3 c4 d1 d2 d3 d4
        obtain ⟨j, S1, Q1, s1, hj, rfl, hp, hkp, hbx, hg, hpu, hop⟩ := hrel
        have HBD1 := Lib.hid (show BX B #[.int .i64 x0, .int .i64 x1, .int .i64 x2, .int .i64 x3, .string x4] 32 S1 Q1 wr.drew from hbx)
        have HAD := Lib.hid (hp.mv ((Below.refl _ wr).drew))
        have HPP := Lib.hid hp
        have HKA := Lib.hid (hkp.trans (KP.of_below ((Below.refl _ wr).drew)))
        have HKP := Lib.hid hkp
        have HBX := Lib.hid hbx
        have HG := Lib.hid hg
        obtain ⟨d1, d2, d3, d4⟩ := HBD1.out.five
        have hbd : Bd (k + 1) s1 := ⟨hg, by omega, by omega⟩
        by_cases hlt : j < 40
        · have q1 : (j : Int) < 40 := by omega
          obtain ⟨v, hv⟩ : ∃ v, v = !full s1 := ⟨_, rfl⟩
          have hT := two_send (n := n) (b := b) (br := br) (w0 := w0) hbd (by omega) x1 x2 x4
          rw [← hv] at hT
          have HT := Lib.hid hT
          have hsl := send_len s1 x1 x2 x4
          have hgs := Lib.hid (good_send (f := x1) (b := x4) hg A2.out)
          have HSL := Lib.hid (show (sendS s1 x1 x2 x4).puts ≤ 200 * k + (j + 1) ∧ (sendS s1 x1 x2 x4).opens ≤ k from ⟨by omega, by omega⟩)
          clear hT hv hp hkp hbx hg hpu hop hbd hsl
          go_upto_region 29 with fail
          go_region_held3 (fun w' => w'.cell? ⟨B, 1, none⟩ = some (.int .i64 x1) ∧ w'.cell? ⟨B, 2, none⟩ = some (.int .i64 x2) ∧ w'.cell? ⟨B, 3, none⟩ = some (.int .i64 x3) ∧ w'.cell? ⟨B, 4, none⟩ = some (.string x4)) (first | with_reducible exact ⟨d1, d2, d3, d4⟩ | with_reducible exact ⟨e1, e2, e3, e4⟩ | with_reducible exact ⟨g1, g2, g3, g4⟩)
            (first
            | (go_at_call 20; (first | (refine (HT.out.l _ _ _ _ HH.out).mono ?_; rintro e w8 ⟨rfl, SL, hh, kq⟩; have HF := Lib.hid hh; have KF := Lib.hid (KK.out.trans kq); have GX := Lib.hid (EX.out.step kq); obtain ⟨g1, g2, g3, g4⟩ := GX.out.five; clear hh kq) | (refine (HT.out.l _ _ _ _ HAD.out).mono ?_; rintro e w7 ⟨rfl, SL, hh, kq⟩; have HH := Lib.hid hh; have KK := Lib.hid kq; have EX := Lib.hid (HBD1.out.step kq); obtain ⟨e1, e2, e3, e4⟩ := EX.out.five; clear hh kq)))
            | (go_at_call 34; (first | (refine (HT.out.r _ _ _ _ HH.out).mono ?_; rintro e w8 ⟨rfl, QR, hh, kq⟩; have HF := Lib.hid hh; have KF := Lib.hid (KK.out.trans kq); have GX := Lib.hid (EX.out.step kq); obtain ⟨g1, g2, g3, g4⟩ := GX.out.five; clear hh kq) | (refine (HT.out.r _ _ _ _ HAD.out).mono ?_; rintro e w7 ⟨rfl, QR, hh, kq⟩; have HH := Lib.hid hh; have KK := Lib.hid kq; have EX := Lib.hid (HBD1.out.step kq); obtain ⟨e1, e2, e3, e4⟩ := EX.out.five; clear hh kq)))
            | fail)
          all_goals
            go_wp2
            go_roundw
            case rel => exact ⟨j + 1, SL, QR, _, by omega, by go_num, HF.out, HKA.out.trans KF.out, GX.out, hgs.out, HSL.out.1, HSL.out.2⟩
            case measure => simp [intOf]; omega
        · have q1 : decide ((j : Int) < 40) = false := by simp; omega
          have HBN := Lib.hid hbd
          clear hp hkp hbx hg hpu hop hbd d1 d2 d3 d4
          go_wp2
          go_ret
          exact ⟨rfl, S1, Q1, s1, HPP.out, HBN.out, HKP.out⟩
end Go.Proofs.Ytocmgdhhlofajaa

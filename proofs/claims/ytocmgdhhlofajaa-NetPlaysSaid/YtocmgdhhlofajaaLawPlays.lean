/-
  The walk of the law NetPlays: for every list of calls it returns true; no older memory is changed.
-/
import Derived.Test.YtocmgdhhlofajaaDoes
namespace Go.Proofs.Ytocmgdhhlofajaa
open Go.RowKit
/-- Both networks at the beginning. -/
theorem p2_new {w0 w w1 w2 : World} (hb0 : Below w0.heap.size w0 w) (hp : Pn (w.heap.size ≤ ·) w.heap.size St.empty w1) (hb1 : Below w.heap.size w w1) (hr : Rn (w1.heap.size ≤ ·) w1.heap.size St.empty w2) (hb2 : Below w1.heap.size w1 w2) :
    ∃ S Q, P2 w0.heap.size w.heap.size w1.heap.size w0 S Q St.empty St.empty w2 := by
  obtain ⟨S, h1, _⟩ := NA.new hp hb1 hb0 hb0.size
  obtain ⟨Q, h2, g2⟩ := NA.new hr hb2 h1.bel h1.hn
  exact ⟨S, Q, h1.mv hb2, h2, fun k hs hq => by
    have := (h1.hS k hs).2
    have := g2 k hq
    omega⟩
set_option maxRecDepth 100000 in
set_option maxHeartbeats 32000000 in
theorem lawPlays_some (b0 off n cap : Nat) (os : Nat → OpC) (w : World) (hb : b0 < w.heap.size) (hok : ∀ k, (os k).ok) (hc : ∀ k, k < n → OpAt w b0 (off + k * 5) (os k)) :
    Calls Try.prog 3 #[.slice (some ⟨b0, off, none⟩) n cap] w fun e w' => e = .returned (.bool true) ∧ Below w.heap.size w w' := by
  have HC := Lib.hid hc
  have HOK := Lib.hid hok
  clear hc hok
  go_enter Try.func3, Try.ntmps3
  go_wp2_with fail
  refine (awake_any w).mono ?_
  rintro e wz ⟨rfl, hb0⟩
  go_wp2_with fail
  refine (new_any wz).mono ?_
  rintro e w1 ⟨rfl, hp1, hb1⟩
  have hr := pn_new w1 30 52 69 (by decide)
  have hb2 : Below w1.heap.size w1 (w1.alloc (.cells #[.slice none 0 0, .slice none 0 0, .int .i64 0, .int .i64 0] 30)) := (Below.refl _ _).alloc (Nat.le_refl _) _
  obtain ⟨S0, Q0, h2⟩ := p2_new hb0 hp1 hb1 hr hb2
  obtain ⟨b, hb'⟩ : ∃ b, b = wz.heap.size := ⟨_, rfl⟩
  obtain ⟨br, hbr⟩ : ∃ br, br = w1.heap.size := ⟨_, rfl⟩
  obtain ⟨w2, hw2⟩ : ∃ w2, w2 = w1.alloc (.cells #[.slice none 0 0, .slice none 0 0, .int .i64 0, .int .i64 0] 30) := ⟨_, rfl⟩
  rw [← hb', ← hbr, ← hw2] at h2
  have H2 := Lib.hid h2
  have HW2 := Lib.hid hw2
  have HBR := Lib.hid hbr
  rw [← hb']
  clear hp1 hb1 hr hb2 hb' hbr hw2 h2 hb0
  go_upto_region 4 with fail
  rw [show w1.alloc (.cells #[.slice none 0 0, .slice none 0 0, .int .i64 0, .int .i64 0] 30) = w2 from HW2.out.symm, ← HBR.out]
  go_wp2
  go_loopw [6] (fun i wr => ∃ (k : Nat) (S Q : Nat → Prop) (s : St), k ≤ n ∧ k ≤ 100 ∧ i = .int .i64 (k : Int) ∧ P2 w.heap.size b br w S Q s s wr ∧ Bd k s) (fun i _ => n - (intOf i).toNat)
  case atStart => exact ⟨0, S0, Q0, _, by omega, by omega, rfl, H2.out, ⟨good_empty, Nat.zero_le _, Nat.le_refl _⟩⟩
  case round =>
    clear H2
    obtain ⟨k, S, Q, s, hk, hk2, rfl, hp, hbd⟩ := hrel
    have HP := Lib.hid hp
    have HBD := Lib.hid hbd
    have hbel := hp.p.bel
    have hws := hp.p.hn
    clear hp hbd
    by_cases hlt : k < n ∧ k < 100
    · obtain ⟨hlt, hlt2⟩ := hlt
      have q1 : (k : Int) < (n : Int) := by omega
      have q2 : (k : Int) < 100 := by omega
      obtain ⟨c0, c1, c2, c3, c4⟩ := HC.out k hlt
      have c0 := (hbel.cell (p := ⟨b0, off + k * 5, none⟩) hb).trans c0
      have c1 := (hbel.cell (p := ⟨b0, off + k * 5 + 1, none⟩) hb).trans c1
      have c2 := (hbel.cell (p := ⟨b0, off + k * 5 + 2, none⟩) hb).trans c2
      have c3 := (hbel.cell (p := ⟨b0, off + k * 5 + 3, none⟩) hb).trans c3
      have c4 := (hbel.cell (p := ⟨b0, off + k * 5 + 4, none⟩) hb).trans c4
      obtain ⟨a0, a1, a2, a3⟩ := HOK.out k
      generalize (os k).kind = x0 at c0 a0
      generalize (os k).a = x1 at c1 a1
      generalize (os k).b = x2 at c2 a2
      generalize (os k).n = x3 at c3 a3
      generalize (os k).text = x4 at c4
      have A1 := Lib.hid a1
      have A2 := Lib.hid a2
      have A3 := Lib.hid a3
      clear a0 a1 a2 a3 hbel
      go_upto_region 10 with fail
      obtain ⟨wA, hwA⟩ : ∃ wA, wA = wr.alloc (.cells #[.int .i64 x0, .int .i64 x1, .int .i64 x2, .int .i64 x3, .string x4] 32) := ⟨_, rfl⟩
      rw [← hwA]
      have hbA : Below wr.heap.size wr wA := by rw [hwA]; exact (Below.refl _ _).alloc (Nat.le_refl _) _
      have hce : Ce wA wr.heap.size 32 #[.int .i64 x0, .int .i64 x1, .int .i64 x2, .int .i64 x3, .string x4] := by rw [hwA]; exact ce_new _ _ _
      have HPA := Lib.hid (HP.out.mv hbA)
      have HBX := Lib.hid (show BX wr.heap.size #[.int .i64 x0, .int .i64 x1, .int .i64 x2, .int .i64 x3, .string x4] 32 S Q wA from ⟨hce, HP.out.p.far (Nat.le_refl _), HP.out.r.far (Nat.le_refl _)⟩)
      obtain ⟨B, hB⟩ : ∃ B, B = wr.heap.size := ⟨_, rfl⟩
      rw [← hB] at HBX hce ⊢
      have d0 : wA.cell? ⟨B, 0, none⟩ = some (.int .i64 x0) := by rw [hce.cell]; rfl
      obtain ⟨d1, d2, d3, d4⟩ := HBX.out.five
      clear hwA hbA hce hB c0 c1 c2 c3 c4
      go_wp2_with fail
      refine (does_any w.heap.size b br k w x0 x1 x2 x3 x4 A1.out A2.out A3.out hlt2 S Q s wA HPA.out HBD.out).mono ?_
      rintro e w3 ⟨rfl, S1, Q1, s1, h3, hbd3, hkp⟩
      have H3 := Lib.hid h3
      have HB3 := Lib.hid hbd3
      have HX3 := Lib.hid (HBX.out.step hkp)
      have hlk := hbd3.lks
      clear d0 d1 d2 d3 d4 h3 hbd3 hkp
      obtain ⟨d1, d2, d3, d4⟩ := HX3.out.five
      obtain ⟨v1, hv1⟩ : ∃ v1 : Int, v1 = (peerS s1 x3 x1).getD 0 := ⟨_, rfl⟩
      obtain ⟨v2, hv2⟩ : ∃ v2, v2 = (peerS s1 x3 x1).isSome := ⟨_, rfl⟩
      have P1 := peer_any x3 x1 S1 b s1 w3 H3.out.p.p (by omega)
      rw [← hv1, ← hv2] at P1
      have HP1 := Lib.hid P1
      have HRP := Lib.hid (fun w4 (h : P2 w.heap.size b br w S1 Q1 s1 s1 w4) => (show Calls Try.prog 13 #[ptr br, .int .i64 x3, .int .i64 x1] w4 fun e w' => e = .returned (.tuple #[.int .i64 v1, .bool v2]) ∧ w4 = w' from by rw [hv1, hv2]; exact rpeer_any x3 x1 Q1 br s1 w4 h.r.p (by omega)))
      clear P1 hv1 hv2
      go_wp2_with fail
      refine HP1.out.mono ?_
      rintro e w4 ⟨rfl, hb4⟩
      have H4 := Lib.hid (H3.out.mv hb4)
      have HX4 := Lib.hid (HX3.out.step (KP.of_below hb4))
      clear hb4 d1 d2 d3 d4
      obtain ⟨d1, d2, d3, d4⟩ := HX4.out.five
      go_wp2_with fail
      refine (HRP.out w4 H4.out).mono ?_
      rintro e w5 ⟨rfl, rfl⟩
      have HWT := Lib.hid (fun w' (h : P2 w.heap.size b br w S1 Q1 s1 s1 w') => waits_any S1 b s1 w' h.p.p)
      obtain ⟨ai, ci, hc0, _⟩ := items_at H4.out.r.p
      have HC0 := Lib.hid hc0
      clear hc0 d1 d2 d3 d4
      obtain ⟨nI, hnI⟩ : ∃ nI, nI = s1.its.length := ⟨_, rfl⟩
      rw [← hnI] at HC0 HWT
      have c0 := HC0.out
      clear hnI
      go_upto_region 13 with fail
      go_quiet ((go_at_call 14; exact Calls.quiet_of_same ((HWT.out _ (H4.out.mv (below_drewN _ _))).mono fun _ _ h => ⟨h.1, h.2.symm⟩)))
      go_wp2
      go_roundw
      case rel => exact ⟨k + 1, S1, Q1, s1, by omega, by omega, by go_num, H4.out.mv (below_drewN _ _), HB3.out⟩
      case measure => simp [intOf]; omega
    · have hstop : (¬ k < n) ∨ (k < n ∧ ¬ k < 100) := by omega
      have hi := HBD.out.its
      have ho := HBD.out.opens
      have HR := Lib.hid (ready_any S b s wr HP.out.p.p HBD.out.g (by omega) (by omega))
      have hcl : (ready s).length ≤ s.its.length := cho_len free [] s.its
      have HLE := Lib.hid (show (ready s).length ≤ 900000 by omega)
      rcases hstop with hs1 | ⟨hs1, hs2⟩
      · have q1 : decide ((k : Int) < (n : Int)) = false := by simp; omega
        go_wp2_with fail
        refine HR.out.mono ?_
        rintro e w3 ⟨⟨v3, rfl, ho3⟩, hb3⟩
        have H3 := Lib.hid (HP.out.mv hb3)
        have HO3 := Lib.hid ho3
        have hs3 := hb3.size
        have HR2 := Lib.hid (rready_any Q br s w3 H3.out.r.p (by omega))
        clear ho3 hb3
        go_wp2_with fail
        refine HR2.out.mono ?_
        rintro e w4 ⟨⟨v4, rfl, ho4⟩, hb4⟩
        have H4 := Lib.hid (H3.out.mv hb4)
        have HSM := Lib.hid (same_any (ready s) v3 v4 w4 (own_mono (own_tr HO3.out (S := fun _ => False) (Tr.of_below hb4) (fun _ _ h => h)) (Nat.zero_le _)) (own_mono ho4 (Nat.zero_le _)) HLE.out)
        clear ho4 hb4
        go_wp2_with fail
        refine HSM.out.mono ?_
        rintro e w5 ⟨rfl, hb5⟩
        have H5 := Lib.hid (H4.out.mv hb5)
        clear hb5
        go_wp2
        go_ret
        exact ⟨rfl, H5.out.p.bel⟩
      · have q1 : (k : Int) < (n : Int) := by omega
        have q2 : decide ((k : Int) < 100) = false := by simp; omega
        go_wp2_with fail
        refine HR.out.mono ?_
        rintro e w3 ⟨⟨v3, rfl, ho3⟩, hb3⟩
        have H3 := Lib.hid (HP.out.mv hb3)
        have HO3 := Lib.hid ho3
        have hs3 := hb3.size
        have HR2 := Lib.hid (rready_any Q br s w3 H3.out.r.p (by omega))
        clear ho3 hb3
        go_wp2_with fail
        refine HR2.out.mono ?_
        rintro e w4 ⟨⟨v4, rfl, ho4⟩, hb4⟩
        have H4 := Lib.hid (H3.out.mv hb4)
        have HSM := Lib.hid (same_any (ready s) v3 v4 w4 (own_mono (own_tr HO3.out (S := fun _ => False) (Tr.of_below hb4) (fun _ _ h => h)) (Nat.zero_le _)) (own_mono ho4 (Nat.zero_le _)) HLE.out)
        clear ho4 hb4
        go_wp2_with fail
        refine HSM.out.mono ?_
        rintro e w5 ⟨rfl, hb5⟩
        have H5 := Lib.hid (H4.out.mv hb5)
        clear hb5
        go_wp2
        go_ret
        exact ⟨rfl, H5.out.p.bel⟩
set_option maxRecDepth 100000 in
set_option maxHeartbeats 16000000 in
theorem lawPlays_none (a : Option Addr) (cap : Nat) (w : World) :
    Calls Try.prog 3 #[.slice a 0 cap] w fun e w' => e = .returned (.bool true) ∧ Below w.heap.size w w' := by
  go_enter Try.func3, Try.ntmps3
  go_wp2_with fail
  refine (awake_any w).mono ?_
  rintro e wz ⟨rfl, hb0⟩
  go_wp2_with fail
  refine (new_any wz).mono ?_
  rintro e w1 ⟨rfl, hp1, hb1⟩
  have hr := pn_new w1 30 52 69 (by decide)
  have hb2 : Below w1.heap.size w1 (w1.alloc (.cells #[.slice none 0 0, .slice none 0 0, .int .i64 0, .int .i64 0] 30)) := (Below.refl _ _).alloc (Nat.le_refl _) _
  obtain ⟨S0, Q0, h2⟩ := p2_new hb0 hp1 hb1 hr hb2
  obtain ⟨b, hb'⟩ : ∃ b, b = wz.heap.size := ⟨_, rfl⟩
  obtain ⟨br, hbr⟩ : ∃ br, br = w1.heap.size := ⟨_, rfl⟩
  obtain ⟨w2, hw2⟩ : ∃ w2, w2 = w1.alloc (.cells #[.slice none 0 0, .slice none 0 0, .int .i64 0, .int .i64 0] 30) := ⟨_, rfl⟩
  rw [← hb', ← hbr, ← hw2] at h2
  have H2 := Lib.hid h2
  have HW2 := Lib.hid hw2
  have HBR := Lib.hid hbr
  rw [← hb']
  clear hp1 hb1 hr hb2 hb' hbr hw2 h2 hb0
  go_upto_region 4 with fail
  rw [show w1.alloc (.cells #[.slice none 0 0, .slice none 0 0, .int .i64 0, .int .i64 0] 30) = w2 from HW2.out.symm, ← HBR.out]
  go_wp2
  go_loopw [6] (fun i wr => i = .int .i64 0 ∧ P2 w.heap.size b br w S0 Q0 St.empty St.empty wr) (fun _ _ => 0)
  case atStart => exact ⟨rfl, H2.out⟩
  case round =>
    clear H2
    obtain ⟨rfl, hp⟩ := hrel
    obtain ⟨s, hs⟩ : ∃ s, s = St.empty := ⟨_, rfl⟩
    rw [← hs] at hp
    have HBD := Lib.hid (show Bd 0 s from by rw [hs]; exact ⟨good_empty, Nat.zero_le _, Nat.le_refl _⟩)
    obtain ⟨S, hS⟩ : ∃ S, S = S0 := ⟨_, rfl⟩
    obtain ⟨Q, hQ⟩ : ∃ Q, Q = Q0 := ⟨_, rfl⟩
    rw [← hS, ← hQ] at hp
    have HP := Lib.hid hp
    clear hp hs hS hQ
    have hi := HBD.out.its
    have ho := HBD.out.opens
    have HR := Lib.hid (ready_any S b s wr HP.out.p.p HBD.out.g (by omega) (by omega))
    have hcl : (ready s).length ≤ s.its.length := cho_len free [] s.its
    have HLE := Lib.hid (show (ready s).length ≤ 900000 by omega)
    go_wp2_with fail
    refine HR.out.mono ?_
    rintro e w3 ⟨⟨v3, rfl, ho3⟩, hb3⟩
    have H3 := Lib.hid (HP.out.mv hb3)
    have HO3 := Lib.hid ho3
    have hs3 := hb3.size
    have HR2 := Lib.hid (rready_any Q br s w3 H3.out.r.p (by omega))
    clear ho3 hb3
    go_wp2_with fail
    refine HR2.out.mono ?_
    rintro e w4 ⟨⟨v4, rfl, ho4⟩, hb4⟩
    have H4 := Lib.hid (H3.out.mv hb4)
    have HSM := Lib.hid (same_any (ready s) v3 v4 w4 (own_mono (own_tr HO3.out (S := fun _ => False) (Tr.of_below hb4) (fun _ _ h => h)) (Nat.zero_le _)) (own_mono ho4 (Nat.zero_le _)) HLE.out)
    clear ho4 hb4
    go_wp2_with fail
    refine HSM.out.mono ?_
    rintro e w5 ⟨rfl, hb5⟩
    have H5 := Lib.hid (H4.out.mv hb5)
    clear hb5
    go_wp2
    go_ret
    exact ⟨rfl, H5.out.p.bel⟩
theorem lawPlays_any (a : Option Addr) (n cap : Nat) (w : World) (h : Calld w a n) :
    Calls Try.prog 3 #[.slice a n cap] w fun e w' => e = .returned (.bool true) ∧ Below w.heap.size w w' := by
  rcases h with rfl | ⟨b, off, os, rfl, hb, hok, hc⟩
  · exact lawPlays_none a cap w
  · exact lawPlays_some b off n cap os w hb hok hc
end Go.Proofs.Ytocmgdhhlofajaa

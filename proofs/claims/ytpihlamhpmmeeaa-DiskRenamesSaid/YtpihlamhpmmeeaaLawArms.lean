/-
  The law DiskArms comes out true; no older memory is changed.
-/
import Derived.Test.YtpihlamhpmmeeaaOps
namespace Go.Proofs.Ytpihlamhpmmeeaa
open Go.RowKit
abbrev nF : ByteArray := ⟨#[102]⟩
abbrev nG : ByteArray := ⟨#[103]⟩
theorem gF : Gn nF := by unfold Gn; decide +kernel
theorem gG : Gn nG := by unfold Gn; decide +kernel
theorem ne_fg : nF ≠ nG := by decide +kernel
theorem RdI.below {T : Nat → Prop} {w w' : World} {v : Value} {ps : List Int} (h : RdI T w v ps) (hb : Below w.heap.size w w') : RdI T w' v ps := by
  obtain ⟨hn, hl, a, cap, e, h1, h2, h3⟩ := h
  refine ⟨hn, hl, a, cap, e, h1, h2, ?_⟩
  rcases h3 with h3 | ⟨g, k, e, hT, hc⟩
  · exact .inl h3
  · exact .inr ⟨g, k, e, hT, fun i p hp => (hb.cell (w.block_lt_of_cell? _ (hc i p hp))).trans (hc i p hp)⟩
/-- The one file's bytes. -/
def xs (m : Nat) : List Fl := if m = 0 then [] else [⟨nF, List.replicate m 120, 0⟩]
/-- The disk behind i appends, of which K are done. -/
def arm (K i : Nat) : Dk := ⟨xs (min i K), 1000, min i K, K - min i K, decide (K < i), true⟩
theorem usedL_xs (m : Nat) : usedL (xs m) = m := by
  unfold xs
  split
  · rename_i h; subst h; rfl
  · simp [usedL, Fl.size]
theorem xs_len (m : Nat) : (xs m).length ≤ 1 := by
  unfold xs
  split <;> simp
theorem arm_fit {K i : Nat} (hK : K ≤ 30) : fitE (arm K i) 1 = 0 := by
  unfold fitE Dk.used arm
  simp only [usedL_xs]
  rw [if_pos (by omega)]
theorem arm_E {K i : Nat} (hK : K ≤ 30) : appE (arm K i) [120] = if i < K then 0 else 14 := by
  unfold appE preE
  rw [show ([120] : Bs).length = 1 from rfl, arm_fit hK]
  by_cases h1 : K < i
  · rw [if_pos (by simp [arm, h1]), if_neg (by omega)]
  · rw [if_neg (by simp [arm, h1]), if_neg (by simp)]
    by_cases h2 : i < K
    · have e : K - min i K ≠ 0 := by omega
      rw [if_pos h2, if_neg (by simp [stopsD, arm, e])]
    · have e : K - min i K = 0 := by omega
      rw [if_neg h2, if_pos (by simp [stopsD, arm, e])]
theorem arm_D {K i : Nat} (hK : K ≤ 30) : appD (arm K i) nF [120] = arm K (i + 1) := by
  have hE := arm_E (i := i) hK
  unfold appD
  by_cases h2 : i < K
  · rw [if_pos h2] at hE
    rw [if_pos hE]
    have hst : stepD (arm K i) = ⟨xs i, 1000, i + 1, K - i - 1, false, true⟩ := by
      unfold stepD arm
      have e : min i K = i := by omega
      simp [e]
      omega
    rw [hst]
    have e1 : min (i + 1) K = i + 1 := by omega
    have hr : arm K (i + 1) = ⟨xs (i + 1), 1000, i + 1, K - i - 1, false, true⟩ := by
      unfold arm
      rw [e1]
      have : decide (K < i + 1) = false := by simp; omega
      rw [this]
      have : K - (i + 1) = K - i - 1 := by omega
      rw [this]
    rw [hr]
    unfold addTo putIf xs
    by_cases h0 : i = 0
    · subst h0
      simp [findF, withF, updF, delF]
    · simp [h0, findF, withF, updF, List.replicate_succ']
  · rw [if_neg h2] at hE
    rw [if_neg (by rw [hE]; decide), show ([120] : Bs).length = 1 from rfl, arm_fit hK]
    have e1 : min (i + 1) K = K := by omega
    have e2 : min i K = K := by omega
    unfold preD
    by_cases h1 : K < i
    · rw [if_pos (by simp [arm, h1])]
      unfold arm
      rw [e1, e2]
      have : decide (K < i) = decide (K < i + 1) := by simp; omega
      rw [this]
    · rw [if_neg (by simp [arm, h1]), if_neg (by simp), if_pos (by simp [stopsD, arm, e2])]
      unfold offD arm
      rw [e1, e2]
      have : decide (K < i + 1) = true := by simp; omega
      rw [this]
theorem arm_used (K i : Nat) : (arm K i).used = min i K := usedL_xs _
/-- The disk behind the crash. -/
def armC (K : Nat) (ps : List Int) : Dk := crashD (arm K 40) (xs (min 40 K)) ps
theorem armC_used {K : Nat} (hK : K ≤ 30) (ps : List Int) : (armC K ps).used ≤ K := by
  have e : min 40 K = K := by omega
  show usedL (crL (xs (min 40 K)) ps) ≤ K
  rw [e]
  unfold xs
  split
  · exact Nat.zero_le _
  · unfold crL crL
    have h := crD_length (f := ⟨nF, List.replicate K 120, 0⟩) (Nat.zero_le _) ps
    have h2 := keepN_le (f := ⟨nF, List.replicate K 120, 0⟩) (Nat.zero_le _) ps
    simp only [List.length_replicate] at h2
    simp only [usedL, Fl.size, crF, List.map_cons, List.map_nil, List.sum_cons, List.sum_nil]
    show (crD ⟨nF, List.replicate K 120, 0⟩ ps).length + 0 ≤ K
    have e3 : min 40 K = K := e
    simp only at h h2
    omega
theorem armC_E {K : Nat} (hK : K ≤ 30) (ps : List Int) : appE (armC K ps) [121] = 0 := by
  have hu := armC_used hK ps
  unfold appE preE fitE
  rw [if_neg (by simp [armC, crashD]), if_neg (by rw [if_pos (by show _ + 1 ≤ 1000; omega)]; simp), if_neg (by simp [stopsD, armC, crashD])]
theorem xs_one {m : Nat} (h : m ≠ 0) : xs m = [⟨nF, List.replicate m 120, 0⟩] := by unfold xs; rw [if_neg h]
/-- A crash of no file or one. -/
theorem crash_xs {T : Nat → Prop} {n b : Nat} {S : Nat → Prop} {d : Dk} {w0 w : World} {m : Nat} (h : NA n S w0 b d w) {v : Value} {ps : List Int} (hp : RdI T w v ps) (hT : ∀ g, T g → ¬ S g) (hf : d.fs = xs m) (hm : m ≤ 1000) :
    Calls Try.prog 14 #[ptr b, v] w fun e w' => (∃ u, e = .returned u) ∧ Lft S b (crashD d (xs m) ps) w w' := by
  by_cases h0 : m = 0
  · subst h0
    exact crash_none h hp hT hf
  · rw [xs_one h0] at hf ⊢
    exact crash_one h hp hT hf (by simp; omega)
theorem rem31 (n : Int) : ∃ K : Nat, K ≤ 30 ∧ (n.tmod 31 = (K : Int) ∨ (n.tmod 31 = -(K : Int) ∧ 0 < K)) := by
  have h1 : n.tmod 31 < 31 := Int.tmod_lt_of_pos n (by decide)
  have h2 : -31 < n.tmod 31 := by
    have := Int.tmod_lt_of_pos (-n) (b := 31) (by decide)
    rw [Int.neg_tmod] at this
    omega
  by_cases h : n.tmod 31 < 0
  · exact ⟨(-(n.tmod 31)).toNat, by omega, .inr ⟨by omega, by omega⟩⟩
  · exact ⟨(n.tmod 31).toNat, by omega, .inl (by omega)⟩
theorem armR (K : Nat) (hK : K ≤ 30) : redE (arm K 40) nF = 14 ∧ redS (arm K 40) nF = ⟨#[]⟩ ∧ synE (arm K 40) nF = 14 ∧ synD (arm K 40) nF = arm K 40 := by
  have ho : (arm K 40).off = true := by simp [arm]; omega
  have h1 : redE (arm K 40) nF = 14 := by unfold redE; rw [if_pos ho]
  have h2 : synE (arm K 40) nF = 14 := by unfold synE preE; rw [if_pos ho]
  refine ⟨h1, ?_, h2, ?_⟩
  · unfold redS; rw [h1]; rfl
  · unfold synD; rw [h2, if_neg (by decide)]; unfold preD; rw [if_pos ho]
set_option maxRecDepth 100000 in
set_option maxHeartbeats 16000000 in
theorem lawArms_any (n : Int) (v : Value) (w : World) (hp : Picks w v) : Calls Try.prog 4 #[.int .i64 n, v] w fun e w' => e = .returned (.bool true) ∧ Below w.heap.size w w' := by
  obtain ⟨ps, hps⟩ := hp
  obtain ⟨K, hK, hr⟩ := rem31 n
  have HRP := Lib.hid hps
  have HRR := Lib.hid (armR K hK)
  have HE := Lib.hid (fun i => arm_E (K := K) (i := i) hK)
  have HD := Lib.hid (fun i => arm_D (K := K) (i := i) hK)
  obtain ⟨_, _, a, cap, rfl, _⟩ := hps
  rcases hr with hr | ⟨hr, h0⟩
  all_goals
    have q0 : decide ((K : Int) < 0) = false := by simp
    go_enter Try.func4, Try.ntmps4
    go_wp2_with fail
    refine (awake_any w).mono ?_
    rintro e w0 ⟨rfl, hb0⟩
    have HB0 := Lib.hid hb0
    clear hb0
    go_wp2_with fail
    refine (new_any 1000 (by decide) w0).mono ?_
    rintro e w1 ⟨rfl, hp1, hb1⟩
    obtain ⟨S1, hn1, _⟩ := NA.new hp1 hb1 HB0.out HB0.out.size
    obtain ⟨b, hb⟩ : ∃ b, b = w0.heap.size := ⟨_, rfl⟩
    have H1 : Hid (NA w.heap.size S1 w b (newD 1000) w1) := Lib.hid (by rw [hb]; exact hn1)
    rw [← hb]
    clear hp1 hb1 hn1 hb
    have A1 := Lib.hid (arm_any K (by omega) H1.out.p)
    go_wp2_with fail
    refine A1.out.mono ?_
    rintro e w2 ⟨⟨u2, rfl⟩, hp2, ht2⟩
    obtain ⟨S2, hn2, _⟩ := H1.out.one hp2 ht2
    have H2 : Hid (NA w.heap.size S2 w b (arm K 0) w2) := Lib.hid (by
      have e : arm K 0 = { newD 1000 with sch := true, left := K } := by
        unfold arm newD xs
        simp
      rw [e]; exact hn2)
    clear hp2 ht2 hn2 A1 H1
    go_wp2_with fail
    go_loopw [8, 9] (fun i _ wr => ∃ (k : Nat) (S : Nat → Prop), k ≤ 40 ∧ i = .int .i64 (k : Int) ∧ NA w.heap.size S w b (arm K k) wr) (fun i _ _ => 40 - (intOf i).toNat)
    case atStart => exact ⟨0, _, by omega, rfl, H2.out⟩
    case round =>
      obtain ⟨k, S, hk, rfl, hna⟩ := hrel
      have HA := Lib.hid hna
      clear hna
      by_cases hlt : k < 40
      · have q1 : (k : Int) < 40 := by omega
        have A := append_any HA.out.p nF gF ⟨#[120]⟩ (by decide +kernel) (by show min k K ≤ _; omega) (by show K - min k K ≤ _; omega) (by rw [arm_used]; omega) (by show 1000 ≤ _; omega) (by have := xs_len (min k K); show (xs (min k K)).length ≤ _; omega)
        rw [show (⟨#[120]⟩ : ByteArray).data.toList = [120] from rfl, HE.out k, HD.out k] at A
        have HAP := Lib.hid A
        clear A
        by_cases hkK : k < K
        · have q2 : (k : Int) < (K : Int) := by omega
          have q3 : decide ((K : Int) ≤ (k : Int)) = false := by simp; omega
          rw [if_pos hkK] at HAP
          go_wp2_with fail
          refine HAP.out.mono ?_
          rintro e w3 ⟨rfl, hl⟩
          obtain ⟨S3, hn3, _⟩ := HA.out.step hl
          have H3 := Lib.hid hn3
          clear hl hn3 HAP
          go_wp2
          go_roundw
          case rel => exact ⟨k + 1, _, by omega, by go_num, H3.out⟩
          case measure => simp [intOf]; omega
        · have q2 : decide ((k : Int) < (K : Int)) = false := by simp; omega
          have q3 : (K : Int) ≤ (k : Int) := by omega
          rw [if_neg hkK] at HAP
          go_wp2_with fail
          refine HAP.out.mono ?_
          rintro e w3 ⟨rfl, hl⟩
          obtain ⟨S3, hn3, _⟩ := HA.out.step hl
          have H3 := Lib.hid hn3
          clear hl hn3 HAP
          go_wp2
          go_roundw
          case rel => exact ⟨k + 1, _, by omega, by go_num, H3.out⟩
          case measure => simp [intOf]; omega
      · have q1 : decide ((k : Int) < 40) = false := by simp; omega
        obtain rfl : k = 40 := by omega
        have R := read_any HA.out.p nF gF
        rw [HRR.out.1, HRR.out.2.1] at R
        have HR := Lib.hid R
        clear R
        go_wp2_with fail
        refine HR.out.mono ?_
        rintro e w4 ⟨rfl, hb4⟩
        have H4 := Lib.hid (HA.out.mv hb4)
        clear hb4 HR HA
        have O4 := on_any H4.out.p
        rw [show (arm K 40).off = true by simp [arm]; omega] at O4
        have HO4 := Lib.hid O4
        have ST := steps_any H4.out.p
        rw [show (arm K 40).steps = K by simp [arm]; omega] at ST
        have HST := Lib.hid ST
        have SY := sync_any H4.out.p nF gF (by show min 40 K ≤ _; omega) (by show K - min 40 K ≤ _; omega)
        rw [HRR.out.2.2.1, HRR.out.2.2.2] at SY
        have HSY := Lib.hid SY
        clear O4 ST SY
        go_wp2_with fail
        refine HO4.out.mono ?_
        rintro e w5 ⟨rfl, rfl⟩
        go_wp2_with fail
        refine HST.out.mono ?_
        rintro e w5 ⟨rfl, rfl⟩
        go_wp2_with fail
        refine HSY.out.mono ?_
        rintro e w5 ⟨rfl, hl⟩
        obtain ⟨S5, hn5, _⟩ := H4.out.step hl
        have H5 := Lib.hid hn5
        clear hl hn5 HSY HST HO4 H4
        have HC := Lib.hid (crash_xs (m := min 40 K) H5.out (HRP.out.below H5.out.bel) (fun g hg hs => by have := (H5.out.hS g hs).1; omega) rfl (by omega))
        go_wp2_with fail
        refine HC.out.mono ?_
        rintro e w6 ⟨⟨u6, rfl⟩, hl⟩
        obtain ⟨S6, hn6, _⟩ := H5.out.step hl
        have H6 : Hid (NA w.heap.size S6 w b (armC K ps) w6) := Lib.hid hn6
        clear hl hn6 HC H5
        have hus := armC_used hK ps
        have O6 := Lib.hid (on_any H6.out.p)
        have U6 := used_any H6.out.p (by omega)
        generalize (armC K ps).used = U at U6 hus
        have HU6 := Lib.hid U6
        have q5 : (U : Int) ≤ (K : Int) := by omega
        clear U6 hus
        go_wp2_with fail
        refine O6.out.mono ?_
        rintro e w7 ⟨rfl, rfl⟩
        rw [show (!(armC K ps).off) = true from rfl]
        go_wp2_with fail
        refine HU6.out.mono ?_
        rintro e w7 ⟨rfl, hb7⟩
        have H7 := Lib.hid (H6.out.mv hb7)
        clear hb7 HU6 O6 H6
        have A7 := append_any H7.out.p nG gG ⟨#[121]⟩ (by decide +kernel) (by show min 40 K ≤ _; omega) (by show 0 ≤ _; omega) (by have := armC_used hK ps; omega) (by show 1000 ≤ _; omega) (by
          show (crL (xs (min 40 K)) ps).length ≤ _
          have h1 := congrArg List.length (crL_names (xs (min 40 K)) ps)
          simp only [List.length_map] at h1
          have h2 := xs_len (min 40 K)
          omega)
        rw [show appE (armC K ps) (⟨#[121]⟩ : ByteArray).data.toList = 0 from armC_E hK ps] at A7
        have HA7 := Lib.hid A7
        clear A7
        go_wp2_with fail
        refine HA7.out.mono ?_
        rintro e w8 ⟨rfl, hl⟩
        obtain ⟨S8, hn8, _⟩ := H7.out.step hl
        have H8 := Lib.hid hn8.bel
        clear hl hn8 HA7 H7
        go_wp2
        go_ret
        exact ⟨rfl, H8.out⟩
end Go.Proofs.Ytpihlamhpmmeeaa

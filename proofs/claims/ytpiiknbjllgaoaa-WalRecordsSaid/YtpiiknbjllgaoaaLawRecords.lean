/-
  The walk of the law WalRecords: for any two texts and any number it returns true; no older memory is changed.
-/
import Derived.Test.YtpiiknbjllgaoaaWRef
import Derived.Test.YtpiiknbjllgaoaaLawTurned
import Derived.Deep.OwnRows
namespace Go.Proofs.Ytpiiknbjllgaoaa
open Go.RowKit
theorem info5' : (Try.prog.info? 5).map (fun i => (i.zero, i.size, i.bytes)) = some (some (.int .u8 0), 1, 1) := by kernel_rfl
/-- So many zero bytes. -/
theorem zeros_made (N : Nat) (hN : N ≤ 1000000) (w : World) : (Instr.makeSlice 31 (.int .i64 (N : Int)) (.int .i64 (N : Int))).run Try.prog w = .ok (.slice (some ⟨w.heap.size, 0, none⟩) N N) (w.alloc (.cells (madeCells #[.int .u8 0] N) 5)) :=
  run_make_row' (P := Try.prog) 31 5 (.int .u8 0) 1 Try.underlying31 info5' rfl .i64 .i64 N (by omega) (by omega) w
theorem zeros_back (N : Nat) (w : World) : (convert 31 9 (.slice (some ⟨w.heap.size, 0, none⟩) N N)).run Try.prog (w.alloc (.cells (madeCells #[.int .u8 0] N) 5)) = .ok (str (List.replicate N 0)) (w.alloc (.cells (madeCells #[.int .u8 0] N) 5)) := by
  have h := run_convert_bytes_back (P := Try.prog) (w.alloc (.cells (madeCells #[.int .u8 0] N) 5)) 31 9 5 ⟨w.heap.size, 0, none⟩ N (List.replicate N 0) Try.underlying31 Try.underlying5 Try.underlying9 (fun j hj => by
    rw [Addr.add_lit, Nat.zero_add]
    rw [List.length_replicate] at hj
    rw [World.cell?_alloc_mark]
    simp [madeCells, hj, Nat.mod_one])
  rw [List.length_replicate] at h
  exact h
theorem one_e (l : Bs) : allE [l] = if l.length ≤ 60000 then 0 else 11 := by
  by_cases h : l.length ≤ 60000
  · rw [if_pos h]; exact (all_one h).2
  · rw [if_neg h]
    exact (all_not (fun hf => h (hf l (by simp)))).1
set_option maxRecDepth 100000 in
set_option maxHeartbeats 12800000 in
theorem lawRecords_any (vb vs : ByteArray) (n : Int) (w : World) : Calls Try.prog 3 #[.string vb, .string vs, .int .i64 n] w fun e w' => e = .returned (.bool true) ∧ Below w.heap.size w w' := by
  have HAW := Lib.hid (awake_any w)
  have HS1 := fun w => Lib.hid (short_any vb 2000 w)
  have HS2 := fun w => Lib.hid (short_any vs 300 w)
  obtain ⟨b, hb⟩ : ∃ b, b = vb.data.toList.take 2000 := ⟨_, rfl⟩
  obtain ⟨s, hs⟩ : ∃ s, s = vs.data.toList.take 300 := ⟨_, rfl⟩
  have hbl : b.length ≤ 2000 := by rw [hb, List.length_take]; omega
  have hsl : s.length ≤ 300 := by rw [hs, List.length_take]; omega
  rw [← hb] at HS1
  rw [← hs] at HS2
  clear hb hs
  have HR := fun w => Lib.hid (record_any s (by omega) w)
  have HRR := fun w => Lib.hid (rrecord_any s (by omega) w)
  obtain ⟨X, hX⟩ : ∃ X, X = allB [s] := ⟨_, rfl⟩
  have hE : allE [s] = 0 := by rw [one_e, if_pos (by omega)]
  rw [← hX, hE] at HR HRR
  clear hX hE
  have eb : (⟨b.toArray⟩ : ByteArray).data.toList = b := by simp
  have HC := fun w => Lib.hid (records_any ⟨b.toArray⟩ (by rw [ba_size]; omega) w)
  have HCC := fun w => Lib.hid (rrecords_any ⟨b.toArray⟩ (by rw [ba_size]; omega) w)
  rw [eb] at HC HCC
  obtain ⟨T, hT⟩ : ∃ T, T = recs b := ⟨_, rfl⟩
  obtain ⟨Z, hZ⟩ : ∃ Z, Z = (rcsB T).length := ⟨_, rfl⟩
  have hTl : T.length ≤ 2000 := by
    have h1 := rcs_len b
    have h : ∀ L : List Bs, L.length ≤ (rcsB L).length := by
      intro L; induction L with
      | nil => exact Nat.le_refl _
      | cons x L ih => simp only [rcsB, List.length_append, rcB_length, List.length_cons]; omega
    have := h T; rw [← hT] at h1; omega
  rw [← hT, ← hZ] at HC HCC
  clear hT hZ eb
  obtain ⟨m, hm⟩ : ∃ m, m = n.tmod 101 := ⟨_, rfl⟩
  have hma : m.natAbs < 101 := by rw [hm, Int.natAbs_tmod]; exact Nat.mod_lt _ (by decide)
  go_enter Try.func3, Try.ntmps3
  go_wp2_with fail
  refine HAW.out.mono ?_
  rintro e w1 ⟨rfl, hb1⟩
  have HB1 := Lib.hid hb1
  clear hb1 HAW
  go_wp2_with fail
  refine (HS1 _).out.mono ?_
  rintro e w1' ⟨rfl, rfl⟩
  go_wp2_with fail
  refine (HS2 _).out.mono ?_
  rintro e w1' ⟨rfl, rfl⟩
  go_wp2_with fail
  refine (HR _).out.mono ?_
  rintro e w2 ⟨rfl, hb2⟩
  have HB2 := Lib.hid (HB1.out.trans (hb2.mono HB1.out.size))
  clear hb2 HB1
  go_wp2_with fail
  refine (HRR _).out.mono ?_
  rintro e w3 ⟨rfl, hb3⟩
  have HB3 := Lib.hid (HB2.out.trans (hb3.mono HB2.out.size))
  clear hb3 HB2
  go_wp2_with fail
  refine (HC _).out.mono ?_
  rintro e w4 ⟨v4, rfl, hr4, _, hb4⟩
  have HB4 := Lib.hid (HB3.out.trans (hb4.mono HB3.out.size))
  have HR4 := Lib.hid hr4
  obtain ⟨a4, c4, rfl, _⟩ := hr4
  clear hb4 HB3
  rw [ab_length] at HR4 ⊢
  go_wp2_with fail
  refine (HCC _).out.mono ?_
  rintro e w5 ⟨v5, rfl, hr5, hb5⟩
  have HB5 := Lib.hid (HB4.out.trans (hb5.mono HB4.out.size))
  have HSA := Lib.hid (same_any (HR4.out.below hb5) hr5 (by rw [ab_length]; omega))
  rw [show decide (ab T = ab T) = true from decide_eq_true rfl] at HSA
  obtain ⟨a5, c5, rfl, _⟩ := hr5
  clear hb5 HB4 HR4
  rw [ab_length] at HSA ⊢
  go_wp2_with fail
  refine HSA.out.mono ?_
  rintro e w6 ⟨rfl, hb6⟩
  have HB6 := Lib.hid (HB5.out.trans (hb6.mono HB5.out.size))
  clear hb6 HB5 HSA
  obtain ⟨J, hJ⟩ : ∃ J, J = m.natAbs := ⟨_, rfl⟩
  rw [← hJ] at hma
  have hN : ∃ N : Nat, N = 59950 + J := ⟨_, rfl⟩
  obtain ⟨N, hN⟩ := hN
  have hNN : (59950 : Int) + (J : Int) = (N : Int) := by omega
  have hmk := fun w => zeros_made N (by omega) w
  rw [← hNN] at hmk
  have hbk := fun w => zeros_back N w
  obtain ⟨z, hz⟩ : ∃ z, z = List.replicate N (0 : UInt8) := ⟨_, rfl⟩
  have hzl : z.length = N := by rw [hz, List.length_replicate]
  rw [← hz] at hbk
  have HRZ := fun w => Lib.hid (record_any z (by omega) w)
  rw [one_e, hzl] at HRZ
  have HRZ' : ∀ w, Hid (Calls Try.prog 11 #[str z] w fun e w' => e = .returned (.tuple #[str (allB [z]), .int .i64 (if J ≤ 50 then 0 else 11)]) ∧ Below w.heap.size w w') := fun w => Lib.hid (by
    have h := (HRZ w).out
    by_cases hj : J ≤ 50
    · rw [if_pos (by omega)] at h; rw [if_pos hj]; exact h
    · rw [if_neg (by omega)] at h; rw [if_neg hj]; exact h)
  obtain ⟨G, hG⟩ : ∃ G, G = allB [z] := ⟨_, rfl⟩
  rw [← hG] at HRZ'
  clear HRZ hz hG hNN hN hzl HR HRR HC HCC HS1 HS2
  by_cases hneg : m < 0
  case' pos =>
    have hmJ : n.tmod 101 = -(J : Int) := by omega
    have q1 : -(J : Int) < 0 := by omega
    have q2 : 0 < J := by omega
  case' neg =>
    have hmJ : n.tmod 101 = (J : Int) := by omega
    have q1 : decide ((J : Int) < 0) = false := by simp
    have q2 : True := trivial
  all_goals
    clear hm hJ hneg
    go_wp2_with fail
    refine (HRZ' _).out.mono ?_
    rintro e w7 ⟨rfl, hb7⟩
    have HB7 := Lib.hid (HB6.out.trans (((Below.refl _ _).alloc (Nat.le_refl _) _ |>.trans (hb7.mono (by simp))).mono HB6.out.size))
    clear hb7
    by_cases h50 : J ≤ 50
    · rw [if_pos h50]
      have r1 : (J : Int) ≤ 50 := by omega
      have r2 : decide ((J : Int) ≤ 50) = true := by simp; omega
      go_wp2
      go_ret
      exact ⟨rfl, HB7.out⟩
    · rw [if_neg h50]
      have r2 : decide ((J : Int) ≤ 50) = false := by simp; omega
      go_wp2
      go_ret
      exact ⟨rfl, HB7.out⟩
end Go.Proofs.Ytpiiknbjllgaoaa

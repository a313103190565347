/-
  What the log's first hands back: with what string's record the bytes begin, if with one.
-/
import Derived.Test.YtpiiknbjllgaoaaWPrims
namespace Go.Proofs.Ytpiiknbjllgaoaa
open Go.RowKit
/-- Pieces of a string. -/
theorem pc_to (b : ByteArray) (n : Nat) (hn : n ≤ b.size) (k : IntKind) : ∀ w : World, (Instr.slice 9 (.string b) none (some (.int k (n : Int))) none).run Try.prog w = .ok (str (b.data.toList.take n)) w := fun w => by
  have h := run_slice_string_h (P := Try.prog) w 9 b Try.underlying9 k (n : Int) (by omega) (by omega)
  rw [h, sub_str]
  simp
theorem pc_from (b : ByteArray) (n : Nat) (hn : n ≤ b.size) (k : IntKind) : ∀ w : World, (Instr.slice 9 (.string b) (some (.int k (n : Int))) none none).run Try.prog w = .ok (str (b.data.toList.drop n)) w := fun w => by
  have h := run_slice_string_l (P := Try.prog) w 9 b Try.underlying9 k (n : Int) (by omega) (by omega)
  rw [h, sub_str]
  have : b.data.toList.take b.size = b.data.toList := List.take_of_length_le (by simp)
  rw [this]; rfl
theorem pc_mid (b : ByteArray) (m n : Nat) (hm : m ≤ n) (hn : n ≤ b.size) (k : IntKind) : ∀ w : World, (Instr.slice 9 (.string b) (some (.int k (m : Int))) (some (.int k (n : Int))) none).run Try.prog w = .ok (str ((b.data.toList.drop m).take (n - m))) w := fun w => by
  have h := run_slice_string (P := Try.prog) w 9 b k k (m : Int) (n : Int) Try.underlying9 (by omega) (by omega) (by omega)
  rw [h, sub_str, List.drop_take]
  rfl
theorem ba_size (l : Bs) : (⟨l.toArray⟩ : ByteArray).size = l.length := by show l.toArray.size = _; simp
theorem fst_parts (b : ByteArray) (h8 : 8 ≤ b.size) : ∃ (A C R : Bs) (n : Nat),
    (∀ w : World, (Instr.slice 9 (.string b) none (some (.int .i64 4)) none).run Try.prog w = .ok (str A) w) ∧
    (∀ w : World, (Instr.slice 9 (.string b) (some (.int .i64 4)) (some (.int .i64 8)) none).run Try.prog w = .ok (str C) w) ∧
    (∀ w : World, (Instr.slice 9 (.string b) (some (.int .i64 8)) none none).run Try.prog w = .ok (str R) w) ∧
    A.length = 4 ∧ C.length = 4 ∧ R.length = b.size - 8 ∧ n = numB A ∧ n < 4294967296 ∧ numB C < 4294967296 ∧ (60000 < n → fstB b.data.toList = none) ∧ (R.length < n → fstB b.data.toList = none) ∧
    (n ≤ 60000 → n ≤ R.length → ∀ ok : Bool, ok = decide (cs (A ++ R.take n) = numB C) → fstB b.data.toList = if ok = true then some (R.take n) else none) := by
  have hbl : b.data.toList.length = b.size := (size_list b).symm
  have hl1 : (b.data.toList.take 4).length = 4 := by rw [List.length_take]; omega
  have hl2 : ((b.data.toList.drop 4).take 4).length = 4 := by rw [List.length_take, List.length_drop]; omega
  have hl3 : (b.data.toList.drop 8).length = b.size - 8 := by rw [List.length_drop]; omega
  refine ⟨_, _, _, _, pc_to b 4 (by omega) .i64, pc_mid b 4 8 (by omega) (by omega) .i64, pc_from b 8 (by omega) .i64, hl1, hl2, hl3, rfl, num_lt _ hl1, num_lt _ hl2, ?_, ?_, ?_⟩
  · intro h
    unfold fstB
    rw [if_neg]
    rintro ⟨_, h2, _⟩; omega
  · intro h
    rw [hl3] at h
    unfold fstB
    rw [if_neg]
    rintro ⟨_, _, h2, _⟩; omega
  · intro h1 h2 ok hok
    exact fst_eq b.data.toList (by omega) h1 (by omega) ok hok
set_option maxRecDepth 100000 in
set_option maxHeartbeats 6400000 in
theorem wfirst_any (b : ByteArray) (hb : b.size ≤ 1000000000) (w : World) :
    Calls Try.prog 55 #[.string b] w fun e w' => (∃ t ok, e = .returned (.tuple #[str t, .bool ok]) ∧ fstB b.data.toList = if ok = true then some t else none) ∧ Below w.heap.size w w' := by
  by_cases h8 : b.size < 8
  · have hf : fstB b.data.toList = none := fst_short (by rw [← size_list]; omega)
    have q : (b.size : Int) < 8 := by omega
    go_enter Try.func55, Try.ntmps55
    go_wp2
    go_ret2
    exact ⟨⟨[], false, rfl, by rw [hf]; rfl⟩, Below.refl _ _⟩
  · have q : decide ((b.size : Int) < 8) = false := by simp; omega
    obtain ⟨A, C, R, n, s1, s2, s3, hl1, hl2, hl3, hn, hnb, hnc, hf1, hf2, hf3⟩ := fst_parts b (by omega)
    have HA : ∀ w, Hid (Calls Try.prog 75 #[.string ⟨A.toArray⟩] w fun e w' => e = .returned (.int .u32 (n : Int)) ∧ w = w') := fun w => Lib.hid (by
      rw [hn]; exact numberOf_any ⟨A.toArray⟩ (by rw [ba_size]; exact hl1) w)
    have hszR : (⟨R.toArray⟩ : ByteArray).size = R.length := ba_size R
    generalize fstB b.data.toList = F at *
    have hRb : (R.length : Int) ≤ 1000000000 := by omega
    generalize hr : R.length = r at *
    by_cases g1 : 60000 < n
    · have HF := Lib.hid (hf1 g1)
      have q1 : (60000 : Int) < (n : Int) := by omega
      clear hf1 hf2 hf3 hl1 hl2 hl3 hn hr g1 h8 hb
      go_enter Try.func55, Try.ntmps55
      go_wp2_with fail
      go_quiet (fail)
      go_wp2_with fail
      refine (HA _).out.mono ?_
      rintro e w' ⟨rfl, rfl⟩
      go_wp2
      go_ret2
      exact ⟨⟨[], false, rfl, by rw [HF.out]; rfl⟩, below_drewN _ _⟩
    · have q1 : decide ((60000 : Int) < (n : Int)) = false := by simp; omega
      by_cases g2 : r < n
      · have HF := Lib.hid (hf2 g2)
        have q2 : (r : Int) < (n : Int) := by omega
        have hnb2 : (n : Int) ≤ 60000 := by omega
        clear hf1 hf2 hf3 hl1 hl2 hl3 hn hr g1 h8 hb hnb
        go_enter Try.func55, Try.ntmps55
        go_wp2_with fail
        go_quiet (fail)
        go_wp2_with fail
        refine (HA _).out.mono ?_
        rintro e w' ⟨rfl, rfl⟩
        go_wp2
        go_ret2
        exact ⟨⟨[], false, rfl, by rw [HF.out]; rfl⟩, below_drewN _ _⟩
      · have q2 : decide ((r : Int) < (n : Int)) = false := by simp; omega
        have q3 : decide (r < n) = false := by simp; omega
        have hnb2 : (n : Int) ≤ 60000 := by omega
        have HC : ∀ w, Hid (Calls Try.prog 75 #[.string ⟨C.toArray⟩] w fun e w' => e = .returned (.int .u32 (numB C : Nat)) ∧ w = w') := fun w => Lib.hid (numberOf_any ⟨C.toArray⟩ (by rw [ba_size]; exact hl2) w)
        have hT : (R.take n).length = n := by rw [List.length_take]; omega
        have s4 : ∀ w : World, (Instr.slice 9 (str R) none (some (.int .u32 (n : Int))) none).run Try.prog w = .ok (str (R.take n)) w := pc_to ⟨R.toArray⟩ n (by rw [ba_size]; omega) .u32
        obtain ⟨T, hTe⟩ : ∃ T, T = R.take n := ⟨_, rfl⟩
        rw [← hTe] at s4 hT hf3
        have HOF : ∀ w, Hid (Calls Try.prog 52 #[.slice (some ⟨w.heap.size, 0, none⟩) 2 2] (w.alloc (.cells #[str A, str T] 9)) fun e w' => e = .returned (.int .u32 (cs (A ++ T) : Nat)) ∧ Below w.heap.size w w') := fun w =>
          Lib.hid (of_two ⟨A.toArray⟩ ⟨T.toArray⟩ (by rw [ba_size]; omega) (by rw [ba_size]; omega) w)
        have HF := Lib.hid (hf3 (by omega) (by omega))
        clear hf1 hf2 hf3 hl1 hl2 hl3 hn hr g1 g2 h8 hb hTe hT hnb
        go_enter Try.func55, Try.ntmps55
        go_wp2_with fail
        go_quiet (fail)
        go_wp2_with fail
        refine (HA _).out.mono ?_
        rintro e w' ⟨rfl, rfl⟩
        go_wp2_with fail
        refine (HOF _).out.mono ?_
        rintro e w2 ⟨rfl, hb2⟩
        have HB2 := Lib.hid ((below_drewN w nq).trans hb2)
        clear hb2
        go_wp2_with fail
        refine (HC _).out.mono ?_
        rintro e w' ⟨rfl, rfl⟩
        go_wp2
        go_ret2
        exact ⟨⟨T, _, rfl, HF.out _ (by rw [Bool.eq_iff_iff]; simp; omega)⟩, HB2.out⟩
end Go.Proofs.Ytpiiknbjllgaoaa

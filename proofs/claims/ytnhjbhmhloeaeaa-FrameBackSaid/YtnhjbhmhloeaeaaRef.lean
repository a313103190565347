/-
  What the document's Put and Next and the statements' short answer; no older memory is changed.
-/
import Derived.Test.YtnhjbhmhloeaeaaFrame
namespace Go.Proofs.Ytnhjbhmhloeaeaa
open Go.RowKit
set_option maxHeartbeats 400000 in
theorem short_cut (s : ByteArray) (n : Nat) (h : n < s.size) (w : World) :
    Calls Try.prog 8 #[.string s, .int .i64 (n : Int)] w fun e w' => e = .returned (.string (s.extract 0 n)) ∧ w = w' := by
  have hd : decide ((n : Int) < (s.size : Int)) = true := by simp; omega
  go_enter Try.func8, Try.ntmps8
  go_wp2
  go_ret
  exact ⟨rfl, rfl⟩
set_option maxHeartbeats 400000 in
theorem short_all (s : ByteArray) (n : Nat) (h : s.size ≤ n) (w : World) :
    Calls Try.prog 8 #[.string s, .int .i64 (n : Int)] w fun e w' => e = .returned (.string s) ∧ w = w' := by
  go_enter Try.func8, Try.ntmps8
  go_wp2
  go_ret
  exact ⟨rfl, rfl⟩
/-- THE CUT: what stands there behind it is of no more than so many bytes. -/
theorem short_any (s : ByteArray) (n : Nat) :
    ∃ t : Bs, t.length ≤ n ∧ ∀ w : World, Calls Try.prog 8 #[.string s, .int .i64 (n : Int)] w fun e w' => e = .returned (str t) ∧ w = w' := by
  by_cases h : s.size ≤ n
  · exact ⟨s.data.toList, by rw [← size_list]; exact h, fun w => short_all s n h w⟩
  · exact ⟨(s.extract 0 n).data.toList, by rw [← size_list]; simp; omega, fun w => short_cut s n (by omega) w⟩
theorem cat (l m : Bs) : (⟨l.toArray⟩ : ByteArray) ++ ⟨m.toArray⟩ = ⟨(l ++ m).toArray⟩ := by
  apply ByteArray.ext
  apply Array.toList_inj.1
  simp
theorem size_mk (l : Bs) : (⟨l.toArray⟩ : ByteArray).size = l.length := by rw [size_list]
theorem bytes_new (w : World) (l : Bs) : ∀ j u, (ub l)[j]? = some u → (w.alloc (.cells (ub l).toArray 5)).cell? ((⟨w.heap.size, 0, none⟩ : Addr).add j) = some u := by
  intro j u hj
  rw [Addr.add_lit, cell_of_row (w.alloc _) w.heap.size (0 + j) (ub l).toArray 5 (0, 0) (heap_alloc_new w _), Nat.zero_add]
  simpa using hj
theorem ub_pre (n : Nat) (h : n ≤ 65535) : (ub (pre n)).toArray = #[.int .u8 ((n : Int) / 256), .int .u8 ((n : Int) % 256)] := by
  have e1 : ((UInt8.ofNat (n / 256)).toNat : Int) = (n : Int) / 256 := by simp; omega
  have e2 : ((UInt8.ofNat n).toNat : Int) = (n : Int) % 256 := by simp
  simp only [ub, pre, List.map_cons, List.map_nil, e1, e2]
/-- The two bytes of a length, as a text. -/
theorem pre_text (w : World) (n : Nat) (h : n ≤ 65535) : (convert 28 9 (.slice (some ⟨w.heap.size, 0, none⟩) 2 2)).run Try.prog (w.alloc (.cells #[.int .u8 ((n : Int) / 256), .int .u8 ((n : Int) % 256)] 5)) = .ok (str (pre n)) (w.alloc (.cells #[.int .u8 ((n : Int) / 256), .int .u8 ((n : Int) % 256)] 5)) := by
  rw [← ub_pre n h]
  exact run_convert_bytes_back (P := Try.prog) _ 28 9 5 ⟨w.heap.size, 0, none⟩ 2 (pre n) Try.underlying28 Try.underlying5 Try.underlying9 (fun j hj => bytes_new w (pre n) j _ (by simp [ub, hj]))
set_option maxHeartbeats 800000 in
theorem rput_yes (l : Bs) (h : l.length ≤ 65535) (w : World) :
    Calls Try.prog 9 #[str l] w fun e w' => e = .returned (.tuple #[str (fr l), .int .i64 0]) ∧ Below w.heap.size w w' := by
  have hp := pre_text w l.length h
  have hs := size_mk l
  have hc := cat (pre l.length) l
  have hpl : ¬ 9223372036854775807 < (pre l.length).length + l.length := by rw [pre_length]; omega
  rw [show fr l = pre l.length ++ l from rfl]
  generalize l.length = n at *
  go_enter Try.func9, Try.ntmps9
  go_wp2
  go_ret2
  exact ⟨rfl, (Below.refl _ _).alloc (Nat.le_refl _) _⟩
set_option maxHeartbeats 800000 in
theorem rput_no (l : Bs) (_ : 65535 < l.length) (_ : l.length ≤ 1000000000) (w : World) :
    Calls Try.prog 9 #[str l] w fun e w' => e = .returned (.tuple #[str [], .int .i64 11]) ∧ Below w.heap.size w w' := by
  have hs := size_mk l
  generalize l.length = n at *
  go_enter Try.func9, Try.ntmps9
  go_wp2
  go_ret2
  exact ⟨rfl, Below.refl _ _⟩
theorem extract_mk (l : Bs) (i j : Nat) : (⟨l.toArray⟩ : ByteArray).extract i j = ⟨((l.take j).drop i).toArray⟩ := by
  apply ByteArray.ext
  apply Array.toList_inj.1
  rw [ByteArray.data_extract, Array.toList_extract]
  simp [List.extract, List.drop_take]
set_option maxRecDepth 100000 in
set_option maxHeartbeats 1600000 in
theorem rnext_any (R : Bs) (hB : R.length ≤ 1000000000) (w : World) :
    Calls Try.prog 14 #[str R] w fun e w' => e = .returned (.tuple #[str (hd R), str (tl R), .bool (fl R != 0)]) ∧ Below w.heap.size w w' := by
  have hs := size_mk R
  by_cases h2 : R.length < 2
  · have hf := fl_no (R := R) (by omega)
    have e1 : hd R = [] := by unfold hd; rw [hf]; rfl
    have e2 : tl R = R := by unfold tl; rw [hf]; rfl
    rw [e1, e2, hf]
    have q : ((R.length : Int) < 2) := by omega
    generalize R.length = n at *
    clear hf e1 e2
    go_enter Try.func14, Try.ntmps14
    go_wp2
    go_ret3
    exact ⟨rfl, Below.refl _ _⟩
  · have hz := sz_two (R := R) (by omega)
    have hzl := sz_lt R
    have g0 : ∀ h, (⟨R.toArray⟩ : ByteArray)[0]'h = R[0]'(by omega) := fun h => rfl
    have g1 : ∀ h, (⟨R.toArray⟩ : ByteArray)[1]'h = R[1]'(by omega) := fun h => rfl
    have hx0 := R[0].toNat_lt
    have hx1 := R[1].toNat_lt
    have HF := Lib.hid (show fl R = if sz R + 2 ≤ R.length then 2 + sz R else 0 by
      unfold fl; congr 1; simp only [eq_iff_iff]; omega)
    have q0 : decide ((R.length : Int) < 2) = false := by simp; omega
    have e3 : fl R = 2 + sz R → sz R + 2 ≤ R.length → (⟨R.toArray⟩ : ByteArray).extract 2 (2 + sz R) = ⟨(hd R).toArray⟩ ∧ (⟨R.toArray⟩ : ByteArray).extract (2 + sz R) R.length = ⟨(tl R).toArray⟩ := fun h _ => by
      rw [extract_mk, extract_mk, List.take_of_length_le (Nat.le_refl _)]
      unfold hd tl
      rw [h]
      exact ⟨rfl, rfl⟩
    generalize hx : R[0].toNat = x at *
    generalize hy : R[1].toNat = y at *
    replace g0 : ∀ h, ((⟨R.toArray⟩ : ByteArray)[0]'h).toNat = x := fun h => by rw [g0, hx]
    replace g1 : ∀ h, ((⟨R.toArray⟩ : ByteArray)[1]'h).toNat = y := fun h => by rw [g1, hy]
    by_cases h3 : sz R + 2 ≤ R.length
    · have hf : fl R = 2 + sz R := by rw [HF.out, if_pos h3]
      obtain ⟨e4, e5⟩ := e3 hf h3
      have hf2 : (fl R != 0) = true := by rw [hf]; simp
      rw [hf2]
      rw [hz] at h3 e4 e5
      have q1 : decide ((R.length : Int) - 2 < (x : Int) * 256 + (y : Int)) = false := by simp; omega
      have s1 := fun w => run_slice_string (P := Try.prog) w 9 ⟨R.toArray⟩ .i64 .i64 2 (2 + ((x : Int) * 256 + (y : Int))) Try.underlying9 (by omega) (by omega) (by rw [size_mk]; omega)
      have s2 := fun w => run_slice_string_l (P := Try.prog) w 9 ⟨R.toArray⟩ Try.underlying9 .i64 (2 + ((x : Int) * 256 + (y : Int))) (by omega) (by rw [size_mk]; omega)
      rw [show (2 + ((x : Int) * 256 + (y : Int))).toNat = 2 + (x * 256 + y) by omega, show (2 : Int).toNat = 2 from rfl, e4] at s1
      rw [show (2 + ((x : Int) * 256 + (y : Int))).toNat = 2 + (x * 256 + y) by omega, hs, e5] at s2
      clear e3 e4 e5 hf hf2
      go_enter Try.func14, Try.ntmps14
      go_wp2_with fail
      go_quiet (fail)
      go_wp2_with fail
      go_quiet (fail)
      go_wp2
      go_ret3
      exact ⟨rfl, (below_drewN _ _).trans (show Below w.heap.size _ _ from below_drewN (w.drewN _) _)⟩
    · have hf : fl R = 0 := by rw [HF.out, if_neg h3]
      have e1 : hd R = [] := by unfold hd; rw [hf]; rfl
      have e2 : tl R = R := by unfold tl; rw [hf]; rfl
      rw [e1, e2, hf]
      have q1 : (R.length : Int) - 2 < (x : Int) * 256 + (y : Int) := by omega
      clear e1 e2 e3 hf
      go_enter Try.func14, Try.ntmps14
      go_wp2_with fail
      go_quiet (fail)
      go_wp2
      go_ret3
      exact ⟨rfl, below_drewN _ _⟩
end Go.Proofs.Ytnhjbhmhloeaeaa

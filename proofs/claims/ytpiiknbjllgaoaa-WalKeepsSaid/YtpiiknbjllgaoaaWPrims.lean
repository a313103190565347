/-
  What the log's functions on numbers and texts hand back: a number's bytes, the number of bytes.
-/
import Derived.Test.YtpiiknbjllgaoaaWMath
import Derived.Test.YtpiiknbjllgaoaaSort
import Derived.Test.YtpiiknbjllgaoaaCOf
namespace Go.Proofs.Ytpiiknbjllgaoaa
open Go.RowKit
theorem four_back (w : World) (x y z u : UInt8) (z1 z2 z3 z4 : Int) (h1 : z1 = (x.toNat : Int)) (h2 : z2 = (y.toNat : Int)) (h3 : z3 = (z.toNat : Int)) (h4 : z4 = (u.toNat : Int)) :
    (convert 31 9 (.slice (some ⟨w.heap.size, 0, none⟩) 4 4)).run Try.prog (w.alloc (.cells #[.int .u8 z1, .int .u8 z2, .int .u8 z3, .int .u8 z4] 5)) = .ok (.string ⟨#[x, y, z, u]⟩) (w.alloc (.cells #[.int .u8 z1, .int .u8 z2, .int .u8 z3, .int .u8 z4] 5)) :=
  run_convert_bytes_back (P := Try.prog) _ 31 9 5 ⟨w.heap.size, 0, none⟩ 4 [x, y, z, u] Try.underlying31 Try.underlying5 Try.underlying9 (fun j hj => by
    have hn := World.news_of_block (cs := #[.int .u8 z1, .int .u8 z2, .int .u8 z3, .int .u8 z4]) (t := 5) (fr := (0, 0)) (heap_alloc_new w _) j
    have hj2 : j < 4 := hj
    subst h1 h2 h3 h4
    rcases (by omega : j = 0 ∨ j = 1 ∨ j = 2 ∨ j = 3) with rfl | rfl | rfl | rfl <;> exact hn _ rfl)
theorem four_parts (n : Nat) (hn : n < 4294967296) : ((n : Int) / 16777216 = ((UInt8.ofNat (n / 16777216)).toNat : Int)) ∧ ((n : Int) / 65536 % 256 = ((UInt8.ofNat (n / 65536)).toNat : Int)) ∧ ((n : Int) / 256 % 256 = ((UInt8.ofNat (n / 256)).toNat : Int)) ∧ ((n : Int) % 256 = ((UInt8.ofNat n).toNat : Int)) := by
  simp only [UInt8.toNat_ofNat']
  omega
set_option maxRecDepth 100000 in
set_option maxHeartbeats 1600000 in
theorem bytesOf_any (n : Nat) (hn : n < 4294967296) (w : World) : Calls Try.prog 51 #[.int .u32 (n : Int)] w fun e w' => e = .returned (str (fourB n)) ∧ Below w.heap.size w w' := by
  obtain ⟨h1, h2, h3, h4⟩ := four_parts n hn
  have hb := four_back w _ _ _ _ _ _ _ _ h1 h2 h3 h4
  clear h1 h2 h3 h4
  go_enter Try.func51, Try.ntmps51
  go_wp2
  go_ret
  exact ⟨rfl, (Below.refl _ _).alloc (Nat.le_refl _) _⟩
set_option maxRecDepth 100000 in
set_option maxHeartbeats 1600000 in
theorem rfour_any (n : Nat) (hn : n < 4294967296) (w : World) : Calls Try.prog 31 #[.int .u32 (n : Int)] w fun e w' => e = .returned (str (fourB n)) ∧ Below w.heap.size w w' := by
  obtain ⟨h1, h2, h3, h4⟩ := four_parts n hn
  have hb := four_back w _ _ _ _ _ _ _ _ h1 h2 h3 h4
  clear h1 h2 h3 h4
  go_enter Try.func31, Try.ntmps31
  go_wp2
  go_ret
  exact ⟨rfl, (Below.refl _ _).alloc (Nat.le_refl _) _⟩
theorem u32_or_byte (x c : Nat) (hx : x < 16777216) (hc : c < 256) : bits .or .u32 ((x : Int) * 256) (c : Int) = ((x * 256 + c : Nat) : Int) := by
  have h := u32_or_nat (x * 256) c (by omega) (by omega)
  have h2 : x * 256 ||| c = x * 256 + c := by
    have := Nat.two_pow_add_eq_or_of_lt (i := 8) (by omega : c < 2 ^ 8) x
    rw [Nat.mul_comm x 256]
    exact this.symm
  rw [h2] at h
  rw [← h, show ((x * 256 : Nat) : Int) = (x : Int) * 256 from Int.natCast_mul x 256]
theorem num_snoc (l : Bs) (b : UInt8) : numB (l ++ [b]) = numB l * 256 + b.toNat := by
  unfold numB; rw [List.foldl_append]; rfl
theorem num_small (l : Bs) (h : l.length ≤ 3) : numB l < 16777216 := by
  match l, h with
  | [], _ => decide
  | [a], _ => have := a.toNat_lt; simp only [numB, List.foldl_cons, List.foldl_nil]; omega
  | [a, b], _ => have := a.toNat_lt; have := b.toNat_lt; simp only [numB, List.foldl_cons, List.foldl_nil]; omega
  | [a, b, c], _ => have := a.toNat_lt; have := b.toNat_lt; have := c.toNat_lt; simp only [numB, List.foldl_cons, List.foldl_nil]; omega
theorem get_str (s : ByteArray) (k : Nat) (h : k < s.size) : s.data.toList.take (k + 1) = s.data.toList.take k ++ [s[k]] := by
  rw [List.take_succ_eq_append_getElem (by simpa using h)]; rfl
set_option maxRecDepth 100000 in
set_option maxHeartbeats 1600000 in
theorem numberOf_any (s : ByteArray) (hs : s.size = 4) (w : World) : Calls Try.prog 75 #[.string s] w fun e w' => e = .returned (.int .u32 (numB s.data.toList : Nat)) ∧ w = w' := by
  go_enter Try.func75, Try.ntmps75
  go_wp2
  go_loop [3, 4, 5] (fun v _j i => ∃ k : Nat, k ≤ 4 ∧ i = .int .i64 k ∧ v = .int .u32 (numB (s.data.toList.take k) : Nat)) (fun _ _ i => 4 - (intOf i).toNat)
  case atStart => exact ⟨0, by omega, rfl, rfl⟩
  case round =>
    obtain ⟨k, hk, rfl, rfl⟩ := hrel
    by_cases hlt : k < 4
    · have hx := num_small (s.data.toList.take k) (by rw [List.length_take]; omega)
      have hb : (s[k]'(by omega)).toNat < 256 := (s[k]'(by omega)).toNat_lt
      have HF := Lib.hid (num_snoc (s.data.toList.take k) (s[k]'(by omega)))
      rw [← get_str s k (by omega)] at HF
      have hor := u32_or_byte (numB (s.data.toList.take k)) (s[k]'(by omega)).toNat hx hb
      rw [← HF.out] at hor
      obtain ⟨z, hz⟩ : ∃ z, z = numB (s.data.toList.take k) := ⟨_, rfl⟩
      rw [← hz] at hx hor HF ⊢
      have HO := Lib.hid hor
      clear hz hor
      go_wp2
      go_roundw
      case rel => exact ⟨k + 1, by omega, by go_num, int_u32 HO.out⟩
      case measure => simp [intOf]; omega
    · obtain rfl : k = 4 := by omega
      go_wp2
      go_ret
      exact ⟨ret_u32 (by rw [List.take_of_length_le (by rw [← size_list]; omega)]), rfl⟩
/-- A slice of a string. -/
theorem sub_str (s : ByteArray) (i j : Nat) : s.extract i j = ⟨((s.data.toList.take j).drop i).toArray⟩ := by
  apply ByteArray.ext
  apply Array.toList_inj.1
  rw [ByteArray.data_extract, Array.toList_extract]
  simp [List.extract_eq_take_drop, List.drop_take]
theorem fst_eq (b : Bs) (h8 : 8 ≤ b.length) (hn : numB (b.take 4) ≤ 60000) (hl : numB (b.take 4) ≤ b.length - 8) (ok : Bool) (hc : ok = decide (cs (b.take 4 ++ (b.drop 8).take (numB (b.take 4))) = numB ((b.drop 4).take 4))) : fstB b = if ok = true then some ((b.drop 8).take (numB (b.take 4))) else none := by
  unfold fstB
  subst hc
  by_cases h : cs (b.take 4 ++ (b.drop 8).take (numB (b.take 4))) = numB ((b.drop 4).take 4)
  · rw [if_pos ⟨h8, hn, hl, h⟩, if_pos (by simpa using h)]
  · rw [if_neg (fun hh => h hh.2.2.2), if_neg (by simpa using h)]
end Go.Proofs.Ytpiiknbjllgaoaa

/-
  Piece: What piece, number, Byte, Word, Long and Raw answer, for every text, place and number; no older memory is changed.
-/
import Derived.Test.YtljfkjbagebncaaG02
import Derived.Test.YtljfkjbagebncaaG05

/- Piece -/
namespace Go.Proofs.Ytljfkjbagebncaa
open Go.RowKit
theorem piE_yes {s : Bs} {a n : Int} (h1 : 0 ≤ a) (h2 : 0 ≤ n) (h3 : n ≤ (s.length : Int) - a) : piE s a n = true := by unfold piE; simp; omega
theorem piE_no {s : Bs} {a n : Int} (h : ¬ (0 ≤ a ∧ 0 ≤ n ∧ n ≤ (s.length : Int) - a)) : piE s a n = false := by unfold piE; simpa using h
theorem pi_no {s : Bs} {a n : Int} (h : piE s a n = false) : piS s a n = [] ∧ piP s a n = 0 ∧ piR s a n = 10 := by unfold piS piP piR; simp [h]
theorem pi_yes {s : Bs} {a n : Int} (h : piE s a n = true) : piS s a n = (s.drop a.toNat).take n.toNat ∧ piP s a n = a + n ∧ piR s a n = 0 := by unfold piS piP piR; simp [h]
theorem extract_piece (s : ByteArray) (i j : Nat) (_ : i ≤ j) : s.extract i j = ⟨((s.data.toList.drop i).take (j - i)).toArray⟩ := by
  apply ByteArray.ext
  apply Array.toList_inj.1
  rw [ByteArray.data_extract, Array.toList_extract]
theorem ret3 {a b : ByteArray} {x y u v : Int} (h : a = b) (h2 : x = y) (h3 : u = v) : Ending.returned (.tuple #[.string a, .int .i64 x, .int .i64 u]) = .returned (.tuple #[.string b, .int .i64 y, .int .i64 v]) := by rw [h, h2, h3]
/-- What piece answers. -/
abbrev pcV (s : Bs) (a n : Int) : Value := .tuple #[str (piS s a n), .int .i64 (piP s a n), .int .i64 (piR s a n)]
theorem pcV_no {s : Bs} {a n : Int} (h : piE s a n = false) : Value.tuple #[.string ⟨#[]⟩, .int .i64 0, .int .i64 10] = pcV s a n := by
  obtain ⟨h1, h2, h3⟩ := pi_no h
  unfold pcV; rw [h1, h2, h3]
set_option maxHeartbeats 800000 in
theorem piece_any (s : ByteArray) (hs : s.size ≤ 140737488351232) (a n : Int) (ha : -9223372036854775808 ≤ a ∧ a ≤ 9223372036854775807) (hn : -9223372036854775808 ≤ n ∧ n ≤ 9223372036854775807) (w : World) :
    Calls Try.prog 102 #[.string s, .int .i64 a, .int .i64 n] w fun e w' => e = .returned (pcV s.data.toList a n) ∧ w = w' := by
  have hsz := size_list s
  by_cases g1 : a < 0
  · have E := Lib.hid (pcV_no (s := s.data.toList) (a := a) (n := n) (piE_no (by omega)))
    rw [← E.out]
    clear hsz
    go_enter Try.func102, Try.ntmps102
    go_wp2
    go_ret3
    exact ⟨rfl, rfl⟩
  · by_cases g2 : n < 0
    · have E := Lib.hid (pcV_no (s := s.data.toList) (a := a) (n := n) (piE_no (by omega)))
      rw [← E.out]
      clear hsz
      go_enter Try.func102, Try.ntmps102
      go_wp2
      go_ret3
      exact ⟨rfl, rfl⟩
    · by_cases g3 : (s.size : Int) - a < n
      · have E := Lib.hid (pcV_no (s := s.data.toList) (a := a) (n := n) (piE_no (by omega)))
        rw [← E.out]
        clear hsz
        go_enter Try.func102, Try.ntmps102
        go_wp2
        go_ret3
        exact ⟨rfl, rfl⟩
      · obtain ⟨e1, e2, e3⟩ := pi_yes (s := s.data.toList) (piE_yes (by omega) (by omega) (by omega : n ≤ (s.data.toList.length : Int) - a))
        have hx := extract_piece s a.toNat (a + n).toNat (by omega)
        rw [show (a + n).toNat - a.toNat = n.toNat by omega, ← e1] at hx
        have E : Hid (pcV s.data.toList a n = .tuple #[.string (s.extract a.toNat (a + n).toNat), .int .i64 (a + n), .int .i64 0]) := Lib.hid (by unfold pcV; rw [hx, e2, e3])
        rw [E.out]
        have hsl : ∀ w, (Instr.slice 9 (.string s) (some (.int .i64 a)) (some (.int .i64 (a + n))) none).run Try.prog w = .ok (.string (s.extract a.toNat (a + n).toNat)) w := fun w =>
          run_slice_string (P := Try.prog) w 9 s .i64 .i64 a (a + n) Try.underlying9 (by omega) (by omega) (by omega)
        have g1' : decide (a < 0) = false := by simpa using g1
        have g2' : decide (n < 0) = false := by simpa using g2
        have g3' : decide ((s.size : Int) - a < n) = false := by simpa using g3
        clear hsz e1 e2 e3 hx E
        go_enter Try.func102, Try.ntmps102
        go_wp2
        go_ret3
        exact ⟨rfl, rfl⟩
/-- THE PIECE: its text is of at most so many bytes. -/
theorem piS_len (s : Bs) (a n : Int) (m : Nat) (h : n ≤ (m : Int)) : (piS s a n).length ≤ m := by
  unfold piS; split
  · simp; omega
  · simp
theorem numB_take (t : ByteArray) (k : Nat) (h : k < t.size) : numB (t.data.toList.take (k + 1)) = numB (t.data.toList.take k) * 256 + t[k].toNat := by
  rw [List.take_succ_eq_append_getElem (by simpa using h), numB_snoc]; rfl
theorem numB_take_lt (t : ByteArray) (k : Nat) (h : k ≤ 3) : numB (t.data.toList.take k) < 16777216 := by
  have h1 := numB_lt (t.data.toList.take k)
  have h2 : 256 ^ (t.data.toList.take k).length ≤ 256 ^ 3 := Nat.pow_le_pow_right (by decide) (by simp; omega)
  omega
theorem or_add (a b : Nat) (h : b < 256) : a * 256 ||| b = a * 256 + b := by
  have := Nat.two_pow_add_eq_or_of_lt (i := 8) (by omega : b < 2 ^ 8) a
  rw [Nat.mul_comm a 256]
  exact this.symm
theorem ret_nu {k : IntKind} {x y p r : Int} (h : x = y) : Ending.returned (.tuple #[.int k x, .int .i64 p, .int .i64 r]) = .returned (.tuple #[.int k y, .int .i64 p, .int .i64 r]) := by rw [h]
theorem or_val (x c : Nat) (hx : x < 16777216) (hc : c < 256) : Value.int .u32 (bits .or .u32 ((x : Int) * 256) (c : Int)) = .int .u32 ((x * 256 + c : Nat) : Int) := by
  have h := u32_or_nat (x * 256) c (by omega) (by omega)
  rw [or_add x c hc] at h
  rw [← h, show ((x * 256 : Nat) : Int) = (x : Int) * 256 from Int.natCast_mul x 256]
set_option maxRecDepth 100000 in
set_option maxHeartbeats 1600000 in
theorem number_any (s : ByteArray) (hs : s.size ≤ 140737488351232) (a n : Int) (ha : -9223372036854775808 ≤ a ∧ a ≤ 9223372036854775807) (hn : -9223372036854775808 ≤ n ∧ n ≤ 4) (w : World) :
    Calls Try.prog 78 #[.string s, .int .i64 a, .int .i64 n] w fun e w' => e = .returned (.tuple #[.int .u32 (numB (piS s.data.toList a n) : Int), .int .i64 (piP s.data.toList a n), .int .i64 (piR s.data.toList a n)]) ∧ w = w' := by
  obtain ⟨t, ht⟩ : ∃ t : ByteArray, t = ⟨(piS s.data.toList a n).toArray⟩ := ⟨_, rfl⟩
  have hl : t.size ≤ 4 := by rw [size_list, ht]; exact piS_len _ _ _ 4 hn.2
  have htl : t.data.toList = piS s.data.toList a n := by rw [ht]
  rw [← htl]
  have HT := Lib.hid ht
  obtain ⟨p, hp⟩ : ∃ p, p = piP s.data.toList a n := ⟨_, rfl⟩
  obtain ⟨r, hr⟩ : ∃ r, r = piR s.data.toList a n := ⟨_, rfl⟩
  rw [← hp, ← hr]
  have HP := Lib.hid hp
  have HR := Lib.hid hr
  clear ht htl hp hr
  go_enter Try.func78, Try.ntmps78
  go_wp2_with fail
  refine (piece_any s hs a n ha (by omega) w).mono ?_
  rintro e w' ⟨rfl, rfl⟩
  rw [show pcV s.data.toList a n = .tuple #[.string t, .int .i64 p, .int .i64 r] by rw [HT.out, HP.out, HR.out]]
  go_wp2
  go_loopw [12, 24] (fun v i wr => ∃ k : Nat, k ≤ t.size ∧ i = .int .i64 k ∧ v = .int .u32 (numB (t.data.toList.take k) : Int) ∧ w = wr) (fun _ i _ => t.size - (intOf i).toNat)
  case atStart => exact ⟨0, by omega, rfl, rfl, rfl⟩
  case round =>
    obtain ⟨k, hk, rfl, rfl, rfl⟩ := hrel
    by_cases hlt : k < t.size
    · have hb := numB_take t k hlt
      have hx := numB_take_lt t k (by omega)
      have HB := Lib.hid hb
      obtain ⟨x, hx0⟩ : ∃ x, x = numB (t.data.toList.take k) := ⟨_, rfl⟩
      rw [← hx0] at hx HB ⊢
      have hc : t[k].toNat < 256 := t[k].toNat_lt
      clear hb hx0
      go_wp2
      go_roundw
      case rel => exact ⟨k + 1, by omega, by go_num, by rw [HB.out]; exact or_val x t[k].toNat hx hc, trivial⟩
      case measure => simp [intOf]; omega
    · have e : t.data.toList.take k = t.data.toList := List.take_of_length_le (by rw [← size_list]; omega)
      have E := Lib.hid e
      clear e
      go_wp2
      go_ret3
      exact ⟨ret_nu (by rw [E.out]), rfl⟩
theorem piS_len' (s : Bs) (a : Int) (m : Nat) : numB (piS s a (m : Int)) < 256 ^ m := by
  have h1 := numB_lt (piS s a (m : Int))
  have h2 : 256 ^ (piS s a (m : Int)).length ≤ 256 ^ m := Nat.pow_le_pow_right (by decide) (piS_len _ _ _ m (by omega))
  omega
/-- What Byte, Word and Long answer. -/
abbrev nuV (k : IntKind) (s : Bs) (a n : Int) : Value := .tuple #[.int k (numB (piS s a n) : Int), .int .i64 (piP s a n), .int .i64 (piR s a n)]
set_option maxHeartbeats 1600000 in
theorem long_any (s : ByteArray) (hs : s.size ≤ 140737488351232) (a : Int) (ha : -9223372036854775808 ≤ a ∧ a ≤ 9223372036854775807) (w : World) :
    Calls Try.prog 101 #[.string s, .int .i64 a] w fun e w' => e = .returned (nuV .u32 s.data.toList a 4) ∧ w = w' := by
  go_enter Try.func101, Try.ntmps101
  go_wp2_with fail
  refine (number_any s hs a 4 ha (by omega) w).mono ?_
  rintro e w' ⟨rfl, rfl⟩
  go_wp2
  go_ret3
  exact ⟨rfl, rfl⟩
set_option maxHeartbeats 1600000 in
theorem word_any (s : ByteArray) (hs : s.size ≤ 140737488351232) (a : Int) (ha : -9223372036854775808 ≤ a ∧ a ≤ 9223372036854775807) (w : World) :
    Calls Try.prog 40 #[.string s, .int .i64 a] w fun e w' => e = .returned (nuV .u16 s.data.toList a 2) ∧ w = w' := by
  have hx : numB (piS s.data.toList a 2) < 256 ^ 2 := piS_len' s.data.toList a 2
  have C := number_any s hs a 2 ha (by omega) w
  unfold nuV
  obtain ⟨x, hx0⟩ : ∃ x, x = numB (piS s.data.toList a 2) := ⟨_, rfl⟩
  rw [← hx0] at hx C ⊢
  have hx1 : (x : Int) < 65536 := by have : x < 65536 := hx; omega
  have HC := Lib.hid C
  clear hx C hx0
  go_enter Try.func40, Try.ntmps40
  go_wp2_with fail
  refine HC.out.mono ?_
  rintro e w' ⟨rfl, rfl⟩
  go_wp2
  go_ret3
  exact ⟨rfl, rfl⟩
set_option maxHeartbeats 1600000 in
theorem byte_any (s : ByteArray) (hs : s.size ≤ 140737488351232) (a : Int) (ha : -9223372036854775808 ≤ a ∧ a ≤ 9223372036854775807) (w : World) :
    Calls Try.prog 118 #[.string s, .int .i64 a] w fun e w' => e = .returned (nuV .u8 s.data.toList a 1) ∧ w = w' := by
  have hx : numB (piS s.data.toList a 1) < 256 ^ 1 := piS_len' s.data.toList a 1
  have C := number_any s hs a 1 ha (by omega) w
  unfold nuV
  obtain ⟨x, hx0⟩ : ∃ x, x = numB (piS s.data.toList a 1) := ⟨_, rfl⟩
  rw [← hx0] at hx C ⊢
  have hx1 : (x : Int) < 256 := by have : x < 256 := hx; omega
  have HC := Lib.hid C
  clear hx C hx0
  go_enter Try.func118, Try.ntmps118
  go_wp2_with fail
  refine HC.out.mono ?_
  rintro e w' ⟨rfl, rfl⟩
  go_wp2
  go_ret3
  exact ⟨rfl, rfl⟩
set_option maxHeartbeats 1600000 in
theorem raw_any (s : ByteArray) (hs : s.size ≤ 140737488351232) (a n : Int) (ha : -9223372036854775808 ≤ a ∧ a ≤ 9223372036854775807) (hn : -9223372036854775808 ≤ n ∧ n ≤ 9223372036854775807) (w : World) :
    Calls Try.prog 72 #[.string s, .int .i64 a, .int .i64 n] w fun e w' => e = .returned (pcV s.data.toList a n) ∧ Below w.heap.size w w' := by
  go_enter Try.func72, Try.ntmps72
  go_wp2_with fail
  refine (piece_any s hs a n ha hn w).mono ?_
  rintro e w' ⟨rfl, rfl⟩
  go_wp2_with (go_at_call 88; refine (copied_any _ _).mono ?_; rintro e w1 ⟨rfl, hb1⟩)
  go_ret3
  exact ⟨rfl, hb1⟩
/-! ### The document's own -/
set_option maxHeartbeats 800000 in
theorem rraw_any (s : ByteArray) (hs : s.size ≤ 140737488351232) (a n : Int) (ha : -9223372036854775808 ≤ a ∧ a ≤ 9223372036854775807) (hn : -9223372036854775808 ≤ n ∧ n ≤ 9223372036854775807) (w : World) :
    Calls Try.prog 75 #[.string s, .int .i64 a, .int .i64 n] w fun e w' => e = .returned (pcV s.data.toList a n) ∧ w = w' := by
  have hsz := size_list s
  by_cases h : 0 ≤ a ∧ 0 ≤ n ∧ n ≤ (s.size : Int) - a
  · obtain ⟨h1, h2, h3⟩ := h
    obtain ⟨e1, e2, e3⟩ := pi_yes (s := s.data.toList) (piE_yes (by omega) (by omega) (by omega : n ≤ (s.data.toList.length : Int) - a))
    have hx := extract_piece s a.toNat (a + n).toNat (by omega)
    rw [show (a + n).toNat - a.toNat = n.toNat by omega, ← e1] at hx
    have E : Hid (pcV s.data.toList a n = .tuple #[.string (s.extract a.toNat (a + n).toNat), .int .i64 (a + n), .int .i64 0]) := Lib.hid (by unfold pcV; rw [hx, e2, e3])
    rw [E.out]
    have hsl : ∀ w, (Instr.slice 9 (.string s) (some (.int .i64 a)) (some (.int .i64 (a + n))) none).run Try.prog w = .ok (.string (s.extract a.toNat (a + n).toNat)) w := fun w =>
      run_slice_string (P := Try.prog) w 9 s .i64 .i64 a (a + n) Try.underlying9 (by omega) (by omega) (by omega)
    have g1' : decide (a < 0) = false := by simp; omega
    have g2' : decide (n < 0) = false := by simp; omega
    have g4' : decide ((s.size : Int) < a) = false := by simp; omega
    have g3' : decide ((s.size : Int) - a < n) = false := by simp; omega
    clear hsz e1 e2 e3 hx E
    go_enter Try.func75, Try.ntmps75
    go_wp2
    go_ret3
    exact ⟨rfl, rfl⟩
  · have E := Lib.hid (pcV_no (s := s.data.toList) (a := a) (n := n) (piE_no (by rw [← hsz]; exact h)))
    rw [← E.out]
    clear hsz
    by_cases g1 : a < 0
    · go_enter Try.func75, Try.ntmps75
      go_wp2
      go_ret3
      exact ⟨rfl, rfl⟩
    · by_cases g2 : n < 0
      · go_enter Try.func75, Try.ntmps75
        go_wp2
        go_ret3
        exact ⟨rfl, rfl⟩
      · by_cases g4 : (s.size : Int) < a
        · go_enter Try.func75, Try.ntmps75
          go_wp2
          go_ret3
          exact ⟨rfl, rfl⟩
        · have g3 : (s.size : Int) - a < n := by omega
          clear h
          go_enter Try.func75, Try.ntmps75
          go_wp2
          go_ret3
          exact ⟨rfl, rfl⟩
set_option maxRecDepth 100000 in
set_option maxHeartbeats 1600000 in
theorem rnumber_any (s : ByteArray) (hs : s.size ≤ 140737488351232) (a n : Int) (ha : -9223372036854775808 ≤ a ∧ a ≤ 9223372036854775807) (hn : -9223372036854775808 ≤ n ∧ n ≤ 4) (w : World) :
    Calls Try.prog 37 #[.string s, .int .i64 a, .int .i64 n] w fun e w' => e = .returned (nuV .i64 s.data.toList a n) ∧ w = w' := by
  obtain ⟨t, ht⟩ : ∃ t : ByteArray, t = ⟨(piS s.data.toList a n).toArray⟩ := ⟨_, rfl⟩
  have hl : t.size ≤ 4 := by rw [size_list, ht]; exact piS_len _ _ _ 4 hn.2
  have htl : t.data.toList = piS s.data.toList a n := by rw [ht]
  have HT := Lib.hid ht
  have HTL := Lib.hid htl
  have hcase : (piR s.data.toList a n = 0) ∨ (piR s.data.toList a n = 10 ∧ piP s.data.toList a n = 0 ∧ piS s.data.toList a n = []) := by
    cases h : piE s.data.toList a n with
    | true => exact .inl (pi_yes h).2.2
    | false => obtain ⟨h1, h2, h3⟩ := pi_no h; exact .inr ⟨h3, h2, h1⟩
  obtain ⟨p, hp⟩ : ∃ p, p = piP s.data.toList a n := ⟨_, rfl⟩
  have HP := Lib.hid hp
  rcases hcase with h0 | ⟨h0, h1, h2⟩
  · have H0 := Lib.hid h0
    clear ht htl hp h0
    rw [show nuV .i64 s.data.toList a n = .tuple #[.int .i64 (numB t.data.toList), .int .i64 p, .int .i64 0] by rw [HTL.out, HP.out]; unfold nuV; rw [H0.out]]
    go_enter Try.func37, Try.ntmps37
    go_wp2_with fail
    refine (rraw_any s hs a n ha (by omega) w).mono ?_
    rintro e w' ⟨rfl, rfl⟩
    rw [show pcV s.data.toList a n = .tuple #[.string t, .int .i64 p, .int .i64 0] by rw [HT.out, HP.out]; unfold pcV; rw [H0.out]]
    go_wp2
    go_loopw [12, 13] (fun v i wr => ∃ k : Nat, k ≤ t.size ∧ i = .int .i64 k ∧ v = .int .i64 (numB (t.data.toList.take k) : Int) ∧ w = wr) (fun _ i _ => t.size - (intOf i).toNat)
    case atStart => exact ⟨0, by omega, rfl, rfl, rfl⟩
    case round =>
      obtain ⟨k, hk, rfl, rfl, rfl⟩ := hrel
      by_cases hlt : k < t.size
      · have hb := numB_take t k hlt
        have hx := numB_take_lt t k (by omega)
        have HB := Lib.hid hb
        obtain ⟨x, hx0⟩ : ∃ x, x = numB (t.data.toList.take k) := ⟨_, rfl⟩
        rw [← hx0] at hx HB ⊢
        have hc : t[k].toNat < 256 := t[k].toNat_lt
        have hx1 : (x : Int) < 16777216 := by omega
        clear hb hx0 hx
        go_wp2
        go_roundw
        case rel => exact ⟨k + 1, by omega, by go_num, by rw [HB.out]; push_cast; rfl, trivial⟩
        case measure => simp [intOf]; omega
      · have e : t.data.toList.take k = t.data.toList := List.take_of_length_le (by rw [← size_list]; omega)
        have E := Lib.hid e
        clear e
        go_wp2
        go_ret3
        exact ⟨ret_nu (by rw [E.out]), rfl⟩
  · have e1 : pcV s.data.toList a n = .tuple #[.string ⟨#[]⟩, .int .i64 0, .int .i64 10] := by unfold pcV; rw [h0, h1, h2]
    have e2 : nuV .i64 s.data.toList a n = .tuple #[.int .i64 0, .int .i64 0, .int .i64 10] := by unfold nuV; rw [h0, h1, h2]; rfl
    have E1 := Lib.hid e1
    rw [e2]
    clear h0 h1 h2 e1 e2 ht htl hp
    go_enter Try.func37, Try.ntmps37
    go_wp2_with fail
    refine (rraw_any s hs a n ha (by omega) w).mono ?_
    rintro e w' ⟨rfl, rfl⟩
    rw [E1.out]
    go_wp2
    go_ret3
    exact ⟨rfl, rfl⟩
end Go.Proofs.Ytljfkjbagebncaa

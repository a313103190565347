/-
  The walk of the law NameOrder: for every three texts it returns true; no older memory is changed.
-/
import Derived.Test.YtpeojicimmofjaaAwake
import Derived.Test.YtpeojicimmofjaaOrderMath
namespace Go.Proofs.Ytpeojicimmofjaa
open Go.RowKit
set_option maxRecDepth 100000 in
set_option maxHeartbeats 6400000 in
theorem order_no1 (a b c : ByteArray) (wa : a.size ≤ 140737488351232) (ga : ¬ chk a.data.toList = 0) (w : World) :
    Calls Try.prog 7 #[.string a, .string b, .string c] w fun e w' => e = .returned (.bool true) ∧ Below w.heap.size w w' := by
  have q : (chk a.data.toList == 0) = false := by simpa using ga
  have q' : (chk a.data.toList != 0) = true := by simpa using ga
  clear ga
  go_enter Try.func7, Try.ntmps7
  go_wp2_with fail
  refine (awake_any w).mono ?_
  rintro e w1 ⟨rfl, hb1⟩
  have h1 := hb1
  go_wp2_with fail
  refine (check_any a wa w1).mono ?_
  rintro e w2 ⟨rfl, hb2⟩
  have h2 := h1.trans (hb2.mono h1.size)
  clear h1 hb2
  go_wp2
  go_ret
  exact ⟨rfl, h2⟩
set_option maxRecDepth 100000 in
set_option maxHeartbeats 6400000 in
theorem order_no2 (a b c : ByteArray) (wa : a.size ≤ 140737488351232) (wb : b.size ≤ 140737488351232) (ga : chk a.data.toList = 0) (gb : ¬ chk b.data.toList = 0) (w : World) :
    Calls Try.prog 7 #[.string a, .string b, .string c] w fun e w' => e = .returned (.bool true) ∧ Below w.heap.size w w' := by
  have q : (chk b.data.toList == 0) = false := by simpa using gb
  have q' : (chk b.data.toList != 0) = true := by simpa using gb
  have Ga := Lib.hid ga
  clear ga gb
  go_enter Try.func7, Try.ntmps7
  go_wp2_with fail
  refine (awake_any w).mono ?_
  rintro e w1 ⟨rfl, hb1⟩
  have h1 := hb1
  go_wp2_with fail
  refine (check_any a wa w1).mono ?_
  rintro e w2 ⟨rfl, hb2⟩
  rw [Ga.out]
  have h2 := h1.trans (hb2.mono h1.size)
  clear h1 hb2
  go_wp2_with fail
  refine (check_any b wb w2).mono ?_
  rintro e w3 ⟨rfl, hb3⟩
  have h3 := h2.trans (hb3.mono h2.size)
  clear h2 hb3
  go_wp2
  go_ret
  exact ⟨rfl, h3⟩
set_option maxRecDepth 100000 in
set_option maxHeartbeats 6400000 in
theorem order_no3 (a b c : ByteArray) (wa : a.size ≤ 140737488351232) (wb : b.size ≤ 140737488351232) (wc : c.size ≤ 140737488351232) (ga : chk a.data.toList = 0) (gb : chk b.data.toList = 0) (gc : ¬ chk c.data.toList = 0) (w : World) :
    Calls Try.prog 7 #[.string a, .string b, .string c] w fun e w' => e = .returned (.bool true) ∧ Below w.heap.size w w' := by
  have q : (chk c.data.toList == 0) = false := by simpa using gc
  have q' : (chk c.data.toList != 0) = true := by simpa using gc
  have Ga := Lib.hid ga
  have Gb := Lib.hid gb
  clear ga gb gc
  go_enter Try.func7, Try.ntmps7
  go_wp2_with fail
  refine (awake_any w).mono ?_
  rintro e w1 ⟨rfl, hb1⟩
  have h1 := hb1
  go_wp2_with fail
  refine (check_any a wa w1).mono ?_
  rintro e w2 ⟨rfl, hb2⟩
  rw [Ga.out]
  have h2 := h1.trans (hb2.mono h1.size)
  clear h1 hb2
  go_wp2_with fail
  refine (check_any b wb w2).mono ?_
  rintro e w3 ⟨rfl, hb3⟩
  rw [Gb.out]
  have h3 := h2.trans (hb3.mono h2.size)
  clear h2 hb3
  go_wp2_with fail
  refine (check_any c wc w3).mono ?_
  rintro e w4 ⟨rfl, hb4⟩
  have h4 := h3.trans (hb4.mono h3.size)
  clear h3 hb4
  go_wp2
  go_ret
  exact ⟨rfl, h4⟩
set_option maxRecDepth 100000 in
set_option maxHeartbeats 6400000 in
theorem order_xz (a b c : ByteArray) (wa : a.size ≤ 140737488351232) (wb : b.size ≤ 140737488351232) (wc : c.size ≤ 140737488351232) (ha : a.size ≤ 1000000) (hb : b.size ≤ 1000000) (hc : c.size ≤ 1000000) (ga : chk a.data.toList = 0) (gb : chk b.data.toList = 0) (gc : chk c.data.toList = 0) (X : Hid (les a.data.toList b.data.toList = true)) (Y : Hid (les b.data.toList a.data.toList = false)) (S : Hid (sam a.data.toList b.data.toList = false)) (Z : Hid (les b.data.toList c.data.toList = true)) (Z2 : Hid (les a.data.toList c.data.toList = true)) (U : Hid (und a.data.toList b.data.toList = false)) (w : World) :
    Calls Try.prog 7 #[.string a, .string b, .string c] w fun e w' => e = .returned (.bool true) ∧ Below w.heap.size w w' := by
  obtain ⟨l, hl⟩ : ∃ l : ByteArray, l = ⟨(low a.data.toList).toArray⟩ := ⟨_, rfl⟩
  have hll : l.data.toList = low a.data.toList := by rw [hl]
  have hls : l.size ≤ 1000000 := by rw [hl, low_size]; exact ha
  have L1 : Hid (sam a.data.toList l.data.toList = true) := Lib.hid (by rw [hll]; exact sam_low ga)
  have L2 : Hid (les l.data.toList b.data.toList = true) := Lib.hid (by rw [hll, les_low ga gb]; exact X.out)
  have HL := Lib.hid hl
  have Ga := Lib.hid ga
  have Gb := Lib.hid gb
  have Gc := Lib.hid gc
  clear ga gb gc hl hll
  go_enter Try.func7, Try.ntmps7
  go_wp2_with fail
  refine (awake_any w).mono ?_
  rintro e w1 ⟨rfl, hb1⟩
  have h1 := hb1
  go_wp2_with fail
  refine (check_any a wa w1).mono ?_
  rintro e w2 ⟨rfl, hb2⟩
  rw [Ga.out]
  have h2 := h1.trans (hb2.mono h1.size)
  clear h1 hb2
  go_wp2_with fail
  refine (check_any b wb w2).mono ?_
  rintro e w3 ⟨rfl, hb3⟩
  rw [Gb.out]
  have h3 := h2.trans (hb3.mono h2.size)
  clear h2 hb3
  go_wp2_with fail
  refine (check_any c wc w3).mono ?_
  rintro e w4 ⟨rfl, hb4⟩
  rw [Gc.out]
  have h4 := h3.trans (hb4.mono h3.size)
  clear h3 hb4
  go_wp2_with fail
  refine (less_any a b ha hb w4).mono ?_
  rintro e w5 ⟨rfl, hb5⟩
  rw [X.out]
  have h5 := h4.trans (hb5.mono h4.size)
  clear h4 hb5
  go_wp2_with fail
  refine (less_any b a hb ha w5).mono ?_
  rintro e w6 ⟨rfl, hb6⟩
  rw [Y.out]
  have h6 := h5.trans (hb6.mono h5.size)
  clear h5 hb6
  go_wp2_with fail
  refine (less_any b c hb hc w6).mono ?_
  rintro e w7 ⟨rfl, hb7⟩
  rw [Z.out]
  have h7 := h6.trans (hb7.mono h6.size)
  clear h6 hb7
  go_wp2_with fail
  refine (less_any a c ha hc w7).mono ?_
  rintro e w8 ⟨rfl, hb8⟩
  rw [Z2.out]
  have h8 := h7.trans (hb8.mono h7.size)
  clear h7 hb8
  go_wp2_with fail
  refine (under_any a b ha hb w8).mono ?_
  rintro e w9 ⟨rfl, hb9⟩
  rw [U.out]
  have h9 := h8.trans (hb9.mono h8.size)
  clear h8 hb9
  go_wp2_with fail
  refine (same_any a b ha hb w9).mono ?_
  rintro e w10 ⟨rfl, hb10⟩
  rw [S.out]
  have h10 := h9.trans (hb10.mono h9.size)
  clear h9 hb10
  go_wp2_with fail
  refine (lower_any a (by omega) w10).mono ?_
  rintro e w11 ⟨rfl, hb11⟩
  rw [← HL.out]
  have h11 := h10.trans (hb11.mono h10.size)
  clear h10 hb11
  go_wp2_with fail
  refine (same_any a l ha hls w11).mono ?_
  rintro e w12 ⟨rfl, hb12⟩
  rw [L1.out]
  have h12 := h11.trans (hb12.mono h11.size)
  clear h11 hb12
  go_wp2_with fail
  refine (less_any a b ha hb w12).mono ?_
  rintro e w13 ⟨rfl, hb13⟩
  rw [X.out]
  have h13 := h12.trans (hb13.mono h12.size)
  clear h12 hb13
  go_wp2_with fail
  refine (lower_any a (by omega) w13).mono ?_
  rintro e w14 ⟨rfl, hb14⟩
  rw [← HL.out]
  have h14 := h13.trans (hb14.mono h13.size)
  clear h13 hb14
  go_wp2_with fail
  refine (less_any l b hls hb w14).mono ?_
  rintro e w15 ⟨rfl, hb15⟩
  rw [L2.out]
  have h15 := h14.trans (hb15.mono h14.size)
  clear h14 hb15
  go_wp2
  go_ret
  exact ⟨rfl, h15⟩
set_option maxRecDepth 100000 in
set_option maxHeartbeats 6400000 in
theorem order_xn (a b c : ByteArray) (wa : a.size ≤ 140737488351232) (wb : b.size ≤ 140737488351232) (wc : c.size ≤ 140737488351232) (ha : a.size ≤ 1000000) (hb : b.size ≤ 1000000) (hc : c.size ≤ 1000000) (ga : chk a.data.toList = 0) (gb : chk b.data.toList = 0) (gc : chk c.data.toList = 0) (X : Hid (les a.data.toList b.data.toList = true)) (Y : Hid (les b.data.toList a.data.toList = false)) (S : Hid (sam a.data.toList b.data.toList = false)) (Z : Hid (les b.data.toList c.data.toList = false)) (U : Hid (und a.data.toList b.data.toList = false)) (w : World) :
    Calls Try.prog 7 #[.string a, .string b, .string c] w fun e w' => e = .returned (.bool true) ∧ Below w.heap.size w w' := by
  obtain ⟨l, hl⟩ : ∃ l : ByteArray, l = ⟨(low a.data.toList).toArray⟩ := ⟨_, rfl⟩
  have hll : l.data.toList = low a.data.toList := by rw [hl]
  have hls : l.size ≤ 1000000 := by rw [hl, low_size]; exact ha
  have L1 : Hid (sam a.data.toList l.data.toList = true) := Lib.hid (by rw [hll]; exact sam_low ga)
  have L2 : Hid (les l.data.toList b.data.toList = true) := Lib.hid (by rw [hll, les_low ga gb]; exact X.out)
  have HL := Lib.hid hl
  have Ga := Lib.hid ga
  have Gb := Lib.hid gb
  have Gc := Lib.hid gc
  clear ga gb gc hl hll
  go_enter Try.func7, Try.ntmps7
  go_wp2_with fail
  refine (awake_any w).mono ?_
  rintro e w1 ⟨rfl, hb1⟩
  have h1 := hb1
  go_wp2_with fail
  refine (check_any a wa w1).mono ?_
  rintro e w2 ⟨rfl, hb2⟩
  rw [Ga.out]
  have h2 := h1.trans (hb2.mono h1.size)
  clear h1 hb2
  go_wp2_with fail
  refine (check_any b wb w2).mono ?_
  rintro e w3 ⟨rfl, hb3⟩
  rw [Gb.out]
  have h3 := h2.trans (hb3.mono h2.size)
  clear h2 hb3
  go_wp2_with fail
  refine (check_any c wc w3).mono ?_
  rintro e w4 ⟨rfl, hb4⟩
  rw [Gc.out]
  have h4 := h3.trans (hb4.mono h3.size)
  clear h3 hb4
  go_wp2_with fail
  refine (less_any a b ha hb w4).mono ?_
  rintro e w5 ⟨rfl, hb5⟩
  rw [X.out]
  have h5 := h4.trans (hb5.mono h4.size)
  clear h4 hb5
  go_wp2_with fail
  refine (less_any b a hb ha w5).mono ?_
  rintro e w6 ⟨rfl, hb6⟩
  rw [Y.out]
  have h6 := h5.trans (hb6.mono h5.size)
  clear h5 hb6
  go_wp2_with fail
  refine (less_any b c hb hc w6).mono ?_
  rintro e w7 ⟨rfl, hb7⟩
  rw [Z.out]
  have h7 := h6.trans (hb7.mono h6.size)
  clear h6 hb7
  go_wp2_with fail
  refine (under_any a b ha hb w7).mono ?_
  rintro e w8 ⟨rfl, hb8⟩
  rw [U.out]
  have h8 := h7.trans (hb8.mono h7.size)
  clear h7 hb8
  go_wp2_with fail
  refine (same_any a b ha hb w8).mono ?_
  rintro e w9 ⟨rfl, hb9⟩
  rw [S.out]
  have h9 := h8.trans (hb9.mono h8.size)
  clear h8 hb9
  go_wp2_with fail
  refine (lower_any a (by omega) w9).mono ?_
  rintro e w10 ⟨rfl, hb10⟩
  rw [← HL.out]
  have h10 := h9.trans (hb10.mono h9.size)
  clear h9 hb10
  go_wp2_with fail
  refine (same_any a l ha hls w10).mono ?_
  rintro e w11 ⟨rfl, hb11⟩
  rw [L1.out]
  have h11 := h10.trans (hb11.mono h10.size)
  clear h10 hb11
  go_wp2_with fail
  refine (less_any a b ha hb w11).mono ?_
  rintro e w12 ⟨rfl, hb12⟩
  rw [X.out]
  have h12 := h11.trans (hb12.mono h11.size)
  clear h11 hb12
  go_wp2_with fail
  refine (lower_any a (by omega) w12).mono ?_
  rintro e w13 ⟨rfl, hb13⟩
  rw [← HL.out]
  have h13 := h12.trans (hb13.mono h12.size)
  clear h12 hb13
  go_wp2_with fail
  refine (less_any l b hls hb w13).mono ?_
  rintro e w14 ⟨rfl, hb14⟩
  rw [L2.out]
  have h14 := h13.trans (hb14.mono h13.size)
  clear h13 hb14
  go_wp2
  go_ret
  exact ⟨rfl, h14⟩
set_option maxRecDepth 100000 in
set_option maxHeartbeats 6400000 in
theorem order_yu (a b c : ByteArray) (wa : a.size ≤ 140737488351232) (wb : b.size ≤ 140737488351232) (wc : c.size ≤ 140737488351232) (ha : a.size ≤ 1000000) (hb : b.size ≤ 1000000) (_ : c.size ≤ 1000000) (ga : chk a.data.toList = 0) (gb : chk b.data.toList = 0) (gc : chk c.data.toList = 0) (X : Hid (les a.data.toList b.data.toList = false)) (Y : Hid (les b.data.toList a.data.toList = true)) (S : Hid (sam a.data.toList b.data.toList = false)) (U : Hid (und a.data.toList b.data.toList = true)) (w : World) :
    Calls Try.prog 7 #[.string a, .string b, .string c] w fun e w' => e = .returned (.bool true) ∧ Below w.heap.size w w' := by
  obtain ⟨l, hl⟩ : ∃ l : ByteArray, l = ⟨(low a.data.toList).toArray⟩ := ⟨_, rfl⟩
  have hll : l.data.toList = low a.data.toList := by rw [hl]
  have hls : l.size ≤ 1000000 := by rw [hl, low_size]; exact ha
  have L1 : Hid (sam a.data.toList l.data.toList = true) := Lib.hid (by rw [hll]; exact sam_low ga)
  have L2 : Hid (les l.data.toList b.data.toList = false) := Lib.hid (by rw [hll, les_low ga gb]; exact X.out)
  have HL := Lib.hid hl
  have Ga := Lib.hid ga
  have Gb := Lib.hid gb
  have Gc := Lib.hid gc
  clear ga gb gc hl hll
  go_enter Try.func7, Try.ntmps7
  go_wp2_with fail
  refine (awake_any w).mono ?_
  rintro e w1 ⟨rfl, hb1⟩
  have h1 := hb1
  go_wp2_with fail
  refine (check_any a wa w1).mono ?_
  rintro e w2 ⟨rfl, hb2⟩
  rw [Ga.out]
  have h2 := h1.trans (hb2.mono h1.size)
  clear h1 hb2
  go_wp2_with fail
  refine (check_any b wb w2).mono ?_
  rintro e w3 ⟨rfl, hb3⟩
  rw [Gb.out]
  have h3 := h2.trans (hb3.mono h2.size)
  clear h2 hb3
  go_wp2_with fail
  refine (check_any c wc w3).mono ?_
  rintro e w4 ⟨rfl, hb4⟩
  rw [Gc.out]
  have h4 := h3.trans (hb4.mono h3.size)
  clear h3 hb4
  go_wp2_with fail
  refine (less_any a b ha hb w4).mono ?_
  rintro e w5 ⟨rfl, hb5⟩
  rw [X.out]
  have h5 := h4.trans (hb5.mono h4.size)
  clear h4 hb5
  go_wp2_with fail
  refine (less_any b a hb ha w5).mono ?_
  rintro e w6 ⟨rfl, hb6⟩
  rw [Y.out]
  have h6 := h5.trans (hb6.mono h5.size)
  clear h5 hb6
  go_wp2_with fail
  refine (under_any a b ha hb w6).mono ?_
  rintro e w7 ⟨rfl, hb7⟩
  rw [U.out]
  have h7 := h6.trans (hb7.mono h6.size)
  clear h6 hb7
  go_wp2_with fail
  refine (same_any a b ha hb w7).mono ?_
  rintro e w8 ⟨rfl, hb8⟩
  rw [S.out]
  have h8 := h7.trans (hb8.mono h7.size)
  clear h7 hb8
  go_wp2_with fail
  refine (same_any a b ha hb w8).mono ?_
  rintro e w9 ⟨rfl, hb9⟩
  rw [S.out]
  have h9 := h8.trans (hb9.mono h8.size)
  clear h8 hb9
  go_wp2_with fail
  refine (lower_any a (by omega) w9).mono ?_
  rintro e w10 ⟨rfl, hb10⟩
  rw [← HL.out]
  have h10 := h9.trans (hb10.mono h9.size)
  clear h9 hb10
  go_wp2_with fail
  refine (same_any a l ha hls w10).mono ?_
  rintro e w11 ⟨rfl, hb11⟩
  rw [L1.out]
  have h11 := h10.trans (hb11.mono h10.size)
  clear h10 hb11
  go_wp2_with fail
  refine (less_any a b ha hb w11).mono ?_
  rintro e w12 ⟨rfl, hb12⟩
  rw [X.out]
  have h12 := h11.trans (hb12.mono h11.size)
  clear h11 hb12
  go_wp2_with fail
  refine (lower_any a (by omega) w12).mono ?_
  rintro e w13 ⟨rfl, hb13⟩
  rw [← HL.out]
  have h13 := h12.trans (hb13.mono h12.size)
  clear h12 hb13
  go_wp2_with fail
  refine (less_any l b hls hb w13).mono ?_
  rintro e w14 ⟨rfl, hb14⟩
  rw [L2.out]
  have h14 := h13.trans (hb14.mono h13.size)
  clear h13 hb14
  go_wp2
  go_ret
  exact ⟨rfl, h14⟩
set_option maxRecDepth 100000 in
set_option maxHeartbeats 6400000 in
theorem order_yn (a b c : ByteArray) (wa : a.size ≤ 140737488351232) (wb : b.size ≤ 140737488351232) (wc : c.size ≤ 140737488351232) (ha : a.size ≤ 1000000) (hb : b.size ≤ 1000000) (_ : c.size ≤ 1000000) (ga : chk a.data.toList = 0) (gb : chk b.data.toList = 0) (gc : chk c.data.toList = 0) (X : Hid (les a.data.toList b.data.toList = false)) (Y : Hid (les b.data.toList a.data.toList = true)) (S : Hid (sam a.data.toList b.data.toList = false)) (U : Hid (und a.data.toList b.data.toList = false)) (w : World) :
    Calls Try.prog 7 #[.string a, .string b, .string c] w fun e w' => e = .returned (.bool true) ∧ Below w.heap.size w w' := by
  obtain ⟨l, hl⟩ : ∃ l : ByteArray, l = ⟨(low a.data.toList).toArray⟩ := ⟨_, rfl⟩
  have hll : l.data.toList = low a.data.toList := by rw [hl]
  have hls : l.size ≤ 1000000 := by rw [hl, low_size]; exact ha
  have L1 : Hid (sam a.data.toList l.data.toList = true) := Lib.hid (by rw [hll]; exact sam_low ga)
  have L2 : Hid (les l.data.toList b.data.toList = false) := Lib.hid (by rw [hll, les_low ga gb]; exact X.out)
  have HL := Lib.hid hl
  have Ga := Lib.hid ga
  have Gb := Lib.hid gb
  have Gc := Lib.hid gc
  clear ga gb gc hl hll
  go_enter Try.func7, Try.ntmps7
  go_wp2_with fail
  refine (awake_any w).mono ?_
  rintro e w1 ⟨rfl, hb1⟩
  have h1 := hb1
  go_wp2_with fail
  refine (check_any a wa w1).mono ?_
  rintro e w2 ⟨rfl, hb2⟩
  rw [Ga.out]
  have h2 := h1.trans (hb2.mono h1.size)
  clear h1 hb2
  go_wp2_with fail
  refine (check_any b wb w2).mono ?_
  rintro e w3 ⟨rfl, hb3⟩
  rw [Gb.out]
  have h3 := h2.trans (hb3.mono h2.size)
  clear h2 hb3
  go_wp2_with fail
  refine (check_any c wc w3).mono ?_
  rintro e w4 ⟨rfl, hb4⟩
  rw [Gc.out]
  have h4 := h3.trans (hb4.mono h3.size)
  clear h3 hb4
  go_wp2_with fail
  refine (less_any a b ha hb w4).mono ?_
  rintro e w5 ⟨rfl, hb5⟩
  rw [X.out]
  have h5 := h4.trans (hb5.mono h4.size)
  clear h4 hb5
  go_wp2_with fail
  refine (less_any b a hb ha w5).mono ?_
  rintro e w6 ⟨rfl, hb6⟩
  rw [Y.out]
  have h6 := h5.trans (hb6.mono h5.size)
  clear h5 hb6
  go_wp2_with fail
  refine (under_any a b ha hb w6).mono ?_
  rintro e w7 ⟨rfl, hb7⟩
  rw [U.out]
  have h7 := h6.trans (hb7.mono h6.size)
  clear h6 hb7
  go_wp2_with fail
  refine (same_any a b ha hb w7).mono ?_
  rintro e w8 ⟨rfl, hb8⟩
  rw [S.out]
  have h8 := h7.trans (hb8.mono h7.size)
  clear h7 hb8
  go_wp2_with fail
  refine (lower_any a (by omega) w8).mono ?_
  rintro e w9 ⟨rfl, hb9⟩
  rw [← HL.out]
  have h9 := h8.trans (hb9.mono h8.size)
  clear h8 hb9
  go_wp2_with fail
  refine (same_any a l ha hls w9).mono ?_
  rintro e w10 ⟨rfl, hb10⟩
  rw [L1.out]
  have h10 := h9.trans (hb10.mono h9.size)
  clear h9 hb10
  go_wp2_with fail
  refine (less_any a b ha hb w10).mono ?_
  rintro e w11 ⟨rfl, hb11⟩
  rw [X.out]
  have h11 := h10.trans (hb11.mono h10.size)
  clear h10 hb11
  go_wp2_with fail
  refine (lower_any a (by omega) w11).mono ?_
  rintro e w12 ⟨rfl, hb12⟩
  rw [← HL.out]
  have h12 := h11.trans (hb12.mono h11.size)
  clear h11 hb12
  go_wp2_with fail
  refine (less_any l b hls hb w12).mono ?_
  rintro e w13 ⟨rfl, hb13⟩
  rw [L2.out]
  have h13 := h12.trans (hb13.mono h12.size)
  clear h12 hb13
  go_wp2
  go_ret
  exact ⟨rfl, h13⟩
set_option maxRecDepth 100000 in
set_option maxHeartbeats 6400000 in
theorem order_su (a b c : ByteArray) (wa : a.size ≤ 140737488351232) (wb : b.size ≤ 140737488351232) (wc : c.size ≤ 140737488351232) (ha : a.size ≤ 1000000) (hb : b.size ≤ 1000000) (_ : c.size ≤ 1000000) (ga : chk a.data.toList = 0) (gb : chk b.data.toList = 0) (gc : chk c.data.toList = 0) (X : Hid (les a.data.toList b.data.toList = false)) (Y : Hid (les b.data.toList a.data.toList = false)) (S : Hid (sam a.data.toList b.data.toList = true)) (U : Hid (und a.data.toList b.data.toList = true)) (w : World) :
    Calls Try.prog 7 #[.string a, .string b, .string c] w fun e w' => e = .returned (.bool true) ∧ Below w.heap.size w w' := by
  obtain ⟨l, hl⟩ : ∃ l : ByteArray, l = ⟨(low a.data.toList).toArray⟩ := ⟨_, rfl⟩
  have hll : l.data.toList = low a.data.toList := by rw [hl]
  have hls : l.size ≤ 1000000 := by rw [hl, low_size]; exact ha
  have L1 : Hid (sam a.data.toList l.data.toList = true) := Lib.hid (by rw [hll]; exact sam_low ga)
  have L2 : Hid (les l.data.toList b.data.toList = false) := Lib.hid (by rw [hll, les_low ga gb]; exact X.out)
  have HL := Lib.hid hl
  have Ga := Lib.hid ga
  have Gb := Lib.hid gb
  have Gc := Lib.hid gc
  clear ga gb gc hl hll
  go_enter Try.func7, Try.ntmps7
  go_wp2_with fail
  refine (awake_any w).mono ?_
  rintro e w1 ⟨rfl, hb1⟩
  have h1 := hb1
  go_wp2_with fail
  refine (check_any a wa w1).mono ?_
  rintro e w2 ⟨rfl, hb2⟩
  rw [Ga.out]
  have h2 := h1.trans (hb2.mono h1.size)
  clear h1 hb2
  go_wp2_with fail
  refine (check_any b wb w2).mono ?_
  rintro e w3 ⟨rfl, hb3⟩
  rw [Gb.out]
  have h3 := h2.trans (hb3.mono h2.size)
  clear h2 hb3
  go_wp2_with fail
  refine (check_any c wc w3).mono ?_
  rintro e w4 ⟨rfl, hb4⟩
  rw [Gc.out]
  have h4 := h3.trans (hb4.mono h3.size)
  clear h3 hb4
  go_wp2_with fail
  refine (less_any a b ha hb w4).mono ?_
  rintro e w5 ⟨rfl, hb5⟩
  rw [X.out]
  have h5 := h4.trans (hb5.mono h4.size)
  clear h4 hb5
  go_wp2_with fail
  refine (less_any b a hb ha w5).mono ?_
  rintro e w6 ⟨rfl, hb6⟩
  rw [Y.out]
  have h6 := h5.trans (hb6.mono h5.size)
  clear h5 hb6
  go_wp2_with fail
  refine (same_any a b ha hb w6).mono ?_
  rintro e w7 ⟨rfl, hb7⟩
  rw [S.out]
  have h7 := h6.trans (hb7.mono h6.size)
  clear h6 hb7
  go_wp2_with fail
  refine (under_any a b ha hb w7).mono ?_
  rintro e w8 ⟨rfl, hb8⟩
  rw [U.out]
  have h8 := h7.trans (hb8.mono h7.size)
  clear h7 hb8
  go_wp2_with fail
  refine (same_any a b ha hb w8).mono ?_
  rintro e w9 ⟨rfl, hb9⟩
  rw [S.out]
  have h9 := h8.trans (hb9.mono h8.size)
  clear h8 hb9
  go_wp2_with fail
  refine (same_any a b ha hb w9).mono ?_
  rintro e w10 ⟨rfl, hb10⟩
  rw [S.out]
  have h10 := h9.trans (hb10.mono h9.size)
  clear h9 hb10
  go_wp2_with fail
  refine (lower_any a (by omega) w10).mono ?_
  rintro e w11 ⟨rfl, hb11⟩
  rw [← HL.out]
  have h11 := h10.trans (hb11.mono h10.size)
  clear h10 hb11
  go_wp2_with fail
  refine (same_any a l ha hls w11).mono ?_
  rintro e w12 ⟨rfl, hb12⟩
  rw [L1.out]
  have h12 := h11.trans (hb12.mono h11.size)
  clear h11 hb12
  go_wp2_with fail
  refine (less_any a b ha hb w12).mono ?_
  rintro e w13 ⟨rfl, hb13⟩
  rw [X.out]
  have h13 := h12.trans (hb13.mono h12.size)
  clear h12 hb13
  go_wp2_with fail
  refine (lower_any a (by omega) w13).mono ?_
  rintro e w14 ⟨rfl, hb14⟩
  rw [← HL.out]
  have h14 := h13.trans (hb14.mono h13.size)
  clear h13 hb14
  go_wp2_with fail
  refine (less_any l b hls hb w14).mono ?_
  rintro e w15 ⟨rfl, hb15⟩
  rw [L2.out]
  have h15 := h14.trans (hb15.mono h14.size)
  clear h14 hb15
  go_wp2
  go_ret
  exact ⟨rfl, h15⟩
set_option maxRecDepth 100000 in
set_option maxHeartbeats 6400000 in
theorem order_sn (a b c : ByteArray) (wa : a.size ≤ 140737488351232) (wb : b.size ≤ 140737488351232) (wc : c.size ≤ 140737488351232) (ha : a.size ≤ 1000000) (hb : b.size ≤ 1000000) (_ : c.size ≤ 1000000) (ga : chk a.data.toList = 0) (gb : chk b.data.toList = 0) (gc : chk c.data.toList = 0) (X : Hid (les a.data.toList b.data.toList = false)) (Y : Hid (les b.data.toList a.data.toList = false)) (S : Hid (sam a.data.toList b.data.toList = true)) (U : Hid (und a.data.toList b.data.toList = false)) (w : World) :
    Calls Try.prog 7 #[.string a, .string b, .string c] w fun e w' => e = .returned (.bool true) ∧ Below w.heap.size w w' := by
  obtain ⟨l, hl⟩ : ∃ l : ByteArray, l = ⟨(low a.data.toList).toArray⟩ := ⟨_, rfl⟩
  have hll : l.data.toList = low a.data.toList := by rw [hl]
  have hls : l.size ≤ 1000000 := by rw [hl, low_size]; exact ha
  have L1 : Hid (sam a.data.toList l.data.toList = true) := Lib.hid (by rw [hll]; exact sam_low ga)
  have L2 : Hid (les l.data.toList b.data.toList = false) := Lib.hid (by rw [hll, les_low ga gb]; exact X.out)
  have HL := Lib.hid hl
  have Ga := Lib.hid ga
  have Gb := Lib.hid gb
  have Gc := Lib.hid gc
  clear ga gb gc hl hll
  go_enter Try.func7, Try.ntmps7
  go_wp2_with fail
  refine (awake_any w).mono ?_
  rintro e w1 ⟨rfl, hb1⟩
  have h1 := hb1
  go_wp2_with fail
  refine (check_any a wa w1).mono ?_
  rintro e w2 ⟨rfl, hb2⟩
  rw [Ga.out]
  have h2 := h1.trans (hb2.mono h1.size)
  clear h1 hb2
  go_wp2_with fail
  refine (check_any b wb w2).mono ?_
  rintro e w3 ⟨rfl, hb3⟩
  rw [Gb.out]
  have h3 := h2.trans (hb3.mono h2.size)
  clear h2 hb3
  go_wp2_with fail
  refine (check_any c wc w3).mono ?_
  rintro e w4 ⟨rfl, hb4⟩
  rw [Gc.out]
  have h4 := h3.trans (hb4.mono h3.size)
  clear h3 hb4
  go_wp2_with fail
  refine (less_any a b ha hb w4).mono ?_
  rintro e w5 ⟨rfl, hb5⟩
  rw [X.out]
  have h5 := h4.trans (hb5.mono h4.size)
  clear h4 hb5
  go_wp2_with fail
  refine (less_any b a hb ha w5).mono ?_
  rintro e w6 ⟨rfl, hb6⟩
  rw [Y.out]
  have h6 := h5.trans (hb6.mono h5.size)
  clear h5 hb6
  go_wp2_with fail
  refine (same_any a b ha hb w6).mono ?_
  rintro e w7 ⟨rfl, hb7⟩
  rw [S.out]
  have h7 := h6.trans (hb7.mono h6.size)
  clear h6 hb7
  go_wp2_with fail
  refine (under_any a b ha hb w7).mono ?_
  rintro e w8 ⟨rfl, hb8⟩
  rw [U.out]
  have h8 := h7.trans (hb8.mono h7.size)
  clear h7 hb8
  go_wp2_with fail
  refine (same_any a b ha hb w8).mono ?_
  rintro e w9 ⟨rfl, hb9⟩
  rw [S.out]
  have h9 := h8.trans (hb9.mono h8.size)
  clear h8 hb9
  go_wp2_with fail
  refine (lower_any a (by omega) w9).mono ?_
  rintro e w10 ⟨rfl, hb10⟩
  rw [← HL.out]
  have h10 := h9.trans (hb10.mono h9.size)
  clear h9 hb10
  go_wp2_with fail
  refine (same_any a l ha hls w10).mono ?_
  rintro e w11 ⟨rfl, hb11⟩
  rw [L1.out]
  have h11 := h10.trans (hb11.mono h10.size)
  clear h10 hb11
  go_wp2_with fail
  refine (less_any a b ha hb w11).mono ?_
  rintro e w12 ⟨rfl, hb12⟩
  rw [X.out]
  have h12 := h11.trans (hb12.mono h11.size)
  clear h11 hb12
  go_wp2_with fail
  refine (lower_any a (by omega) w12).mono ?_
  rintro e w13 ⟨rfl, hb13⟩
  rw [← HL.out]
  have h13 := h12.trans (hb13.mono h12.size)
  clear h12 hb13
  go_wp2_with fail
  refine (less_any l b hls hb w13).mono ?_
  rintro e w14 ⟨rfl, hb14⟩
  rw [L2.out]
  have h14 := h13.trans (hb14.mono h13.size)
  clear h13 hb14
  go_wp2
  go_ret
  exact ⟨rfl, h14⟩
theorem lawOrder_any (a b c : ByteArray) (wa : a.size ≤ 140737488351232) (wb : b.size ≤ 140737488351232) (wc : c.size ≤ 140737488351232) (w : World) :
    Calls Try.prog 7 #[.string a, .string b, .string c] w fun e w' => e = .returned (.bool true) ∧ Below w.heap.size w w' := by
  by_cases ga : chk a.data.toList = 0
  · by_cases gb : chk b.data.toList = 0
    · by_cases gc : chk c.data.toList = 0
      · have ha : a.size ≤ 1000000 := by rw [size_list]; have := (chk_zero.1 ga).2; omega
        have hb : b.size ≤ 1000000 := by rw [size_list]; have := (chk_zero.1 gb).2; omega
        have hc : c.size ≤ 1000000 := by rw [size_list]; have := (chk_zero.1 gc).2; omega
        rcases ord_tri ga gb with ⟨X, Y, S⟩ | ⟨X, Y, S⟩ | ⟨X, Y, S⟩
        · have U : und a.data.toList b.data.toList = false := by
            cases e : und a.data.toList b.data.toList with
            | false => rfl
            | true => rcases ord_zone ga gb e with h | h <;> simp_all
          cases Z : les b.data.toList c.data.toList with
          | true => exact order_xz a b c wa wb wc ha hb hc ga gb gc (Lib.hid X) (Lib.hid Y) (Lib.hid S) (Lib.hid Z) (Lib.hid (ord_trans ga gb gc X Z)) (Lib.hid U) w
          | false => exact order_xn a b c wa wb wc ha hb hc ga gb gc (Lib.hid X) (Lib.hid Y) (Lib.hid S) (Lib.hid Z) (Lib.hid U) w
        · cases U : und a.data.toList b.data.toList with
          | true => exact order_yu a b c wa wb wc ha hb hc ga gb gc (Lib.hid X) (Lib.hid Y) (Lib.hid S) (Lib.hid U) w
          | false => exact order_yn a b c wa wb wc ha hb hc ga gb gc (Lib.hid X) (Lib.hid Y) (Lib.hid S) (Lib.hid U) w
        · cases U : und a.data.toList b.data.toList with
          | true => exact order_su a b c wa wb wc ha hb hc ga gb gc (Lib.hid X) (Lib.hid Y) (Lib.hid S) (Lib.hid U) w
          | false => exact order_sn a b c wa wb wc ha hb hc ga gb gc (Lib.hid X) (Lib.hid Y) (Lib.hid S) (Lib.hid U) w
      · exact order_no3 a b c wa wb wc ga gb gc w
    · exact order_no2 a b c wa wb ga gb w
  · exact order_no1 a b c wa ga w
end Go.Proofs.Ytpeojicimmofjaa

/-
  The walk of the law CrcTurned: for any text, any place and any pattern it returns true; no older memory is changed.
-/
import Derived.Test.YtnlgijihfkkmgaaAwake
import Derived.Test.YtnlgijihfkkmgaaTurnMath
import Derived.Laws.IdiomStrings
import Derived.BigGuardPart
namespace Go.Proofs.Ytnlgijihfkkmgaa
open Go.RowKit
/-- A block whose first cells are these bytes, not frozen. -/
def Bys (w : World) (g : Nat) (l : List UInt8) : Prop := ∀ j x, l[j]? = some x → w.cell? ⟨g, j, none⟩ = some (.int .u8 (x.toNat : Int)) ∧ w.frozen? ⟨g, j, none⟩ = false
theorem bys_set {w : World} {g : Nat} {l : List UInt8} (h : Bys w g l) (j : Nat) (hj : j < l.length) (x : UInt8) : Bys (w.setCell ⟨g, j, none⟩ (.int .u8 (x.toNat : Int))) g (l.set j x) := by
  intro k y hk
  have hkl : k < l.length := by
    have := (List.getElem?_eq_some_iff.1 hk).1
    simpa using this
  refine ⟨?_, (World.frozen?_setCell _ _ _ _).trans (h k l[k] (List.getElem?_eq_getElem hkl)).2⟩
  by_cases e : j = k
  · subst e
    rw [World.cell?_setCell_same _ _ _ (h j l[j] (List.getElem?_eq_getElem hj)).1]
    rw [List.getElem?_set_self (by simpa using hj)] at hk
    rw [Option.some.inj hk]
  · rw [World.cell?_setCell_other _ _ _ _ (fun he => e (congrArg Addr.off he))]
    rw [List.getElem?_set_ne e] at hk
    exact (h k y hk).1
theorem bys_new (w : World) (t : ByteArray) (cap F e : Nat) (hF : t.size ≤ F) : Bys (w.alloc (.cells (bytesRow t cap) e (F, F + 1))) w.heap.size t.data.toList := by
  intro j x hj
  have hjl : j < t.data.size := by
    have := (List.getElem?_eq_some_iff.1 hj).1
    simpa using this
  have hx : t.data[j] = x := by
    have := (List.getElem?_eq_some_iff.1 hj).2
    simpa using this
  have hs : j < t.size := hjl
  rw [World.cell?_alloc_mark, World.frozen?_alloc_mark, bytesRow_at t cap j hjl, hx]
  exact ⟨rfl, by simp; omega⟩
theorem bit_low (b i : Nat) (hb : b < 4294967296) : (bits .and .u32 ((b : Int) / 2 ^ i) 1 == 1) = b.testBit i := by
  have e : (b : Int) / 2 ^ i = ((b / 2 ^ i : Nat) : Int) := by simp
  have hlt : b / 2 ^ i < 4294967296 := Nat.lt_of_le_of_lt (Nat.div_le_self _ _) hb
  have e2 : bits .and .u32 ((b / 2 ^ i : Nat) : Int) ((1 : Nat) : Int) = _ := u32_and_nat _ _ hlt (by decide)
  rw [e, show (1 : Int) = ((1 : Nat) : Int) from rfl, e2, Nat.and_one_is_mod, Nat.testBit_eq_decide_div_mod_eq]
  by_cases h : b / 2 ^ i % 2 = 1
  · rw [h]; rfl
  · rw [show b / 2 ^ i % 2 = 0 by omega]; rfl
theorem turn_byte (x : UInt8) (k : Nat) : bits .xor .u8 (x.toNat : Int) ((2 : Int) ^ (k % 8) % 256) = ((x ^^^ bt k).toNat : Int) := by
  have h : 2 ^ (k % 8) ≤ 2 ^ 7 := Nat.pow_le_pow_right (by omega) (by omega)
  have e : ((2 : Int) ^ (k % 8) % 256) = ((2 ^ (k % 8) : Nat) : Int) := by
    rw [show ((2 : Int) ^ (k % 8)) = ((2 ^ (k % 8) : Nat) : Int) by simp]
    generalize 2 ^ (k % 8) = P at h ⊢
    omega
  rw [e, u8_xor_nat _ _ x.toNat_lt (by omega), UInt8.toNat_xor, bt_nat]
theorem pos_rem (a : Int) (L : Nat) (hL : 5 ≤ L) : ∃ N : Nat, a % (8 * (L : Int) - 31) = (N : Int) ∧ N + 32 ≤ 8 * L := by
  have h1 := Int.emod_nonneg a (b := 8 * (L : Int) - 31) (by omega)
  have h2 := Int.emod_lt_of_pos a (b := 8 * (L : Int) - 31) (by omega)
  exact ⟨(a % (8 * (L : Int) - 31)).toNat, by omega, by omega⟩
theorem neg_rem (a : Int) (L : Nat) (ha : a < 0) (hL : 5 ≤ L) : ∃ N : Nat, -(a + 1).tmod (8 * (L : Int) - 31) = (N : Int) ∧ N + 32 ≤ 8 * L := by
  obtain ⟨N, h1, h2⟩ := pos_rem (-(a + 1)) L hL
  refine ⟨N, ?_, h2⟩
  rw [← Int.neg_tmod, Int.tmod_eq_emod_of_nonneg (by omega), h1]
set_option maxHeartbeats 800000 in
theorem turned_none (s : ByteArray) (at' : Int) (b : Nat) (t : ByteArray) (HSH : Hid (∀ w : World, Calls Try.prog 9 #[.string s, .int .i64 500] w fun e w' => e = .returned (.string t) ∧ w = w')) (h : t.size < 5 ∨ (5 ≤ t.size ∧ b = 0)) (w : World) :
    Calls Try.prog 6 #[.string s, .int .i64 at', .int .u32 (b : Int)] w fun e w' => e = .returned (.bool true) ∧ Below w.heap.size w w' := by
  rcases h with h | ⟨h, rfl⟩
  · go_enter Try.func6, Try.ntmps6
    go_wp2_with fail
    refine (awake_any w).mono ?_
    rintro e w1 ⟨rfl, hb1⟩
    go_wp2_with fail
    refine (HSH.out w1).mono ?_
    rintro e w2 ⟨rfl, rfl⟩
    go_wp2
    go_ret
    exact ⟨rfl, hb1⟩
  · show Calls Try.prog 6 #[.string s, .int .i64 at', .int .u32 0] w _
    have d5 : decide ((t.size : Int) < 5) = false := by simp; omega
    go_enter Try.func6, Try.ntmps6
    go_wp2_with fail
    refine (awake_any w).mono ?_
    rintro e w1 ⟨rfl, hb1⟩
    go_wp2_with fail
    refine (HSH.out w1).mono ?_
    rintro e w2 ⟨rfl, rfl⟩
    go_wp2
    go_ret
    exact ⟨rfl, hb1⟩
set_option maxRecDepth 100000 in
set_option maxHeartbeats 1600000 in
theorem turned_some (s : ByteArray) (at' : Int) (h1 : -9223372036854775808 ≤ at') (h2 : at' ≤ 9223372036854775807) (b : Nat) (hb : Hid (b < 4294967296)) (hb0 : (b : Int) ≠ 0) (t : ByteArray) (HSH : Hid (∀ w : World, Calls Try.prog 9 #[.string s, .int .i64 500] w fun e w' => e = .returned (.string t) ∧ w = w')) (h5 : 5 ≤ t.size) (ht : t.size ≤ 500) (w : World) :
    Calls Try.prog 6 #[.string s, .int .i64 at', .int .u32 (b : Int)] w fun e w' => e = .returned (.bool true) ∧ Below w.heap.size w w' := by
  have d5 : decide ((t.size : Int) < 5) = false := by simp; omega
  have d0 : ((b : Int) == 0) = false := by simpa using hb0
  clear hb0
  have hconv := fun w => run_bytes_of_string (P := Try.prog) w 9 33 5 t Try.underlying9 Try.underlying33 Try.underlying5
  rcases Int.lt_or_le at' 0 with hneg | hneg
  all_goals
    go_enter Try.func6, Try.ntmps6
    go_wp2_with fail
    refine (awake_any w).mono ?_
    rintro e w1 ⟨rfl, hb1⟩
    go_wp2_with fail
    refine (HSH.out w1).mono ?_
    rintro e w2 ⟨rfl, rfl⟩
    go_wp2
    first
      | (obtain ⟨N, hN, hNb⟩ := neg_rem at' t.size hneg h5; rw [hN])
      | (obtain ⟨N, hN, hNb⟩ := pos_rem at' t.size h5; rw [hN])
    clear hN h1 h2 hneg
    have hF : t.size ≤ (bytesRow t (grownCap w1 t.size 0 5)).size := by
      unfold bytesRow
      rw [Array.size_append, Array.size_map]
      exact Nat.le_add_right _ _
    have hB0 := bys_new w1 t (grownCap w1 t.size 0 5) _ 5 hF
    have hbw : Below w.heap.size w (w1.alloc (.cells (bytesRow t (grownCap w1 t.size 0 5)) 5 ((bytesRow t (grownCap w1 t.size 0 5)).size, (bytesRow t (grownCap w1 t.size 0 5)).size + 1))) := hb1.alloc hb1.size _
    have hB1 : Bys ((w1.alloc (.cells (bytesRow t (grownCap w1 t.size 0 5)) 5 ((bytesRow t (grownCap w1 t.size 0 5)).size, (bytesRow t (grownCap w1 t.size 0 5)).size + 1))).drew) w1.heap.size (trn t.data.toList N b 0) := hB0
    have hbw1 := hbw.drew
    have hg1 : w.heap.size ≤ w1.heap.size := hb1.size
    obtain ⟨w2, hw2⟩ : ∃ w2, w2 = (w1.alloc (.cells (bytesRow t (grownCap w1 t.size 0 5)) 5 ((bytesRow t (grownCap w1 t.size 0 5)).size, (bytesRow t (grownCap w1 t.size 0 5)).size + 1))).drew := ⟨_, rfl⟩
    obtain ⟨g, hg⟩ : ∃ g, g = w1.heap.size := ⟨_, rfl⟩
    obtain ⟨C, hC⟩ : ∃ C, C = grownCap w1 t.size 0 5 := ⟨_, rfl⟩
    change Code.wp _ _ _ _ (w1.alloc (.cells (bytesRow t (grownCap w1 t.size 0 5)) 5 ((bytesRow t (grownCap w1 t.size 0 5)).size, (bytesRow t (grownCap w1 t.size 0 5)).size + 1))).drew
    rw [← hw2] at hB1 hbw1 ⊢
    rw [← hg] at hB1 hg1 ⊢
    rw [← hC]
    have HB1 := Lib.hid hB1
    have HBW := Lib.hid hbw1
    clear hw2 hg hC hB1 hB0 hbw hbw1 hF hb1 hconv
    have HTS : Hid (t.data.toList.length = t.size) := Lib.hid (by rw [Lib.size_eq])
    go_loopw [10] (fun i wr => ∃ k : Nat, k ≤ 32 ∧ i = .int .i64 k ∧ Bys wr g (trn t.data.toList N b k) ∧ Below w.heap.size w wr) (fun i _ => 32 - (intOf i).toNat)
    case atStart => exact ⟨0, by omega, rfl, HB1.out, HBW.out⟩
    case round =>
      obtain ⟨k, hk, rfl, hB, hbr⟩ := hrel
      have HB := Lib.hid hB
      clear hB
      by_cases hlt : k < 32
      · by_cases hbit : b.testBit k = true
        · have ht1 := (bit_low b k hb.out).trans hbit
          have HBI := Lib.hid hbit
          clear hbit
          obtain ⟨x, hx⟩ : ∃ x, x = (trn t.data.toList N b k).getD ((N + k) / 8) 0 := ⟨_, rfl⟩
          have hjl : (N + k) / 8 < (trn t.data.toList N b k).length := by rw [trn_length, HTS.out]; omega
          have hxe : (trn t.data.toList N b k)[(N + k) / 8]? = some x := by rw [hx]; simp [hjl]
          obtain ⟨cx, fx⟩ := HB.out _ _ hxe
          have HXE := Lib.hid hx
          have HJL := Lib.hid hjl
          clear hx hxe hjl
          go_wp2
          rw [turn_byte x (N + k)]
          go_roundw
          case rel =>
            refine ⟨k + 1, by omega, by go_num, ?_, hbr.setCell hg1 _⟩
            have e : trn t.data.toList N b (k + 1) = (trn t.data.toList N b k).set ((N + k) / 8) (x ^^^ bt (N + k)) := by
              simp only [trn]; rw [if_pos HBI.out, HXE.out]
            rw [e]
            exact bys_set HB.out _ HJL.out _
          case measure => simp [intOf]; omega
        · have hbit' : b.testBit k = false := by simpa using hbit
          have ht1 := (bit_low b k hb.out).trans hbit'
          have HE : Hid (trn t.data.toList N b (k + 1) = trn t.data.toList N b k) := Lib.hid (by simp only [trn]; rw [if_neg hbit])
          clear hbit hbit'
          go_wp2
          go_roundw
          case rel => exact ⟨k + 1, by omega, by go_num, by rw [HE.out]; exact HB.out, hbr⟩
          case measure => simp [intOf]; omega
      · have hk32 : k = 32 := by omega
        rw [hk32] at HB
        obtain ⟨L, hL⟩ : ∃ L, L = trn t.data.toList N b 32 := ⟨_, rfl⟩
        rw [← hL] at HB
        have hLl : L.length = t.size := by rw [hL, trn_length, HTS.out]
        have hne : cs L ≠ cs t.data.toList := by
          rw [hL]
          exact trn_cs _ N b (by rw [HTS.out]; exact hNb) hb.out (by intro h0; rw [h0] at d0; exact absurd d0 (by decide))
        have hback : (convert 33 9 (.slice (some ⟨g, 0, none⟩) t.size C)).run Try.prog wr = .ok (.string ⟨L.toArray⟩) wr := by
          have h := run_convert_bytes_back (P := Try.prog) wr 33 9 5 ⟨g, 0, none⟩ C L Try.underlying33 Try.underlying5 Try.underlying9 (fun j hj => by
            rw [show (⟨g, 0, none⟩ : Addr).add j = ⟨g, j, none⟩ by unfold Addr.add; split <;> simp_all]
            exact (HB.out j _ (List.getElem?_eq_getElem hj)).1)
          rw [hLl] at h
          exact h
        obtain ⟨U, hU⟩ : ∃ U : ByteArray, U = ⟨L.toArray⟩ := ⟨_, rfl⟩
        have hUs : U.size ≤ 1000000 := by rw [Lib.size_eq, hU]; show L.length ≤ _; omega
        have hUd : U.data.toList = L := by rw [hU]
        rw [← hU] at hback
        obtain ⟨A, hA⟩ : ∃ A, A = cs L := ⟨_, rfl⟩
        obtain ⟨B, hB⟩ : ∃ B, B = cs t.data.toList := ⟨_, rfl⟩
        rw [← hA, ← hB] at hne
        have hd1 : ((A : Int) == (B : Int)) = false := by simp; omega
        have hd2 : ((A : Int) != (B : Int)) = true := by simp; omega
        have HUS := Lib.hid hUs
        have HUD := Lib.hid hUd
        have HA := Lib.hid hA
        have HB2 := Lib.hid hB
        have HT : Hid (t.size ≤ 1000000) := Lib.hid (by omega)
        clear hk32 hL hLl hU hUs hUd hA hB hne
        go_wp2_with fail
        refine (of_one U HUS.out wr).mono ?_
        rintro e w3 ⟨rfl, hb3⟩
        rw [HUD.out, ← HA.out]
        have hb3' := hbr.trans (hb3.mono hbr.size)
        clear hb3 hback
        go_wp2_with fail
        refine (of_one t HT.out w3).mono ?_
        rintro e w4 ⟨rfl, hb4⟩
        rw [← HB2.out]
        have hb4' := hb3'.trans (hb4.mono hb3'.size)
        clear hb4
        go_wp2
        go_ret
        exact ⟨rfl, hb4'⟩
theorem lawTurned_any (s : ByteArray) (at' : Int) (h1 : -9223372036854775808 ≤ at') (h2 : at' ≤ 9223372036854775807) (b : Int) (hb : 0 ≤ b) (hb2 : b < 4294967296) (w : World) :
    Calls Try.prog 6 #[.string s, .int .i64 at', .int .u32 b] w fun e w' => e = .returned (.bool true) ∧ Below w.heap.size w w' := by
  obtain ⟨B, rfl⟩ := Int.eq_ofNat_of_zero_le hb
  obtain ⟨t, ht, hsh⟩ := short_any s 500
  have HSH : Hid (∀ w : World, Calls Try.prog 9 #[.string s, .int .i64 500] w fun e w' => e = .returned (.string t) ∧ w = w') := Lib.hid hsh
  by_cases h : t.size < 5 ∨ (5 ≤ t.size ∧ B = 0)
  · exact turned_none s at' B t HSH h w
  · exact turned_some s at' h1 h2 B (Lib.hid (by omega)) (by omega) t HSH (by omega) ht w
end Go.Proofs.Ytnlgijihfkkmgaa

/-
  The document's numbers as bytes.
-/
import Derived.Test.YtopnmiakljpgbaaAlike
namespace Go.Proofs.Ytopnmiakljpgbaa
open Go.RowKit
set_option maxRecDepth 100000 in
set_option maxHeartbeats 3200000 in
theorem number_any (x : Int) (w : World) : Calls Try.prog 56 #[it x] w fun e w' => e = .returned (str (nb8 x)) ∧ Below w.heap.size w w' := by
  go_enter Try.func56, Try.ntmps56
  go_wp2
  go_loopw [3, 4] (fun ov i wr => ∃ j : Nat, j ≤ 8 ∧ i = it (56 - 8 * (j : Int)) ∧ OwnV wr w.heap.size 5 ov (ub ((nb8 x).take j)) ∧ Below w.heap.size w wr) (fun _ i _ => (intOf i + 8).toNat)
  case atStart => exact ⟨0, by omega, rfl, OwnV.nil _ _ _, Below.refl _ _⟩
  case round =>
    obtain ⟨j, hj, rfl, ho2, hb2⟩ := hrel
    rcases (by omega : j = 0 ∨ j = 1 ∨ j = 2 ∨ j = 3 ∨ j = 4 ∨ j = 5 ∨ j = 6 ∨ j = 7 ∨ j = 8) with rfl | rfl | rfl | rfl | rfl | rfl | rfl | rfl | rfl
    · have e0 : (56 : Int) - 8 * ((0 : Nat) : Int) = 56 := by decide
      rw [e0]
      have hby : x / 72057594037927936 % 256 = ((lowB (x / 72057594037927936)).toNat : Int) := by
        rw [← wrap_low]
        unfold IntKind.wrap
        simp only [IntKind.bits, IntKind.signed, Bool.false_eq_true, if_false, Bool.false_and]
        omega
      have HO2 := Lib.hid ho2
      have HB2 := Lib.hid hb2
      obtain ⟨U, hU⟩ : ∃ U, U = (nb8 x).take 0 := ⟨_, rfl⟩
      have hnx : ub U ++ [.int .u8 ((lowB (x / 72057594037927936)).toNat : Int)] = ub ((nb8 x).take 1) := by
        rw [hU]; simp [nb8, ub]
      have HNX := Lib.hid hnx
      have HLN : Hid ((ub U).length ≤ 1000000) := Lib.hid (by rw [hU]; simp [nb8])
      obtain ⟨oa, oc, rfl, _⟩ := ho2.shape
      rw [← hU]
      obtain ⟨m, hm⟩ : ∃ m, m = (ub U).length := ⟨_, rfl⟩
      rw [← hU, ← hm] at HO2
      rw [← hm]
      clear ho2 hb2 hU hnx hm
      have hs := HB2.out.size
      go_wp2_with (at_builtin; refine wp_app_one 75 5 _ 1 Try.underlying75 info5 rfl (by decide) rfl (.tmp 9) (.tmp 15) rfl w.heap.size _ (ub U) rfl HO2.out _ rfl rfl HLN.out hs ?_)
      intro v' w2 ho3 hb3
      rw [HNX.out] at ho3
      have HO3 := Lib.hid ho3
      have HB3 := Lib.hid (HB2.out.trans hb3)
      clear ho3 hb3
      go_wp2
      go_roundw
      case rel => exact ⟨1, by omega, by first | rfl | decide, HO3.out, HB3.out⟩
      case measure => simp [intOf]
    · have e0 : (56 : Int) - 8 * ((1 : Nat) : Int) = 48 := by decide
      rw [e0]
      have hby : x / 281474976710656 % 256 = ((lowB (x / 281474976710656)).toNat : Int) := by
        rw [← wrap_low]
        unfold IntKind.wrap
        simp only [IntKind.bits, IntKind.signed, Bool.false_eq_true, if_false, Bool.false_and]
        omega
      have HO2 := Lib.hid ho2
      have HB2 := Lib.hid hb2
      obtain ⟨U, hU⟩ : ∃ U, U = (nb8 x).take 1 := ⟨_, rfl⟩
      have hnx : ub U ++ [.int .u8 ((lowB (x / 281474976710656)).toNat : Int)] = ub ((nb8 x).take 2) := by
        rw [hU]; simp [nb8, ub]
      have HNX := Lib.hid hnx
      have HLN : Hid ((ub U).length ≤ 1000000) := Lib.hid (by rw [hU]; simp [nb8])
      obtain ⟨oa, oc, rfl, _⟩ := ho2.shape
      rw [← hU]
      obtain ⟨m, hm⟩ : ∃ m, m = (ub U).length := ⟨_, rfl⟩
      rw [← hU, ← hm] at HO2
      rw [← hm]
      clear ho2 hb2 hU hnx hm
      have hs := HB2.out.size
      go_wp2_with (at_builtin; refine wp_app_one 75 5 _ 1 Try.underlying75 info5 rfl (by decide) rfl (.tmp 9) (.tmp 15) rfl w.heap.size _ (ub U) rfl HO2.out _ rfl rfl HLN.out hs ?_)
      intro v' w2 ho3 hb3
      rw [HNX.out] at ho3
      have HO3 := Lib.hid ho3
      have HB3 := Lib.hid (HB2.out.trans hb3)
      clear ho3 hb3
      go_wp2
      go_roundw
      case rel => exact ⟨2, by omega, by first | rfl | decide, HO3.out, HB3.out⟩
      case measure => simp [intOf]
    · have e0 : (56 : Int) - 8 * ((2 : Nat) : Int) = 40 := by decide
      rw [e0]
      have hby : x / 1099511627776 % 256 = ((lowB (x / 1099511627776)).toNat : Int) := by
        rw [← wrap_low]
        unfold IntKind.wrap
        simp only [IntKind.bits, IntKind.signed, Bool.false_eq_true, if_false, Bool.false_and]
        omega
      have HO2 := Lib.hid ho2
      have HB2 := Lib.hid hb2
      obtain ⟨U, hU⟩ : ∃ U, U = (nb8 x).take 2 := ⟨_, rfl⟩
      have hnx : ub U ++ [.int .u8 ((lowB (x / 1099511627776)).toNat : Int)] = ub ((nb8 x).take 3) := by
        rw [hU]; simp [nb8, ub]
      have HNX := Lib.hid hnx
      have HLN : Hid ((ub U).length ≤ 1000000) := Lib.hid (by rw [hU]; simp [nb8])
      obtain ⟨oa, oc, rfl, _⟩ := ho2.shape
      rw [← hU]
      obtain ⟨m, hm⟩ : ∃ m, m = (ub U).length := ⟨_, rfl⟩
      rw [← hU, ← hm] at HO2
      rw [← hm]
      clear ho2 hb2 hU hnx hm
      have hs := HB2.out.size
      go_wp2_with (at_builtin; refine wp_app_one 75 5 _ 1 Try.underlying75 info5 rfl (by decide) rfl (.tmp 9) (.tmp 15) rfl w.heap.size _ (ub U) rfl HO2.out _ rfl rfl HLN.out hs ?_)
      intro v' w2 ho3 hb3
      rw [HNX.out] at ho3
      have HO3 := Lib.hid ho3
      have HB3 := Lib.hid (HB2.out.trans hb3)
      clear ho3 hb3
      go_wp2
      go_roundw
      case rel => exact ⟨3, by omega, by first | rfl | decide, HO3.out, HB3.out⟩
      case measure => simp [intOf]
    · have e0 : (56 : Int) - 8 * ((3 : Nat) : Int) = 32 := by decide
      rw [e0]
      have hby : x / 4294967296 % 256 = ((lowB (x / 4294967296)).toNat : Int) := by
        rw [← wrap_low]
        unfold IntKind.wrap
        simp only [IntKind.bits, IntKind.signed, Bool.false_eq_true, if_false, Bool.false_and]
        omega
      have HO2 := Lib.hid ho2
      have HB2 := Lib.hid hb2
      obtain ⟨U, hU⟩ : ∃ U, U = (nb8 x).take 3 := ⟨_, rfl⟩
      have hnx : ub U ++ [.int .u8 ((lowB (x / 4294967296)).toNat : Int)] = ub ((nb8 x).take 4) := by
        rw [hU]; simp [nb8, ub]
      have HNX := Lib.hid hnx
      have HLN : Hid ((ub U).length ≤ 1000000) := Lib.hid (by rw [hU]; simp [nb8])
      obtain ⟨oa, oc, rfl, _⟩ := ho2.shape
      rw [← hU]
      obtain ⟨m, hm⟩ : ∃ m, m = (ub U).length := ⟨_, rfl⟩
      rw [← hU, ← hm] at HO2
      rw [← hm]
      clear ho2 hb2 hU hnx hm
      have hs := HB2.out.size
      go_wp2_with (at_builtin; refine wp_app_one 75 5 _ 1 Try.underlying75 info5 rfl (by decide) rfl (.tmp 9) (.tmp 15) rfl w.heap.size _ (ub U) rfl HO2.out _ rfl rfl HLN.out hs ?_)
      intro v' w2 ho3 hb3
      rw [HNX.out] at ho3
      have HO3 := Lib.hid ho3
      have HB3 := Lib.hid (HB2.out.trans hb3)
      clear ho3 hb3
      go_wp2
      go_roundw
      case rel => exact ⟨4, by omega, by first | rfl | decide, HO3.out, HB3.out⟩
      case measure => simp [intOf]
    · have e0 : (56 : Int) - 8 * ((4 : Nat) : Int) = 24 := by decide
      rw [e0]
      have hby : x / 16777216 % 256 = ((lowB (x / 16777216)).toNat : Int) := by
        rw [← wrap_low]
        unfold IntKind.wrap
        simp only [IntKind.bits, IntKind.signed, Bool.false_eq_true, if_false, Bool.false_and]
        omega
      have HO2 := Lib.hid ho2
      have HB2 := Lib.hid hb2
      obtain ⟨U, hU⟩ : ∃ U, U = (nb8 x).take 4 := ⟨_, rfl⟩
      have hnx : ub U ++ [.int .u8 ((lowB (x / 16777216)).toNat : Int)] = ub ((nb8 x).take 5) := by
        rw [hU]; simp [nb8, ub]
      have HNX := Lib.hid hnx
      have HLN : Hid ((ub U).length ≤ 1000000) := Lib.hid (by rw [hU]; simp [nb8])
      obtain ⟨oa, oc, rfl, _⟩ := ho2.shape
      rw [← hU]
      obtain ⟨m, hm⟩ : ∃ m, m = (ub U).length := ⟨_, rfl⟩
      rw [← hU, ← hm] at HO2
      rw [← hm]
      clear ho2 hb2 hU hnx hm
      have hs := HB2.out.size
      go_wp2_with (at_builtin; refine wp_app_one 75 5 _ 1 Try.underlying75 info5 rfl (by decide) rfl (.tmp 9) (.tmp 15) rfl w.heap.size _ (ub U) rfl HO2.out _ rfl rfl HLN.out hs ?_)
      intro v' w2 ho3 hb3
      rw [HNX.out] at ho3
      have HO3 := Lib.hid ho3
      have HB3 := Lib.hid (HB2.out.trans hb3)
      clear ho3 hb3
      go_wp2
      go_roundw
      case rel => exact ⟨5, by omega, by first | rfl | decide, HO3.out, HB3.out⟩
      case measure => simp [intOf]
    · have e0 : (56 : Int) - 8 * ((5 : Nat) : Int) = 16 := by decide
      rw [e0]
      have hby : x / 65536 % 256 = ((lowB (x / 65536)).toNat : Int) := by
        rw [← wrap_low]
        unfold IntKind.wrap
        simp only [IntKind.bits, IntKind.signed, Bool.false_eq_true, if_false, Bool.false_and]
        omega
      have HO2 := Lib.hid ho2
      have HB2 := Lib.hid hb2
      obtain ⟨U, hU⟩ : ∃ U, U = (nb8 x).take 5 := ⟨_, rfl⟩
      have hnx : ub U ++ [.int .u8 ((lowB (x / 65536)).toNat : Int)] = ub ((nb8 x).take 6) := by
        rw [hU]; simp [nb8, ub]
      have HNX := Lib.hid hnx
      have HLN : Hid ((ub U).length ≤ 1000000) := Lib.hid (by rw [hU]; simp [nb8])
      obtain ⟨oa, oc, rfl, _⟩ := ho2.shape
      rw [← hU]
      obtain ⟨m, hm⟩ : ∃ m, m = (ub U).length := ⟨_, rfl⟩
      rw [← hU, ← hm] at HO2
      rw [← hm]
      clear ho2 hb2 hU hnx hm
      have hs := HB2.out.size
      go_wp2_with (at_builtin; refine wp_app_one 75 5 _ 1 Try.underlying75 info5 rfl (by decide) rfl (.tmp 9) (.tmp 15) rfl w.heap.size _ (ub U) rfl HO2.out _ rfl rfl HLN.out hs ?_)
      intro v' w2 ho3 hb3
      rw [HNX.out] at ho3
      have HO3 := Lib.hid ho3
      have HB3 := Lib.hid (HB2.out.trans hb3)
      clear ho3 hb3
      go_wp2
      go_roundw
      case rel => exact ⟨6, by omega, by first | rfl | decide, HO3.out, HB3.out⟩
      case measure => simp [intOf]
    · have e0 : (56 : Int) - 8 * ((6 : Nat) : Int) = 8 := by decide
      rw [e0]
      have hby : x / 256 % 256 = ((lowB (x / 256)).toNat : Int) := by
        rw [← wrap_low]
        unfold IntKind.wrap
        simp only [IntKind.bits, IntKind.signed, Bool.false_eq_true, if_false, Bool.false_and]
        omega
      have HO2 := Lib.hid ho2
      have HB2 := Lib.hid hb2
      obtain ⟨U, hU⟩ : ∃ U, U = (nb8 x).take 6 := ⟨_, rfl⟩
      have hnx : ub U ++ [.int .u8 ((lowB (x / 256)).toNat : Int)] = ub ((nb8 x).take 7) := by
        rw [hU]; simp [nb8, ub]
      have HNX := Lib.hid hnx
      have HLN : Hid ((ub U).length ≤ 1000000) := Lib.hid (by rw [hU]; simp [nb8])
      obtain ⟨oa, oc, rfl, _⟩ := ho2.shape
      rw [← hU]
      obtain ⟨m, hm⟩ : ∃ m, m = (ub U).length := ⟨_, rfl⟩
      rw [← hU, ← hm] at HO2
      rw [← hm]
      clear ho2 hb2 hU hnx hm
      have hs := HB2.out.size
      go_wp2_with (at_builtin; refine wp_app_one 75 5 _ 1 Try.underlying75 info5 rfl (by decide) rfl (.tmp 9) (.tmp 15) rfl w.heap.size _ (ub U) rfl HO2.out _ rfl rfl HLN.out hs ?_)
      intro v' w2 ho3 hb3
      rw [HNX.out] at ho3
      have HO3 := Lib.hid ho3
      have HB3 := Lib.hid (HB2.out.trans hb3)
      clear ho3 hb3
      go_wp2
      go_roundw
      case rel => exact ⟨7, by omega, by first | rfl | decide, HO3.out, HB3.out⟩
      case measure => simp [intOf]
    · have e0 : (56 : Int) - 8 * ((7 : Nat) : Int) = 0 := by decide
      rw [e0]
      have hby : x % 256 = ((lowB (x)).toNat : Int) := by
        rw [← wrap_low]
        unfold IntKind.wrap
        simp only [IntKind.bits, IntKind.signed, Bool.false_eq_true, if_false, Bool.false_and]
        omega
      have HO2 := Lib.hid ho2
      have HB2 := Lib.hid hb2
      obtain ⟨U, hU⟩ : ∃ U, U = (nb8 x).take 7 := ⟨_, rfl⟩
      have hnx : ub U ++ [.int .u8 ((lowB (x)).toNat : Int)] = ub ((nb8 x).take 8) := by
        rw [hU]; simp [nb8, ub]
      have HNX := Lib.hid hnx
      have HLN : Hid ((ub U).length ≤ 1000000) := Lib.hid (by rw [hU]; simp [nb8])
      obtain ⟨oa, oc, rfl, _⟩ := ho2.shape
      rw [← hU]
      obtain ⟨m, hm⟩ : ∃ m, m = (ub U).length := ⟨_, rfl⟩
      rw [← hU, ← hm] at HO2
      rw [← hm]
      clear ho2 hb2 hU hnx hm
      have hs := HB2.out.size
      go_wp2_with (at_builtin; refine wp_app_one 75 5 _ 1 Try.underlying75 info5 rfl (by decide) rfl (.tmp 9) (.tmp 15) rfl w.heap.size _ (ub U) rfl HO2.out _ rfl rfl HLN.out hs ?_)
      intro v' w2 ho3 hb3
      rw [HNX.out] at ho3
      have HO3 := Lib.hid ho3
      have HB3 := Lib.hid (HB2.out.trans hb3)
      clear ho3 hb3
      go_wp2
      go_roundw
      case rel => exact ⟨8, by omega, by first | rfl | decide, HO3.out, HB3.out⟩
      case measure => simp [intOf]
    · have e0 : (56 : Int) - 8 * ((8 : Nat) : Int) = -8 := by decide
      rw [e0]
      have e8 : (nb8 x).take 8 = nb8 x := rfl
      rw [e8] at ho2
      have hr := row_back ho2
      have HB2 := Lib.hid hb2
      clear ho2 hb2 e8
      go_wp2
      go_ret
      exact ⟨rfl, HB2.out⟩
end Go.Proofs.Ytopnmiakljpgbaa

/-
  Numbers as bytes; where two lists of numbers differ.
-/
import Derived.Test.YtopnmiakljpgbaaRSlice
namespace Go.Proofs.Ytopnmiakljpgbaa
open Go.RowKit
def nb8 (n : Int) : Bs := [lowB (n / 72057594037927936), lowB (n / 281474976710656), lowB (n / 1099511627776), lowB (n / 4294967296), lowB (n / 16777216), lowB (n / 65536), lowB (n / 256), lowB n]
def numsB (L : List Int) : Bs := L.flatMap nb8
theorem eqI_any (x y : Int) (w : World) : Calls Try.prog 68 #[it x, it y] w fun e w' => e = .returned (.bool (decide (x = y))) ∧ w = w' := by
  by_cases h : x = y
  · subst h
    go_enter Try.func68, Try.ntmps68
    go_wp2
    go_ret
    exact ⟨congrArg (fun b => Ending.returned (Value.bool b)) (by simp), rfl⟩
  · have q : (x == y) = false := by simpa using h
    go_enter Try.func68, Try.ntmps68
    go_wp2
    go_ret
    exact ⟨congrArg (fun b => Ending.returned (Value.bool b)) (by simp [h]), rfl⟩
set_option maxRecDepth 100000 in
set_option maxHeartbeats 3200000 in
theorem nums_any {w : World} {v : Value} {L : List Int} (hv : RdN w v L) (hl : L.length ≤ 1000) :
    Calls Try.prog 69 #[v] w fun e w' => e = .returned (str (numsB L)) ∧ Below w.heap.size w w' := by
  obtain ⟨va, vc, rfl, _⟩ := hv.shape
  have HV := Lib.hid hv
  obtain ⟨n, hn⟩ : ∃ n, n = L.length := ⟨_, rfl⟩
  have HN := Lib.hid hn
  rw [← hn] at HV hl ⊢
  clear hv hn
  go_enter Try.func69, Try.ntmps69
  go_wp2
  go_loopw [3, 5, 6, 9] (fun ov _ _ i wr => ∃ k : Nat, k ≤ n ∧ i = it (k : Int) ∧ OwnV wr w.heap.size 5 ov (ub (numsB (L.take k))) ∧ Below w.heap.size w wr) (fun _ _ _ i _ => n - (intOf i).toNat)
  case atStart => exact ⟨0, by omega, rfl, OwnV.nil _ _ _, Below.refl _ _⟩
  case round =>
    obtain ⟨k, hk, rfl, ho, hbr⟩ := hrel
    by_cases hlt : k < n
    · have q : (k : Int) < (n : Int) := by omega
      obtain ⟨x, hx⟩ : ∃ x, L[k]? = some x := ⟨_, List.getElem?_eq_getElem (by have := HN.out; omega)⟩
      obtain ⟨e1, g, o, rfl, hg, c0⟩ := HV.out.at hx
      have c0 := (hbr.cell (p := ⟨g, o + k, none⟩) hg).trans c0
      have HB := Lib.hid hbr
      have HO := Lib.hid ho
      obtain ⟨T, hT⟩ : ∃ T, T = numsB (L.take k) := ⟨_, rfl⟩
      rw [← hT] at HO
      have hend : numsB (L.take (k + 1)) = T ++ nb8 x := by rw [take_succ_of hx, hT]; simp [numsB]
      have HE := Lib.hid hend
      have htl : T.length ≤ 8000 := by
        rw [hT]; unfold numsB
        rw [List.length_flatMap]
        have e : ((L.take k).map fun a => (nb8 a).length) = (L.take k).map fun _ => 8 := rfl
        rw [e, List.map_const', List.sum_replicate_nat, List.length_take]
        omega
      have HTL := Lib.hid htl
      clear htl e1 hbr ho hx hT hend
      go_wp2
      go_loopw [3, 6] (fun ov i wr => ∃ j : Nat, j ≤ 8 ∧ i = it (56 - 8 * (j : Int)) ∧ OwnV wr w.heap.size 5 ov (ub (T ++ (nb8 x).take j)) ∧ Below w.heap.size w wr) (fun _ i _ => (intOf i + 8).toNat)
      case atStart => exact ⟨0, by omega, rfl, by simpa using HO.out, HB.out⟩
      case round =>
        obtain ⟨j, hj, rfl, ho2, hb2⟩ := hrel
        rcases (by omega : j = 0 ∨ j = 1 ∨ j = 2 ∨ j = 3 ∨ j = 4 ∨ j = 5 ∨ j = 6 ∨ j = 7 ∨ j = 8) with rfl | rfl | rfl | rfl | rfl | rfl | rfl | rfl | rfl
        · have e0 : (56 : Int) - 8 * ((0 : Nat) : Int) = 56 := by decide
          rw [e0]
          have hby : IntKind.u64.wrap x / 72057594037927936 % 256 = ((lowB (x / 72057594037927936)).toNat : Int) := by
            rw [← wrap_low]
            unfold IntKind.wrap
            simp only [IntKind.bits, IntKind.signed, Bool.false_eq_true, if_false, Bool.false_and]
            omega
          have HO2 := Lib.hid ho2
          have HB2 := Lib.hid hb2
          obtain ⟨U, hU⟩ : ∃ U, U = T ++ (nb8 x).take 0 := ⟨_, rfl⟩
          have hnx : ub U ++ [.int .u8 ((lowB (x / 72057594037927936)).toNat : Int)] = ub (T ++ (nb8 x).take 1) := by
            rw [hU]; simp [nb8, ub]
          have HNX := Lib.hid hnx
          have HLN : Hid ((ub U).length ≤ 1000000) := Lib.hid (by rw [hU]; have := HTL.out; simp [nb8]; omega)
          obtain ⟨oa, oc, rfl, _⟩ := ho2.shape
          rw [← hU]
          obtain ⟨m, hm⟩ : ∃ m, m = (ub U).length := ⟨_, rfl⟩
          rw [← hU, ← hm] at HO2
          rw [← hm]
          clear ho2 hb2 hU hnx hm
          have hs := HB2.out.size
          go_wp2_with (at_builtin; refine wp_app_one 75 5 _ 1 Try.underlying75 info5 rfl (by decide) rfl (.tmp 17) (.tmp 23) rfl w.heap.size _ (ub U) rfl HO2.out _ rfl rfl HLN.out hs ?_)
          intro v' w2 ho3 hb3
          rw [HNX.out] at ho3
          have HO3 := Lib.hid ho3
          have HB3 := Lib.hid (HB2.out.trans hb3)
          clear ho3 hb3
          go_wp2
          go_roundw
          case rel => exact ⟨1, by omega, by first | rfl | decide, HO3.out, HB3.out⟩
          case measure => simp [intOf]
        · have e0 : (56 : Int) - 8 * ((1 : Nat) : Int) = 48 := by decide
          rw [e0]
          have hby : IntKind.u64.wrap x / 281474976710656 % 256 = ((lowB (x / 281474976710656)).toNat : Int) := by
            rw [← wrap_low]
            unfold IntKind.wrap
            simp only [IntKind.bits, IntKind.signed, Bool.false_eq_true, if_false, Bool.false_and]
            omega
          have HO2 := Lib.hid ho2
          have HB2 := Lib.hid hb2
          obtain ⟨U, hU⟩ : ∃ U, U = T ++ (nb8 x).take 1 := ⟨_, rfl⟩
          have hnx : ub U ++ [.int .u8 ((lowB (x / 281474976710656)).toNat : Int)] = ub (T ++ (nb8 x).take 2) := by
            rw [hU]; simp [nb8, ub]
          have HNX := Lib.hid hnx
          have HLN : Hid ((ub U).length ≤ 1000000) := Lib.hid (by rw [hU]; have := HTL.out; simp [nb8]; omega)
          obtain ⟨oa, oc, rfl, _⟩ := ho2.shape
          rw [← hU]
          obtain ⟨m, hm⟩ : ∃ m, m = (ub U).length := ⟨_, rfl⟩
          rw [← hU, ← hm] at HO2
          rw [← hm]
          clear ho2 hb2 hU hnx hm
          have hs := HB2.out.size
          go_wp2_with (at_builtin; refine wp_app_one 75 5 _ 1 Try.underlying75 info5 rfl (by decide) rfl (.tmp 17) (.tmp 23) rfl w.heap.size _ (ub U) rfl HO2.out _ rfl rfl HLN.out hs ?_)
          intro v' w2 ho3 hb3
          rw [HNX.out] at ho3
          have HO3 := Lib.hid ho3
          have HB3 := Lib.hid (HB2.out.trans hb3)
          clear ho3 hb3
          go_wp2
          go_roundw
          case rel => exact ⟨2, by omega, by first | rfl | decide, HO3.out, HB3.out⟩
          case measure => simp [intOf]
        · have e0 : (56 : Int) - 8 * ((2 : Nat) : Int) = 40 := by decide
          rw [e0]
          have hby : IntKind.u64.wrap x / 1099511627776 % 256 = ((lowB (x / 1099511627776)).toNat : Int) := by
            rw [← wrap_low]
            unfold IntKind.wrap
            simp only [IntKind.bits, IntKind.signed, Bool.false_eq_true, if_false, Bool.false_and]
            omega
          have HO2 := Lib.hid ho2
          have HB2 := Lib.hid hb2
          obtain ⟨U, hU⟩ : ∃ U, U = T ++ (nb8 x).take 2 := ⟨_, rfl⟩
          have hnx : ub U ++ [.int .u8 ((lowB (x / 1099511627776)).toNat : Int)] = ub (T ++ (nb8 x).take 3) := by
            rw [hU]; simp [nb8, ub]
          have HNX := Lib.hid hnx
          have HLN : Hid ((ub U).length ≤ 1000000) := Lib.hid (by rw [hU]; have := HTL.out; simp [nb8]; omega)
          obtain ⟨oa, oc, rfl, _⟩ := ho2.shape
          rw [← hU]
          obtain ⟨m, hm⟩ : ∃ m, m = (ub U).length := ⟨_, rfl⟩
          rw [← hU, ← hm] at HO2
          rw [← hm]
          clear ho2 hb2 hU hnx hm
          have hs := HB2.out.size
          go_wp2_with (at_builtin; refine wp_app_one 75 5 _ 1 Try.underlying75 info5 rfl (by decide) rfl (.tmp 17) (.tmp 23) rfl w.heap.size _ (ub U) rfl HO2.out _ rfl rfl HLN.out hs ?_)
          intro v' w2 ho3 hb3
          rw [HNX.out] at ho3
          have HO3 := Lib.hid ho3
          have HB3 := Lib.hid (HB2.out.trans hb3)
          clear ho3 hb3
          go_wp2
          go_roundw
          case rel => exact ⟨3, by omega, by first | rfl | decide, HO3.out, HB3.out⟩
          case measure => simp [intOf]
        · have e0 : (56 : Int) - 8 * ((3 : Nat) : Int) = 32 := by decide
          rw [e0]
          have hby : IntKind.u64.wrap x / 4294967296 % 256 = ((lowB (x / 4294967296)).toNat : Int) := by
            rw [← wrap_low]
            unfold IntKind.wrap
            simp only [IntKind.bits, IntKind.signed, Bool.false_eq_true, if_false, Bool.false_and]
            omega
          have HO2 := Lib.hid ho2
          have HB2 := Lib.hid hb2
          obtain ⟨U, hU⟩ : ∃ U, U = T ++ (nb8 x).take 3 := ⟨_, rfl⟩
          have hnx : ub U ++ [.int .u8 ((lowB (x / 4294967296)).toNat : Int)] = ub (T ++ (nb8 x).take 4) := by
            rw [hU]; simp [nb8, ub]
          have HNX := Lib.hid hnx
          have HLN : Hid ((ub U).length ≤ 1000000) := Lib.hid (by rw [hU]; have := HTL.out; simp [nb8]; omega)
          obtain ⟨oa, oc, rfl, _⟩ := ho2.shape
          rw [← hU]
          obtain ⟨m, hm⟩ : ∃ m, m = (ub U).length := ⟨_, rfl⟩
          rw [← hU, ← hm] at HO2
          rw [← hm]
          clear ho2 hb2 hU hnx hm
          have hs := HB2.out.size
          go_wp2_with (at_builtin; refine wp_app_one 75 5 _ 1 Try.underlying75 info5 rfl (by decide) rfl (.tmp 17) (.tmp 23) rfl w.heap.size _ (ub U) rfl HO2.out _ rfl rfl HLN.out hs ?_)
          intro v' w2 ho3 hb3
          rw [HNX.out] at ho3
          have HO3 := Lib.hid ho3
          have HB3 := Lib.hid (HB2.out.trans hb3)
          clear ho3 hb3
          go_wp2
          go_roundw
          case rel => exact ⟨4, by omega, by first | rfl | decide, HO3.out, HB3.out⟩
          case measure => simp [intOf]
        · have e0 : (56 : Int) - 8 * ((4 : Nat) : Int) = 24 := by decide
          rw [e0]
          have hby : IntKind.u64.wrap x / 16777216 % 256 = ((lowB (x / 16777216)).toNat : Int) := by
            rw [← wrap_low]
            unfold IntKind.wrap
            simp only [IntKind.bits, IntKind.signed, Bool.false_eq_true, if_false, Bool.false_and]
            omega
          have HO2 := Lib.hid ho2
          have HB2 := Lib.hid hb2
          obtain ⟨U, hU⟩ : ∃ U, U = T ++ (nb8 x).take 4 := ⟨_, rfl⟩
          have hnx : ub U ++ [.int .u8 ((lowB (x / 16777216)).toNat : Int)] = ub (T ++ (nb8 x).take 5) := by
            rw [hU]; simp [nb8, ub]
          have HNX := Lib.hid hnx
          have HLN : Hid ((ub U).length ≤ 1000000) := Lib.hid (by rw [hU]; have := HTL.out; simp [nb8]; omega)
          obtain ⟨oa, oc, rfl, _⟩ := ho2.shape
          rw [← hU]
          obtain ⟨m, hm⟩ : ∃ m, m = (ub U).length := ⟨_, rfl⟩
          rw [← hU, ← hm] at HO2
          rw [← hm]
          clear ho2 hb2 hU hnx hm
          have hs := HB2.out.size
          go_wp2_with (at_builtin; refine wp_app_one 75 5 _ 1 Try.underlying75 info5 rfl (by decide) rfl (.tmp 17) (.tmp 23) rfl w.heap.size _ (ub U) rfl HO2.out _ rfl rfl HLN.out hs ?_)
          intro v' w2 ho3 hb3
          rw [HNX.out] at ho3
          have HO3 := Lib.hid ho3
          have HB3 := Lib.hid (HB2.out.trans hb3)
          clear ho3 hb3
          go_wp2
          go_roundw
          case rel => exact ⟨5, by omega, by first | rfl | decide, HO3.out, HB3.out⟩
          case measure => simp [intOf]
        · have e0 : (56 : Int) - 8 * ((5 : Nat) : Int) = 16 := by decide
          rw [e0]
          have hby : IntKind.u64.wrap x / 65536 % 256 = ((lowB (x / 65536)).toNat : Int) := by
            rw [← wrap_low]
            unfold IntKind.wrap
            simp only [IntKind.bits, IntKind.signed, Bool.false_eq_true, if_false, Bool.false_and]
            omega
          have HO2 := Lib.hid ho2
          have HB2 := Lib.hid hb2
          obtain ⟨U, hU⟩ : ∃ U, U = T ++ (nb8 x).take 5 := ⟨_, rfl⟩
          have hnx : ub U ++ [.int .u8 ((lowB (x / 65536)).toNat : Int)] = ub (T ++ (nb8 x).take 6) := by
            rw [hU]; simp [nb8, ub]
          have HNX := Lib.hid hnx
          have HLN : Hid ((ub U).length ≤ 1000000) := Lib.hid (by rw [hU]; have := HTL.out; simp [nb8]; omega)
          obtain ⟨oa, oc, rfl, _⟩ := ho2.shape
          rw [← hU]
          obtain ⟨m, hm⟩ : ∃ m, m = (ub U).length := ⟨_, rfl⟩
          rw [← hU, ← hm] at HO2
          rw [← hm]
          clear ho2 hb2 hU hnx hm
          have hs := HB2.out.size
          go_wp2_with (at_builtin; refine wp_app_one 75 5 _ 1 Try.underlying75 info5 rfl (by decide) rfl (.tmp 17) (.tmp 23) rfl w.heap.size _ (ub U) rfl HO2.out _ rfl rfl HLN.out hs ?_)
          intro v' w2 ho3 hb3
          rw [HNX.out] at ho3
          have HO3 := Lib.hid ho3
          have HB3 := Lib.hid (HB2.out.trans hb3)
          clear ho3 hb3
          go_wp2
          go_roundw
          case rel => exact ⟨6, by omega, by first | rfl | decide, HO3.out, HB3.out⟩
          case measure => simp [intOf]
        · have e0 : (56 : Int) - 8 * ((6 : Nat) : Int) = 8 := by decide
          rw [e0]
          have hby : IntKind.u64.wrap x / 256 % 256 = ((lowB (x / 256)).toNat : Int) := by
            rw [← wrap_low]
            unfold IntKind.wrap
            simp only [IntKind.bits, IntKind.signed, Bool.false_eq_true, if_false, Bool.false_and]
            omega
          have HO2 := Lib.hid ho2
          have HB2 := Lib.hid hb2
          obtain ⟨U, hU⟩ : ∃ U, U = T ++ (nb8 x).take 6 := ⟨_, rfl⟩
          have hnx : ub U ++ [.int .u8 ((lowB (x / 256)).toNat : Int)] = ub (T ++ (nb8 x).take 7) := by
            rw [hU]; simp [nb8, ub]
          have HNX := Lib.hid hnx
          have HLN : Hid ((ub U).length ≤ 1000000) := Lib.hid (by rw [hU]; have := HTL.out; simp [nb8]; omega)
          obtain ⟨oa, oc, rfl, _⟩ := ho2.shape
          rw [← hU]
          obtain ⟨m, hm⟩ : ∃ m, m = (ub U).length := ⟨_, rfl⟩
          rw [← hU, ← hm] at HO2
          rw [← hm]
          clear ho2 hb2 hU hnx hm
          have hs := HB2.out.size
          go_wp2_with (at_builtin; refine wp_app_one 75 5 _ 1 Try.underlying75 info5 rfl (by decide) rfl (.tmp 17) (.tmp 23) rfl w.heap.size _ (ub U) rfl HO2.out _ rfl rfl HLN.out hs ?_)
          intro v' w2 ho3 hb3
          rw [HNX.out] at ho3
          have HO3 := Lib.hid ho3
          have HB3 := Lib.hid (HB2.out.trans hb3)
          clear ho3 hb3
          go_wp2
          go_roundw
          case rel => exact ⟨7, by omega, by first | rfl | decide, HO3.out, HB3.out⟩
          case measure => simp [intOf]
        · have e0 : (56 : Int) - 8 * ((7 : Nat) : Int) = 0 := by decide
          rw [e0]
          have hby : IntKind.u64.wrap x % 256 = ((lowB (x)).toNat : Int) := by
            rw [← wrap_low]
            unfold IntKind.wrap
            simp only [IntKind.bits, IntKind.signed, Bool.false_eq_true, if_false, Bool.false_and]
            omega
          have HO2 := Lib.hid ho2
          have HB2 := Lib.hid hb2
          obtain ⟨U, hU⟩ : ∃ U, U = T ++ (nb8 x).take 7 := ⟨_, rfl⟩
          have hnx : ub U ++ [.int .u8 ((lowB (x)).toNat : Int)] = ub (T ++ (nb8 x).take 8) := by
            rw [hU]; simp [nb8, ub]
          have HNX := Lib.hid hnx
          have HLN : Hid ((ub U).length ≤ 1000000) := Lib.hid (by rw [hU]; have := HTL.out; simp [nb8]; omega)
          obtain ⟨oa, oc, rfl, _⟩ := ho2.shape
          rw [← hU]
          obtain ⟨m, hm⟩ : ∃ m, m = (ub U).length := ⟨_, rfl⟩
          rw [← hU, ← hm] at HO2
          rw [← hm]
          clear ho2 hb2 hU hnx hm
          have hs := HB2.out.size
          go_wp2_with (at_builtin; refine wp_app_one 75 5 _ 1 Try.underlying75 info5 rfl (by decide) rfl (.tmp 17) (.tmp 23) rfl w.heap.size _ (ub U) rfl HO2.out _ rfl rfl HLN.out hs ?_)
          intro v' w2 ho3 hb3
          rw [HNX.out] at ho3
          have HO3 := Lib.hid ho3
          have HB3 := Lib.hid (HB2.out.trans hb3)
          clear ho3 hb3
          go_wp2
          go_roundw
          case rel => exact ⟨8, by omega, by first | rfl | decide, HO3.out, HB3.out⟩
          case measure => simp [intOf]
        · have e0 : (56 : Int) - 8 * ((8 : Nat) : Int) = -8 := by decide
          rw [e0]
          have e8 : (nb8 x).take 8 = nb8 x := rfl
          rw [e8, ← HE.out] at ho2
          have HO2 := Lib.hid ho2
          have HB2 := Lib.hid hb2
          clear ho2 hb2 e8
          go_wp2
          go_roundw
          case rel => exact ⟨k + 1, by omega, by go_num, HO2.out, HB2.out⟩
          case measure => simp [intOf]; omega
    · have q : decide ((k : Int) < (n : Int)) = false := decide_eq_false (by omega)
      have q2 : decide (k < n) = false := decide_eq_false (by omega)
      rw [show L.take k = L from List.take_of_length_le (by have := HN.out; omega)] at ho
      have hr := row_back ho
      have HB := Lib.hid hbr
      clear ho hbr
      go_wp2
      go_ret
      exact ⟨rfl, HB.out⟩
end Go.Proofs.Ytopnmiakljpgbaa

/-
  The law RingMoves: what a new node takes.
-/
import Derived.Test.YtomghpielgkigaaDoorOpen14
namespace Go.Proofs.YtomghpielgkigaaDoor
open Go.RowKit
/-- WHAT A NEW NODE TAKES: an owner is the new node, or the one it was. -/
theorem keeps_cases (t : ByteArray) (L : List Int) (n : Int) (h0 : 0 ≤ n) (h1 : n < 64) (hL : ¬ n ∈ L) :
    ∃ (a c : Int) (b0 : Bool), fstN (ow t L) = a ∧ (ow t L).isSome = b0 ∧ fstN (ow t (L ++ [n])) = c ∧ (ow t (L ++ [n])).isSome = true ∧ ((b0 = false ∧ c = n) ∨ (b0 = true ∧ a = c) ∨ (b0 = true ∧ a ≠ c ∧ c = n)) := by
  obtain ⟨m, rfl⟩ : ∃ m : Fin 64, n = (m.val : Int) := ⟨⟨n.toNat, by omega⟩, by simp; omega⟩
  have hk := own_keeps t L m hL
  refine ⟨_, _, _, rfl, rfl, rfl, ?_⟩
  unfold ow
  rcases hk with h | ⟨x, h2, h3⟩
  · rw [h]
    refine ⟨rfl, ?_⟩
    cases hx : own t (ringL L) with
    | none => exact .inl ⟨rfl, rfl⟩
    | some x =>
      by_cases e : x = m
      · exact .inr (.inl ⟨rfl, by rw [e]⟩)
      · exact .inr (.inr ⟨rfl, by show (x.val : Int) ≠ (m.val : Int); intro h; exact e (Fin.ext (by omega)), rfl⟩)
  · rw [h2, h3]
    exact ⟨rfl, .inr (.inl ⟨rfl, rfl⟩)⟩
set_option maxRecDepth 100000 in
set_option maxHeartbeats 3200000 in
theorem lawMoves_any {w : World} (hT : Tab w) {v : Value} {M0 : List Int} (hv : RdX elI w v M0) (n0 : Int) (wn : (Lit.int .i64 n0).wf = true) {ka : Option Addr} {kn kc : Nat} (hk : Came w ka kn) (hkl : kn ≤ kc) (hkm : kc ≤ maxLen) :
    Calls Tryd.prog 3 #[v, it n0, .slice ka kn kc] w fun e w' => e = .returned (.bool true) ∧ Below w.heap.size w w' := by
  have HT := Lib.hid hT
  have HV := Lib.hid hv
  have HK := Lib.hid hk
  have hbn : -9223372036854775808 ≤ n0 ∧ n0 ≤ 9223372036854775807 := by simpa [Lit.wf, IntKind.min, IntKind.max, IntKind.signed, IntKind.bits] using wn
  have HKB := Lib.hid (show (kn : Int) ≤ 9223372036854775807 by unfold maxLen at hkm; omega)
  have HA := Lib.hid (awake_any hT)
  obtain ⟨va, vc, rfl, _⟩ := hv.shape
  generalize M0.length = m0 at *
  clear hT hv hk wn hkl hkm
  go_enter Tryd.func3, Tryd.ntmps3
  go_wp2_with fail
  refine HA.out.mono ?_
  rintro e w1 ⟨rfl, hb1⟩
  have HB1 := Lib.hid hb1
  have HM := Lib.hid (few_any (HV.out.below hb1))
  clear hb1 HV HA
  go_wp2_with fail
  refine HM.out.mono ?_
  rintro e w1' ⟨v', rfl, hv', rfl⟩
  have HV' := Lib.hid hv'
  obtain ⟨va', vc', rfl, _⟩ := hv'.shape
  obtain ⟨M, hM⟩ : ∃ M, M = M0.take 12 := ⟨_, rfl⟩
  have HML : Hid (M.length ≤ 12) := Lib.hid (by rw [hM, List.length_take]; omega)
  rw [← hM] at HV' ⊢
  obtain ⟨m, hm⟩ : ∃ m, m = M.length := ⟨_, rfl⟩
  rw [← hm] at HV' HML ⊢
  have HMM := Lib.hid hm
  clear hv' hM HM hm
  obtain ⟨r, hr⟩ : ∃ r, n0.tmod 64 = r := ⟨_, rfl⟩
  have hr1 : -64 < r := by rw [← hr]; exact Int.lt_tmod_of_pos _ (by decide)
  have hr2 : r < 64 := by rw [← hr]; exact Int.tmod_lt_of_pos _ (by decide)
  obtain ⟨nd, hnd⟩ : ∃ nd : Int, nd = if r < 0 then -r else r := ⟨_, rfl⟩
  have HN0 : Hid (0 ≤ nd) := Lib.hid (by rw [hnd]; split <;> omega)
  have HN1 : Hid (nd < 64) := Lib.hid (by rw [hnd]; split <;> omega)
  have hsg : (r < 0 ∧ -r = nd) ∨ (¬ r < 0 ∧ r = nd) := by
    by_cases h : r < 0
    · refine .inl ⟨h, ?_⟩
      rw [hnd, if_pos h]
    · exact .inr ⟨h, by rw [hnd, if_neg h]⟩
  clear hnd hbn
  rcases hsg with ⟨hs, hq⟩ | ⟨hs, hq⟩
  all_goals
    go_upto_region 8 with fail
    have HE := Lib.hid (OwnX.nil (E := elI) w1' w1'.heap.size)
    have hm12 := HML.out
    go_loopw [9, 10] (fun v i wr => ∃ (k : Nat) (L : List Int), k ≤ m ∧ i = it (k : Int) ∧ L.length ≤ k ∧ ¬ nd ∈ L ∧ OwnX elI wr w1'.heap.size v L ∧ Below w1'.heap.size w1' wr) (fun _ i _ => m - (intOf i).toNat)
    case atStart => exact ⟨0, [], Nat.zero_le _, rfl, Nat.zero_le _, List.not_mem_nil, HE.out, Below.refl _ _⟩
    case round =>
      obtain ⟨k, L, hk, rfl, hLk, hnL, ho, hb⟩ := hrel
      have HO := Lib.hid ho
      have HB := Lib.hid hb
      have HNL := Lib.hid hnL
      have HLK := Lib.hid hLk
      clear ho hb hnL hLk
      by_cases hlt : k < m
      · have q : (k : Int) < (m : Int) := by omega
        obtain ⟨x, hx⟩ : ∃ x, M[k]? = some x := ⟨_, List.getElem?_eq_getElem (by have := HMM.out; omega)⟩
        obtain ⟨g, o, rfl, hg, c1⟩ := rdx_at HV'.out hx
        have c1 := (HB.out.cell (p := ⟨g, o + k, none⟩) hg).trans c1
        clear hg hx
        by_cases hxn : x = nd
        · have q2 : (x != nd) = false := by simpa using hxn
          go_wp2
          go_roundw
          case rel => exact ⟨k + 1, L, by omega, by go_num, Nat.le_succ_of_le HLK.out, HNL.out, HO.out, HB.out⟩
          case measure => simp [intOf]; omega
        · have q2 : (x != nd) = true := by simpa using hxn
          have hbo := one_new wr (.cells #[it x] 3)
          have HOX := Lib.hid (HO.out.below hbo)
          have HRX := Lib.hid (rd_arr (M := [x]) (Ce.new wr 3 _) (show 1 ≤ maxLen by decide))
          have HLE : Hid (L.length + [x].length ≤ 1000000) := Lib.hid (by have := HLK.out; simp; omega)
          have HNL2 : Hid (¬ nd ∈ L ++ [x]) := Lib.hid (by
            have := HNL.out
            simp
            exact ⟨this, fun e => hxn e.symm⟩)
          have HBO := Lib.hid hbo
          have HSZ : Hid (w1'.heap.size ≤ (wr.alloc (.cells #[it x] 3)).heap.size) := Lib.hid (by have := HB.out.size; have := hbo.size; omega)
          clear hbo
          go_wp2_with (at_builtin; refine wp_app elI rfl (.tmp 41) (.tmp 46) rfl w1'.heap.size _ L [x] rfl HOX.out _ rfl HRX.out HLE.out HSZ.out ?_)
          intro v6 w6 ho6 hg6 hv6
          have HO6 := Lib.hid ho6
          have HB6 : Hid (Below w1'.heap.size w1' w6) := Lib.hid ((HB.out.trans (HBO.out.mono HB.out.size)).trans ⟨hg6.os, hg6.tape, hg6.output, hg6.size, fun i hi => hg6.block i (by have := HSZ.out; omega) (fun e => by have := HOX.out.block i e.symm; omega)⟩)
          clear ho6 hg6 hv6
          go_wp2
          go_roundw
          case rel => exact ⟨k + 1, L ++ [x], by omega, by go_num, by rw [List.length_append]; exact Nat.add_le_add_right HLK.out 1, HNL2.out, HO6.out, HB6.out⟩
          case measure => simp [intOf]; omega
      · have q : decide ((k : Int) < (m : Int)) = false := by simp; omega
        have HR0 := Lib.hid HO.out.rd
        have HE2 := Lib.hid (OwnX.nil (E := elI) wr wr.heap.size)
        have HLE : Hid (([] : List Int).length + L.length ≤ 1000000) := Lib.hid (by have := HLK.out; simp; omega)
        have HSZ : Hid (wr.heap.size ≤ wr.heap.size) := Lib.hid (Nat.le_refl _)
        have HB2 := Lib.hid (HB1.out.trans (HB.out.mono HB1.out.size))
        have HLL : Hid (L.length ≤ 12) := Lib.hid (by have := HLK.out; omega)
        clear HO HE
        go_wp2_with (at_builtin; refine wp_app elI rfl (.tmp 48) (.tmp 49) rfl wr.heap.size _ [] L rfl HE2.out _ rfl HR0.out HLE.out HSZ.out ?_)
        intro v6 w6 ho6 hg6 hv6
        have HO6 := Lib.hid ho6
        have HB6 : Hid (Below wr.heap.size wr w6) := Lib.hid ⟨hg6.os, hg6.tape, hg6.output, hg6.size, fun i hi => hg6.block i hi (fun e => by cases e)⟩
        clear ho6 hg6 hv6
        have hbo := one_new w6 (.cells #[it nd] 3)
        have HOX := Lib.hid (HO6.out.below hbo)
        have HRX := Lib.hid (rd_arr (M := [nd]) (Ce.new w6 3 _) (show 1 ≤ maxLen by decide))
        have HLE : Hid (L.length + [nd].length ≤ 1000000) := Lib.hid (by have := HLL.out; simp; omega)
        have HBO := Lib.hid hbo
        have HSZ : Hid (wr.heap.size ≤ (w6.alloc (.cells #[it nd] 3)).heap.size) := Lib.hid (by have := HB6.out.size; have := hbo.size; omega)
        clear hbo
        go_wp2_with (at_builtin; refine wp_app elI rfl (.tmp 51) (.tmp 53) rfl wr.heap.size _ L [nd] rfl HOX.out _ rfl HRX.out HLE.out HSZ.out ?_)
        intro v7 w7 ho7 hg7 hv7
        have HB7 : Hid (Below wr.heap.size wr w7) := Lib.hid ((HB6.out.trans (HBO.out.mono HB6.out.size)).trans ⟨hg7.os, hg7.tape, hg7.output, hg7.size, fun i hi => hg7.block i (Nat.lt_of_lt_of_le hi HSZ.out) (fun e => by have := HOX.out.block i e.symm; omega)⟩)
        have HBW := Lib.hid (HB2.out.trans (HB7.out.mono HB2.out.size))
        have HNW := Lib.hid (ri_new (HT.out.below HBW.out) (HR0.out.below HB7.out) (by have := HLL.out; omega))
        have HR7 := Lib.hid ho7.rd
        clear ho7 hg7 hv7 HOX HRX HSZ HBO HO6 HE2 HR0 HLE
        go_wp2_with fail
        refine HNW.out.mono ?_
        rintro e w8 ⟨p8, rfl, hr8, hb8⟩
        have HB8 := Lib.hid (HBW.out.trans (hb8.mono HBW.out.size))
        have HI8 := Lib.hid hr8
        have HNW2 := Lib.hid (ri_new (HT.out.below HB8.out) (HR7.out.below hb8) (by rw [List.length_append]; have := HLL.out; simp; omega))
        clear hr8 hb8 HNW HR7
        go_wp2_with fail
        refine HNW2.out.mono ?_
        rintro e w9 ⟨p9, rfl, hr9, hb9⟩
        have HB9 := Lib.hid (HB8.out.trans (hb9.mono HB8.out.size))
        have HI9 := Lib.hid hr9
        have HJ9 := Lib.hid (HI8.out.below hb9)
        clear hr9 hb9 HNW2 HI8
        go_upto_region 18 with fail
        go_loopw [14] (fun i wq => ∃ k : Nat, i = it (k : Int) ∧ k ≤ 60 ∧ Below w9.heap.size w9 wq) (fun i _ => 60 - (intOf i).toNat)
        case atStart => exact ⟨0, rfl, Nat.zero_le _, Below.refl _ _⟩
        case round =>
          obtain ⟨k, rfl, hk60, hb⟩ := hrel
          have HBK := Lib.hid hb
          clear hb
          by_cases hlt : k < kn
          · have q1 : (k : Int) < (kn : Int) := by omega
            by_cases hlt2 : k < 60
            · have q2 : (k : Int) < 60 := by omega
              rcases HK.out with h0 | ⟨b, off, ss, rfl, hbl, hc⟩
              · omega
              · have HBW2 := Lib.hid (HB9.out.trans (HBK.out.mono HB9.out.size))
                have c0 := (HBW2.out.cell (p := ⟨b, off + k, none⟩) hbl).trans (hc k hlt)
                obtain ⟨t, ht, hS⟩ := short_any (ss k) 100
                have HS := Lib.hid (hS wr)
                have HTS : Hid (t.size ≤ 140737488355328) := Lib.hid (by omega)
                obtain ⟨a, c, b0, e1, e2, e3, e4, hcs⟩ := keeps_cases t L nd HN0.out HN1.out HNL.out
                have HE12 := Lib.hid (And.intro e3 e4)
                have HCS := Lib.hid hcs
                have HOa := Lib.hid (ri_owner (HT.out.below HBW2.out) (HJ9.out.below HBK.out) t HTS.out)
                rw [e1, e2] at HOa
                clear hc hbl ht hS e1 e2 e3 e4 hcs
                go_wp2_with fail
                refine HS.out.mono ?_
                rintro e wr ⟨rfl, rfl⟩
                go_wp2_with fail
                refine HOa.out.mono ?_
                rintro e w10 ⟨rfl, hb10⟩
                have HBK2 := Lib.hid (HBK.out.trans (hb10.mono HBK.out.size))
                have HOb := Lib.hid (ri_owner (HT.out.below (HB9.out.trans (HBK2.out.mono HB9.out.size))) (HI9.out.below HBK2.out) t HTS.out)
                rw [HE12.out.1, HE12.out.2] at HOb
                clear hb10 HOa HS
                go_wp2_with fail
                refine HOb.out.mono ?_
                rintro e w11 ⟨rfl, hb11⟩
                have HBK3 := Lib.hid (HBK2.out.trans (hb11.mono HBK2.out.size))
                clear hb11 HOb HBW2
                rcases HCS.out with ⟨rfl, hcn⟩ | ⟨rfl, hac⟩ | ⟨rfl, hac, hcn⟩
                · have q3 : (c != nd) = false := by simpa using hcn
                  go_wp2
                  go_roundw
                  case rel => exact ⟨k + 1, by go_num, by omega, HBK3.out⟩
                  case measure => simp [intOf]; omega
                · have q3 : (a != c) = false := by simpa using hac
                  go_wp2
                  go_roundw
                  case rel => exact ⟨k + 1, by go_num, by omega, HBK3.out⟩
                  case measure => simp [intOf]; omega
                · have q3 : (c != nd) = false := by simpa using hcn
                  have q4 : (a != c) = true := by simpa using hac
                  go_wp2
                  go_roundw
                  case rel => exact ⟨k + 1, by go_num, by omega, HBK3.out⟩
                  case measure => simp [intOf]; omega
            · have q2 : decide ((k : Int) < 60) = false := by simp; omega
              go_wp2
              go_ret
              exact ⟨rfl, HB9.out.trans (HBK.out.mono HB9.out.size)⟩
          · have q1 : decide ((k : Int) < (kn : Int)) = false := by simp; omega
            go_wp2
            go_ret
            exact ⟨rfl, HB9.out.trans (HBK.out.mono HB9.out.size)⟩
end Go.Proofs.YtomghpielgkigaaDoor

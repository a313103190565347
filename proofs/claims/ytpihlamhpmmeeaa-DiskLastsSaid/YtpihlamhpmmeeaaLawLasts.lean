/-
  The law DiskLasts comes out true; no older memory is changed.
-/
import Derived.Test.YtpihlamhpmmeeaaLastMath
namespace Go.Proofs.Ytpihlamhpmmeeaa
open Go.RowKit
set_option maxRecDepth 100000 in
set_option maxHeartbeats 16000000 in
theorem lawLasts_any (s0 : ByteArray) (a : Option Addr) (len cap : Nat) (v : Value) (w : World) (hc : Came w a len) (hp : Picks w v) :
    Calls Try.prog 3 #[.string s0, .slice a len cap, v] w fun e w' => e = .returned (.bool true) ∧ Below w.heap.size w w' := by
  obtain ⟨ps, hps⟩ := hp
  have HRP := Lib.hid hps
  have HCM := Lib.hid hc
  obtain ⟨_, _, ap, capp, rfl, _⟩ := hps
  obtain ⟨ah, hah, hsh0⟩ := short_any s0 1000
  have HSH0 := Lib.hid hsh0
  have HAZ := Lib.hid (size_list ah)
  clear hc hsh0
  go_enter Try.func3, Try.ntmps3
  go_wp2_with fail
  refine (awake_any w).mono ?_
  rintro e w0 ⟨rfl, hb0⟩
  have HB0 := Lib.hid hb0
  clear hb0
  go_wp2_with fail
  refine (HSH0.out w0).mono ?_
  rintro e w1 ⟨rfl, rfl⟩
  go_wp2_with fail
  refine (new_any 100000 (by decide) w0).mono ?_
  rintro e w1 ⟨rfl, hp1, hb1⟩
  obtain ⟨S1, hn1, _⟩ := NA.new hp1 hb1 HB0.out HB0.out.size
  obtain ⟨b, hb⟩ : ∃ b, b = w0.heap.size := ⟨_, rfl⟩
  have H1 : Hid (NA w.heap.size S1 w b (newD 100000) w1) := Lib.hid (by rw [hb]; exact hn1)
  rw [← hb]
  clear hp1 hb1 hn1 hb
  have A1 := append_any H1.out.p nF gF ah (by omega) (by decide) (by decide) (by decide) (by decide) (by decide)
  rw [new_E (by rw [← HAZ.out]; omega), new_D (by rw [← HAZ.out]; omega)] at A1
  have HA1 := Lib.hid A1
  clear A1
  go_wp2_with fail
  refine HA1.out.mono ?_
  rintro e w2 ⟨rfl, hl⟩
  obtain ⟨S2, hn2, _⟩ := H1.out.step hl
  have H2 := Lib.hid hn2
  clear hl hn2 HA1 H1
  have A2 := sync_any H2.out.p nF gF (by show 1 ≤ _; omega) (by show 0 ≤ _; omega)
  rw [(las_S _ _ _).1, (las_S _ _ _).2] at A2
  have HA2 := Lib.hid A2
  clear A2
  go_wp2_with fail
  refine HA2.out.mono ?_
  rintro e w3 ⟨rfl, hl⟩
  obtain ⟨S3, hn3, _⟩ := H2.out.step hl
  have H3 : Hid (NA w.heap.size S3 w b (las 2 ah.size ah.data.toList) w3) := Lib.hid (by rw [HAZ.out]; exact hn3)
  clear hl hn3 HA2 H2
  go_wp2_with fail
  go_loopw [9, 10, 11] (fun u i _ wr => ∃ (k c : Nat) (hs : ByteArray) (r : Bs) (S : Nat → Prop), k ≤ 20 ∧ c ≤ k + 2 ∧ u = .string hs ∧ i = .int .i64 (k : Int) ∧ hs.data.toList = ah.data.toList ++ r ∧ hs.size ≤ 1000 + 50 * k ∧ NA w.heap.size S w b (las c ah.size hs.data.toList) wr) (fun _ i _ _ => 20 - (intOf i).toNat)
  case atStart => exact ⟨0, 2, ah, [], _, by omega, by omega, rfl, rfl, by simp, by omega, H3.out⟩
  case round =>
    obtain ⟨k, c, hs, r, S, hk, hck, rfl, rfl, hpre, hsK, hna⟩ := hrel
    have HA := Lib.hid hna
    have HPR := Lib.hid hpre
    have HSZ := Lib.hid (size_list hs)
    clear hna hpre
    by_cases hlt : k < len ∧ k < 20
    · obtain ⟨hlt1, hlt2⟩ := hlt
      have q1 : (k : Int) < (len : Int) := by omega
      have q2 : (k : Int) < 20 := by omega
      obtain ⟨g, off, s, rfl, cs⟩ : ∃ g off s, a = some ⟨g, off, none⟩ ∧ wr.cell? ⟨g, off + k, none⟩ = some (.string s) := by
        rcases HCM.out with h | ⟨g, off, ss, e, hg, hc⟩
        · omega
        · exact ⟨g, off, ss k, e, (HA.out.bel.cell (p := ⟨g, off + k, none⟩) hg).trans (hc k hlt1)⟩
      obtain ⟨t, ht, hsh⟩ := short_any s 50
      have HSH := Lib.hid hsh
      have HTZ := Lib.hid (size_list t)
      clear hsh
      have A := append_any HA.out.p nF gF t (by omega) (by show c ≤ _; omega) (by show 0 ≤ _; omega) (by rw [las_used, ← HSZ.out]; omega) (by show 100000 ≤ _; omega) (by show 1 ≤ _; omega)
      have hfit : hs.data.toList.length + t.data.toList.length ≤ 100000 := by rw [← HSZ.out, ← HTZ.out]; omega
      rw [las_E hfit, las_D hfit, ← app_list] at A
      have hadd : ∀ w, (Op.stringOp .add hs t).run Try.prog w = .ok (.string (hs ++ t)) w := fun w => run_string_add_sum w _ _ (by omega)
      have HAP := Lib.hid A
      have HPL : Hid ((hs ++ t).data.toList = ah.data.toList ++ (r ++ t.data.toList) ∧ (hs ++ t).size ≤ 1000 + 50 * (k + 1)) := Lib.hid ⟨by rw [app_list, HPR.out, List.append_assoc], by rw [app_size]; omega⟩
      clear A hfit
      go_wp2_with fail
      refine (HSH.out wr).mono ?_
      rintro e w4 ⟨rfl, rfl⟩
      go_wp2_with fail
      refine HAP.out.mono ?_
      rintro e w5 ⟨rfl, hl⟩
      obtain ⟨S5, hn5, _⟩ := HA.out.step hl
      have H5 := Lib.hid hn5
      clear hl hn5 HAP HA
      go_wp2
      go_roundw
      case rel => exact ⟨k + 1, c + 1, hs ++ t, _, _, by omega, by omega, rfl, by go_num, HPL.out.1, HPL.out.2, H5.out⟩
      case measure => simp [intOf]; omega
    · have q1 : (decide ((k : Int) < (len : Int)) = false) ∨ (k = 20 ∧ (20 : Int) < (len : Int)) := by
        by_cases h1 : k < len
        · right; exact ⟨by omega, by omega⟩
        · left; simp; omega
      have q1n : (decide ((k : Int) < (len : Int)) = false) → decide (k < len) = false := fun h => by simp at h; simp; omega
      have hsB : hs.size ≤ 2000 := by omega
      have hAl : ah.size ≤ hs.data.toList.length := by rw [HPR.out, List.length_append, ← HAZ.out]; omega
      have R := read_any HA.out.p nF gF
      rw [(las_R _ _ _).1, (las_R _ _ _).2] at R
      have HR : Hid (Calls Try.prog 13 #[ptr b, .string nF] wr fun e w' => e = .returned (.tuple #[.string hs, .int .i64 0]) ∧ Below wr.heap.size wr w') := Lib.hid R
      clear R hlt
      obtain ⟨X, hX⟩ : ∃ X, X = lx ah.size hs.data.toList ps := ⟨_, rfl⟩
      obtain ⟨xs, hxs⟩ : ∃ xs : ByteArray, xs = ⟨X.toArray⟩ := ⟨_, rfl⟩
      have hxl : xs.size = X.length := by rw [hxs, ba_size]
      have hlen := lx_len hAl ps
      rw [← hX, ← hxl, ← HSZ.out] at hlen
      have htk : xs.extract 0 ah.size = ah := by
        rw [hxs, ext_take, hX, lx_take hAl, HPR.out, HAZ.out, List.take_left]
      have hmost : ∀ m, m + 1 = xs.size → xs.extract 0 m = hs.extract 0 m := fun m hm => by
        have e : hs = ⟨hs.data.toList.toArray⟩ := rfl
        conv => rhs; rw [e]
        rw [hxs, ext_take, ext_take, hX, lx_most hAl ps (by rw [← hX, ← hxl]; exact hm)]
      have HXS := Lib.hid hxs
      have HXX := Lib.hid hX
      have HMO := Lib.hid hmost
      obtain ⟨hle1, hle2⟩ := hlen
      have HXB : Hid (X.length ≤ 2000) := Lib.hid (by rw [← hxl]; omega)
      have q3 : decide ((xs.size : Int) < (ah.size : Int)) = false := by simp; omega
      have q4 : decide ((hs.size : Int) < (xs.size : Int)) = false := by simp; omega
      clear hxs hX hmost hxl
      rcases q1 with q1 | ⟨rfl, q1⟩
      all_goals
        first | have q2 := q1n q1 | skip
        clear q1n
        go_wp2_with fail
        refine HR.out.mono ?_
        rintro e w4 ⟨rfl, hb4⟩
        have H4 := Lib.hid (HA.out.mv hb4)
        clear hb4
        have C4 := crash_one H4.out (HRP.out.below H4.out.bel) (fun g hg hs => by have := (H4.out.hS g hs).1; omega) (f := ⟨nF, hs.data.toList, ah.size⟩) rfl (by rw [← HSZ.out]; omega)
        rw [las_C, ← HXX.out] at C4
        have HC4 := Lib.hid C4
        clear C4
        go_wp2_with fail
        refine HC4.out.mono ?_
        rintro e w5 ⟨⟨u5, rfl⟩, hl⟩
        obtain ⟨S5, hn5, _⟩ := H4.out.step hl
        have H5 := Lib.hid hn5
        clear hl hn5 HC4 H4
        have R5 := read_any H5.out.p nF gF
        rw [(las_R _ _ _).1, (las_R _ _ _).2, ← HXS.out] at R5
        have HR5 := Lib.hid R5
        clear R5
        go_wp2_with fail
        refine HR5.out.mono ?_
        rintro e w6 ⟨rfl, hb6⟩
        have H6 := Lib.hid (H5.out.mv hb6)
        clear hb6 HR5 H5
        by_cases hn : ah.size + 1 < xs.size
        · obtain ⟨m, hm⟩ : ∃ m, xs.size = m + 1 := ⟨xs.size - 1, by omega⟩
          have hx := HMO.out m hm.symm
          have e1 : (xs.size : Int) = (m : Int) + 1 := by omega
          have x1 : IntKind.i64.wrap (m : Int) = (m : Int) := Go.IntWalk.i64_in _ (by omega)
          have q5 : (ah.size : Int) < (m : Int) := by omega
          have q6 : (m : Int) ≤ (hs.size : Int) := by omega
          clear hm hn
          go_upto_region 20 with fail
          go_quiet (fail)
          obtain ⟨w7, hw7⟩ : ∃ w7, w7 = w6.drewN nq := ⟨_, rfl⟩
          have H7 : Hid (NA w.heap.size S5 w b (las c X.length X) w7) := Lib.hid (by rw [hw7]; exact H6.out.mv (below_drewN _ _))
          rw [← hw7]
          clear hw7 H6
          have C7 := crash_one H7.out (HRP.out.below H7.out.bel) (fun g hg hs => by have := (H7.out.hS g hs).1; omega) (f := ⟨nF, X, X.length⟩) rfl (Nat.le_trans HXB.out (by decide))
          rw [las_C, lx_all] at C7
          have HC7 := Lib.hid C7
          clear C7
          go_wp2_with fail
          refine HC7.out.mono ?_
          rintro e w8 ⟨⟨u8, rfl⟩, hl⟩
          obtain ⟨S8, hn8, _⟩ := H7.out.step hl
          have H8 := Lib.hid hn8
          clear hl hn8 HC7 H7
          have R8 := read_any H8.out.p nF gF
          rw [(las_R _ _ _).1, (las_R _ _ _).2, ← HXS.out] at R8
          have HR8 := Lib.hid R8
          clear R8
          go_wp2_with fail
          refine HR8.out.mono ?_
          rintro e w9 ⟨rfl, hb9⟩
          have H9 := Lib.hid (H8.out.mv hb9).bel
          clear hb9 HR8 H8
          go_wp2
          go_ret
          exact ⟨rfl, H9.out⟩
        · have x1 : IntKind.i64.wrap ((xs.size : Int) - 1) = (xs.size : Int) - 1 := Go.IntWalk.i64_in _ (by omega)
          have q5 : decide ((ah.size : Int) < (xs.size : Int) - 1) = false := by simp; omega
          clear hn
          go_upto_region 20 with fail
          go_quiet (fail)
          obtain ⟨w7, hw7⟩ : ∃ w7, w7 = w6.drewN nq := ⟨_, rfl⟩
          have H7 : Hid (NA w.heap.size S5 w b (las c X.length X) w7) := Lib.hid (by rw [hw7]; exact H6.out.mv (below_drewN _ _))
          rw [← hw7]
          clear hw7 H6
          have C7 := crash_one H7.out (HRP.out.below H7.out.bel) (fun g hg hs => by have := (H7.out.hS g hs).1; omega) (f := ⟨nF, X, X.length⟩) rfl (Nat.le_trans HXB.out (by decide))
          rw [las_C, lx_all] at C7
          have HC7 := Lib.hid C7
          clear C7
          go_wp2_with fail
          refine HC7.out.mono ?_
          rintro e w8 ⟨⟨u8, rfl⟩, hl⟩
          obtain ⟨S8, hn8, _⟩ := H7.out.step hl
          have H8 := Lib.hid hn8
          clear hl hn8 HC7 H7
          have R8 := read_any H8.out.p nF gF
          rw [(las_R _ _ _).1, (las_R _ _ _).2, ← HXS.out] at R8
          have HR8 := Lib.hid R8
          clear R8
          go_wp2_with fail
          refine HR8.out.mono ?_
          rintro e w9 ⟨rfl, hb9⟩
          have H9 := Lib.hid (H8.out.mv hb9).bel
          clear hb9 HR8 H8
          go_wp2
          go_ret
          exact ⟨rfl, H9.out⟩
end Go.Proofs.Ytpihlamhpmmeeaa

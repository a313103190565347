/-
  The walk of the law FramePlays: for every list of calls it returns true; no older memory is changed.
-/
import Derived.Test.YtnhjbhmhloeaeaaAwake
import Derived.Test.YtnhjbhmhloeaeaaOps
import Derived.Deep.CutBlock
import Derived.Deep.AppendLies
namespace Go.Proofs.Ytnhjbhmhloeaeaa
open Go.RowKit
set_option maxRecDepth 100000 in
set_option maxHeartbeats 16000000 in
theorem lawPlays_some (b0 off n cap : Nat) (os : Nat → OpC) (w : World) (hb : b0 < w.heap.size) (hok : ∀ k, (os k).ok) (hc : ∀ k, k < n → OpAt w b0 (off + k * 3) (os k)) :
    Calls Try.prog 4 #[.slice (some ⟨b0, off, none⟩) n cap] w fun e w' => e = .returned (.bool true) ∧ Below w.heap.size w w' := by
  have HC := Lib.hid hc
  have HOK := Lib.hid hok
  clear hc hok
  go_enter Try.func4, Try.ntmps4
  go_wp2_with fail
  refine (awake_any _).mono ?_
  rintro e w1 ⟨rfl, h1⟩
  go_wp2_with fail
  refine (new_any w1).mono ?_
  rintro e w2 ⟨rfl, hr2, hb2⟩
  have A2 := Lib.hid (At.new (n := w.heap.size) h1 rfl hr2 hb2)
  generalize w1.heap.size = b at A2 ⊢
  clear h1 hr2 hb2
  go_wp2
  go_loopw [5, 6] (fun l i wr => ∃ (k : Nat) (R : Bs), k ≤ n ∧ k ≤ 60 ∧ i = .int .i64 (k : Int) ∧ l = str R ∧ R.length ≤ k * 400 ∧ At w.heap.size w b R wr) (fun _ i _ => n - (intOf i).toNat)
  case atStart => exact ⟨0, [], by omega, by omega, rfl, rfl, by simp, A2.out⟩
  case round =>
    clear A2
    obtain ⟨k, R, hk, hk2, rfl, rfl, hl, hA⟩ := hrel
    have A := Lib.hid hA
    have hbel := hA.bel
    have hs := size_mk R
    clear hA
    by_cases hlt : k < n
    · have q1 : (k : Int) < (n : Int) := by omega
      by_cases hlt2 : k < 60
      · have q2 : (k : Int) < 60 := by omega
        obtain ⟨c0, c1, c2⟩ := HC.out k hlt
        have c0 := (hbel.cell (p := ⟨b0, off + k * 3, none⟩) hb).trans c0
        have c1 := (hbel.cell (p := ⟨b0, off + k * 3 + 1, none⟩) hb).trans c1
        have c2 := (hbel.cell (p := ⟨b0, off + k * 3 + 2, none⟩) hb).trans c2
        obtain ⟨t, ht, hshort⟩ := short_any (os k).text 400
        have SH := Lib.hid hshort
        obtain ⟨⟨a1, a2⟩, ⟨b1, b2⟩⟩ := HOK.out k
        generalize (os k).kind = x0 at c0 a1 a2
        generalize (os k).num = x1 at c1 b1 b2
        generalize (os k).text = x2 at c2 SH
        clear hshort hbel
        have hr0 : (x0.tmod 5).natAbs = x0.natAbs % 5 := Int.natAbs_tmod x0 5
        obtain ⟨r, hr⟩ : ∃ r, x0.tmod 5 = r := ⟨_, rfl⟩
        rw [hr] at hr0
        have hr1 : -5 < r := by omega
        have hr2 : r < 5 := by omega
        clear hr0
        go_upto_if 36 with fail
        obtain ⟨wA, hwA⟩ : ∃ wA, wA = wr.alloc (.cells #[.int .i64 x0, .int .i64 x1, .string x2] 35) := ⟨_, rfl⟩
        rw [← hwA]
        have hbA : Below wr.heap.size wr wA := by rw [hwA]; exact (Below.refl _ _).alloc (Nat.le_refl _) _
        have hnew := World.news_of_block (cs := #[.int .i64 x0, .int .i64 x1, .string x2]) (t := 35) (fr := (0, 0)) (heap_alloc_new wr _)
        rw [← hwA] at hnew
        have d1 : wA.cell? ⟨wr.heap.size, 1, none⟩ = some (.int .i64 x1) := hnew 1 _ rfl
        have d2 : wA.cell? ⟨wr.heap.size, 2, none⟩ = some (.string x2) := hnew 2 _ rfl
        have AA : Hid (At w.heap.size w b R wA) := Lib.hid (A.out.step (A.out.rd.below hbA) (Tr.of_below hbA))
        obtain ⟨og, hog⟩ : ∃ og, og = wr.heap.size := ⟨_, rfl⟩
        rw [← hog] at d1 d2 ⊢
        have HD1 := Lib.hid d1
        have HD2 := Lib.hid d2
        clear hwA hbA hnew c0 c1 c2 A hog d1 d2 hr
        go_cut [8] from 18 to 87 (fun kv wx => ∃ kk : Int, kv = .int .i64 kk ∧ 0 ≤ kk ∧ kk < 5 ∧ wA = wx)
        case first =>
          by_cases g : r < 0
          · go_wp2
            go_meet
            case rel => exact ⟨_, rfl, by omega, by omega, rfl⟩
          · have g' : decide (r < 0) = false := by simpa using g
            go_wp2
            go_meet
            case rel => exact ⟨_, rfl, by omega, by omega, rfl⟩
        case rest =>
          obtain ⟨kk, rfl, hk0, hk5, rfl⟩ := hcut
          have d1 := HD1.out
          have d2 := HD2.out
          rcases (by omega : kk = 2 ∨ kk = 3 ∨ kk = 4 ∨ kk = 0 ∨ kk = 1) with rfl | rfl | rfl | rfl | rfl
          · go_wp2_with fail
            refine (next_any _ b R wA AA.out.rd (by omega)).mono ?_
            rintro e w3 ⟨rfl, hr, ht3⟩
            have A3 := Lib.hid (AA.out.taken hr ht3)
            have hRN := rnext_any R (by omega) w3
            have htl := tl_length R
            have hst := size_mk (tl R)
            generalize (fl R != 0) = z at hRN ⊢
            generalize hd R = h0 at hRN ⊢
            have HRN := Lib.hid hRN
            clear hr ht3 hRN d1 d2
            go_wp2_with fail
            refine HRN.out.mono ?_
            rintro e w4 ⟨rfl, hb4⟩
            have A4 := Lib.hid (A3.out.step (A3.out.rd.below hb4) (Tr.of_below hb4))
            clear hb4
            go_wp2_with fail
            refine (left_any _ b _ w4 A4.out.rd).mono ?_
            rintro e w5 ⟨rfl, rfl⟩
            go_wp2
            go_roundw
            case rel => exact ⟨k + 1, tl R, by omega, by omega, by go_num, rfl, by omega, A4.out⟩
            case measure => simp [intOf]; omega
          · go_wp2_with fail
            refine (next_any _ b R wA AA.out.rd (by omega)).mono ?_
            rintro e w3 ⟨rfl, hr, ht3⟩
            have A3 := Lib.hid (AA.out.taken hr ht3)
            have hRN := rnext_any R (by omega) w3
            have htl := tl_length R
            have hst := size_mk (tl R)
            generalize (fl R != 0) = z at hRN ⊢
            generalize hd R = h0 at hRN ⊢
            have HRN := Lib.hid hRN
            clear hr ht3 hRN d1 d2
            go_wp2_with fail
            refine HRN.out.mono ?_
            rintro e w4 ⟨rfl, hb4⟩
            have A4 := Lib.hid (A3.out.step (A3.out.rd.below hb4) (Tr.of_below hb4))
            clear hb4
            go_wp2_with fail
            refine (left_any _ b _ w4 A4.out.rd).mono ?_
            rintro e w5 ⟨rfl, rfl⟩
            go_wp2
            go_roundw
            case rel => exact ⟨k + 1, tl R, by omega, by omega, by go_num, rfl, by omega, A4.out⟩
            case measure => simp [intOf]; omega
          · by_cases h7 : x1 = 7
            · subst h7
              go_wp2_with fail
              refine (reset_any _ b R wA AA.out.rd).mono ?_
              rintro e w3 ⟨⟨v3, rfl⟩, hr, ht3⟩
              have A3 := Lib.hid (AA.out.taken hr ht3)
              clear hr ht3 d1 d2
              go_wp2_with fail
              refine (left_any _ b _ w3 A3.out.rd).mono ?_
              rintro e w5 ⟨rfl, rfl⟩
              go_wp2
              go_roundw
              case rel => exact ⟨k + 1, [], by omega, by omega, by go_num, rfl, by simp, A3.out⟩
              case measure => simp [intOf]; omega
            · have q7 : (x1 == 7) = false := by simpa using h7
              go_wp2_with fail
              refine (left_any _ b _ wA AA.out.rd).mono ?_
              rintro e w5 ⟨rfl, rfl⟩
              go_wp2
              go_roundw
              case rel => exact ⟨k + 1, R, by omega, by omega, by go_num, rfl, by omega, AA.out⟩
              case measure => simp [intOf]; omega
          · go_wp2_with fail
            refine (SH.out _).mono ?_
            rintro e w3 ⟨rfl, rfl⟩
            have hadd : ∀ w, (Op.stringOp .add ⟨R.toArray⟩ ⟨t.toArray⟩).run Try.prog w = .ok (str (R ++ t)) w := fun w => by
              rw [run_string_add_sum w _ _ (by rw [size_mk, size_mk]; omega), cat]
            have hst := size_mk (R ++ t)
            rw [List.length_append] at hst
            have hs1 := size_mk t
            go_wp2_with fail
            refine (SH.out _).mono ?_
            rintro e w3 ⟨rfl, rfl⟩
            go_wp2_with fail
            refine (feed_any ⟨t.toArray⟩ _ b R wA AA.out.rd (by rw [size_mk]; omega)).mono ?_
            rintro e w4 ⟨rfl, hr, ht4⟩
            have A4 : Hid (At w.heap.size w b (R ++ t) w4) := Lib.hid (AA.out.fed hr ht4)
            have HL := Lib.hid (left_any _ b _ w4 A4.out.rd)
            rw [List.length_append] at HL
            rw [size_mk]
            clear hr ht4
            go_wp2_with fail
            refine HL.out.mono ?_
            rintro e w5 ⟨rfl, rfl⟩
            go_wp2
            go_roundw
            case rel => exact ⟨k + 1, R ++ t, by omega, by omega, by go_num, rfl, by rw [List.length_append]; omega, A4.out⟩
            case measure => simp [intOf]; omega
          · go_wp2_with fail
            refine (SH.out _).mono ?_
            rintro e w3 ⟨rfl, rfl⟩
            have hadd : ∀ w, (Op.stringOp .add ⟨R.toArray⟩ ⟨t.toArray⟩).run Try.prog w = .ok (str (R ++ t)) w := fun w => by
              rw [run_string_add_sum w _ _ (by rw [size_mk, size_mk]; omega), cat]
            have hst := size_mk (R ++ t)
            rw [List.length_append] at hst
            have hs1 := size_mk t
            go_wp2_with fail
            refine (SH.out _).mono ?_
            rintro e w3 ⟨rfl, rfl⟩
            go_wp2_with fail
            refine (feed_any ⟨t.toArray⟩ _ b R wA AA.out.rd (by rw [size_mk]; omega)).mono ?_
            rintro e w4 ⟨rfl, hr, ht4⟩
            have A4 : Hid (At w.heap.size w b (R ++ t) w4) := Lib.hid (AA.out.fed hr ht4)
            have HL := Lib.hid (left_any _ b _ w4 A4.out.rd)
            rw [List.length_append] at HL
            rw [size_mk]
            clear hr ht4
            go_wp2_with fail
            refine HL.out.mono ?_
            rintro e w5 ⟨rfl, rfl⟩
            go_wp2
            go_roundw
            case rel => exact ⟨k + 1, R ++ t, by omega, by omega, by go_num, rfl, by rw [List.length_append]; omega, A4.out⟩
            case measure => simp [intOf]; omega
      · have q2 : decide ((k : Int) < 60) = false := by simp; omega
        go_wp2
        go_ret
        exact ⟨rfl, A.out.bel⟩
    · have q1 : decide ((k : Int) < (n : Int)) = false := by simp; omega
      go_wp2
      go_ret
      exact ⟨rfl, A.out.bel⟩
set_option maxRecDepth 100000 in
set_option maxHeartbeats 3200000 in
theorem lawPlays_none (a : Option Addr) (cap : Nat) (w : World) :
    Calls Try.prog 4 #[.slice a 0 cap] w fun e w' => e = .returned (.bool true) ∧ Below w.heap.size w w' := by
  go_enter Try.func4, Try.ntmps4
  go_wp2_with fail
  refine (awake_any _).mono ?_
  rintro e w1 ⟨rfl, h1⟩
  go_wp2_with fail
  refine (new_any w1).mono ?_
  rintro e w2 ⟨rfl, hr2, hb2⟩
  have A2 := Lib.hid (At.new (n := w.heap.size) h1 rfl hr2 hb2)
  generalize w1.heap.size = b at A2 ⊢
  clear h1 hr2 hb2
  go_wp2
  go_loopw [6] (fun i wr => i = .int .i64 0 ∧ wr = w2) (fun _ _ => 0)
  case atStart => exact ⟨rfl, rfl⟩
  case round =>
    obtain ⟨rfl, rfl⟩ := hrel
    go_wp2
    go_ret
    exact ⟨rfl, A2.out.bel⟩
theorem lawPlays_any (a : Option Addr) (n cap : Nat) (w : World) (h : Calld w a n) :
    Calls Try.prog 4 #[.slice a n cap] w fun e w' => e = .returned (.bool true) ∧ Below w.heap.size w w' := by
  rcases h with rfl | ⟨b, off, os, rfl, hb, hok, hc⟩
  · exact lawPlays_none a cap w
  · exact lawPlays_some b off n cap os w hb hok hc
end Go.Proofs.Ytnhjbhmhloeaeaa

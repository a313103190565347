/-
  What Parse answers, for every text; no older memory is changed.
-/
import Derived.Test.YtpeojicimmofjaaDoorRead
import Derived.Test.YtpeojicimmofjaaDoorMake
namespace Go.Proofs.YtpeojicimmofjaaDoor
open Go.RowKit
theorem slice_from (s : ByteArray) (p : Nat) (hp : p ≤ s.size) (w : World) : (Instr.slice 9 (.string s) (some (.int .i64 (p : Int))) none none).run Tryd.prog w = .ok (.string ⟨(s.data.toList.drop p).toArray⟩) w := by
  have h := run_slice_string_l (P := Tryd.prog) w 9 s Tryd.underlying9 .i64 (p : Int) (by omega) (by omega)
  rw [h, Int.toNat_natCast]
  congr 2
  apply ByteArray.ext
  apply Array.toList_inj.1
  rw [ByteArray.data_extract, Array.toList_extract, size_list]
  simp only [List.extract]
  rw [List.take_of_length_le (by rw [List.length_drop, ← size_list]; exact Nat.le_refl _)]
theorem drop_get (s : ByteArray) (k : Nat) (h : k < s.size) : s.data.toList.drop k = s[k] :: s.data.toList.drop (k + 1) := by
  rw [List.drop_eq_getElem_cons (by rw [← size_list]; exact h)]; rfl
theorem Wr.below {w w' : World} {n₀ B : Nat} {ls : List Bs} (h : Wr w n₀ B ls) (hb : Below w.heap.size w w') : Wr w' n₀ B ls := by
  obtain ⟨hB, a, n, cap, hk, hn, hr⟩ := h
  exact ⟨hB, a, n, cap, (hb.block _ hk.lt).trans hk, hn, fun e => ⟨(hr e).1, row_below (hr e).2 hb⟩⟩
theorem lab_append {wm wr w3 : World} {tmp : Obj} {v v' : Value} {n n' : Nat} {xs ys : List Value} (hm : Below wm.heap.size wm wr) (hrow : wr.ownsRow wm.heap.size 5 1 v n xs) (_ : w3.ownsRow wm.heap.size 5 1 v' n' ys) (hgrow : (wr.alloc tmp).grownBy w3 v.ownBlock) : Below wm.heap.size wm w3 :=
  (hm.alloc hm.size _).grown hgrow (by have := hm.size; simp; omega) (row_from hrow)
set_option maxRecDepth 100000 in
set_option maxHeartbeats 6400000 in
theorem parse_long (s : ByteArray) (hs : s.size ≤ 1000000) (h1 : ¬ s.data.toList = []) (h2 : ¬ s.data.toList = [46]) (w : World) :
    Calls Tryd.prog 6 #[.string s] w fun e w' => e = .returned (.tuple #[str (psS s.data.toList), .int .i64 (psE s.data.toList)]) ∧ Below w.heap.size w w' := by
  have q1 : (s.toList == []) = false := by rw [ByteArray.toList_eq]; simpa using h1
  have q2 : (s.toList == [46]) = false := by rw [ByteArray.toList_eq]; simpa using h2
  have q3 : s.toList.isEmpty = false := by rw [ByteArray.toList_eq]; simpa using h1
  obtain ⟨i0, hi, hz0, hz1, hz2⟩ := info_parts info5
  have HPE : Hid (∀ p, prs [] [] s.data.toList = some p → psE s.data.toList = mkE (fin p) ∧ psS s.data.toList = mkS (fin p)) := Lib.hid (fun p hp => by
    unfold psE psS; rw [if_neg h1, if_neg h2, if_neg h1, if_neg h2, hp]; exact ⟨rfl, rfl⟩)
  have HPN : Hid (prs [] [] s.data.toList = none → psE s.data.toList = 10 ∧ psS s.data.toList = []) := Lib.hid (fun hp => by
    unfold psE psS; rw [if_neg h1, if_neg h2, if_neg h1, if_neg h2, hp]; exact ⟨rfl, rfl⟩)
  have HSZ : Hid (s.data.toList.length = s.size) := Lib.hid (size_list s).symm
  clear h1 h2
  go_enter Tryd.func6, Tryd.ntmps6
  go_wp2
  have hw0 := wr_new w
  have hb0 : Below w.heap.size w (w.alloc (.cells #[.slice none 0 0, .int .i64 0] 37)) := (Below.refl _ _).alloc (Nat.le_refl _) _
  obtain ⟨w0, hw0e⟩ : ∃ w0, w0 = w.alloc (.cells #[.slice none 0 0, .int .i64 0] 37) := ⟨_, rfl⟩
  change Code.wp _ _ _ _ (w.alloc (.cells #[.slice none 0 0, .int .i64 0] 37))
  rw [← hw0e] at hw0 hb0 ⊢
  have HW0 := Lib.hid hw0
  have HB0 := Lib.hid hb0
  clear hw0e hw0 hb0
  go_loopw [5, 6, 16] (fun lab nx i wr => ∃ (k n : Nat) (ls : List Bs) (cur : Bs) (wm : World) (a : Option Addr) (cap : Nat), k ≤ s.size ∧ n ≤ s.size ∧ i = .int .i64 k ∧ nx = .int .i64 n ∧ lab = .slice a cur.length cap ∧ cur.length ≤ 63 ∧
    prs [] [] s.data.toList = prs ls cur (s.data.toList.drop (max k n)) ∧ Wr wm w.heap.size w.heap.size ls ∧ Below w.heap.size w wm ∧ Below wm.heap.size wm wr ∧ wr.ownsRow wm.heap.size 5 1 (.slice a cur.length cap) cur.length (ub cur)) (fun _ _ i _ => s.size - (intOf i).toNat)
  case atStart => exact ⟨0, 0, [], [], w0, none, 0, by omega, by omega, rfl, rfl, rfl, by simp, rfl, HW0.out, HB0.out, Below.refl _ _, World.ownsRow_nil _ _ _ _⟩
  case round =>
    clear HW0 HB0
    obtain ⟨k, n, ls, cur, wm, a, cap, hk, hn, rfl, rfl, rfl, hcl, hprs, hwr, hbm, hbr, hrow⟩ := hrel
    have HP := Lib.hid hprs
    have HWR := Lib.hid hwr
    have HBM := Lib.hid hbm
    have HBR := Lib.hid hbr
    have HROW := Lib.hid hrow
    have hconv := row_back hrow
    clear hprs hwr hbm hbr hrow
    obtain ⟨m, hm⟩ : ∃ m, m = cur.length := ⟨_, rfl⟩
    rw [← hm] at hcl HROW hconv ⊢
    have HM := Lib.hid hm
    clear hm
    by_cases hlt : k < s.size
    · have q0 : (k : Int) < (s.size : Int) := by omega
      by_cases hkn : k < n
      · have q4 : decide ((k : Int) < (n : Int)) = true := by simp; omega
        have HP2 : Hid (prs [] [] s.data.toList = prs ls cur (s.data.toList.drop (max (k + 1) n))) := Lib.hid (by rw [HP.out, Nat.max_eq_right (by omega), Nat.max_eq_right (by omega)])
        clear hconv
        go_wp2
        go_roundw
        case rel => exact ⟨k + 1, n, ls, cur, wm, a, cap, by omega, hn, by go_num, rfl, by rw [HM.out], by rw [← HM.out]; exact hcl, HP2.out, HWR.out, HBM.out, HBR.out, by rw [← HM.out]; exact HROW.out⟩
        case measure => simp [intOf]; omega
      · have q4 : decide ((k : Int) < (n : Int)) = false := by simp; omega
        have hmax : max k n = k := Nat.max_eq_left (by omega)
        have hdg := drop_get s k hlt
        obtain ⟨c, hc⟩ : ∃ c, c = s[k] := ⟨_, rfl⟩
        rw [← hc] at hdg
        have HD : Hid (prs [] [] s.data.toList = prs ls cur (c :: s.data.toList.drop (k + 1))) := Lib.hid (by rw [HP.out, hmax, hdg])
        have hct : s[k].toNat = c.toNat := by rw [hc]
        have HDG := Lib.hid hdg
        have hcb := c.toNat_lt
        clear hmax hdg hc
        by_cases g : c.toNat = 46
        · have q5 : ((c.toNat : Int) == 46) = true := by rw [g]; rfl
          have HP2 : Hid (prs [] [] s.data.toList = prs (ls ++ [cur]) [] (s.data.toList.drop (max (k + 1) n))) := Lib.hid (by rw [HD.out, prs_dot _ _ _ _ g, Nat.max_eq_left (by omega)])
          clear g
          go_wp2_with (go_at_call 16; refine (add_any ⟨cur.toArray⟩ w.heap.size w.heap.size ls _ (HWR.out.below HBR.out) (Nat.le_trans HBM.out.size HBR.out.size)).mono ?_; rintro e w2 ⟨⟨v, rfl⟩, hw2, hb2⟩; have HW2 := Lib.hid hw2; have HB2 := Lib.hid hb2; clear hw2 hb2 hconv)
          go_roundw
          case rel => exact ⟨k + 1, n, ls ++ [cur], [], w2, none, 0, by omega, hn, by go_num, rfl, rfl, by simp, HP2.out, HW2.out, (HBM.out.trans (HBR.out.mono HBM.out.size)).trans HB2.out, Below.refl _ _, World.ownsRow_nil _ _ _ _⟩
          case measure => simp [intOf]; omega
        · have q5 : ((c.toNat : Int) == 46) = false := by simp; omega
          have hsl := slice_from s k (by omega)
          have hrd := readByte_any ⟨(s.data.toList.drop k).toArray⟩ (by show 0 < (s.data.toList.drop k).length; rw [List.length_drop, HSZ.out]; omega) (by show (s.data.toList.drop k).length ≤ _; rw [List.length_drop, HSZ.out]; omega)
          rw [show (⟨(s.data.toList.drop k).toArray⟩ : ByteArray).data.toList = s.data.toList.drop k from rfl, HDG.out] at hrd
          rw [HDG.out] at hsl
          have HR := Lib.hid hrd
          clear hrd
          cases hr : rd (c :: s.data.toList.drop (k + 1)) with
          | none =>
            have HN := Lib.hid (HPN.out (by rw [HD.out]; exact prs_none _ _ _ _ g (.inl hr)))
            have e1 : rdN (c :: s.data.toList.drop (k + 1)) = 0 := by unfold rdN; rw [hr]
            have E1 := Lib.hid e1
            clear hr e1 g hconv
            go_wp2_with (go_at_call 17; refine (HR.out _).mono ?_; rintro e w' ⟨rfl, rfl⟩; rw [E1.out])
            go_ret2
            exact ⟨ret_si (by rw [HN.out.2]) HN.out.1.symm, HBM.out.trans (HBR.out.mono HBM.out.size)⟩
          | some bn =>
            obtain ⟨b, sz⟩ := bn
            have hsz := rd_len hr
            have e1 : rdN (c :: s.data.toList.drop (k + 1)) = sz := by unfold rdN; rw [hr]
            have e2 : rdB (c :: s.data.toList.drop (k + 1)) = (b.toNat : Int) := by unfold rdB; rw [hr]
            have hsz2 : k + sz ≤ s.size := by
              have := hsz.2
              rw [List.length_cons, List.length_drop, HSZ.out] at this
              omega
            have hsz1 := hsz.1
            have E1 := Lib.hid e1
            have E2 := Lib.hid e2
            have q6 : ((sz : Int) == 0) = false := by simp; omega
            have q7 : (sz : Int) ≤ 1000000 := by omega
            by_cases g3 : m = 63
            · have HN := Lib.hid (HPN.out (by rw [HD.out]; exact prs_none _ _ _ _ g (.inr (by rw [← HM.out]; exact g3))))
              clear hr e1 e2 hsz g hconv
              subst g3
              go_wp2_with (go_at_call 17; refine (HR.out _).mono ?_; rintro e w' ⟨rfl, rfl⟩; rw [E1.out, E2.out])
              go_ret2
              exact ⟨ret_si (by rw [HN.out.2]) HN.out.1.symm, HBM.out.trans (HBR.out.mono HBM.out.size)⟩
            · have q8 : ((m : Int) == 63) = false := by simp; omega
              have HP2 : Hid (prs [] [] s.data.toList = prs ls (cur ++ [b]) (s.data.toList.drop (max (k + 1) (k + sz)))) := Lib.hid (by
                rw [HD.out, prs_byte _ _ _ _ b sz g hr (by rw [← HM.out]; exact g3), ← HDG.out, List.drop_drop, Nat.max_eq_right (by omega)])
              clear hr e1 e2 hsz g hconv
              have hcl2 : m < 63 := by omega
              go_wp2_with (first | (go_at_call 17; refine (HR.out _).mono ?_; rintro e w' ⟨rfl, rfl⟩; rw [E1.out, E2.out]) | (at_builtin; refine wpList_append_own _ rfl (.tmp 43) (.tmp 45) 35 rfl wm.heap.size 5 i0 (.int .u8 0) 1 1 Tryd.underlying35 hi hz0 hz1 hz2 rfl (by decide) _ _ _ rfl (World.ownsRow.alloc HROW.out _) ⟨wr.heap.size, 0, none⟩ 1 1 [.int .u8 (b.toNat : Int)] rfl rfl (cell_one_new _ _ _) (by simp [Value.oneCell']) (by unfold maxLen; omega) (by omega) (by have := HBR.out.size; simp; omega) ?_; intro v' w3 hown' hgrow _; obtain ⟨a', cap', rfl⟩ := row_slice hown'; have HX := Lib.hid (And.intro hown' (lab_append HBR.out HROW.out hown' hgrow)); clear hown' hgrow))
              go_roundw
              case rel => exact ⟨k + 1, k + sz, ls, cur ++ [b], wm, a', cap', by omega, hsz2, by go_num, by go_num, by rw [List.length_append, ← HM.out]; rfl, by rw [List.length_append, ← HM.out]; simp; omega, HP2.out, HWR.out, HBM.out, HX.out.2, by rw [List.length_append, ← HM.out]; simpa [ub] using HX.out.1⟩
              case measure => simp [intOf]; omega
    · have hks : k = s.size := by omega
      have HF := Lib.hid (HPE.out (ls, cur) (by rw [HP.out, List.drop_of_length_le (by rw [HSZ.out]; omega)]; rfl))
      clear hks
      by_cases g : m = 0
      · have q5 : decide (0 < m) = false := by simp; omega
        have HC : Hid (fin (ls, cur) = ls) := Lib.hid (by unfold fin; rw [if_pos (List.length_eq_zero_iff.1 (by rw [← HM.out]; exact g))])
        clear g hconv
        go_wp2_with (go_at_call 18; refine (name_any w.heap.size w.heap.size ls _ (HWR.out.below HBR.out)).mono ?_; rintro e w2 ⟨rfl, hb2⟩)
        go_ret2
        have hbb := HBM.out.trans (HBR.out.mono HBM.out.size)
        exact ⟨ret_si (by rw [HF.out.2, HC.out]) (by rw [HF.out.1, HC.out]), hbb.trans (hb2.mono hbb.size)⟩
      · have q5 : 0 < m := by omega
        have HC : Hid (fin (ls, cur) = ls ++ [cur]) := Lib.hid (by unfold fin; rw [if_neg (fun e => g (by rw [HM.out, show cur = [] from e]; rfl))])
        clear g
        go_wp2_with fail
        refine (add_any ⟨cur.toArray⟩ w.heap.size w.heap.size ls _ (HWR.out.below HBR.out) (Nat.le_trans HBM.out.size HBR.out.size)).mono ?_
        rintro e w2 ⟨⟨v, rfl⟩, hw2, hb2⟩
        have HW2 := Lib.hid hw2
        have HB2 := Lib.hid hb2
        clear hw2 hb2 hconv
        go_wp2_with fail
        refine (name_any w.heap.size w.heap.size (ls ++ [cur]) _ HW2.out).mono ?_
        rintro e w4 ⟨rfl, hb4⟩
        go_wp2
        go_ret2
        have hbb := (HBM.out.trans (HBR.out.mono HBM.out.size)).trans HB2.out
        exact ⟨ret_si (by rw [HF.out.2, HC.out]) (by rw [HF.out.1, HC.out]), hbb.trans (hb4.mono hbb.size)⟩
theorem bytes_eq {s : ByteArray} {l : Bs} (h : s.data.toList = l) : s = ⟨l.toArray⟩ := by
  apply ByteArray.ext
  apply Array.toList_inj.1
  exact h
set_option maxRecDepth 100000 in
set_option maxHeartbeats 1600000 in
theorem parse_any (s : ByteArray) (hs : s.size ≤ 1000000) (w : World) :
    Calls Tryd.prog 6 #[.string s] w fun e w' => e = .returned (.tuple #[str (psS s.data.toList), .int .i64 (psE s.data.toList)]) ∧ Below w.heap.size w w' := by
  by_cases h1 : s.data.toList = []
  · have e := bytes_eq h1
    subst e
    go_enter Tryd.func6, Tryd.ntmps6
    go_wp2
    go_ret2
    exact ⟨ret_si rfl rfl, Below.refl _ _⟩
  · by_cases h2 : s.data.toList = [46]
    · have e := bytes_eq h2
      subst e
      clear h1 h2
      go_enter Tryd.func6, Tryd.ntmps6
      go_wp2
      go_ret2
      exact ⟨ret_si (by decide) (by decide), Below.refl _ _⟩
    · exact parse_long s hs h1 h2 w
end Go.Proofs.YtpeojicimmofjaaDoor

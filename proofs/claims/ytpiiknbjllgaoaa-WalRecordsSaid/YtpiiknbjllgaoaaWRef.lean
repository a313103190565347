/-
  The reference's record and records.
-/
import Derived.Test.YtpiiknbjllgaoaaWAll
import Derived.Test.YtpiiknbjllgaoaaWLists
import Derived.Test.YtpiiknbjllgaoaaCRef
namespace Go.Proofs.Ytpiiknbjllgaoaa
open Go.RowKit
theorem add_ls {A R C : Bs} (hC : C = A ++ R) (h1 : A.length ≤ 1000000) (h2 : R.length ≤ 1000000) : ∀ w, (Op.stringOp .add ⟨A.toArray⟩ ⟨R.toArray⟩).run Try.prog w = .ok (str C) w := fun w => by
  have h := run_string_add_lists (P := Try.prog) (w := w) A R (by omega) (by omega)
  rw [h, hC]
set_option maxRecDepth 100000 in
set_option maxHeartbeats 3200000 in
theorem rrecord_any (s : Bs) (hs : s.length ≤ 900000) (w : World) :
    Calls Try.prog 12 #[str s] w fun e w' => e = .returned (.tuple #[str (allB [s]), .int .i64 (allE [s])]) ∧ Below w.heap.size w w' := by
  have hsz : (⟨s.toArray⟩ : ByteArray).size = s.length := ba_size s
  by_cases hb : 60000 < s.length
  · have hn : ¬ Fit [s] := fun h => by have := h s (by simp); omega
    rw [(all_not hn).1, (all_not hn).2]
    obtain ⟨m, hm⟩ : ∃ m, m = s.length := ⟨_, rfl⟩
    rw [← hm] at hsz hb
    have q1 : (60000 : Int) < (m : Int) := by omega
    clear hs hm hn
    go_enter Try.func12, Try.ntmps12
    go_wp2
    go_ret2
    exact ⟨rfl, Below.refl _ _⟩
  · have hfit : Fit [s] := fun x hx => by simp at hx; subst hx; omega
    have hr1 : rcsB [s] = rcB s := by simp [rcsB]
    rw [(all_fit hfit).1, (all_fit hfit).2, hr1]
    obtain ⟨F, hF⟩ : ∃ F, F = fourB s.length := ⟨_, rfl⟩
    have hFl : F.length = 4 := by rw [hF]; rfl
    obtain ⟨D, hD⟩ : ∃ D, D = F ++ s := ⟨_, rfl⟩
    have hDl : D.length = 4 + s.length := by rw [hD, List.length_append, hFl]
    obtain ⟨C, hC⟩ : ∃ C, C = cs D := ⟨_, rfl⟩
    obtain ⟨G, hG⟩ : ∃ G, G = fourB C := ⟨_, rfl⟩
    have hGl : G.length = 4 := by rw [hG]; rfl
    obtain ⟨E, hE⟩ : ∃ E, E = F ++ G := ⟨_, rfl⟩
    have hEl : E.length = 8 := by rw [hE, List.length_append, hFl, hGl]
    have hR : rcB s = E ++ s := by unfold rcB; rw [hE, hG, hC, hD, hF, List.append_assoc]
    have H1 := fun w => Lib.hid (rfour_any s.length (by omega) w)
    rw [← hF] at H1
    have A1 := add_ls hD (by omega) (by omega)
    have H2 := fun w => Lib.hid (rof_any ⟨D.toArray⟩ (by rw [ba_size]; omega) w)
    have eD : (⟨D.toArray⟩ : ByteArray).data.toList = D := by simp
    rw [eD, ← hC] at H2
    have H3 := fun w => Lib.hid (rfour_any C (by rw [hC]; exact cs_lt _) w)
    rw [← hG] at H3
    have A2 := add_ls hE (by omega) (by omega)
    have A3 := add_ls hR (by omega) (by omega)
    obtain ⟨Q, hQ⟩ : ∃ Q, Q = rcB s := ⟨_, rfl⟩
    rw [← hQ] at A3 ⊢
    have q1 : decide ((60000 : Int) < (s.length : Int)) = false := by simp; omega
    have hmod : (s.length : Int) % 4294967296 = s.length := by omega
    have hsF : (⟨F.toArray⟩ : ByteArray).size = 4 := by rw [ba_size, hFl]
    have hsG : (⟨G.toArray⟩ : ByteArray).size = 4 := by rw [ba_size, hGl]
    have hsE : (⟨E.toArray⟩ : ByteArray).size = 8 := by rw [ba_size, hEl]
    clear hF hD hC hG hE hR hQ hfit hr1 eD
    go_enter Try.func12, Try.ntmps12
    go_wp2_with fail
    refine (H1 _).out.mono ?_
    rintro e w1 ⟨rfl, hb1⟩
    have HB1 := Lib.hid hb1
    clear hb1
    go_wp2_with fail
    refine (H2 _).out.mono ?_
    rintro e w2 ⟨rfl, rfl⟩
    go_wp2_with fail
    refine (H3 _).out.mono ?_
    rintro e w3 ⟨rfl, hb3⟩
    have HB3 := Lib.hid (HB1.out.trans (hb3.mono HB1.out.size))
    clear hb3
    go_wp2
    go_ret2
    exact ⟨rfl, HB3.out⟩
/-- One look at where a record may begin. -/
theorem fst_by (b : Bs) (n : Nat) (hn : n = numB (b.take 4)) (h1 : n ≤ 60000) (ok : Bool) (hok : ok = decide (rcB ((b.drop 8).take n) = b.take (8 + n))) : fstB b = if ok = true then some ((b.drop 8).take n) else none := by
  subst hok
  by_cases h : rcB ((b.drop 8).take n) = b.take (8 + n)
  · rw [if_pos (decide_eq_true h)]
    have e : b = rcB ((b.drop 8).take n) ++ b.drop (8 + n) := by rw [h, List.take_append_drop]
    conv => lhs; rw [e]
    exact fst_rc _ _ (by rw [List.length_take]; omega)
  · rw [if_neg (by simpa using h)]
    cases hf : fstB b with
    | none => rfl
    | some t =>
      exfalso
      obtain ⟨e, ht⟩ := fst_some hf
      have hl : n = t.length := by
        rw [hn, e]
        unfold rcB
        rw [List.append_assoc, List.take_left' (fourB_length _), num_four _ (by omega)]
      have hd : (b.drop 8).take n = t := by
        have hf8 : (fourB t.length ++ fourB (cs (fourB t.length ++ t))).length = 8 := by simp [fourB_length]
        have e' : b = (fourB t.length ++ fourB (cs (fourB t.length ++ t))) ++ (t ++ b.drop (8 + t.length)) := by
          conv => lhs; rw [e]
          unfold rcB
          simp only [List.append_assoc]
        rw [e', List.drop_left' hf8, hl, List.take_left' rfl]
      apply h
      rw [hd]
      conv => rhs; rw [e]
      rw [List.take_left' (by rw [rcB_length, hl])]
/-- None, where none fits. -/
theorem fst_no (b : Bs) (h : b.length < 8 ∨ 60000 < numB (b.take 4) ∨ b.length - 8 < numB (b.take 4)) : fstB b = none := by
  unfold fstB
  rw [if_neg]
  rintro ⟨h1, h2, h3, _⟩
  rcases h with h | h | h <;> omega
theorem drop_snoc (b : ByteArray) (P j : Nat) (h : P + j < b.size) : (b.data.toList.drop P).take (j + 1) = (b.data.toList.drop P).take j ++ [b[P + j]] := by
  have hl : j < (b.data.toList.drop P).length := by rw [List.length_drop, ← size_list]; omega
  rw [List.take_succ_eq_append_getElem hl, List.getElem_drop, Array.getElem_toList]
  rfl
set_option maxRecDepth 100000 in
set_option maxHeartbeats 6400000 in
theorem rrecords_any (b : ByteArray) (hb : b.size ≤ 100000) (w : World) :
    Calls Try.prog 14 #[.string b] w fun e w' => ∃ v, e = .returned (.tuple #[v, .int .i64 ((rcsB (recs b.data.toList)).length : Int)]) ∧ RdB w' v (recs b.data.toList) ∧ Below w.heap.size w w' := by
  obtain ⟨i0, hi, hz0, hz1, hz2⟩ := info_parts info9
  obtain ⟨T, hT⟩ : ∃ T, T = recs b.data.toList := ⟨_, rfl⟩
  have HT := Lib.hid hT
  have hTl : (rcsB T).length ≤ b.size := by rw [hT, size_list]; exact rcs_len _
  have hTn : T.length ≤ 100000 := by
    have h : ∀ L : List Bs, L.length ≤ (rcsB L).length := by
      intro L; induction L with
      | nil => exact Nat.le_refl _
      | cons x L ih => simp only [rcsB, List.length_append, rcB_length, List.length_cons]; omega
    have := h T; omega
  rw [← hT]
  clear hT
  go_enter Try.func14, Try.ntmps14
  go_wp2
  go_loopw [4, 5, 6, 7, 8, 9, 10] (fun u p _n _i _s _r _e wr => ∃ k P : Nat, k ≤ T.length ∧ P = (rcsB (T.take k)).length ∧ P ≤ b.size ∧ p = .int .i64 (P : Int) ∧ recs (b.data.toList.drop P) = T.drop k ∧ wr.ownsRow w.heap.size 9 1 u k ((T.take k).map str) ∧ Below w.heap.size w wr) (fun _ p _ _ _ _ _ _ => b.size - (intOf p).toNat)
  case atStart => exact ⟨0, 0, by omega, rfl, by omega, rfl, by rw [List.drop_zero, ← HT.out, List.drop_zero], World.ownsRow_nil _ _ _ _, Below.refl _ _⟩
  case round =>
    obtain ⟨k, P, hk, hP, hPb, rfl, hrec, hown, hbr⟩ := hrel
    have HP := Lib.hid hP
    have HREC := Lib.hid hrec
    have HOWN := Lib.hid hown
    have HBR := Lib.hid hbr
    clear hP hrec hown hbr
    obtain ⟨D, hD⟩ : ∃ D, D = b.data.toList.drop P := ⟨_, rfl⟩
    have hDl : D.length = b.size - P := by rw [hD, List.length_drop, ← size_list]
    have hend : fstB D = none → k = T.length := fun h => by
      have h1 := recs_none h
      rw [hD, HREC.out] at h1
      have := List.drop_eq_nil_iff.1 h1
      omega
    have HEND := Lib.hid hend
    have HOUT : Hid (k = T.length → RdB wr u4 (recs b.data.toList)) := Lib.hid (fun h => by
      rw [← HT.out]
      have := HOWN.out
      rw [h, List.take_of_length_le (Nat.le_refl _)] at this
      exact rds_of_own (base := w.heap.size) (by rw [ab_length, sv_ab]; exact this))
    clear hend
    by_cases h8 : b.size - P < 8
    · have q1 : decide ((8 : Int) ≤ (b.size : Int) - (P : Int)) = false := by simp; omega
      have hk' := HEND.out (fst_no D (.inl (by omega)))
      have HRD := Lib.hid (HOUT.out hk')
      have HPT : Hid (P = (rcsB (recs b.data.toList)).length) := Lib.hid (by rw [HP.out, hk', List.take_of_length_le (Nat.le_refl _), ← HT.out])
      obtain ⟨a, cap, rfl⟩ : ∃ a cap, u4 = .slice a k cap := by
        rcases HOWN.out.2 with ⟨rfl, h0⟩ | ⟨g, cap, cur, rfl, _⟩
        · exact ⟨none, 0, by rw [h0]⟩
        · exact ⟨_, cap, rfl⟩
      clear hD hDl
      go_wp2
      go_ret2
      rw [HT.out, ← HPT.out]
      exact ⟨_, rfl, HRD.out, HBR.out⟩
    · have q1 : (8 : Int) ≤ (b.size : Int) - (P : Int) := by omega
      have q2 : decide ((8 : Int) ≤ (b.size : Int) - (P : Int)) = true := by simp; omega
      clear HOUT
      go_wp2
      go_loopw [6, 7] (fun n i w2 => wr = w2 ∧ ∃ j : Nat, j ≤ 4 ∧ i = .int .i64 (j : Int) ∧ n = .int .i64 (numB (D.take j) : Nat)) (fun _ i _ => 4 - (intOf i).toNat)
      case atStart => exact ⟨rfl, 0, by omega, rfl, rfl⟩
      case round =>
        obtain ⟨rfl, j, hj, rfl, rfl⟩ := hrel
        by_cases hlj : j < 4
        · have hx : (D.take j).length = j := by rw [List.length_take]; omega
          have hn1 := num_small (D.take j) (by omega)
          have hPj : P + j < b.size := by omega
          have hq : (b[P + j]'hPj).toNat < 256 := (b[P + j]'hPj).toNat_lt
          have HS := Lib.hid (drop_snoc b P j hPj)
          rw [← hD] at HS
          have HN := Lib.hid (num_snoc (D.take j) (b[P + j]'hPj))
          rw [← HS.out] at HN
          obtain ⟨n, hn⟩ : ∃ n, n = numB (D.take j) := ⟨_, rfl⟩
          rw [← hn] at hn1 HN ⊢
          have hlj' : (j : Int) < 4 := by omega
          clear hn hx hD hDl
          go_wp2
          go_roundw
          case rel => exact ⟨trivial, j + 1, by omega, by go_num, by rw [HN.out]; go_num⟩
          case measure => simp [intOf]; omega
        · obtain rfl : j = 4 := by omega
          have h4l : (D.take 4).length = 4 := by rw [List.length_take]; omega
          have hnl := num_lt (D.take 4) h4l
          obtain ⟨n, hn⟩ : ∃ n, n = numB (D.take 4) := ⟨_, rfl⟩
          rw [← hn] at hnl ⊢
          by_cases g1 : D.length - 8 < n ∨ 60000 < n
          · have hk' := HEND.out (fst_no D (by rw [← hn]; rcases g1 with g1 | g1; exact .inr (.inr g1); exact .inr (.inl g1)))
            have HRD : Hid (RdB wr u4 (recs b.data.toList)) := Lib.hid (by
              rw [← HT.out]
              have := HOWN.out
              rw [hk', List.take_of_length_le (Nat.le_refl _)] at this
              exact rds_of_own (base := w.heap.size) (by rw [ab_length, sv_ab]; exact this))
            have HPT : Hid (P = (rcsB (recs b.data.toList)).length) := Lib.hid (by rw [HP.out, hk', List.take_of_length_le (Nat.le_refl _), ← HT.out])
            obtain ⟨a, cap, rfl⟩ : ∃ a cap, u4 = .slice a k cap := by
              rcases HOWN.out.2 with ⟨rfl, h0⟩ | ⟨g, cap, cur, rfl, _⟩
              · exact ⟨none, 0, by rw [h0]⟩
              · exact ⟨_, cap, rfl⟩
            rw [hDl] at g1
            by_cases g2 : b.size - P - 8 < n
            · have r1 : (b.size : Int) - (P : Int) - 8 < (n : Int) := by omega
              have r2 : decide ((b.size : Int) - (P : Int) - 8 < (n : Int)) = true := by simp; omega
              clear hD hDl hn g1
              go_wp2
              go_ret2
              rw [HT.out, ← HPT.out]
              exact ⟨_, rfl, HRD.out, HBR.out⟩
            · have g3 : 60000 < n := by omega
              have r1 : decide ((b.size : Int) - (P : Int) - 8 < (n : Int)) = false := by simp; omega
              have r2 : (60000 : Int) < (n : Int) := by omega
              clear hD hDl hn g1
              go_wp2
              go_ret2
              rw [HT.out, ← HPT.out]
              exact ⟨_, rfl, HRD.out, HBR.out⟩
          · have g2 : n ≤ b.size - P - 8 := by omega
            have g3 : n ≤ 60000 := by omega
            have r1 : decide ((b.size : Int) - (P : Int) - 8 < (n : Int)) = false := by simp; omega
            have r2 : decide ((60000 : Int) < (n : Int)) = false := by simp; omega
            obtain ⟨s, hs⟩ : ∃ s, s = (D.drop 8).take n := ⟨_, rfl⟩
            have hsl : s.length = n := by rw [hs, List.length_take, List.length_drop]; omega
            have hp1 : ∀ w, (Instr.slice 9 (.string b) (some (.int .i64 ((P : Int) + 8))) (some (.int .i64 ((P : Int) + 8 + (n : Int)))) none).run Try.prog w = .ok (str s) w := fun w => by
              have h := pc_mid b (P + 8) (P + 8 + n) (by omega) (by omega) .i64 w
              rw [Nat.add_sub_cancel_left, ← List.drop_drop, ← hD, ← hs] at h
              exact h
            obtain ⟨Y, hY⟩ : ∃ Y, Y = D.take (8 + n) := ⟨_, rfl⟩
            have hp2 : ∀ w, (Instr.slice 9 (.string b) (some (.int .i64 (P : Int))) (some (.int .i64 ((P : Int) + 8 + (n : Int)))) none).run Try.prog w = .ok (str Y) w := fun w => by
              have h := pc_mid b P (P + 8 + n) (by omega) (by omega) .i64 w
              rw [show P + 8 + n - P = 8 + n by omega, ← hD, ← hY] at h
              exact h
            have HF := Lib.hid (fst_by D n hn g3)
            rw [← hs, ← hY] at HF
            have H1 := fun w => Lib.hid (rrecord_any s (by omega) w)
            have hfit : Fit [s] := fun x hx => by simp at hx; subst hx; omega
            have hr1 : rcsB [s] = rcB s := by simp [rcsB]
            rw [(all_fit hfit).1, (all_fit hfit).2, hr1] at H1
            obtain ⟨X, hX⟩ : ∃ X, X = rcB s := ⟨_, rfl⟩
            rw [← hX] at H1 HF
            have HXX := Lib.hid hX
            have HSS := Lib.hid hs
            have HDD := Lib.hid hD
            have HSL := Lib.hid hsl
            clear hs hY hX hr1 hfit hn h4l hD hDl hsl g1
            by_cases hXY : X = Y
            · have HFS : Hid (fstB D = some s) := Lib.hid (by rw [HF.out true (by simp [hXY])]; rfl)
              subst hXY
              have hrec : T.drop k = s :: recs (D.drop (8 + s.length)) := by rw [← HREC.out, ← HDD.out]; exact recs_some HFS.out
              have hkT : k < T.length := by
                by_cases h : k < T.length
                · exact h
                · rw [List.drop_eq_nil_of_le (by omega)] at hrec; cases hrec
              have hTk : T[k]? = some s := by
                have h := congrArg (·[0]?) hrec
                simpa using h
              have hdr : T.drop (k + 1) = recs (b.data.toList.drop (P + 8 + n)) := by
                have hd : b.data.toList.drop (P + 8 + n) = D.drop (8 + s.length) := by rw [HDD.out, List.drop_drop, HSL.out, ← Nat.add_assoc]
                have h := congrArg (List.drop 1) hrec
                rw [List.drop_drop] at h
                rw [hd]
                exact h
              have htk : T.take (k + 1) = T.take k ++ [s] := by
                obtain ⟨a1, b1⟩ := List.getElem?_eq_some_iff.1 hTk
                rw [List.take_succ_eq_append_getElem a1, b1]
              have hPn : P + 8 + n = (rcsB (T.take (k + 1))).length := by
                rw [htk, rcs_append, List.length_append, ← HP.out]
                simp only [rcsB, List.append_nil, rcB_length]
                rw [HSL.out]; omega
              have HDR := Lib.hid hdr
              have HTK := Lib.hid htk
              have HPN := Lib.hid hPn
              obtain ⟨xs, hxs⟩ : ∃ xs, xs = (T.take k).map str := ⟨_, rfl⟩
              have HXS := Lib.hid hxs
              rw [← hxs] at HOWN
              clear hrec hTk hdr htk hPn hxs HF HFS HXX HSS HDD HREC HEND HP
              go_wp2_with fail
              refine (H1 _).out.mono ?_
              rintro e w1 ⟨rfl, hb1⟩
              have HB1 := Lib.hid (HBR.out.trans (hb1.mono HBR.out.size))
              have HW1 := Lib.hid (own_below HOWN.out hb1)
              have hsz1 := HB1.out.size
              clear hb1
              go_wp2_with (at_builtin; refine wpList_append_own_at _ rfl (.tmp 62) (.tmp 64) 27 rfl w.heap.size 9 i0 (.string ⟨#[]⟩) 1 16 Try.underlying27 hi hz0 hz1 hz2 rfl (by decide) u4 k xs rfl (own_below HW1.out ((Below.refl _ _).alloc (Nat.le_refl _) _)) ⟨w1.heap.size, 0, none⟩ 1 1 [str s] rfl rfl (fun j u hj => World.news_of_block (cs := #[str s]) (t := 9) (fr := (0, 0)) (heap_alloc_new w1 _) j u hj) (by simp [Value.oneCell']) (by unfold maxLen; omega) (by omega) (by simp; omega) ?_)
              intro v' w2 hown2 hg2 _ hloc
              have HO2 : Hid (w2.ownsRow w.heap.size 9 1 v' (k + 1) ((T.take (k + 1)).map str)) := Lib.hid (by
                rw [HTK.out, List.map_append, ← HXS.out]; exact hown2)
              have HB2 : Hid (Below w.heap.size w w2) := Lib.hid ((HB1.out.alloc HB1.out.size _).grown hg2 (by simp; have := HB1.out.size; omega) (fun j hj => (World.ownsRow.lt HW1.out j hj).1))
              clear hown2 hg2 hloc
              go_wp2
              go_roundw
              case rel => exact ⟨k + 1, P + 8 + n, by omega, HPN.out, by omega, by go_num, HDR.out.symm, HO2.out, HB2.out⟩
              case measure => simp [intOf]; omega
            · have hne : ¬ (⟨X.toArray⟩ : ByteArray) = ⟨Y.toArray⟩ := fun h => hXY (by simpa using congrArg (fun b : ByteArray => b.data.toList) h)
              have q3 := tl_ne hne
              have q4 : (X == Y) = false := beq_false_of_ne hXY
              have hk' := HEND.out (by rw [HF.out false (by simp [hXY])]; rfl)
              have HRD : Hid (∀ w', Below wr.heap.size wr w' → RdB w' u4 (recs b.data.toList)) := Lib.hid (fun w' hb' => by
                rw [← HT.out]
                have := HOWN.out
                rw [hk', List.take_of_length_le (Nat.le_refl _)] at this
                exact (rds_of_own (base := w.heap.size) (by rw [ab_length, sv_ab]; exact this)).below hb')
              have HPT : Hid (P = (rcsB (recs b.data.toList)).length) := Lib.hid (by rw [HP.out, hk', List.take_of_length_le (Nat.le_refl _), ← HT.out])
              obtain ⟨a, cap, rfl⟩ : ∃ a cap, u4 = .slice a k cap := by
                rcases HOWN.out.2 with ⟨rfl, h0⟩ | ⟨g, cap, cur, rfl, _⟩
                · exact ⟨none, 0, by rw [h0]⟩
                · exact ⟨_, cap, rfl⟩
              clear HF HXX HSS HDD HREC HEND HP hne hk'
              go_wp2_with fail
              refine (H1 _).out.mono ?_
              rintro e w1 ⟨rfl, hb1⟩
              have HB1 := Lib.hid hb1
              clear hb1
              go_wp2
              go_ret2
              rw [HT.out, ← HPT.out]
              exact ⟨_, rfl, HRD.out _ HB1.out, HBR.out.trans (HB1.out.mono HBR.out.size)⟩
end Go.Proofs.Ytpiiknbjllgaoaa

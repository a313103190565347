/-
  The walk of the law FramePuts: for every list of texts and number it returns true; no older memory is changed.
-/
import Derived.Test.YtnhjbhmhloeaeaaTexts
import Derived.Deep.CutBlock
import Derived.Deep.DeepCutAuto
namespace Go.Proofs.Ytnhjbhmhloeaeaa
open Go.RowKit
theorem rput_any_yes (t : Bs) (h : t.length ≤ 65535) : ∀ w, Calls Try.prog 9 #[str t] w fun e w' => e = .returned (.tuple #[str (fr t), .int .i64 0]) ∧ Below w.heap.size w w' := fun w => rput_yes t h w
set_option maxRecDepth 100000 in
set_option maxHeartbeats 12800000 in
theorem lawPuts_any (a0 : Option Addr) (n cap : Nat) (x : Int) (_hx : -9223372036854775808 ≤ x ∧ x ≤ 9223372036854775807) (w : World) (h0 : Came w a0 n) :
    Calls Try.prog 3 #[.slice a0 n cap, .int .i64 x] w fun e w' => e = .returned (.bool true) ∧ Below w.heap.size w w' := by
  have HC := Lib.hid h0
  clear h0
  obtain ⟨i0, hi, hz0, hz1, hz2⟩ := info_parts info9
  obtain ⟨i5, hi5, hy0, hy1, hy2⟩ := info_parts info5
  go_enter Try.func3, Try.ntmps3
  go_wp2_with fail
  refine (awake_any w).mono ?_
  rintro e w1 ⟨rfl, hb1⟩
  go_upto_block 0 with fail
  go_cut [6, 7, 8, 9, 10, 11] from 23 to 49 (fun v s i _ _ _ wx => ∃ Q : List Bs, Q.length ≤ 20 ∧ s = str (frs Q) ∧ Own9 wx w.heap.size v Q ∧ (∀ x ∈ Q, x.length ≤ 300) ∧ Below w.heap.size w wx)
  case first =>
    go_wp2_with fail
    go_loopw [6, 7, 8] (fun v s i wr => ∃ (k : Nat) (Q : List Bs), k ≤ n ∧ k ≤ 20 ∧ i = .int .i64 (k : Int) ∧ s = str (frs Q) ∧ Q.length = k ∧ Own9 wr w.heap.size v Q ∧ (∀ x ∈ Q, x.length ≤ 300) ∧ Below w.heap.size w wr) (fun _ _ i _ => 20 - (intOf i).toNat)
    case atStart => exact ⟨0, [], by omega, by omega, rfl, rfl, rfl, own9_nil _ _, fun x hx => by simp at hx, hb1⟩
    case round =>
      obtain ⟨k, Q, hk, hk2, rfl, rfl, hl, hown, hsh, hbr⟩ := hrel
      have HO := Lib.hid hown
      have HS := Lib.hid hsh
      have HL := Lib.hid hl
      have HFL := Lib.hid (frs_le Q 300 hsh)
      clear hown hsh hl
      by_cases hlt : k < n
      · have q1 : (k : Int) < (n : Int) := by omega
        by_cases hlt2 : k < 20
        · have q2 : (k : Int) < 20 := by omega
          obtain ⟨b, off, s, rfl, hb, hc⟩ := came_get HC.out k hlt
          have hcell : wr.cell? ⟨b, off + k, none⟩ = some (.string s) := (hbr.cell (p := ⟨b, off + k, none⟩) hb).trans hc
          obtain ⟨t, ht, hshort⟩ := short_any s 300
          have SH := Lib.hid hshort
          have HT := Lib.hid ht
          clear hshort hc
          go_wp2_with fail
          refine (SH.out _).mono ?_
          rintro e w' ⟨rfl, rfl⟩
          obtain ⟨T, hTe⟩ : ∃ T, T = frs Q := ⟨_, rfl⟩
          rw [← hTe]
          have HTE := Lib.hid hTe
          obtain ⟨oa, oc, rfl⟩ := HO.out.shape
          clear hTe
          go_wp2_with (at_builtin; refine wpList_append_own _ rfl (.tmp 38) (.tmp 40) 22 rfl w.heap.size 9 i0 (.string ⟨#[]⟩) 1 16 Try.underlying22 hi hz0 hz1 hz2 rfl (by decide) _ _ _ rfl (World.ownsRow.alloc HO.out _) ⟨wr.heap.size, 0, none⟩ 1 1 [str t] rfl rfl (cell_one_new _ _ _) (by simp [Value.oneCell']) (by unfold maxLen; have := HL.out; omega) (by have := HL.out; omega) (by have := hbr.size; simp; omega) ?_)
          intro v1 w2 hown1 hg1 _
          have A := Lib.hid (own9_next (x := t) HO.out (Nat.le_refl _) hbr hown1 hg1)
          obtain ⟨a1, c1, rfl⟩ := A.out.1.shape
          have HRP := Lib.hid (rput_any_yes t (by omega))
          have HTL : Hid (T.length ≤ 20 * 302) := Lib.hid (by rw [HTE.out]; have := HFL.out; have := HL.out; omega)
          have hadd : ∀ w, (Op.stringOp .add ⟨T.toArray⟩ ⟨(fr t).toArray⟩).run Try.prog w = .ok (str (T ++ fr t)) w := fun w => by
            rw [run_string_add_sum w _ _ (by rw [size_mk, size_mk, fr_length]; have := HTL.out; omega), cat]
          clear hown1 hg1
          go_wp2_with fail
          refine (HRP.out _).mono ?_
          rintro e w3 ⟨rfl, hb3⟩
          have HB3 := Lib.hid (And.intro (A.out.1.below hb3) (A.out.2.trans (hb3.mono A.out.2.size)))
          clear hb3
          go_wp2
          go_roundw
          case rel => exact ⟨k + 1, Q ++ [t], by omega, by omega, by go_num, by rw [HTE.out, frs_snoc], by rw [List.length_append, HL.out]; rfl, by have := HB3.out.1; rw [List.length_append] at this; exact this, fun x hx => by
            rcases List.mem_append.1 hx with hx | hx
            · exact HS.out x hx
            · rw [List.mem_singleton.1 hx]; exact HT.out, HB3.out.2⟩
          case measure => simp [intOf]; omega
        · have q2 : decide ((k : Int) < 20) = false := by simp; omega
          go_wp2
          go_meet
          exact ⟨Q, by have := HL.out; omega, rfl, HO.out, HS.out, hbr⟩
      · have q1 : decide ((k : Int) < (n : Int)) = false := by simp; omega
        go_wp2
        go_meet
        exact ⟨Q, by have := HL.out; omega, rfl, HO.out, HS.out, hbr⟩
  case rest =>
    obtain ⟨Q, hQ, rfl, hown, hsh, hb⟩ := hcut
    have HO := Lib.hid hown
    have HS := Lib.hid hsh
    have HB := Lib.hid hb
    have HFL := Lib.hid (frs_le Q 300 hsh)
    obtain ⟨qa, qc, rfl⟩ := hown.shape
    clear hown hsh hb
    have hr0 : (x.tmod 101).natAbs = x.natAbs % 101 := Int.natAbs_tmod x 101
    obtain ⟨r, hr⟩ : ∃ r, x.tmod 101 = r := ⟨_, rfl⟩
    rw [hr] at hr0
    have hr1 : -101 < r := by omega
    have hr2 : r < 101 := by omega
    clear hr0
    obtain ⟨T, hTe⟩ : ∃ T, T = frs Q := ⟨_, rfl⟩
    rw [← hTe]
    have HTE := Lib.hid hTe
    have HTL : Hid (T.length ≤ 20 * 302) := Lib.hid (by rw [hTe]; have := HFL.out; omega)
    obtain ⟨ql, hql⟩ : ∃ ql, ql = Q.length := ⟨_, rfl⟩
    rw [← hql] at HO hQ ⊢
    have HQL := Lib.hid hql
    clear hTe hql
    go_upto_if 53 with fail
    go_cut [12] from 52 to 55 (fun v wx => ∃ m : Nat, m ≤ 100 ∧ v = .int .i64 (m : Int) ∧ wc = wx)
    case first =>
      by_cases g : r < 0
      · go_wp2
        go_meet
        case rel => exact ⟨r.natAbs, by omega, by congr 1; omega, rfl⟩
      · have g' : decide (r < 0) = false := by simpa using g
        go_wp2
        go_meet
        case rel => exact ⟨r.natAbs, by omega, by congr 1; omega, rfl⟩
    case rest =>
      obtain ⟨m, hm, rfl, rfl⟩ := hcut
      obtain ⟨M, hM⟩ : ∃ M : Nat, M = 65500 + m := ⟨_, rfl⟩
      have HM := Lib.hid hM
      have hM2 : M ≤ 65600 := by omega
      clear hM
      go_wp2_with (at_make; refine wpList_make_full _ rfl _ _ 28 rfl 0 5 i5 (.int .u8 0) 1 Try.underlying28 hi5 hy0 hy1 .i64 .i64 (65500 + (m : Int)) (65500 + (m : Int)) M rfl rfl (by rw [HM.out]; rfl) (by rw [HM.out]; rfl) (by rw [hy2]; omega) (by unfold maxLen; omega) (Nat.zero_le _) ?_)
      intro w2 hown2 hg2
      rw [made_zero] at hown2
      obtain ⟨G, hG⟩ : ∃ G : Bs, G = List.replicate M 0 := ⟨_, rfl⟩
      rw [← hG] at hown2
      have hGl : G.length = M := by rw [hG]; simp
      have hconv := own5_back (l := G) (by unfold Own5; rw [hGl]; exact hown2)
      have hb2 : Below wc.heap.size wc w2 := ⟨hg2.os, hg2.tape, hg2.output, hg2.size, fun k hk => hg2.block k hk (by simp)⟩
      have HB2 := Lib.hid (And.intro (HO.out.below hb2) (HB.out.trans (hb2.mono HB.out.size)))
      have HGL := Lib.hid hGl
      clear hown2 hg2 hb2 hG hGl HO HB
      go_wp2_with fail
      refine (put_any G (by have := HGL.out; omega) _).mono ?_
      rintro e w3 ⟨rfl, hb3⟩
      have HB3 := Lib.hid (And.intro (HB2.out.1.below hb3) (HB2.out.2.trans (hb3.mono HB2.out.2.size)))
      clear hb3 HB2
      by_cases hfit : M ≤ 65535
      · have e1 : fits [G] = true := by unfold fits; simp; have := HGL.out; omega
        have HE := Lib.hid (al_yes e1)
        rw [HE.out.1, HE.out.2, show frs [G] = fr G by simp [frs]]
        go_wp2_with fail
        refine (rput_yes G (by have := HGL.out; omega) _).mono ?_
        rintro e w4 ⟨rfl, hb4⟩
        have HB4 := Lib.hid (And.intro (HB3.out.1.below hb4) (HB3.out.2.trans (hb4.mono HB3.out.2.size)))
        clear hb4 HB3
        have HA := Lib.hid (all_any _ Q w4 HB4.out.1.ls (by rw [← HTE.out]; have := HTL.out; omega) (by have := HQL.out; omega))
        have HF := Lib.hid (al_yes (fits_of Q HS.out))
        go_wp2_with fail
        refine HA.out.mono ?_
        rintro e w5 ⟨rfl, hb5⟩
        rw [HF.out.1, HF.out.2, ← HTE.out]
        have HB5 := Lib.hid (And.intro (HB4.out.1.below hb5) (HB4.out.2.trans (hb5.mono HB4.out.2.size)))
        have hsz5 := HB5.out.2.size
        clear hb5 HB4 HA HF
        go_wp2_with (at_builtin; refine wpList_append_own _ rfl (.tmp 76) (.tmp 78) 22 rfl w.heap.size 9 i0 (.string ⟨#[]⟩) 1 16 Try.underlying22 hi hz0 hz1 hz2 rfl (by decide) _ _ _ rfl (World.ownsRow.alloc (by have := HB5.out.1; unfold Own9 at this; rw [← HQL.out] at this; exact this) _) ⟨w5.heap.size, 0, none⟩ 1 1 [str G] rfl rfl (cell_one_new _ _ _) (by simp [Value.oneCell']) (by unfold maxLen; omega) (by omega) (by simp; omega) ?_)
        intro v6 w6 hown6 hg6 _
        have A := Lib.hid (own9_next (x := G) HB5.out.1 (Nat.le_refl _) HB5.out.2 (by rw [← HQL.out]; exact hown6) hg6)
        have HA := Lib.hid (all_any _ (Q ++ [G]) w6 A.out.1.ls (by rw [frs_snoc, ← HTE.out, List.length_append, fr_length]; have := HTL.out; have := HGL.out; omega) (by rw [List.length_append]; have := HQL.out; simp; omega))
        obtain ⟨a6, c6, rfl⟩ := A.out.1.shape
        obtain ⟨n6, hn6⟩ : ∃ n6, n6 = (Q ++ [G]).length := ⟨_, rfl⟩
        rw [← hn6] at HA ⊢
        clear hown6 hg6 hn6
        have hf2 : fits (Q ++ [G]) = true := by
          have h1 := fits_of Q HS.out
          unfold fits at h1 e1 ⊢
          rw [List.all_append, h1, e1]; rfl
        have HF2 := Lib.hid (al_yes hf2)
        obtain ⟨U, hU⟩ : ∃ U, U = frs (Q ++ [G]) := ⟨_, rfl⟩
        rw [HF2.out.1, HF2.out.2, ← hU] at HA
        have hUl : U.length = T.length + (2 + M) := by rw [hU, frs_snoc, ← HTE.out, List.length_append, fr_length, HGL.out]
        clear hf2 hU e1
        go_wp2_with fail
        refine HA.out.mono ?_
        rintro e w7 ⟨rfl, hb7⟩
        have HB7 := Lib.hid (A.out.2.trans (hb7.mono A.out.2.size))
        clear hb7
        have hsU := size_mk U
        have hsT := size_mk T
        have hcmp : ((U.length : Int) == (T.length : Int) + 65502 + (m : Int)) = true := by
          have := HM.out
          simp; omega
        have htb := HTL.out
        clear hUl
        go_wp2
        go_ret
        exact ⟨rfl, HB7.out⟩
      · have e1 : fits [G] = false := by unfold fits; simp; have := HGL.out; omega
        have HE := Lib.hid (al_no e1)
        rw [HE.out.1, HE.out.2]
        go_wp2_with fail
        refine (rput_no G (by have := HGL.out; omega) (by have := HGL.out; omega) _).mono ?_
        rintro e w4 ⟨rfl, hb4⟩
        have HB4 := Lib.hid (And.intro (HB3.out.1.below hb4) (HB3.out.2.trans (hb4.mono HB3.out.2.size)))
        clear hb4 HB3
        have HA := Lib.hid (all_any _ Q w4 HB4.out.1.ls (by rw [← HTE.out]; have := HTL.out; omega) (by have := HQL.out; omega))
        have HF := Lib.hid (al_yes (fits_of Q HS.out))
        go_wp2_with fail
        refine HA.out.mono ?_
        rintro e w5 ⟨rfl, hb5⟩
        rw [HF.out.1, HF.out.2, ← HTE.out]
        have HB5 := Lib.hid (And.intro (HB4.out.1.below hb5) (HB4.out.2.trans (hb5.mono HB4.out.2.size)))
        have hsz5 := HB5.out.2.size
        clear hb5 HB4 HA HF
        go_wp2_with (at_builtin; refine wpList_append_own _ rfl (.tmp 76) (.tmp 78) 22 rfl w.heap.size 9 i0 (.string ⟨#[]⟩) 1 16 Try.underlying22 hi hz0 hz1 hz2 rfl (by decide) _ _ _ rfl (World.ownsRow.alloc (by have := HB5.out.1; unfold Own9 at this; rw [← HQL.out] at this; exact this) _) ⟨w5.heap.size, 0, none⟩ 1 1 [str G] rfl rfl (cell_one_new _ _ _) (by simp [Value.oneCell']) (by unfold maxLen; omega) (by omega) (by simp; omega) ?_)
        intro v6 w6 hown6 hg6 _
        have A := Lib.hid (own9_next (x := G) HB5.out.1 (Nat.le_refl _) HB5.out.2 (by rw [← HQL.out]; exact hown6) hg6)
        have HA := Lib.hid (all_any _ (Q ++ [G]) w6 A.out.1.ls (by rw [frs_snoc, ← HTE.out, List.length_append, fr_length]; have := HTL.out; have := HGL.out; omega) (by rw [List.length_append]; have := HQL.out; simp; omega))
        obtain ⟨a6, c6, rfl⟩ := A.out.1.shape
        obtain ⟨n6, hn6⟩ : ∃ n6, n6 = (Q ++ [G]).length := ⟨_, rfl⟩
        rw [← hn6] at HA ⊢
        clear hown6 hg6 hn6
        have hf2 : fits (Q ++ [G]) = false := by
          unfold fits at e1 ⊢
          rw [List.all_append, e1, Bool.and_false]
        have HF2 := Lib.hid (al_no hf2)
        rw [HF2.out.1, HF2.out.2] at HA
        clear hf2 e1
        go_wp2_with fail
        refine HA.out.mono ?_
        rintro e w7 ⟨rfl, hb7⟩
        have HB7 := Lib.hid (A.out.2.trans (hb7.mono A.out.2.size))
        clear hb7
        skip
        go_wp2
        go_ret
        exact ⟨rfl, HB7.out⟩
end Go.Proofs.Ytnhjbhmhloeaeaa

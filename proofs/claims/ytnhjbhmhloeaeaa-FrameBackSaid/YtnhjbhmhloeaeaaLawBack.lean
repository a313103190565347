/-
  The walk of the law FrameBack: for every list of texts and cuts it returns true; no older memory is changed.
-/
import Derived.Test.YtnhjbhmhloeaeaaNums
import Derived.Deep.CutBlock
import Derived.Deep.DeepCutAuto
namespace Go.Proofs.Ytnhjbhmhloeaeaa
open Go.RowKit
set_option maxRecDepth 100000 in
set_option maxHeartbeats 12800000 in
theorem lawBack_any (a0 : Option Addr) (n cap : Nat) (a1 : Option Addr) (n1 cap1 : Nat) (w : World) (h0 : Came w a0 n) (h1 : Nums w a1 n1) :
    Calls Try.prog 5 #[.slice a0 n cap, .slice a1 n1 cap1] w fun e w' => e = .returned (.bool true) ∧ Below w.heap.size w w' := by
  have HC := Lib.hid h0
  have HN := Lib.hid h1
  clear h0 h1
  obtain ⟨i0, hi, hz0, hz1, hz2⟩ := info_parts info9
  obtain ⟨i3, hi3, hy0, hy1, hy2⟩ := info_parts info3
  go_enter Try.func5, Try.ntmps5
  go_wp2_with fail
  refine (awake_any w).mono ?_
  rintro e w1 ⟨rfl, hb1⟩
  go_upto_block 0 with fail
  go_cut [6, 7, 8, 9, 10, 11, 12] from 24 to 57 (fun v s u i _ _ _ wx => ∃ Q : List Bs, Q.length ≤ 20 ∧ s = str (frs Q) ∧ Own9 wx w.heap.size v Q ∧ Own3 wx w.heap.size u (ens Q) ∧ (∀ x ∈ Q, x.length ≤ 300) ∧ Below w.heap.size w wx)
  case first =>
    go_wp2_with fail
    go_loopw [6, 7, 8, 9] (fun v s u i wr => ∃ (k : Nat) (Q : List Bs), k ≤ n ∧ k ≤ 20 ∧ i = .int .i64 (k : Int) ∧ s = str (frs Q) ∧ Q.length = k ∧ Own9 wr w.heap.size v Q ∧ Own3 wr w.heap.size u (ens Q) ∧ (∀ x ∈ Q, x.length ≤ 300) ∧ Below w.heap.size w wr) (fun _ _ _ i _ => 20 - (intOf i).toNat)
    case atStart => exact ⟨0, [], by omega, by omega, rfl, rfl, rfl, own9_nil _ _, own3_nil _ _, fun x hx => by simp at hx, hb1⟩
    case round =>
      obtain ⟨k, Q, hk, hk2, rfl, rfl, hl, hown, hown3, hsh, hbr⟩ := hrel
      have HO := Lib.hid hown
      have HO3 := Lib.hid hown3
      have HS := Lib.hid hsh
      have HL := Lib.hid hl
      have HFL := Lib.hid (frs_le Q 300 hsh)
      clear hown hown3 hsh hl
      by_cases hlt : k < n
      · have q1 : (k : Int) < (n : Int) := by omega
        by_cases hlt2 : k < 20
        · have q2 : (k : Int) < 20 := by omega
          obtain ⟨b, off, s, rfl, hb, hc⟩ := came_get HC.out k hlt
          have hcell : wr.cell? ⟨b, off + k, none⟩ = some (.string s) := (hbr.cell (p := ⟨b, off + k, none⟩) hb).trans hc
          obtain ⟨t, ht, hshort⟩ := short_any s 300
          have SH := Lib.hid hshort
          have HT := Lib.hid ht
          clear hshort hc
          go_wp2_with fail
          refine (SH.out _).mono ?_
          rintro e w' ⟨rfl, rfl⟩
          obtain ⟨T, hTe⟩ : ∃ T, T = frs Q := ⟨_, rfl⟩
          rw [← hTe]
          have HTE := Lib.hid hTe
          obtain ⟨oa, oc, rfl⟩ := HO.out.shape
          obtain ⟨ua, uc, rfl⟩ := HO3.out.shape
          rw [ens_length] at HO3 ⊢
          have HO3' : Hid (wr.ownsRow w.heap.size 3 1 (.slice ua Q.length uc) Q.length ((ens Q).map num)) := Lib.hid (by have := HO3.out; unfold Own3 at this; rw [ens_length] at this; exact this)
          clear hTe
          go_wp2_with (at_builtin; refine wpList_append_own _ rfl (.tmp 39) (.tmp 41) 22 rfl w.heap.size 9 i0 (.string ⟨#[]⟩) 1 16 Try.underlying22 hi hz0 hz1 hz2 rfl (by decide) _ _ _ rfl (World.ownsRow.alloc HO.out _) ⟨wr.heap.size, 0, none⟩ 1 1 [str t] rfl rfl (cell_one_new _ _ _) (by simp [Value.oneCell']) (by unfold maxLen; have := HL.out; omega) (by have := HL.out; omega) (by have := hbr.size; simp; omega) ?_)
          intro v1 w2 hown1 hg1 _
          have A := Lib.hid (own9_next (x := t) HO.out (Nat.le_refl _) hbr hown1 hg1)
          have A3 := Lib.hid (HO3.out.beside HO.out hg1)
          obtain ⟨a1', c1, rfl⟩ := A.out.1.shape
          have e1 : fits [t] = true := by unfold fits; simp; omega
          have HE := Lib.hid (al_yes e1)
          have HTL : Hid (T.length ≤ 20 * 302) := Lib.hid (by rw [HTE.out]; have := HFL.out; have := HL.out; omega)
          have hadd : ∀ w, (Op.stringOp .add ⟨T.toArray⟩ ⟨(fr t).toArray⟩).run Try.prog w = .ok (str (T ++ fr t)) w := fun w => by
            rw [run_string_add_sum w _ _ (by rw [size_mk, size_mk, fr_length]; have := HTL.out; omega), cat]
          obtain ⟨n6, hn6⟩ : ∃ n6, n6 = (Q ++ [t]).length := ⟨_, rfl⟩
          rw [← hn6] at A ⊢
          have HN6 := Lib.hid hn6
          clear hown1 hg1 e1 hn6
          go_wp2_with fail
          refine (put_any t (by have := HT.out; omega) _).mono ?_
          rintro e w3 ⟨rfl, hb3⟩
          rw [HE.out.1, HE.out.2, show frs [t] = fr t by simp [frs]]
          have HB3 := Lib.hid (And.intro (A.out.1.below hb3) (And.intro (A3.out.below hb3) (A.out.2.trans (hb3.mono A.out.2.size))))
          obtain ⟨U, hU⟩ : ∃ U, U = T ++ fr t := ⟨_, rfl⟩
          rw [← hU] at hadd
          have hsU := size_mk U
          have HU := Lib.hid hU
          have hsz3 := HB3.out.2.2.size
          clear hb3 hU
          have HO33 : Hid (w3.ownsRow w.heap.size 3 1 (.slice ua Q.length uc) Q.length ((ens Q).map num)) := Lib.hid (by have := HB3.out.2.1; unfold Own3 at this; rw [ens_length] at this; exact this)
          go_wp2_with (at_builtin; refine wpList_append_own _ rfl (.tmp 53) (.tmp 56) 43 rfl w.heap.size 3 i3 (.int .i64 0) 1 8 Try.underlying43 hi3 hy0 hy1 hy2 rfl (by decide) _ _ _ rfl (World.ownsRow.alloc HO33.out _) ⟨w3.heap.size, 0, none⟩ 1 1 [num U.length] rfl rfl (cell_one_new _ _ _) (by simp [Value.oneCell']) (by unfold maxLen; have := HL.out; omega) (by have := HL.out; omega) (by simp; omega) ?_)
          intro v4 w4 hown4 hg4 _
          have HU3 : Hid (Own3 w3 w.heap.size (.slice ua Q.length uc) (ens Q)) := Lib.hid HB3.out.2.1
          have B := Lib.hid (own3_next (x := U.length) HU3.out (Nat.le_refl _) HB3.out.2.2 (by rw [ens_length]; exact hown4) hg4)
          have B9 := Lib.hid (HB3.out.1.beside HU3.out hg4)
          have hU2 : U = frs (Q ++ [t]) := by rw [frs_snoc, ← HTE.out]; exact HU.out
          have HU2 := Lib.hid hU2
          have HES := Lib.hid (show ens Q ++ [U.length] = ens (Q ++ [t]) by rw [ens_snoc, ← hU2])
          clear hown4 hg4 hU2
          go_wp2
          go_roundw
          case rel => exact ⟨k + 1, Q ++ [t], by omega, by omega, by go_num, by rw [HU2.out], by rw [List.length_append, HL.out]; rfl, B9.out, by rw [← HES.out]; exact B.out.1, fun x hx => by
            rcases List.mem_append.1 hx with hx | hx
            · exact HS.out x hx
            · rw [List.mem_singleton.1 hx]; exact HT.out, B.out.2⟩
          case measure => simp [intOf]; omega
        · have q2 : decide ((k : Int) < 20) = false := by simp; omega
          go_wp2
          go_meet
          exact ⟨Q, by have := HL.out; omega, rfl, HO.out, HO3.out, HS.out, hbr⟩
      · have q1 : decide ((k : Int) < (n : Int)) = false := by simp; omega
        go_wp2
        go_meet
        exact ⟨Q, by have := HL.out; omega, rfl, HO.out, HO3.out, HS.out, hbr⟩
  case rest =>
    obtain ⟨Q, hQ, rfl, hown, hown3, hsh, hb⟩ := hcut
    have HO := Lib.hid hown
    have HO3 := Lib.hid hown3
    have HS := Lib.hid (show ∀ x ∈ Q, x.length ≤ 65535 from fun x hx => Nat.le_trans (hsh x hx) (by decide))
    have HB := Lib.hid hb
    have HFL := Lib.hid (frs_le Q 300 hsh)
    obtain ⟨la, lc, rfl⟩ := hown.shape
    obtain ⟨ea, ec, rfl⟩ := hown3.shape
    rw [ens_length] at HO3 ⊢
    clear hown hown3 hsh hb
    obtain ⟨A, hAe⟩ : ∃ A, A = frs Q := ⟨_, rfl⟩
    rw [← hAe]
    have HA := Lib.hid hAe
    have hAs := size_mk A
    obtain ⟨N, hNe⟩ : ∃ N, N = A.length := ⟨_, rfl⟩
    rw [← hNe] at hAs
    have HNA : Hid (N = (frs Q).length) := Lib.hid (by rw [hNe, hAe])
    have hN : N ≤ 6040 := by rw [hNe, hAe]; have := HFL.out; omega
    obtain ⟨ql, hql⟩ : ∃ ql, ql = Q.length := ⟨_, rfl⟩
    rw [← hql] at HO HO3 hQ ⊢
    have HQL := Lib.hid hql
    clear hAe hNe hql
    go_wp2_with fail
    refine (new_any wc).mono ?_
    rintro e w2 ⟨rfl, hr2, hb2⟩
    have A2 := Lib.hid (At.new (w0 := wc) (n := wc.heap.size) (Below.refl _ _) rfl hr2 hb2)
    obtain ⟨b, hbe⟩ : ∃ b, b = wc.heap.size := ⟨_, rfl⟩
    rw [show At wc.heap.size wc wc.heap.size [] w2 = At wc.heap.size wc b [] w2 by rw [hbe], ← hbe] at *
    clear hr2 hb2
    go_wp2
    go_loopw [14, 15, 16] (fun pv tv iv wr => ∃ p t i : Nat, pv = .int .i64 (p : Int) ∧ tv = .int .i64 (t : Int) ∧ iv = .int .i64 (i : Int) ∧ p ≤ N ∧ i ≤ p ∧ t ≤ ql ∧ en Q t ≤ p ∧ (t = Q.length ∨ (t < Q.length ∧ p < en Q (t + 1))) ∧ At wc.heap.size wc b (seg Q p t) wr) (fun pv _ _ _ => N - (intOf pv).toNat)
    case atStart => exact ⟨0, 0, 0, rfl, rfl, rfl, by omega, by omega, by omega, by rw [en_zero]; omega, first_open Q, by rw [seg_start]; exact A2.out⟩
    case round =>
      clear A2
      obtain ⟨p, t, i, rfl, rfl, rfl, hp, hip, ht, hen, hop, hAt⟩ := hrel
      have HAT := Lib.hid hAt
      have HOP := Lib.hid hop
      have HEN := Lib.hid hen
      clear hAt hop hen
      by_cases hlt : p < N
      · have q1 : (p : Int) < (N : Int) := by omega
        go_upto_if 74 with fail
        go_cut [17, 18] from 71 to 89 (fun v _ wx => ∃ m : Nat, 1 ≤ m ∧ p + m ≤ N ∧ v = .int .i64 (m : Int) ∧ wr = wx)
        case first =>
          by_cases hi1 : i < n1
          · have q2 : (i : Int) < (n1 : Int) := by omega
            obtain ⟨cb, coff, z, rfl, hcb, ⟨z1, z2⟩, hcz⟩ := HN.out i hi1
            have hcell : wr.cell? ⟨cb, coff + i, none⟩ = some (.int .i64 z) := (HAT.out.bel.cell (p := ⟨cb, coff + i, none⟩) (Nat.lt_of_lt_of_le hcb HB.out.size)).trans ((HB.out.cell (p := ⟨cb, coff + i, none⟩) hcb).trans hcz)
            have hr0 : (z.tmod 50).natAbs = z.natAbs % 50 := Int.natAbs_tmod z 50
            obtain ⟨r, hr⟩ : ∃ r, z.tmod 50 = r := ⟨_, rfl⟩
            rw [hr] at hr0
            have hr1 : -50 < r := by omega
            have hr2 : r < 50 := by omega
            clear hr0 hcz
            by_cases g : r < 0
            · by_cases g2 : -r + 1 < (N : Int) - (p : Int)
              · go_wp2
                go_meet
                case rel => exact ⟨r.natAbs + 1, by omega, by omega, by congr 1; omega, rfl⟩
              · have g2' : decide (-r + 1 < (N : Int) - (p : Int)) = false := by simpa using g2
                go_wp2
                go_meet
                case rel => exact ⟨N - p, by omega, by omega, by congr 1; omega, rfl⟩
            · have g' : decide (r < 0) = false := by simpa using g
              by_cases g2 : r + 1 < (N : Int) - (p : Int)
              · go_wp2
                go_meet
                case rel => exact ⟨r.natAbs + 1, by omega, by omega, by congr 1; omega, rfl⟩
              · have g2' : decide (r + 1 < (N : Int) - (p : Int)) = false := by simpa using g2
                go_wp2
                go_meet
                case rel => exact ⟨N - p, by omega, by omega, by congr 1; omega, rfl⟩
          · have q2 : decide ((i : Int) < (n1 : Int)) = false := by simp; omega
            go_wp2
            go_meet
            case rel => exact ⟨N - p, by omega, by omega, by congr 1; omega, rfl⟩
        case rest =>
          obtain ⟨m, hm1, hm2, rfl, rfl⟩ := hcut
          have hsl : ∀ w, (Instr.slice 9 (.string ⟨A.toArray⟩) (some (.int .i64 (p : Int))) (some (.int .i64 ((p : Int) + (m : Int)))) none).run Try.prog w = .ok (str ((A.take (p + m)).drop p)) w := fun w => by
            rw [run_slice_string (P := Try.prog) w 9 ⟨A.toArray⟩ .i64 .i64 (p : Int) ((p : Int) + (m : Int)) Try.underlying9 (by omega) (by omega) (by rw [hAs]; omega), extract_mk]
            rw [show ((p : Int) + (m : Int)).toNat = p + m by omega, Int.toNat_natCast]
          have hsz := size_mk ((A.take (p + m)).drop p)
          have hln : ((A.take (p + m)).drop p).length ≤ 6040 := by simp; omega
          have hsg := seg_length Q p t (by rw [← HNA.out]; omega)
          have HFD := Lib.hid (feed_any ⟨((A.take (p + m)).drop p).toArray⟩ _ b (seg Q p t) wr HAT.out.rd (by rw [hsz]; omega))
          obtain ⟨F, hF⟩ : ∃ F, F = (A.take (p + m)).drop p := ⟨_, rfl⟩
          rw [← hF] at hsl HFD hsz
          have HFE := Lib.hid hF
          clear hF hln hsg
          go_wp2_with fail
          refine HFD.out.mono ?_
          rintro e w3 ⟨rfl, hr3, ht3⟩
          have A3 := HAT.out.fed hr3 ht3
          rw [show seg Q p t ++ F = seg Q (p + m) t by rw [HFE.out, HA.out]; exact seg_feed Q p (p + m) t HEN.out (by omega) (by rw [← HNA.out]; omega)] at A3
          have HA3 := Lib.hid A3
          clear A3 hr3 ht3
          go_upto_block 4 with fail
          go_cut [15, 19, 20] from 101 to 129 (fun tv _ _ wx => ∃ t' : Nat, tv = .int .i64 (t' : Int) ∧ t' ≤ ql ∧ en Q t' ≤ p + m ∧ (t' = Q.length ∨ (t' < Q.length ∧ p + m < en Q (t' + 1))) ∧ At wc.heap.size wc b (seg Q (p + m) t') wx)
          case first =>
            go_wp2_with fail
            go_loopw [15] (fun tv wx => ∃ t' : Nat, tv = .int .i64 (t' : Int) ∧ t' ≤ ql ∧ en Q t' ≤ p + m ∧ At wc.heap.size wc b (seg Q (p + m) t') wx) (fun tv _ => ql - (intOf tv).toNat)
            case atStart => exact ⟨t, rfl, ht, by have := HEN.out; omega, HA3.out⟩
            case round =>
              obtain ⟨t', rfl, ht', hen', hA'⟩ := hrel
              have HA4 := Lib.hid hA'
              have HEN' := Lib.hid hen'
              clear hA' hen'
              by_cases hlt' : t' < ql
              · have q2 : (t' : Int) < (ql : Int) := by omega
                have htq : t' < Q.length := by rw [← HQL.out]; exact hlt'
                obtain ⟨g, rfl, hg, hcg⟩ := HO3.out.at t' _ (ens_at Q t' htq)
                have hce := (HA4.out.bel.cell (p := ⟨g, t', none⟩) hg).trans hcg
                obtain ⟨E, hE⟩ : ∃ E, E = en Q (t' + 1) := ⟨_, rfl⟩
                rw [← hE] at hce
                have HE := Lib.hid hE
                have HTQ := Lib.hid htq
                clear hcg hE htq
                by_cases he : E ≤ p + m
                · have q3 : (E : Int) ≤ (p : Int) + (m : Int) := by omega
                  obtain ⟨n1', n2', n3'⟩ := seg_next Q (p + m) t' HTQ.out (by rw [← HE.out]; exact he) (HS.out _ (List.getElem_mem HTQ.out))
                  have hsg := seg_length Q (p + m) t' (by rw [← HNA.out]; omega)
                  have HNX := Lib.hid (next_any _ b _ _ HA4.out.rd (by omega))
                  have hne : (2 + (Q[t']'HTQ.out).length != 0) = true := by simp
                  rw [n1', n2', n3', hne] at HNX
                  obtain ⟨g2, off2, rfl, hg2, hcl⟩ := HO.out.ls.at t' HTQ.out
                  obtain ⟨X, hX⟩ : ∃ X, X = Q[t']'HTQ.out := ⟨_, rfl⟩
                  rw [← hX] at HNX hcl
                  have HX := Lib.hid (And.intro hg2 hcl)
                  clear n1' n2' n3' hne hX hsg hcl hg2
                  go_wp2_with fail
                  refine HNX.out.mono ?_
                  rintro e w4 ⟨rfl, hr4, ht4⟩
                  have HA5 := Lib.hid (HA4.out.taken hr4 ht4)
                  have hcx := (HA5.out.bel.cell (p := ⟨g2, off2 + t', none⟩) HX.out.1).trans HX.out.2
                  clear hr4 ht4 hce
                  go_wp2
                  go_roundw
                  case rel => exact ⟨t' + 1, by go_num, by omega, by rw [← HE.out]; exact he, HA5.out⟩
                  case measure => simp [intOf]; omega
                · have q3 : decide ((E : Int) ≤ (p : Int) + (m : Int)) = false := by simp; omega
                  go_wp2
                  go_meet
                  case rel => exact ⟨t', rfl, ht', HEN'.out, .inr ⟨HTQ.out, by rw [← HE.out]; omega⟩, HA4.out⟩
              · have q2 : decide ((t' : Int) < (ql : Int)) = false := by simp; omega
                go_wp2
                go_meet
                case rel => exact ⟨t', rfl, ht', HEN'.out, .inl (by rw [← HQL.out]; omega), HA4.out⟩
          case rest =>
            obtain ⟨t', rfl, ht', hen', hop', hA'⟩ := hcut
            have hno := seg_none Q (p + m) t' HS.out hop'
            have etl : tl (seg Q (p + m) t') = seg Q (p + m) t' := by unfold tl; rw [hno]; rfl
            have hsg := seg_length Q (p + m) t' (by rw [← HNA.out]; omega)
            have HNX := Lib.hid (next_any _ b _ _ hA'.rd (by omega))
            rw [hno, etl] at HNX
            have HA4 := Lib.hid hA'
            have HOP' := Lib.hid hop'
            have HEN' := Lib.hid hen'
            clear hno etl hsg hA' hop' hen'
            go_wp2_with fail
            refine HNX.out.mono ?_
            rintro e w4 ⟨rfl, hr4, ht4⟩
            have HA5 := Lib.hid (HA4.out.taken hr4 ht4)
            clear hr4 ht4
            go_wp2
            go_roundw
            case rel => exact ⟨p + m, t', i + 1, by go_num, rfl, by go_num, hm2, by omega, ht', HEN'.out, HOP'.out, HA5.out⟩
            case measure => simp [intOf]; omega
      · obtain rfl : p = N := by omega
        have q1 : decide ((p : Int) < (p : Int)) = false := by simp
        have htf := all_told Q t (by rw [← HNA.out]; exact HOP.out)
        have hseg : seg Q p t = [] := by rw [htf, HNA.out]; exact seg_all Q
        rw [hseg] at HAT
        have q3 : ((t : Int) == (ql : Int)) = true := by rw [htf, ← HQL.out]; simp
        have HLF := Lib.hid (left_any _ b _ wr HAT.out.rd)
        clear htf hseg
        go_wp2_with fail
        refine HLF.out.mono ?_
        rintro e w4 ⟨rfl, rfl⟩
        go_wp2
        go_ret
        exact ⟨rfl, HB.out.trans (HAT.out.bel.mono HB.out.size)⟩
end Go.Proofs.Ytnhjbhmhloeaeaa

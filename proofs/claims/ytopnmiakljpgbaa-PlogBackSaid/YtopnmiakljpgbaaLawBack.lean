/-
  What was saved step by step is loaded again: the law's function returns true, whatever states come in.
-/
import Derived.Test.YtopnmiakljpgbaaBackK
namespace Go.Proofs.Ytopnmiakljpgbaa
open Go.RowKit
theorem svT_len2 (H G : Hd) (h : G.L.length ≤ 40) : (svT H G).length ≤ 100 := by
  unfold svT
  split
  · unfold svW; simp [entsB_len]; omega
  · unfold svP svR
    rw [List.length_append, entsB_len, List.length_drop]
    split <;> simp <;> omega
set_option maxRecDepth 100000 in
set_option maxHeartbeats 25600000 in
theorem lawBack_any {w : World} {v : Value} {A : List Hd} (hA : RdH w v A) : Calls Try.prog 7 #[v] w fun e w' => e = .returned (.bool true) ∧ Below w.heap.size w w' := by
  obtain ⟨va, vc, rfl, _⟩ := hA.shape
  obtain ⟨m, hm⟩ : ∃ m, m = A.length := ⟨_, rfl⟩
  have HM := Lib.hid hm
  rw [← hm] at hA ⊢
  have HA := Lib.hid hA
  clear hm hA
  go_enter Try.func7, Try.ntmps7
  go_wp2_with fail
  refine (awake_any w).mono ?_
  rintro e w1 ⟨rfl, hb1⟩
  have HB1 := Lib.hid hb1
  have HN0 := Lib.hid (Ce.new w1 42 zerosH)
  have HBN := Lib.hid (one_new w1 (.cells zerosH 42))
  obtain ⟨NB, hNB⟩ : ∃ NB, NB = w1.heap.size := ⟨_, rfl⟩
  have HNB := Lib.hid hNB
  clear hb1
  go_upto_region 5 with fail
  obtain ⟨w2, hw2⟩ : ∃ w2, w2 = w1.alloc (.cells zerosH 42) := ⟨_, rfl⟩
  have hz2 : w2.heap.size = NB + 1 := by rw [hw2, hNB, alloc_size]
  rw [← hw2] at HN0 HBN ⊢
  rw [← hNB] at HN0 HBN ⊢
  have HZ2 := Lib.hid hz2
  clear hw2 hNB hz2
  go_loopw [4, 6, 7, 8, 9, 10, 11, 12, 13] (fun rv i _ _ _ _ _ _ _ wr => ∃ (k : Nat) (N : Hd) (R : List Bs), k ≤ m ∧ k ≤ 12 ∧ i = it (k : Int) ∧ Ce wr NB 42 N.cs.toArray ∧ RdN w N.vs N.V ∧ OwnE wr (NB + 1) (.slice N.a N.n N.cap) N.L ∧ N.Tame ∧ OwnV wr (NB + 1) 9 rv (tv R) ∧ Below NB w1 wr ∧ NB < wr.heap.size ∧
      ldF Hs.zero R = some N.S ∧ (0 < R.length → ∃ r rs, R = r :: rs ∧ isW r = true) ∧ R.length ≤ 100 * k ∧ ∀ b ∈ R, b.length ≤ 1000) (fun _ i _ _ _ _ _ _ _ _ => m - (intOf i).toNat)
  case atStart =>
    refine ⟨0, ⟨0, 0, .slice none 0 0, ⟨#[]⟩, 0, 0, none, 0, 0, [], []⟩, [], by omega, by omega, rfl, HN0.out, RdN.nil _, ownE_nil _ _, ⟨by decide, by decide, by decide, fun e he => by cases he⟩, OwnV.nil _ _ _, HBN.out, by have := HZ2.out; omega, rfl, fun h => absurd h (by decide), by simp, fun b hb => by cases hb⟩
  case round =>
    obtain ⟨k, N, R, hk, hk12, rfl, hN, hNV, hNE, hNT, hR, hbr, hlt0, hld, hW, hRl, hRb⟩ := hrel
    by_cases hlt : k < m ∧ k < 12
    · have p1 : (k : Int) < (m : Int) := by omega
      have p2 : (k : Int) < 12 := by omega
      obtain ⟨H, hH⟩ : ∃ H, A[k]? = some H := ⟨_, List.getElem?_eq_getElem (by have := HM.out; omega)⟩
      obtain ⟨e1, hHr, g, o, rfl, hg, hc⟩ := HA.out.at hH
      have hbw : Below w.heap.size w wr := HB1.out.trans (hbr.mono (by have := HB1.out.size; have := HNB.out; omega))
      have hc' : ∀ (j : Nat) u, H.cs[j]? = some u → wr.cell? ⟨g, o + k * 7 + j, none⟩ = some u := fun j u hu => (hbw.cell (p := ⟨g, o + k * 7 + j, none⟩) hg).trans (hc j u hu)
      have c0 := hc' 0 _ rfl
      have c1 := hc' 1 _ rfl
      have c2 := hc' 2 _ rfl
      have c3 := hc' 3 _ rfl
      have c4 := hc' 4 _ rfl
      have c5 := hc' 5 _ rfl
      have c6 := hc' 6 _ rfl
      rw [Nat.add_zero] at c0
      have TM := Lib.hid (tame_any (H := H) (w0 := w) (w := wr) hHr.1 (hHr.2.below hbw))
      have HN := Lib.hid hN
      have HNV := Lib.hid hNV
      have HNE := Lib.hid hNE
      have HNT := Lib.hid hNT
      have HR := Lib.hid hR
      have HBR := Lib.hid hbr
      have HBW := Lib.hid hbw
      have HLT := Lib.hid hlt0
      have HLD := Lib.hid hld
      have HWW := Lib.hid hW
      have HRL := Lib.hid hRl
      have HRB := Lib.hid hRb
      obtain ⟨ht, hvo, hvs, hsn, hba, hbt, ha, hn, hcap, hV, hL⟩ := H
      dsimp only [Hd.v] at c0 c1 c2 c3 c4 c5 c6 TM
      clear hN hNV hNE hNT hR hbr hbw hlt0 hld hW hRl hRb hH hHr hc hc' e1
      go_wp2_with fail
      refine TM.out.mono ?_
      rintro e w3 ⟨X, rfl, hXV, hXE, hXT, hb3⟩
      clear c0 c1 c2 c3 c4 c5 c6
      obtain ⟨nt, nvo, nvs, nsn, nba, nbt, na, nn, ncap, NV, NL⟩ := N
      obtain ⟨xt, xvo, xvs, xsn, xba, xbt, xa, xn, xcap, XV, XL⟩ := X
      dsimp only [Hd.v, Hd.cs] at *
      obtain ⟨ga, gz, gc, rfl⟩ : ∃ x y z, xvs = .slice x y z := let ⟨x, z, e, _⟩ := hXV.shape; ⟨x, _, z, e⟩
      have hb4 := hb3.trans ((one_new w3 (.cells #[it xt, it xvo, .slice ga gz gc, .string xsn, it xba, it xbt, .slice xa xn xcap] 42)).mono hb3.size)
      have HX4 := Lib.hid (Ce.new w3 42 #[it xt, it xvo, .slice ga gz gc, .string xsn, it xba, it xbt, .slice xa xn xcap])
      have HXV := Lib.hid hXV
      have HXE := Lib.hid ((hXE.weak (base' := NB + 1) HLT.out).below (one_new w3 (.cells #[it xt, it xvo, .slice ga gz gc, .string xsn, it xba, it xbt, .slice xa xn xcap] 42)))
      have HXT := Lib.hid hXT
      have HN4 := Lib.hid (HN.out.below hb4)
      have HNE4 := Lib.hid (HNE.out.below hb4)
      have HR4 := Lib.hid (HR.out.below hb4)
      have HB4 := Lib.hid (HBR.out.trans (hb4.mono (Nat.le_of_lt HLT.out)))
      have HBW4 := Lib.hid (HBW.out.trans (hb4.mono HBW.out.size))
      have HLT4 : Hid (NB < (w3.alloc (.cells #[it xt, it xvo, .slice ga gz gc, .string xsn, it xba, it xbt, .slice xa xn xcap] 42)).heap.size) := Lib.hid (by have := hb4.size; have := HLT.out; omega)
      have HXN : Hid (NB + 1 ≤ w3.heap.size) := Lib.hid (by have := hb3.size; have := HLT.out; omega)
      clear hXV hXE hXT hb3 hb4 TM HN HNE HR HBR HBW HLT
      go_upto_region 8 with fail
      generalize w3.alloc _ = w4 at *
      obtain ⟨NX, hNX⟩ : ∃ NX, NX = w3.heap.size := ⟨_, rfl⟩
      rw [← hNX] at HX4 HXN ⊢
      clear hNX
      have MY := Lib.hid (fun w' (hb : Below w4.heap.size w4 w') => may_any (X := ⟨xt, xvo, .slice ga gz gc, xsn, xba, xbt, xa, xn, xcap, XV, XL⟩) (w := w') ⟨(HXV.out.below HBW4.out).below hb, HXE.out.rd.below hb⟩ HXT.out)
      dsimp only [Hd.v] at MY
      obtain ⟨c0, c1, c2, c3, c4, c5, c6⟩ := c7 HX4.out
      go_wp2_with fail
      refine (MY.out _ (Below.refl _ _)).mono ?_
      rintro e w5 ⟨ok, rfl, hok, hb⟩
      have HOK := Lib.hid hok
      have HX5 := Lib.hid (HX4.out.below hb)
      have HN5 := Lib.hid (HN4.out.below hb)
      have HNE5 := Lib.hid (HNE4.out.below hb)
      have HXE5 := Lib.hid (HXE.out.below hb)
      have HR5 := Lib.hid (HR4.out.below hb)
      have HB5 := Lib.hid (HB4.out.trans (hb.mono (Nat.le_of_lt HLT4.out)))
      have HBW5 := Lib.hid (HBW4.out.trans (hb.mono HBW4.out.size))
      have HLT5 : Hid (NB < w5.heap.size) := Lib.hid (by have := hb.size; have := HLT4.out; omega)
      clear hok hb c0 c1 c2 c3 c4 c5 c6 MY HX4 HN4 HNE4 HXE HR4 HB4 HBW4 HLT4
      cases ok with
      | false =>
        have hwk : IntKind.i64.wrap ((k : Int) + 1) = ((k + 1 : Nat) : Int) := by unfold IntKind.wrap; simp only [IntKind.bits, IntKind.signed]; simp; omega
        go_wp2
        go_roundw
        case rel => exact ⟨k + 1, _, R, by omega, by omega, rfl, HN5.out, HNV.out, HNE5.out, HNT.out, HR5.out, HB5.out, HLT5.out, HLD.out, HWW.out, by have := HRL.out; omega, HRB.out⟩
        case measure => simp [intOf]; omega
      | true =>
        obtain ⟨hldok, hvg⟩ := HOK.out rfl
        have HMAY := Lib.hid (may_of hldok hvg)
        have HLO := Lib.hid hldok
        clear hldok hvg
        have hba : -1000 ≤ xba ∧ xba ≤ 1125899906842624 := by
          have := HMAY.out.2.2.1
          dsimp only at this
          omega
        have SV := Lib.hid (save_any (H := ⟨nt, nvo, nvs, nsn, nba, nbt, na, nn, ncap, NV, NL⟩) (G := ⟨xt, xvo, .slice ga gz gc, xsn, xba, xbt, xa, xn, xcap, XV, XL⟩) (w := w5) ⟨HNV.out.below HBW5.out, HNE5.out.rd⟩ ⟨HXV.out.below HBW5.out, HXE5.out.rd⟩ HNT.out HXT.out hba)
        dsimp only [Hd.v] at SV
        clear hba
        have HNX := Lib.hid (nxt_ld HLD.out HMAY.out HXT.out)
        have HTH := Lib.hid (svT_head ⟨nt, nvo, nvs, nsn, nba, nbt, na, nn, ncap, NV, NL⟩ ⟨xt, xvo, .slice ga gz gc, xsn, xba, xbt, xa, xn, xcap, XV, XL⟩)
        have HTL := Lib.hid (svT_len1 ⟨nt, nvo, nvs, nsn, nba, nbt, na, nn, ncap, NV, NL⟩ ⟨xt, xvo, .slice ga gz gc, xsn, xba, xbt, xa, xn, xcap, XV, XL⟩ HXT.out)
        have HTN := Lib.hid (svT_len2 ⟨nt, nvo, nvs, nsn, nba, nbt, na, nn, ncap, NV, NL⟩ ⟨xt, xvo, .slice ga gz gc, xsn, xba, xbt, xa, xn, xcap, XV, XL⟩ HXT.out.2.2.1)
        have HT0 := Lib.hid (show svB ⟨nt, nvo, nvs, nsn, nba, nbt, na, nn, ncap, NV, NL⟩ ⟨xt, xvo, .slice ga gz gc, xsn, xba, xbt, xa, xn, xcap, XV, XL⟩ = true → svT ⟨nt, nvo, nvs, nsn, nba, nbt, na, nn, ncap, NV, NL⟩ ⟨xt, xvo, .slice ga gz gc, xsn, xba, xbt, xa, xn, xcap, XV, XL⟩ ≠ [] from fun h => by unfold svT; rw [if_pos h]; simp [svW])
        unfold nxt at HNX
        obtain ⟨T, hT⟩ : ∃ T, T = svT ⟨nt, nvo, nvs, nsn, nba, nbt, na, nn, ncap, NV, NL⟩ ⟨xt, xvo, .slice ga gz gc, xsn, xba, xbt, xa, xn, xcap, XV, XL⟩ := ⟨_, rfl⟩
        obtain ⟨sb, hsb⟩ : ∃ sb, sb = svB ⟨nt, nvo, nvs, nsn, nba, nbt, na, nn, ncap, NV, NL⟩ ⟨xt, xvo, .slice ga gz gc, xsn, xba, xbt, xa, xn, xcap, XV, XL⟩ := ⟨_, rfl⟩
        rw [← hT, ← hsb] at SV HNX HT0
        rw [← hT] at HTH HTL HTN
        clear hT hsb
        obtain ⟨c0, c1, c2, c3, c4, c5, c6⟩ := c7 HN5.out
        obtain ⟨d0, d1, d2, d3, d4, d5, d6⟩ := c7 HX5.out
        go_wp2_with fail
        refine SV.out.mono ?_
        rintro e w6 ⟨sv, rfl, hsv, hb⟩
        have HSV := Lib.hid hsv
        have HX6 := Lib.hid (HX5.out.below hb)
        have HN6 := Lib.hid (HN5.out.below hb)
        have HNE6 := Lib.hid (HNE5.out.below hb)
        have HXE6 := Lib.hid (HXE5.out.below hb)
        have HR6 := Lib.hid (HR5.out.below hb)
        have HB6 := Lib.hid (HB5.out.trans (hb.mono (Nat.le_of_lt HLT5.out)))
        have HBW6 := Lib.hid (HBW5.out.trans (hb.mono HBW5.out.size))
        have HLT6 : Hid (NB < w6.heap.size) := Lib.hid (by have := hb.size; have := HLT5.out; omega)
        clear hsv hb c0 c1 c2 c3 c4 c5 c6 d0 d1 d2 d3 d4 d5 d6 SV HX5 HN5 HNE5 HXE5 HR5 HB5 HBW5 HLT5
        go_upto_region 11 with fail
        go_upto_if 40 with fail
        go_cut [4] from 40 to 40 (fun rv wx => w6 = wx ∧ ∃ R2, OwnV w6 (NB + 1) 9 rv (tv R2) ∧ (if sb = true then T else R ++ T) = R2 ++ T ∧ (R2 = [] ∨ R2 = R) ∧ (R2 ++ T = [] → R = []))
        case first =>
          cases sb with
          | true =>
            go_wp2
            go_meet
            exact ⟨rfl, [], OwnV.nil _ _ _, by simp, .inl rfl, fun h => absurd (by simpa using h) (HT0.out (by first | rfl | trivial))⟩
          | false =>
            go_wp2
            go_meet
            exact ⟨rfl, R, HR6.out, by simp, .inr rfl, fun h => (List.append_eq_nil_iff.1 h).1⟩
        case rest =>
          obtain ⟨rfl, R2, ho2, hR2, hRR, hRE⟩ := hcut
          have HO2 := Lib.hid ho2
          obtain ⟨R', hR'⟩ : ∃ R', R' = R2 ++ T := ⟨_, rfl⟩
          have HNX' : Hid (ldF Hs.zero R' = some (Hd.S ⟨xt, xvo, .slice ga gz gc, xsn, xba, xbt, xa, xn, xcap, XV, XL⟩)) := Lib.hid (by rw [hR', ← hR2]; exact HNX.out)
          have HRE : Hid (R' = [] → R = []) := Lib.hid (by rw [hR']; exact hRE)
          have HRN : Hid (R'.length ≤ 100 * (k + 1)) := Lib.hid (by
            rw [hR', List.length_append]
            have h1 : R2.length ≤ 100 * k := by
              rcases hRR with rfl | rfl
              · exact Nat.zero_le _
              · exact HRL.out
            have := HTN.out
            omega)
          have HRS : Hid (∀ b ∈ R', b.length ≤ 1000) := Lib.hid (by
            rw [hR']
            intro b hb
            rcases List.mem_append.1 hb with hb | hb
            · rcases hRR with rfl | rfl
              · cases hb
              · exact HRB.out b hb
            · exact HTL.out b hb)
          have HRH : Hid (∀ r rs, R' = r :: rs → r ≠ []) := Lib.hid (by
            rw [hR']
            intro r rs he
            rcases hRR with rfl | rfl
            · exact HTH.out r (by rw [show T = r :: rs from he]; exact List.mem_cons_self ..)
            · cases R2 with
              | nil => exact HTH.out r (by rw [show T = r :: rs from he]; exact List.mem_cons_self ..)
              | cons a q =>
                obtain ⟨r', rs', e1, h1⟩ := HWW.out (by simp)
                cases e1
                cases he
                intro h
                rw [h] at h1
                cases h1)
          have hap : tv R' = tv R2 ++ tv T := by rw [hR', tv_app]
          have HAP := Lib.hid hap
          have HBD : Hid ((tv R2).length + (tv T).length ≤ 1000000) := Lib.hid (by
            have h1 : (tv R').length ≤ 100 * (k + 1) := by rw [List.length_map]; exact HRN.out
            rw [hap, List.length_append] at h1
            omega)
          clear ho2 hR2 hRR hRE hap hR'
          go_wp2_with (at_builtin; refine wp_app_strK rfl (.tmp 41) (.tmp 42) rfl (NB + 1) _ (tv R2) (tv T) rfl HO2.out _ rfl HSV.out (tv_one _) HBD.out HLT6.out ?_)
          intro v7 w7 ho7 hb7 hg7
          rw [← HAP.out] at ho7
          have HX7 := Lib.hid (HX6.out.grown9 (by decide) HO2.out hg7)
          have HN7 := Lib.hid (HN6.out.grown9 (by decide) HO2.out hg7)
          have HNE7 := Lib.hid (HNE6.out.grown9 HO2.out hg7)
          have HXE7 := Lib.hid (HXE6.out.grown9 HO2.out hg7)
          have HB7 := Lib.hid (HB6.out.trans (hb7.mono (Nat.le_succ _)))
          have HBW7 : Hid (Below w.heap.size w w7) := Lib.hid (HBW6.out.trans (hb7.mono (by have := HB1.out.size; have := HNB.out; omega)))
          have HLT7 : Hid (NB < w7.heap.size) := Lib.hid (by have := hb7.size; have := HLT6.out; omega)
          have HRV := Lib.hid ho7.rdV
          obtain ⟨ra, rc, rfl, _⟩ := ho7.shape
          have HO7 := Lib.hid ho7
          obtain ⟨z7, hz7⟩ : ∃ z, z = (tv R').length := ⟨_, rfl⟩
          have HZ7 : Hid (z7 = R'.length) := Lib.hid (by rw [hz7, List.length_map])
          rw [← hz7] at HO7 HRV ⊢
          clear ho7 hb7 hg7 hz7 HX6 HN6 HNE6 HXE6 HB6 HBW6 HLT6 HO2 HSV HR6
          by_cases hz0 : z7 = 0
          · have hRnil : R' = [] := List.eq_nil_of_length_eq_zero (by have := HZ7.out; omega)
            have HRN0 := Lib.hid hRnil
            have q1 : ((z7 : Int) == 0) = true := by rw [hz0]; rfl
            have q2 : decide ((0 : Int) < (z7 : Int)) = false := decide_eq_false (by omega)
            have q2' : decide (0 < z7) = false := decide_eq_false (by omega)
            clear hz0 hRnil
            by_cases hk0 : k = 0
            · have q3 : ((k : Int) == 0) = true := by rw [hk0]; rfl
              have hwk : IntKind.i64.wrap ((k : Int) + 1) = ((k + 1 : Nat) : Int) := by unfold IntKind.wrap; simp only [IntKind.bits, IntKind.signed]; simp; omega
              clear hk0
              go_wp2
              go_roundw
              case rel => exact ⟨k + 1, _, R', by omega, by omega, rfl, HN7.out, HNV.out, HNE7.out, HNT.out, HO7.out, HB7.out, HLT7.out, by rw [HRN0.out, ← HRE.out HRN0.out]; exact HLD.out, fun h => absurd h (by rw [HRN0.out]; decide), HRN.out, HRS.out⟩
              case measure => simp [intOf]; omega
            · have q3 : ((k : Int) == 0) = false := by simp; omega
              have HLR := Lib.hid (load_nxt HNX'.out HLO.out (fun h => absurd h (by rw [HRN0.out]; decide)))
              have LR := HLR.out
              have LM := load_any HRV.out (by have := HRN.out; omega) (fun b hb => Nat.le_trans (HRS.out b hb) (by decide))
              clear LR
              go_wp2_with fail
              refine LM.mono ?_
              clear LM
              rintro e w8 ⟨S, lvs, les, er, rfl, hlv, hle, hb, hlr⟩
              have hLR := hlr
              unfold LoadR at hLR
              rw [HLR.out] at hLR
              obtain ⟨rfl, rfl⟩ := hLR
              clear hlr
              obtain ⟨la, lz, lc, rfl⟩ : ∃ x y z, lvs = .slice x y z := let ⟨x, z, e, _⟩ := hlv.shape; ⟨x, _, z, e⟩
              obtain ⟨ma, mz, mc, rfl⟩ : ∃ x y z, les = .slice x y z := let ⟨x, z, e, _⟩ := hle.shape; ⟨x, _, z, e⟩
              dsimp only [Hd.S] at hlv hle ⊢
              have HX8 := Lib.hid (HX7.out.below hb)
              have HN8 := Lib.hid (HN7.out.below hb)
              have HXE8 := Lib.hid (HXE7.out.below hb)
              have HR8 := Lib.hid (HO7.out.below hb)
              have HB8 := Lib.hid (HB7.out.trans (hb.mono (Nat.le_of_lt HLT7.out)))
              have HBW8 := Lib.hid (HBW7.out.trans (hb.mono HBW7.out.size))
              have HLT8 : Hid (NB < w8.heap.size) := Lib.hid (by have := hb.size; have := HLT7.out; omega)
              have hb9 := one_new w8 (.cells #[it xt, it xvo, .slice la lz lc, .string xsn, it xba, it xbt, .slice ma mz mc] 42)
              have HY9 := Lib.hid (Ce.new w8 42 #[it xt, it xvo, .slice la lz lc, .string xsn, it xba, it xbt, .slice ma mz mc])
              have HX9 := Lib.hid (HX8.out.below hb9)
              have HN9 := Lib.hid (HN8.out.below hb9)
              have HXE9 := Lib.hid (HXE8.out.below hb9)
              have HR9 := Lib.hid (HR8.out.below hb9)
              have HB9 := Lib.hid (HB8.out.trans (hb9.mono (Nat.le_of_lt HLT8.out)))
              have HBW9 := Lib.hid (HBW8.out.trans (hb9.mono HBW8.out.size))
              have HLT9 : Hid (NB < (w8.alloc (.cells #[it xt, it xvo, .slice la lz lc, .string xsn, it xba, it xbt, .slice ma mz mc] 42)).heap.size) := Lib.hid (by have := hb9.size; have := HLT8.out; omega)
              have SM := Lib.hid (same_any (S := ⟨xt, xvo, XV, xsn, xba, xbt, XL⟩) (hlv.below hb9) (HXV.out.below HBW9.out) (hle.below hb9) HXE9.out.rd (by have := HXT.out.1; dsimp only at *; omega) (by have := HXT.out.2.2.1; dsimp only at *; omega))
              dsimp only at SM
              clear hlv hle hb hb9 HX8 HN8 HXE8 HR8 HB8 HBW8 HLT8
              go_upto_region 18 with fail
              generalize w8.alloc _ = w9 at *
              obtain ⟨NY, hNY⟩ : ∃ NY, NY = w8.heap.size := ⟨_, rfl⟩
              rw [← hNY] at HY9 ⊢
              clear hNY
              obtain ⟨c0, c1, c2, c3, c4, c5, c6⟩ := c7 HY9.out
              obtain ⟨d0, d1, d2, d3, d4, d5, d6⟩ := c7 HX9.out
              go_wp2_with fail
              refine SM.out.mono ?_
              rintro e w10 ⟨rfl, hb⟩
              have HX10 := Lib.hid (HX9.out.below hb)
              have HN10 := Lib.hid (HN9.out.below hb)
              have HXE10 := Lib.hid (HXE9.out.below hb)
              have HR10 := Lib.hid (HR9.out.below hb)
              have HB10 := Lib.hid (HB9.out.trans (hb.mono (Nat.le_of_lt HLT9.out)))
              have HLT10 : Hid (NB < w10.heap.size) := Lib.hid (by have := hb.size; have := HLT9.out; omega)
              clear hb c0 c1 c2 c3 c4 c5 c6 d0 d1 d2 d3 d4 d5 d6 SM HX9 HN9 HXE9 HR9 HB9 HBW9 HLT9 HY9
              obtain ⟨c0, c1, c2, c3, c4, c5, c6⟩ := c7 HX10.out
              obtain ⟨d0, d1, d2, d3, d4, d5, d6⟩ := c7 HN10.out
              obtain ⟨f2, f3', f4, f5, f6⟩ := f7 HN10.out
              obtain ⟨f0, f1⟩ := f7a HN10.out
              have hwk : IntKind.i64.wrap ((k : Int) + 1) = ((k + 1 : Nat) : Int) := by unfold IntKind.wrap; simp only [IntKind.bits, IntKind.signed]; simp; omega
              go_wp2
              go_roundw
              case rel =>
                have hBF := (((((((HB10.out.setCell (p := ⟨NB, 0, none⟩) (Nat.le_refl _) (it xt)).setCell (p := ⟨NB, 1, none⟩) (Nat.le_refl _) (it xvo)).setCell (p := ⟨NB, 2, none⟩) (Nat.le_refl _) (.slice ga gz gc)).setCell (p := ⟨NB, 3, none⟩) (Nat.le_refl _) (.string xsn)).setCell (p := ⟨NB, 4, none⟩) (Nat.le_refl _) (it xba)).setCell (p := ⟨NB, 5, none⟩) (Nat.le_refl _) (it xbt)).setCell (p := ⟨NB, 6, none⟩) (Nat.le_refl _) (.slice xa xn xcap))
                have hRF := ((((((HR10.out.set (b := NB) (i := 0) (by omega) (it xt)).set (b := NB) (i := 1) (by omega) (it xvo)).set (b := NB) (i := 2) (by omega) (.slice ga gz gc)).set (b := NB) (i := 3) (by omega) (.string xsn)).set (b := NB) (i := 4) (by omega) (it xba)).set (b := NB) (i := 5) (by omega) (it xbt)).set (b := NB) (i := 6) (by omega) (.slice xa xn xcap)
                exact ⟨k + 1, ⟨xt, xvo, .slice ga gz gc, xsn, xba, xbt, xa, xn, xcap, XV, XL⟩, R', by omega, by omega, rfl, set7_ce HN10.out _ _ _ _ _ _ _, HXV.out, HXE10.out.set7 (by omega) _ _ _ _ _ _ _, HXT.out, hRF, hBF, by simpa using HLT10.out, HNX'.out, fun h => absurd h (by rw [HRN0.out]; decide), by have := HRN.out; omega, HRS.out⟩
              case measure => simp [intOf]; omega
          · have q1 : ((z7 : Int) == 0) = false := by simp; omega
            have q2 : (0 : Int) < (z7 : Int) := by omega
            have q2' : 0 < z7 := by omega
            have HQ2 := Lib.hid q2'
            obtain ⟨r0, rs, hrr⟩ : ∃ r rs, R' = r :: rs := by
              cases hR : R' with
              | nil => have := HZ7.out; rw [hR] at this; simp at this; omega
              | cons a b => exact ⟨a, b, rfl⟩
            obtain ⟨c, q, rfl⟩ : ∃ c q, r0 = c :: q := by
              cases r0 with
              | nil => exact absurd rfl (HRH.out _ _ hrr)
              | cons c q => exact ⟨c, q, rfl⟩
            have hat : (tv R')[0]? = some (str (c :: q)) := by rw [hrr]; rfl
            obtain ⟨e1, rg, ro, rfl, hrg, k0⟩ := HRV.out.at hat
            obtain ⟨S0, hS0⟩ : ∃ S0 : ByteArray, S0 = ⟨(c :: q).toArray⟩ := ⟨_, rfl⟩
            unfold str at k0
            rw [← hS0] at k0
            rw [Nat.add_zero] at k0
            obtain ⟨hs0, hsc⟩ := getE (d := S0) (k := 0) (x := c) (by rw [hS0]; rfl)
            have q4 : (S0.toList == []) = false := by rw [ByteArray.toList_eq, hS0]; rfl
            have q4' : S0.toList.isEmpty = false := by rw [ByteArray.toList_eq, hS0]; rfl
            have HRR := Lib.hid hrr
            clear hrr hat e1 hS0
            by_cases hc : c = 87
            · have q5 : ((c.toNat : Int) == 87) = true := by rw [hc]; rfl
              have q5' : (c.toNat == 87) = true := by rw [hc]; rfl
              have HLR := Lib.hid (load_nxt HNX'.out HLO.out (fun _ => ⟨_, _, HRR.out, by show (c == 87) = true; rw [hc]; rfl⟩))
              have HCW := Lib.hid hc
              clear hc
              have LR := HLR.out
              have LM := load_any HRV.out (by have := HRN.out; omega) (fun b hb => Nat.le_trans (HRS.out b hb) (by decide))
              clear LR
              go_wp2_with fail
              refine LM.mono ?_
              clear LM
              rintro e w8 ⟨S, lvs, les, er, rfl, hlv, hle, hb, hlr⟩
              have hLR := hlr
              unfold LoadR at hLR
              rw [HLR.out] at hLR
              obtain ⟨rfl, rfl⟩ := hLR
              clear hlr
              obtain ⟨la, lz, lc, rfl⟩ : ∃ x y z, lvs = .slice x y z := let ⟨x, z, e, _⟩ := hlv.shape; ⟨x, _, z, e⟩
              obtain ⟨ma, mz, mc, rfl⟩ : ∃ x y z, les = .slice x y z := let ⟨x, z, e, _⟩ := hle.shape; ⟨x, _, z, e⟩
              dsimp only [Hd.S] at hlv hle ⊢
              have HX8 := Lib.hid (HX7.out.below hb)
              have HN8 := Lib.hid (HN7.out.below hb)
              have HXE8 := Lib.hid (HXE7.out.below hb)
              have HR8 := Lib.hid (HO7.out.below hb)
              have HB8 := Lib.hid (HB7.out.trans (hb.mono (Nat.le_of_lt HLT7.out)))
              have HBW8 := Lib.hid (HBW7.out.trans (hb.mono HBW7.out.size))
              have HLT8 : Hid (NB < w8.heap.size) := Lib.hid (by have := hb.size; have := HLT7.out; omega)
              have hb9 := one_new w8 (.cells #[it xt, it xvo, .slice la lz lc, .string xsn, it xba, it xbt, .slice ma mz mc] 42)
              have HY9 := Lib.hid (Ce.new w8 42 #[it xt, it xvo, .slice la lz lc, .string xsn, it xba, it xbt, .slice ma mz mc])
              have HX9 := Lib.hid (HX8.out.below hb9)
              have HN9 := Lib.hid (HN8.out.below hb9)
              have HXE9 := Lib.hid (HXE8.out.below hb9)
              have HR9 := Lib.hid (HR8.out.below hb9)
              have HB9 := Lib.hid (HB8.out.trans (hb9.mono (Nat.le_of_lt HLT8.out)))
              have HBW9 := Lib.hid (HBW8.out.trans (hb9.mono HBW8.out.size))
              have HLT9 : Hid (NB < (w8.alloc (.cells #[it xt, it xvo, .slice la lz lc, .string xsn, it xba, it xbt, .slice ma mz mc] 42)).heap.size) := Lib.hid (by have := hb9.size; have := HLT8.out; omega)
              have SM := Lib.hid (same_any (S := ⟨xt, xvo, XV, xsn, xba, xbt, XL⟩) (hlv.below hb9) (HXV.out.below HBW9.out) (hle.below hb9) HXE9.out.rd (by have := HXT.out.1; dsimp only at *; omega) (by have := HXT.out.2.2.1; dsimp only at *; omega))
              dsimp only at SM
              clear hlv hle hb hb9 HX8 HN8 HXE8 HR8 HB8 HBW8 HLT8
              go_upto_region 18 with fail
              generalize w8.alloc _ = w9 at *
              obtain ⟨NY, hNY⟩ : ∃ NY, NY = w8.heap.size := ⟨_, rfl⟩
              rw [← hNY] at HY9 ⊢
              clear hNY
              obtain ⟨c0, c1, c2, c3, c4, c5, c6⟩ := c7 HY9.out
              obtain ⟨d0, d1, d2, d3, d4, d5, d6⟩ := c7 HX9.out
              go_wp2_with fail
              refine SM.out.mono ?_
              rintro e w10 ⟨rfl, hb⟩
              have HX10 := Lib.hid (HX9.out.below hb)
              have HN10 := Lib.hid (HN9.out.below hb)
              have HXE10 := Lib.hid (HXE9.out.below hb)
              have HR10 := Lib.hid (HR9.out.below hb)
              have HB10 := Lib.hid (HB9.out.trans (hb.mono (Nat.le_of_lt HLT9.out)))
              have HLT10 : Hid (NB < w10.heap.size) := Lib.hid (by have := hb.size; have := HLT9.out; omega)
              clear hb c0 c1 c2 c3 c4 c5 c6 d0 d1 d2 d3 d4 d5 d6 SM HX9 HN9 HXE9 HR9 HB9 HBW9 HLT9 HY9
              obtain ⟨c0, c1, c2, c3, c4, c5, c6⟩ := c7 HX10.out
              obtain ⟨d0, d1, d2, d3, d4, d5, d6⟩ := c7 HN10.out
              obtain ⟨f2, f3', f4, f5, f6⟩ := f7 HN10.out
              obtain ⟨f0, f1⟩ := f7a HN10.out
              have hwk : IntKind.i64.wrap ((k : Int) + 1) = ((k + 1 : Nat) : Int) := by unfold IntKind.wrap; simp only [IntKind.bits, IntKind.signed]; simp; omega
              go_wp2
              go_roundw
              case rel =>
                have hBF := (((((((HB10.out.setCell (p := ⟨NB, 0, none⟩) (Nat.le_refl _) (it xt)).setCell (p := ⟨NB, 1, none⟩) (Nat.le_refl _) (it xvo)).setCell (p := ⟨NB, 2, none⟩) (Nat.le_refl _) (.slice ga gz gc)).setCell (p := ⟨NB, 3, none⟩) (Nat.le_refl _) (.string xsn)).setCell (p := ⟨NB, 4, none⟩) (Nat.le_refl _) (it xba)).setCell (p := ⟨NB, 5, none⟩) (Nat.le_refl _) (it xbt)).setCell (p := ⟨NB, 6, none⟩) (Nat.le_refl _) (.slice xa xn xcap))
                have hRF := ((((((HR10.out.set (b := NB) (i := 0) (by omega) (it xt)).set (b := NB) (i := 1) (by omega) (it xvo)).set (b := NB) (i := 2) (by omega) (.slice ga gz gc)).set (b := NB) (i := 3) (by omega) (.string xsn)).set (b := NB) (i := 4) (by omega) (it xba)).set (b := NB) (i := 5) (by omega) (it xbt)).set (b := NB) (i := 6) (by omega) (.slice xa xn xcap)
                exact ⟨k + 1, ⟨xt, xvo, .slice ga gz gc, xsn, xba, xbt, xa, xn, xcap, XV, XL⟩, R', by omega, by omega, rfl, set7_ce HN10.out _ _ _ _ _ _ _, HXV.out, HXE10.out.set7 (by omega) _ _ _ _ _ _ _, HXT.out, hRF, hBF, by simpa using HLT10.out, HNX'.out, fun _ => ⟨_, _, HRR.out, by show (c == 87) = true; rw [HCW.out]; rfl⟩, by have := HRN.out; omega, HRS.out⟩
              case measure => simp [intOf]; omega
            · have hcn : ¬ c.toNat = 87 := fun h => hc (by
                have : c = UInt8.ofNat c.toNat := by simp
                rw [this, h]; rfl)
              have q5 : ((c.toNat : Int) == 87) = false := by simp; omega
              have q5' : (c.toNat == 87) = false := by simpa using hcn
              clear hc hcn
              go_wp2
              go_ret
              exact ⟨rfl, HBW7.out⟩
    · have HBF := Lib.hid (HB1.out.trans (hbr.mono (by have := HB1.out.size; have := HNB.out; omega)))
      clear hN hNV hNE hNT hR hbr hlt0 hld hW hRl hRb
      by_cases h1 : k < m
      · have q1 : (k : Int) < (m : Int) := by omega
        have q2 : decide ((k : Int) < 12) = false := decide_eq_false (by omega)
        have q2' : decide (k < 12) = false := decide_eq_false (by omega)
        go_wp2
        go_ret
        exact ⟨rfl, HBF.out⟩
      · have q1 : decide ((k : Int) < (m : Int)) = false := decide_eq_false (by omega)
        have q1' : decide (k < m) = false := decide_eq_false (by omega)
        go_wp2
        go_ret
        exact ⟨rfl, HBF.out⟩
end Go.Proofs.Ytopnmiakljpgbaa

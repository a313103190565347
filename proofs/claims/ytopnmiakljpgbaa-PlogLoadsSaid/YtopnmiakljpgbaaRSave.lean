/-
  Saving, as the document says.
-/
import Derived.Test.YtopnmiakljpgbaaSave
namespace Go.Proofs.Ytopnmiakljpgbaa
open Go.RowKit
theorem dif_lt_true {α : Type} (T : α → α → Bool) : ∀ (A B : List α) (k : Nat) (a b : α), k < dif T A B → A[k]? = some a → B[k]? = some b → T a b = true
  | x :: r, y :: s, k, a, b, hk, ha, hb => by
    unfold dif at hk
    split at hk
    · rename_i h
      cases k with
      | zero => simp at ha hb; subst ha hb; exact h
      | succ k => exact dif_lt_true T r s k a b (by omega) (by simpa using ha) (by simpa using hb)
    · omega
  | [], _, _, _, _, _, ha, _ => by simp at ha
  | _ :: _, [], _, _, _, _, _, hb => by simp at hb
theorem dif_at_false {α : Type} (T : α → α → Bool) : ∀ (A B : List α) (a b : α), A[dif T A B]? = some a → B[dif T A B]? = some b → T a b = false
  | x :: r, y :: s, a, b, ha, hb => by
    unfold dif at ha hb
    split at ha
    · rename_i h
      rw [if_pos h] at hb
      exact dif_at_false T r s a b (by simpa using ha) (by simpa using hb)
    · rename_i h
      rw [if_neg h] at hb
      simp at ha hb
      subst ha hb
      simpa using h
  | [], _, _, _, ha, _ => by simp at ha
  | _ :: _, [], _, _, _, hb => by simp at hb
theorem difI_all (A B : List Int) : (decide (A.length = B.length) && decide (dif eqI A B = A.length)) = decide (A = B) := by
  by_cases h : A = B
  · subst h
    rw [dif_end eqI A A (fun i a b ha hb => by rw [ha] at hb; cases hb; simp [eqI])]
    simp
  · rw [decide_eq_false h]
    by_cases hl : A.length = B.length
    · have : ¬ dif eqI A B = A.length := by
        intro he
        apply h
        apply List.ext_getElem? 
        intro i
        by_cases hi : i < A.length
        · have h1 := List.getElem?_eq_getElem hi
          have h2 := List.getElem?_eq_getElem (show i < B.length by omega)
          have := dif_lt_true eqI A B i _ _ (by omega) h1 h2
          rw [h1, h2]
          have := of_decide_eq_true this
          rw [this]
        · rw [List.getElem?_eq_none (by omega), List.getElem?_eq_none (by omega)]
      simp [this]
    · simp [hl]
theorem alk_all (H G : Hd) : alk H G = (decide (H.ba = G.ba) && decide (H.bt = G.bt) && decide (H.V = G.V) && decide (H.sn = G.sn)) := by
  unfold alk
  rw [← difI_all]
  cases decide (H.ba = G.ba) <;> cases decide (H.bt = G.bt) <;> cases decide (H.sn = G.sn) <;> cases decide (H.V.length = G.V.length) <;> simp
set_option maxRecDepth 100000 in
set_option maxHeartbeats 12800000 in
theorem rsave_any {H G : Hd} {w : World} (hH : H.Rd w) (hG : G.Rd w) (tH : H.Tame) (tG : G.Tame) (hb : -1000 ≤ G.ba ∧ G.ba ≤ 1125899906842624) :
    Calls Try.prog 33 #[H.v, G.v] w fun e w' => ∃ v, e = .returned (.tuple #[v, .bool (svB H G)]) ∧ RdV w' v (tv (svT H G)) ∧ Below w.heap.size w w' := by
  obtain ⟨pV, pS, pL, pD⟩ := tG
  obtain ⟨oV, oS, oL, oD⟩ := tH
  have F1 : Hid (∀ w', Below w.heap.size w w' → Calls Try.prog 55 #[G.v] w' fun e w'' => ∃ v, e = .returned v ∧ OwnV w'' w'.heap.size 9 v (tv (svW G)) ∧ Below w'.heap.size w' w'') := Lib.hid (fun w' hb' => whole_any ⟨hG.1.below hb', hG.2.below hb'⟩ hb (by omega) (by omega) (by omega) (fun e he => by have := pD e he; omega))
  have F3 : Hid (∀ w', Below w.heap.size w w' → Calls Try.prog 26 #[H.vs, G.vs] w' fun e w'' => e = .returned (.bool (decide (H.V = G.V))) ∧ Below w'.heap.size w' w'') := Lib.hid (fun w' hb => sameInts_any (hH.1.below hb) (hG.1.below hb) (by omega))
  have F5 : Hid (∀ w' (k : Nat) x, G.L[k]? = some x → Below w.heap.size w w' → Calls Try.prog 57 #[lv G.ba G.bt (.slice G.a G.n G.cap), it k] w' fun e w'' => e = .returned (str (entB (G.ba + k + 1) x)) ∧ Below w'.heap.size w' w'') := Lib.hid (fun w' k x hx hb' => entry_any (hG.2.below hb') hb k x hx (by omega) (by have := pD x (List.mem_of_getElem? hx); omega))
  have F6 : Hid (∀ (x : Int) w', Calls Try.prog 56 #[it x] w' fun e w'' => e = .returned (str (nb8 x)) ∧ Below w'.heap.size w' w'') := Lib.hid (fun x w' => number_any x w')
  have hn1 : H.n = H.L.length := hH.2.len
  have hn2 : G.n = G.L.length := hG.2.len
  have hdl := dif_le sameA H.L G.L
  have ht1 := Lib.hid (dif_lt_true sameA H.L G.L)
  have ht2 := Lib.hid (dif_at_false sameA H.L G.L)
  obtain ⟨n, hn⟩ : ∃ n, n = svN H G := ⟨_, rfl⟩
  have hn' : dif sameA H.L G.L = n := hn.symm
  rw [hn'] at hdl ht1 ht2
  obtain ⟨c, hc⟩ : ∃ c, c = alk H G := ⟨_, rfl⟩
  have HC : Hid (c = (decide (H.ba = G.ba) && decide (H.bt = G.bt) && decide (H.V = G.V) && decide (H.sn = G.sn))) := Lib.hid (by rw [hc, alk_all])
  obtain ⟨S, hS⟩ : ∃ S, S = svS H G := ⟨_, rfl⟩
  have hS2 : S = (decide (n = G.L.length) && decide (n < H.L.length)) := by rw [hS]; unfold svS; rw [hn]
  have HB : Hid (svB H G = (S || !c)) := Lib.hid (by unfold svB; rw [hS, hc])
  have HT : Hid (svT H G = if (S || !c) = true then svW G else svR H G ++ entsB (G.ba + (n : Nat)) (G.L.drop n)) := Lib.hid (by unfold svT svP; rw [HB.out, ← hn])
  obtain ⟨T, hT⟩ : ∃ T, T = svT H G := ⟨_, rfl⟩
  obtain ⟨bb, hbb⟩ : ∃ bb, bb = svB H G := ⟨_, rfl⟩
  rw [← hT] at HT ⊢
  rw [← hbb] at HB ⊢
  obtain ⟨va, vc, hvs, _⟩ := hH.1.shape
  obtain ⟨ua, uc, hus, _⟩ := hG.1.shape
  have HV := Lib.hid hH.2
  have HU := Lib.hid hG.2
  obtain ⟨t, vo, vs, sn, ba, bt, a, nh, cap, V, L⟩ := H
  obtain ⟨t', vo', vs', sn', ba', bt', a', ng, cap', V', L'⟩ := G
  dsimp only [Hd.v] at *
  have hS3 : S = (decide (n = ng) && decide (n < nh)) := by rw [hS2, hn1, hn2]
  rw [← hn1, ← hn2] at hdl
  have HSS := Lib.hid hS3
  have HNG : Hid (ng ≤ 40) := Lib.hid (by omega)
  have HNH : Hid (nh ≤ 40) := Lib.hid (by omega)
  have HLL : Hid (L'.length ≤ 40) := Lib.hid pL
  have HL1 := Lib.hid hn1
  have HL2 := Lib.hid hn2
  have HA := Lib.hid (two_new w #[it t, it vo, vs, .string sn, it ba, it bt, .slice a nh cap] #[it t', it vo', vs', .string sn', it ba', it bt', .slice a' ng cap'] 42 42)
  obtain ⟨zv, hzv⟩ : ∃ z, z = decide (V = V') := ⟨_, rfl⟩
  rw [← hzv] at F3 HC
  clear hT hbb hS hc hn hn' hS2 hS3 hn1 hn2 hH hG oV oS oL oD pV pS pL pD hb hvs hus hzv
  go_enter Try.func33, Try.ntmps33
  go_upto_region 1 with fail
  generalize (w.alloc _).alloc _ = wA at *
  obtain ⟨B, hB⟩ : ∃ B, B = w.heap.size := ⟨_, rfl⟩
  have HBB := Lib.hid hB
  rw [← hB] at HA ⊢
  have HW : Hid (Below B w wA) := Lib.hid HA.out.2.2.2
  clear hB
  obtain ⟨c0, c1, c2, c3', c4, c5, c6⟩ := c7 HA.out.1
  obtain ⟨d0, d1, d2, d3, d4, d5, d6⟩ := c7 HA.out.2.1
  go_wp2_with fail
  refine (F3.out _ (by rw [← HBB.out]; exact HW.out)).mono ?_
  rintro e w2 ⟨rfl, hb2⟩
  have HW2 : Hid (Below B w w2) := Lib.hid (HW.out.trans (hb2.mono (by have := HA.out.2.2.1; omega)))
  have HC2 := Lib.hid (HA.out.1.below hb2)
  have HD2 := Lib.hid (HA.out.2.1.below hb2)
  have HZ2 : Hid (B + 2 ≤ w2.heap.size) := Lib.hid (by have := HA.out.2.2.1; have := hb2.size; omega)
  clear hb2 c0 c1 c2 c3' c4 c5 c6 d0 d1 d2 d3 d4 d5 d6 F3 HA HW
  obtain ⟨c0, c1, c2, c3', c4, c5, c6⟩ := c7 HC2.out
  obtain ⟨d0, d1, d2, d3, d4, d5, d6⟩ := c7 HD2.out
  go_upto_region 2 with fail
  obtain ⟨cn, hcn⟩ : ∃ cn, cn = !c := ⟨_, rfl⟩
  have HCN := Lib.hid hcn
  clear hcn
  go_cut [41] from 15 to 41 (fun v wx => v = .bool cn ∧ w2 = wx)
  case first =>
    have hCC := HC.out
    by_cases e1 : ba = ba'
    · have q1 : (ba != ba') = false := by simpa using e1
      have E1 := Lib.hid e1
      clear e1
      by_cases e2 : bt = bt'
      · have q2 : (bt != bt') = false := by simpa using e2
        have E2 := Lib.hid e2
        clear e2
        cases zv with
        | false =>
          go_wp2
          all_goals
            go_meet
            exact ⟨congrArg Value.bool (by rw [HCN.out, hCC]; simp), rfl⟩
        | true =>
          by_cases e3 : sn = sn'
          · subst e3
            go_wp2
            all_goals
              go_meet
              exact ⟨congrArg Value.bool (by rw [HCN.out, hCC, decide_eq_true E1.out, decide_eq_true E2.out]; simp), rfl⟩
          · have e4 : ¬ sn.toList = sn'.toList := fun h => e3 (tl_eq.1 h)
            have E3 := Lib.hid e3
            clear e3
            go_wp2
            all_goals
              go_meet
              exact ⟨congrArg Value.bool (by rw [HCN.out, hCC, decide_eq_false E3.out]; first | (simp; done) | simpa using e4), rfl⟩
      · have q2 : (bt != bt') = true := by simpa using e2
        go_wp2
        all_goals
          go_meet
          exact ⟨congrArg Value.bool (by rw [HCN.out, hCC, decide_eq_false e2]; simp), rfl⟩
    · have q1 : (ba != ba') = true := by simpa using e1
      go_wp2
      all_goals
        go_meet
        exact ⟨congrArg Value.bool (by rw [HCN.out, hCC, decide_eq_false e1]; simp), rfl⟩
  case rest =>
    obtain ⟨rfl, rfl⟩ := hcut
    cases c with
    | false =>
      obtain rfl : cn = true := HCN.out
      have HB : Hid (bb = true) := Lib.hid (by rw [HB.out]; simp)
      have HT : Hid (T = svW _) := Lib.hid (by rw [HT.out, if_pos (by simp)])
      go_wp2_with fail
      refine (F1.out _ (by rw [← HBB.out]; exact HW2.out)).mono ?_
      rintro e w3 ⟨v3, rfl, ho3, hb3⟩
      have HO3 := Lib.hid ho3.rdV
      have HB3 := Lib.hid (HW2.out.trans (hb3.mono (by have := HZ2.out; omega)))
      clear ho3 hb3
      go_wp2
      go_ret2
      refine ⟨_, by rw [HB.out]; rfl, ?_, by rw [← HBB.out]; exact HB3.out⟩
      rw [HT.out]
      exact HO3.out
    | true =>
      obtain rfl : cn = false := HCN.out
      go_upto_block 0 with fail
      go_cut [7] from 44 to 74 (fun v wx => v = it (n : Nat) ∧ Below w2.heap.size w2 wx)
      case first =>
        go_wp2_with fail
        go_loopw [7] (fun i wr => ∃ k : Nat, k ≤ n ∧ i = it (k : Int) ∧ Below w2.heap.size w2 wr) (fun i _ => n - (intOf i).toNat)
        case atStart => exact ⟨0, by omega, rfl, Below.refl _ _⟩
        case round =>
          obtain ⟨k, hk, rfl, hbr⟩ := hrel
          have HBR := Lib.hid hbr
          have HBW := Lib.hid (show Below w.heap.size w wr by rw [← HBB.out]; exact HW2.out.trans (hbr.mono (by have := HZ2.out; omega)))
          clear c0 c1 c2 c3' c4 c5 c6 d0 d1 d2 d3 d4 d5 d6
          obtain ⟨c0, c1, c2, c3', c4, c5, c6⟩ := c7 (HC2.out.below hbr)
          obtain ⟨d0, d1, d2, d3, d4, d5, d6⟩ := c7 (HD2.out.below hbr)
          clear hbr
          have HKN : Hid (k < n → k < nh ∧ k < ng) := Lib.hid (fun h => by omega)
          have HDL := Lib.hid hdl
          have hk40 : k < nh → k ≤ 40 := fun h => by have := HNH.out; omega
          by_cases h1 : k < nh
          · have p1 : (k : Int) < (nh : Int) := by omega
            have hk41 : k ≤ 40 := hk40 h1
            by_cases h2 : k < ng
            · have p2 : (k : Int) < (ng : Int) := by omega
              obtain ⟨x, hx⟩ : ∃ s, L[k]? = some s := ⟨_, List.getElem?_eq_getElem (by have := HL1.out; omega)⟩
              obtain ⟨y, hy⟩ : ∃ t, L'[k]? = some t := ⟨_, List.getElem?_eq_getElem (by have := HL2.out; omega)⟩
              obtain ⟨e1, g, o, rfl, hg, x0, x1, x2⟩ := (HV.out.below HBW.out).at hx
              obtain ⟨e2, g', o', rfl, hg', y0, y1, y2⟩ := (HU.out.below HBW.out).at hy
              have HX := Lib.hid hx
              have HY := Lib.hid hy
              clear hx hy e1 e2 hdl
              by_cases he : x = y
              · have hkn : k < n := by
                  rcases Nat.lt_or_ge k n with h | h
                  · exact h
                  · have : k = n := by omega
                    subst this
                    have := ht2.out x y HX.out HY.out
                    rw [he] at this
                    simp [sameA] at this
                subst he
                go_wp2_with fail
                go_quiet (fail)
                go_wp2
                go_roundw
                case rel => exact ⟨k + 1, by omega, by go_num, HBR.out.trans ((below_drewN _ _).mono HBR.out.size)⟩
                case measure => simp [intOf]; omega
              · have hkn : k = n := by
                  rcases Nat.lt_or_ge k n with h | h
                  · have := ht1.out k x y h HX.out HY.out
                    exact absurd (of_decide_eq_true this) he
                  · omega
                have HKK := Lib.hid hkn
                obtain ⟨xt, xk, xd⟩ := x
                obtain ⟨yt, yk, yd⟩ := y
                have hne := en_ne he
                simp only at hne x0 x1 x2 y0 y1 y2
                clear he HX HY hkn
                rcases hne with h1 | ⟨rfl, h2⟩ | ⟨rfl, rfl, h3⟩
                all_goals
                  go_wp2_with fail
                  go_quiet (fail)
                  go_wp2
                  go_meet
                  exact ⟨by rw [HKK.out], HBR.out.trans ((below_drewN _ _).mono HBR.out.size)⟩
            · have p2 : decide ((k : Int) < (ng : Int)) = false := decide_eq_false (by omega)
              have HKK : Hid (k = n) := Lib.hid (by omega)
              clear hdl
              go_wp2_with fail
              go_quiet (fail)
              go_wp2
              go_meet
              exact ⟨by rw [HKK.out], HBR.out.trans ((below_drewN _ _).mono HBR.out.size)⟩
          · have p1 : decide ((k : Int) < (nh : Int)) = false := decide_eq_false (by omega)
            have HKK : Hid (k = n) := Lib.hid (by omega)
            clear hdl
            go_wp2_with fail
            go_quiet (fail)
            go_wp2
            go_meet
            exact ⟨by rw [HKK.out], HBR.out.trans ((below_drewN _ _).mono HBR.out.size)⟩
      case rest =>
        obtain ⟨rfl, hb3⟩ := hcut
        obtain ⟨wd, rfl⟩ : ∃ wd, wd = wc := ⟨_, rfl⟩
        have HWc : Hid (Below B w wd) := Lib.hid (HW2.out.trans (hb3.mono (by have := HZ2.out; omega)))
        have HCc := Lib.hid (HC2.out.below hb3)
        have HDc := Lib.hid (HD2.out.below hb3)
        have HZc : Hid (B + 2 ≤ wd.heap.size) := Lib.hid (by have := HZ2.out; have := hb3.size; omega)
        clear hb3 c0 c1 c2 c3' c4 c5 c6 d0 d1 d2 d3 d4 d5 d6 ht1 ht2 HW2 HC2 HD2 HZ2
        obtain ⟨c0, c1, c2, c3', c4, c5, c6⟩ := c7 HCc.out
        obtain ⟨d0, d1, d2, d3, d4, d5, d6⟩ := c7 HDc.out
        have HDL := Lib.hid hdl
        clear hdl
        go_upto_region 7 with fail
        go_cut [88] from 75 to 88 (fun v wx => v = .bool S ∧ wd = wx)
        case first =>
          have hSS := HSS.out
          by_cases e1 : n = ng
          · have q1 : ((n : Int) == (ng : Int)) = true := by rw [e1]; simp
            have E1 := Lib.hid e1
            clear e1
            by_cases e2 : n < nh
            · have q2 : (n : Int) < (nh : Int) := by omega
              go_wp2
              all_goals
                go_meet
                exact ⟨congrArg Value.bool (by rw [hSS, decide_eq_true E1.out, decide_eq_true e2]; rfl), rfl⟩
            · have q2 : decide ((n : Int) < (nh : Int)) = false := decide_eq_false (by omega)
              go_wp2
              all_goals
                go_meet
                exact ⟨congrArg Value.bool (by rw [hSS, decide_eq_true E1.out, decide_eq_false e2]; rfl), rfl⟩
          · have q1 : ((n : Int) == (ng : Int)) = false := by simp; omega
            go_wp2
            all_goals
              go_meet
              exact ⟨congrArg Value.bool (by rw [hSS, decide_eq_false e1]; rfl), rfl⟩
        case rest =>
          obtain ⟨rfl, rfl⟩ := hcut
          cases S with
          | true =>
            have HB : Hid (bb = true) := Lib.hid (by rw [HB.out]; simp)
            have HT : Hid (T = svW _) := Lib.hid (by rw [HT.out, if_pos (by simp)])
            go_wp2_with fail
            refine (F1.out _ (by rw [← HBB.out]; exact HWc.out)).mono ?_
            rintro e w3 ⟨v3, rfl, ho3, hb3⟩
            have HO3 := Lib.hid ho3.rdV
            have HB3 := Lib.hid (HWc.out.trans (hb3.mono (by have := HZc.out; omega)))
            clear ho3 hb3
            go_wp2
            go_ret2
            refine ⟨_, by rw [HB.out]; rfl, ?_, by rw [← HBB.out]; exact HB3.out⟩
            rw [HT.out]
            exact HO3.out
          | false =>
            have HB : Hid (bb = false) := Lib.hid (by rw [HB.out]; simp)
            obtain ⟨X, hX⟩ : ∃ X, X = svR ⟨t, vo, vs, sn, ba, bt, a, nh, cap, V, L⟩ ⟨t', vo', vs', sn', ba', bt', a', ng, cap', V', L'⟩ := ⟨_, rfl⟩
            have HT4 : Hid (T = X ++ entsB (ba' + (n : Nat)) (L'.drop n)) := Lib.hid (by rw [HT.out, hX]; rfl)
            have hX2 : X = if t = t' ∧ vo = vo' then [] else [84 :: numsB [t', vo']] := hX
            have HXL : Hid (X.length ≤ 1) := Lib.hid (by rw [hX2]; split <;> simp)
            have HX2 := Lib.hid hX2
            clear hX hX2
            go_upto_region 10 with fail
            obtain ⟨qb, hqb⟩ : ∃ qb, qb = decide (¬ (t = t' ∧ vo = vo')) := ⟨_, rfl⟩
            have HQB := Lib.hid hqb
            clear hqb
            go_cut [102] from 91 to 102 (fun v wx => v = .bool qb ∧ wd = wx)
            case first =>
              by_cases e1 : t = t'
              · subst e1
                by_cases e2 : vo = vo'
                · subst e2
                  go_wp2
                  all_goals
                    go_meet
                    exact ⟨congrArg Value.bool (by rw [HQB.out]; simp), rfl⟩
                · have q1 : (vo != vo') = true := by simpa using e2
                  go_wp2
                  all_goals
                    go_meet
                    exact ⟨congrArg Value.bool (by rw [HQB.out]; simp [e2]), rfl⟩
              · have q1 : (t != t') = true := by simpa using e1
                go_wp2
                all_goals
                  go_meet
                  exact ⟨congrArg Value.bool (by rw [HQB.out]; simp [e1]), rfl⟩
            case rest =>
              obtain ⟨rfl, rfl⟩ := hcut
              go_upto_if 102 with fail
              go_cut [8] from 103 to 113 (fun v wx => OwnV wx (B + 2) 9 v (tv X) ∧ Below (B + 2) wd wx)
              case first =>
                cases qb with
                | false =>
                  have HX0 : Hid (X = []) := Lib.hid (by rw [HX2.out, if_pos (by have := HQB.out; simpa using this)])
                  go_wp2
                  go_meet
                  rw [HX0.out]
                  exact ⟨OwnV.nil _ _ _, Below.refl _ _⟩
                | true =>
                  have HX0 : Hid (X = [84 :: numsB [t', vo']]) := Lib.hid (by rw [HX2.out, if_neg (of_decide_eq_true HQB.out.symm)])
                  obtain ⟨sT, hT⟩ : ∃ N : ByteArray, N = ⟨(nb8 t').toArray⟩ := ⟨_, rfl⟩
                  obtain ⟨sO, hO⟩ : ∃ N : ByteArray, N = ⟨(nb8 vo').toArray⟩ := ⟨_, rfl⟩
                  have NT : Hid (∀ w', Calls Try.prog 56 #[it t'] w' fun e w'' => e = .returned (.string sT) ∧ Below w'.heap.size w' w'') := Lib.hid (fun w' => by rw [hT]; exact F6.out _ w')
                  have NO : Hid (∀ w', Calls Try.prog 56 #[it vo'] w' fun e w'' => e = .returned (.string sO) ∧ Below w'.heap.size w' w'') := Lib.hid (fun w' => by rw [hO]; exact F6.out _ w')
                  have y1 : sT.size = 8 := by rw [hT, ba_len]; rfl
                  have y2 : sO.size = 8 := by rw [hO, ba_len]; rfl
                  obtain ⟨s1, h1⟩ : ∃ s : ByteArray, s = ⟨#[84]⟩ ++ sT := ⟨_, rfl⟩
                  have z1 : s1.size = 9 := by rw [h1, ByteArray.size_append, y1]; rfl
                  obtain ⟨s2, h2⟩ : ∃ s : ByteArray, s = s1 ++ sO := ⟨_, rfl⟩
                  have HS2 : Hid (s2 = ⟨(84 :: numsB [t', vo']).toArray⟩) := Lib.hid (by
                    rw [h2, h1, hT, hO, show (⟨#[84]⟩ : ByteArray) = ⟨([84] : Bs).toArray⟩ from rfl, ba_app, ba_app]
                    simp [numsB_two])
                  have add1 := add_str h1 (by decide) (by omega)
                  have add2 := add_str h2 (by omega) (by omega)
                  clear hT hO y1 y2 h1 h2 z1
                  go_upto_region 11 with fail
                  have H0 : Hid (Below wd.heap.size wd wd.drew) := Lib.hid (Below.refl _ wd).drew
                  have HK := Lib.hid (fun w' (hb : Below wd.heap.size wd w') => c7 (HDc.out.below hb))
                  have HN3 : Hid (∀ w', OwnV w' (B + 2) 9 (.slice none 0 0) []) := Lib.hid (fun _ => OwnV.nil _ _ _)
                  have HKA := Lib.hid (fun (w4 w5 : World) (hb4 : Below wd.heap.size wd w4) (hb : Below (B + 2) w4 w5) => c7 (show Ce w5 (B + 1) 42 _ from (hb.block (B + 1) (by omega)).trans (HDc.out.below hb4)))
                  go_region_held3 (fun w' => w'.cell? ⟨B + 1, 0, none⟩ = some (it t') ∧ w'.cell? ⟨B + 1, 1, none⟩ = some (it vo') ∧ w'.cell? ⟨B + 1, 2, none⟩ = some vs' ∧ w'.cell? ⟨B + 1, 3, none⟩ = some (.string sn') ∧ w'.cell? ⟨B + 1, 4, none⟩ = some (it ba') ∧ w'.cell? ⟨B + 1, 5, none⟩ = some (it bt') ∧ w'.cell? ⟨B + 1, 6, none⟩ = some (.slice a' ng cap'))
                    (first | with_reducible exact HKA.out _ _ B4n.out HP6.out | with_reducible exact HK.out _ B4n.out | with_reducible exact HK.out _ B4.out | with_reducible exact HK.out _ B3.out | with_reducible exact HK.out _ H0.out | fail)
                    (first
                      | (go_at_call 56; with_reducible refine (NT.out _).mono ?_; rintro e w3 ⟨rfl, hb⟩; have B3 : Hid (Below wd.heap.size wd w3) := Lib.hid (H0.out.trans (hb.mono H0.out.size)); clear hb)
                      | (go_at_call 56; with_reducible refine (NO.out _).mono ?_; rintro e w4 ⟨rfl, hb⟩; have B4 : Hid (Below wd.heap.size wd w4) := Lib.hid (B3.out.trans (hb.mono B3.out.size)); have B4n := Lib.hid (B4.out.trans ((one_new w4 (.cells #[.string s2] 9)).mono B4.out.size)); have RV := Lib.hid (OwnV.one w4 (B + 2) 9 (.string s2) (by have := HZc.out; have := B4.out.size; omega)).rdV; clear hb)
                      | (rw [if_pos (by rfl)]; refine op_app_vals 50 9 _ 16 Try.underlying50 info9 rfl (by decide) (.tmp 103) (.tmp 112) rfl (B + 2) _ [] [.string s2] rfl (HN3.out _) _ rfl RV.out (by simp [Value.oneCell']) (by simp) (by have := HZc.out; have := B4n.out.size; omega) ?_; intro v6 w6 ho6 hb6; have O6 := Lib.hid ho6; have HP6 := Lib.hid hb6; clear ho6 hb6)
                      | fail)
                  go_wp2
                  go_meet
                  rw [HX0.out]
                  have h6 := O6.out
                  rw [HS2.out] at h6
                  exact ⟨h6, (B4n.out.mono HZc.out).trans HP6.out⟩
              case rest =>
                obtain ⟨ho, hb⟩ := hcut
                have HO5 := Lib.hid ho
                have HXc : Hid (Below (B + 2) wd wc) := Lib.hid hb
                have HDx : Hid (Ce wc (B + 1) 42 _) := Lib.hid ((hb.block (B + 1) (by omega)).trans HDc.out)
                have HZx : Hid (B + 2 ≤ wc.heap.size) := Lib.hid (by have := hb.size; have := HZc.out; omega)
                have HDx0 := HDc
                clear ho hb c0 c1 c2 c3' c4 c5 c6 d0 d1 d2 d3 d4 d5 d6 HDc HCc
                obtain ⟨wx, rfl⟩ : ∃ wx, wx = wc := ⟨_, rfl⟩
                go_upto_region 13 with fail
                go_loopw [8, 9] (fun ov i wr => ∃ k : Nat, n ≤ k ∧ k ≤ ng ∧ i = it (k : Int) ∧ OwnV wr (B + 2) 9 ov (tv (X ++ entsB (ba' + (n : Nat)) ((L'.drop n).take (k - n)))) ∧ Below (B + 2) wd wr) (fun _ i _ => ng - (intOf i).toNat)
                case atStart => exact ⟨n, Nat.le_refl _, by have := HDL.out; omega, rfl, by rw [Nat.sub_self, List.take_zero, show entsB (ba' + (n : Nat)) [] = [] from rfl, List.append_nil]; exact HO5.out, HXc.out⟩
                case round =>
                  obtain ⟨k, hkn, hk, rfl, ho, hbr⟩ := hrel
                  have HBR := Lib.hid hbr
                  have HBW := Lib.hid (show Below w.heap.size w wr by rw [← HBB.out]; exact HWc.out.trans (hbr.mono (by omega)))
                  obtain ⟨d0, d1, d2, d3, d4, d5, d6⟩ := c7 (show Ce wr (B + 1) 42 _ from (hbr.block (B + 1) (by omega)).trans HDx0.out)
                  have HZr : Hid (B + 2 ≤ wr.heap.size) := Lib.hid (by have := hbr.size; have := HZc.out; omega)
                  clear hbr
                  by_cases hlt : k < ng
                  · have p1 : (k : Int) < (ng : Int) := by omega
                    obtain ⟨x, hx⟩ : ∃ x, L'[k]? = some x := ⟨_, List.getElem?_eq_getElem (by have := HL2.out; omega)⟩
                    have hx2 : (L'.drop n)[k - n]? = some x := by rw [List.getElem?_drop, show n + (k - n) = k by omega]; exact hx
                    have hcall := F5.out wr k x hx HBW.out
                    have hlen : (tv (X ++ entsB (ba' + (n : Nat)) ((L'.drop n).take (k - n)))).length ≤ 1000 := by
                      rw [List.length_map, List.length_append, entsB_len, List.length_take]
                      have := HXL.out; have := HNG.out; omega
                    have hend : tv (X ++ entsB (ba' + (n : Nat)) ((L'.drop n).take (k - n))) ++ [str (entB (ba' + k + 1) x)] = tv (X ++ entsB (ba' + (n : Nat)) ((L'.drop n).take (k + 1 - n))) := by
                      rw [show k + 1 - n = (k - n) + 1 by omega, take_succ_of hx2, entsB_snoc]
                      have : ((L'.drop n).take (k - n)).length = k - n := by rw [List.length_take, List.length_drop]; have := HL2.out; omega
                      rw [this, show ba' + (n : Nat) + ((k - n : Nat) : Int) + 1 = ba' + k + 1 by omega]
                      simp
                    obtain ⟨sX, hsX⟩ : ∃ N : ByteArray, N = ⟨(entB (ba' + k + 1) x).toArray⟩ := ⟨_, rfl⟩
                    unfold str at hcall hend
                    rw [← hsX] at hcall hend
                    obtain ⟨TT, hTT⟩ : ∃ T, T = tv (X ++ entsB (ba' + (n : Nat)) ((L'.drop n).take (k - n))) := ⟨_, rfl⟩
                    rw [← hTT] at ho hlen hend
                    have HO := Lib.hid ho
                    have HEND := Lib.hid hend
                    have HCALL := Lib.hid hcall
                    have HLN : Hid (TT.length ≤ 1000000) := Lib.hid (by omega)
                    have hk40 : k ≤ 40 := by have := HNG.out; omega
                    clear hx hx2 hlen hend hcall hsX ho hTT
                    go_upto_region 15 with fail
                    go_wp2_with fail
                    refine HCALL.out.mono ?_
                    rintro e w10 ⟨rfl, hb⟩
                    have HO2 := Lib.hid (HO.out.below hb)
                    have HBX := Lib.hid (HBR.out.trans (hb.mono HZr.out))
                    have hs : B + 2 ≤ w10.heap.size := by have := hb.size; have := HZr.out; omega
                    clear hb d0 d1 d2 d3 d4 d5 d6
                    go_wp2_with (at_builtin; refine wp_app_one 50 9 _ 16 Try.underlying50 info9 rfl (by decide) rfl (.tmp 123) (.tmp 128) rfl (B + 2) _ TT rfl HO2.out _ rfl rfl HLN.out hs ?_)
                    intro v' w11 ho3 hb5
                    rw [HEND.out] at ho3
                    have HO3 := Lib.hid ho3
                    have HB5 := Lib.hid (HBX.out.trans hb5)
                    clear ho3 hb5 hs
                    go_wp2
                    go_roundw
                    case rel => exact ⟨k + 1, by omega, by omega, by go_num, HO3.out, HB5.out⟩
                    case measure => simp [intOf]; omega
                  · have p1 : decide ((k : Int) < (ng : Int)) = false := decide_eq_false (by omega)
                    have p2 : decide (k < ng) = false := decide_eq_false (by omega)
                    rw [show (L'.drop n).take (k - n) = L'.drop n from List.take_of_length_le (by rw [List.length_drop]; have := HL2.out; omega), ← HT4.out] at ho
                    have HO := Lib.hid ho.rdV
                    clear ho
                    go_wp2
                    go_ret2
                    exact ⟨_, by rw [HB.out]; rfl, HO.out, HBW.out⟩
end Go.Proofs.Ytopnmiakljpgbaa

/-
  Saving: the records that make a state of an elder one.
-/
import Derived.Test.YtopnmiakljpgbaaTame
import Derived.Test.YtopnmiakljpgbaaSameTexts
namespace Go.Proofs.Ytopnmiakljpgbaa
open Go.RowKit
def svN (H G : Hd) : Nat := dif sameA H.L G.L
def svS (H G : Hd) : Bool := decide (svN H G = G.L.length) && decide (svN H G < H.L.length)
def svB (H G : Hd) : Bool := svS H G || !alk H G
def svW (G : Hd) : List Bs := fullB G :: entsB G.ba G.L
def svR (H G : Hd) : List Bs := if H.t = G.t ∧ H.vo = G.vo then [] else [84 :: numsB [G.t, G.vo]]
def svP (H G : Hd) : List Bs := svR H G ++ entsB (G.ba + (svN H G : Nat)) (G.L.drop (svN H G))
def svT (H G : Hd) : List Bs := if svB H G = true then svW G else svP H G
theorem run_app_vals (t e : TypeId) (z : Value) (bytes : Nat) (ht : Try.prog.underlying t = some (.slice e)) (hinf : (Try.prog.info? e).map (fun i => (i.zero, i.size, i.bytes)) = some (some z, 1, bytes)) (hzc : z.cells.size = 1) (hby : bytes ≤ 100)
    (ty : TypeId) {w : World} (base : Nat) (v : Value) (xs ys : List Value) (hown : OwnV w base e v xs) (u : Value) (hr : RdV w u ys) (h1 : ∀ y ∈ ys, y.oneCell' = true) (hn : xs.length + ys.length ≤ 1000000) (hbase : base ≤ w.heap.size) :
    ∃ v' w', (Builtin.append_ #[t, t] ty #[v, u]).run Try.prog w = .ok v' w' ∧ OwnV w' base e v' (xs ++ ys) ∧ Below base w w' := by
  obtain ⟨i0, hi, hz0, hz1, hz2⟩ := info_parts hinf
  obtain ⟨ad, cap, rfl, g1, g2, g3⟩ := hr
  by_cases he : ys = []
  · subst he
    exact ⟨v, w, run_append_none1 (w := w) t e ht i0 hi ty base v xs.length _ hown ad cap, by rw [List.append_nil]; exact hown, Below.refl _ _⟩
  · rcases g3 with g3 | ⟨g, o2, rfl, hc⟩
    · exact absurd g3 he
    obtain ⟨v', w', hr, k1, k2, _⟩ := run_append_own_at (P := Try.prog) w base t ty e i0 z 1 bytes ht hi hz0 hz1 hz2 hzc (by decide) v xs.length xs hown ⟨g, o2, none⟩ ys.length cap ys (by simp) (fun j y hj => by rw [add_any]; exact hc j y hj) h1 (by unfold maxLen; omega) (by
      have : (xs.length + ys.length) * bytes ≤ 1000000 * 100 := Nat.mul_le_mul hn hby
      omega) hbase
    refine ⟨v', w', hr, ?_, ?_⟩
    · unfold OwnV
      rw [List.length_append]
      exact k1
    · refine ⟨k2.os, k2.tape, k2.output, k2.size, fun i hi => k2.block i (by omega) ?_⟩
      intro e'
      have := (World.ownsRow.lt hown i e'.symm).1
      omega
theorem op_app_vals (t e : TypeId) (z : Value) (bytes : Nat) (ht : Try.prog.underlying t = some (.slice e)) (hinf : (Try.prog.info? e).map (fun i => (i.zero, i.size, i.bytes)) = some (some z, 1, bytes)) (hzc : z.cells.size = 1) (hby : bytes ≤ 100)
    {o : Oper} {a : Act} {w : World} {K : Act → World → Prop} {Q : Exit → Act → World → Prop} (s x : Operand)
    (ho : o.op = .call { callee := .builtin .append, args := #[s, x], argTypes := #[t, t] }) (base : Nat) (v : Value) (xs ys : List Value) (hs : a.eval s = v) (hown : OwnV w base e v xs)
    (u : Value) (hx : a.eval x = u) (hr : RdV w u ys) (h1 : ∀ y ∈ ys, y.oneCell' = true) (hn : xs.length + ys.length ≤ 1000000) (hbase : base ≤ w.heap.size)
    (h : ∀ v' w', OwnV w' base e v' (xs ++ ys) → Below base w w' → K (a.put o.dst v') w') : o.wp Try.prog a w K Q := by
  obtain ⟨v', w', hrun, k1, k2⟩ := run_app_vals t e z bytes ht hinf hzc hby o.type base v xs ys hown u hr h1 hn hbase
  unfold Oper.wp
  simp [execOp, ho, resolve, invoke, builtin, hs, hx, hrun, Result.andThen]
  exact h v' w' k1 k2
theorem tv_one (T : List Bs) : ∀ y ∈ tv T, y.oneCell' = true := by
  intro y hy
  obtain ⟨b, _, rfl⟩ := List.mem_map.1 hy
  rfl
theorem tv_app (A B : List Bs) : tv (A ++ B) = tv A ++ tv B := List.map_append
set_option maxRecDepth 100000 in
set_option maxHeartbeats 12800000 in
theorem save_any {H G : Hd} {w : World} (hH : H.Rd w) (hG : G.Rd w) (tH : H.Tame) (tG : G.Tame) (hb : -1000 ≤ G.ba ∧ G.ba ≤ 1125899906842624) :
    Calls Try.prog 32 #[H.v, G.v] w fun e w' => ∃ v, e = .returned (.tuple #[v, .bool (svB H G)]) ∧ RdV w' v (tv (svT H G)) ∧ Below w.heap.size w w' := by
  obtain ⟨pV, pS, pL, pD⟩ := tG
  obtain ⟨oV, oS, oL, oD⟩ := tH
  have F1 : Hid (∀ w', Below w.heap.size w w' → Calls Try.prog 52 #[G.v] w' fun e w'' => e = .returned (str (fullB G)) ∧ Below w'.heap.size w' w'') := Lib.hid (fun w' hb => fullRec_any (hG.1.below hb) (by omega) (by omega))
  have F2 : Hid (∀ w', Calls Try.prog 54 #[G.v] w' fun e w'' => e = .returned (str (84 :: numsB [G.t, G.vo])) ∧ Below w'.heap.size w' w'') := Lib.hid (fun w' => termRec_any G w')
  have F3 : Hid (∀ w', Below w.heap.size w w' → Calls Try.prog 51 #[H.v, G.v] w' fun e w'' => e = .returned (.bool (alk H G)) ∧ Below w'.heap.size w' w'') := Lib.hid (fun w' hb => alike_any (hH.1.below hb) (hG.1.below hb) (by omega) (by omega))
  have F4 : Hid (∀ w', Below w.heap.size w w' → Calls Try.prog 49 #[.slice H.a H.n H.cap, .slice G.a G.n G.cap, .func (.func 50) #[] #[]] w' fun e w'' => e = .returned (it (svN H G : Nat)) ∧ Below w'.heap.size w' w'') := Lib.hid (fun w' hb => difA_any (hH.2.below hb) (hG.2.below hb) (by omega) (by omega))
  have F5 : Hid (∀ w' (k : Nat), k ≤ G.L.length → Below w.heap.size w w' → Calls Try.prog 53 #[lv G.ba G.bt (.slice G.a G.n G.cap), it k] w' fun e w'' => ∃ v, e = .returned v ∧ OwnV w'' w'.heap.size 9 v (tv (entsB (G.ba + k) (G.L.drop k))) ∧ Below w'.heap.size w' w'') := Lib.hid (fun w' k hk hb' => entRecs_any (hG.2.below hb') hb k hk (by omega) (fun e he => by have := pD e he; omega))
  have hn1 : H.n = H.L.length := hH.2.len
  have hn2 : G.n = G.L.length := hG.2.len
  have hdl := dif_le sameA H.L G.L
  obtain ⟨n, hn⟩ : ∃ n, n = svN H G := ⟨_, rfl⟩
  have hn' : dif sameA H.L G.L = n := hn.symm
  rw [hn'] at hdl
  rw [← hn] at F4
  obtain ⟨c, hc⟩ : ∃ c, c = alk H G := ⟨_, rfl⟩
  rw [← hc] at F3
  obtain ⟨S, hS⟩ : ∃ S, S = svS H G := ⟨_, rfl⟩
  have hS2 : S = (decide (n = G.L.length) && decide (n < H.L.length)) := by rw [hS]; unfold svS; rw [hn]
  have HB : Hid (svB H G = (S || !c)) := Lib.hid (by unfold svB; rw [hS, hc])
  have HT : Hid (svT H G = if (S || !c) = true then svW G else svR H G ++ entsB (G.ba + (n : Nat)) (G.L.drop n)) := Lib.hid (by unfold svT svP; rw [HB.out, ← hn])
  obtain ⟨T, hT⟩ : ∃ T, T = svT H G := ⟨_, rfl⟩
  obtain ⟨bb, hbb⟩ : ∃ bb, bb = svB H G := ⟨_, rfl⟩
  rw [← hT] at HT ⊢
  rw [← hbb] at HB ⊢
  obtain ⟨t, vo, vs, sn, ba, bt, a, nh, cap, V, L⟩ := H
  obtain ⟨t', vo', vs', sn', ba', bt', a', ng, cap', V', L'⟩ := G
  dsimp only [Hd.v] at *
  have hS3 : S = (decide (n = ng) && decide (n < nh)) := by rw [hS2, hn1, hn2]
  rw [← hn1, ← hn2] at hdl
  rw [← hn2] at F5
  have HSS := Lib.hid hS3
  have HNG : Hid (ng ≤ 40) := Lib.hid (by omega)
  have HLL : Hid (L'.length ≤ 40) := Lib.hid pL
  have HA := Lib.hid (two_new w #[it t, it vo, vs, .string sn, it ba, it bt, .slice a nh cap] #[it t', it vo', vs', .string sn', it ba', it bt', .slice a' ng cap'] 42 42)
  clear hT hbb hS hc hn hn' hS2 hS3 hn1 hn2 hH hG oV oS oL oD pV pS pL pD hb
  go_enter Try.func32, Try.ntmps32
  go_upto_region 1 with fail
  generalize (w.alloc _).alloc _ = wA at *
  obtain ⟨B, hB⟩ : ∃ B, B = w.heap.size := ⟨_, rfl⟩
  have HBB := Lib.hid hB
  rw [← hB] at HA ⊢
  have HW : Hid (Below B w wA) := Lib.hid HA.out.2.2.2
  clear hB
  obtain ⟨c0, c1, c2, c3', c4, c5, c6⟩ := c7 HA.out.1
  obtain ⟨d0, d1, d2, d3, d4, d5, d6⟩ := c7 HA.out.2.1
  go_wp2_with fail
  refine (F4.out _ (by rw [← HBB.out]; exact HW.out)).mono ?_
  rintro e w2 ⟨rfl, hb2⟩
  have HW2 : Hid (Below B w w2) := Lib.hid (HW.out.trans (hb2.mono (by have := HA.out.2.2.1; omega)))
  have HC2 := Lib.hid (HA.out.1.below hb2)
  have HD2 := Lib.hid (HA.out.2.1.below hb2)
  have HZ2 : Hid (B + 2 ≤ w2.heap.size) := Lib.hid (by have := HA.out.2.2.1; have := hb2.size; omega)
  clear hb2 c0 c1 c2 c3' c4 c5 c6 d0 d1 d2 d3 d4 d5 d6 F4 HA HW
  obtain ⟨c0, c1, c2, c3', c4, c5, c6⟩ := c7 HC2.out
  obtain ⟨d0, d1, d2, d3, d4, d5, d6⟩ := c7 HD2.out
  go_upto_region 2 with fail
  go_cut [7] from 16 to 29 (fun v wx => v = .bool S ∧ w2 = wx)
  case first =>
    have hSS := HSS.out
    by_cases e1 : n = ng
    · have q1 : ((n : Int) == (ng : Int)) = true := by rw [e1]; simp
      by_cases e2 : n < nh
      · have q2 : (n : Int) < (nh : Int) := by omega
        go_wp2
        all_goals
          go_meet
          exact ⟨congrArg Value.bool (by rw [hSS, e1]; rw [e1] at e2; simp [e2]), rfl⟩
      · have q2 : decide ((n : Int) < (nh : Int)) = false := decide_eq_false (by omega)
        go_wp2
        all_goals
          go_meet
          exact ⟨congrArg Value.bool (by rw [hSS, e1]; rw [e1] at e2; simp [e2]), rfl⟩
    · have q1 : ((n : Int) == (ng : Int)) = false := by simp; omega
      go_wp2
      all_goals
        go_meet
        exact ⟨congrArg Value.bool (by rw [hSS, decide_eq_false e1]; rfl), rfl⟩
  case rest =>
    obtain ⟨rfl, rfl⟩ := hcut
    obtain ⟨sF, hsF⟩ : ∃ N : ByteArray, N = ⟨(fullB ⟨t', vo', vs', sn', ba', bt', a', ng, cap', V', L'⟩).toArray⟩ := ⟨_, rfl⟩
    unfold str at F1
    rw [← hsF] at F1
    have HSF := Lib.hid hsF
    clear hsF
    rcases (by cases S <;> cases c <;> simp : (S = true) ∨ (S = false ∧ c = false) ∨ (S = false ∧ c = true)) with rfl | ⟨rfl, rfl⟩ | ⟨rfl, rfl⟩
    · obtain ⟨wq, rfl⟩ : ∃ wq, wq = w2 := ⟨_, rfl⟩
      have HWq := HW2
      have HDq := HD2
      have HZq := HZ2

      have HT4 : Hid (T = fullB ⟨t', vo', vs', sn', ba', bt', a', ng, cap', V', L'⟩ :: entsB (ba' + (0 : Nat)) (L'.drop 0)) := Lib.hid (by rw [HT.out]; simp [svW])
      have HL0 := Lib.hid (show (entsB (ba' + (0 : Nat)) (L'.drop 0)).length ≤ 40 by rw [entsB_len]; have := HLL.out; simp; omega)
      have HB4 : Hid (bb = true) := Lib.hid (by rw [HB.out]; rfl)
      obtain ⟨E0, hE0⟩ : ∃ E0, E0 = entsB (ba' + (0 : Nat)) (L'.drop 0) := ⟨_, rfl⟩
      have F50 : Hid (∀ w', Below w.heap.size w w' → Calls Try.prog 53 #[lv ba' bt' (.slice a' ng cap'), it 0] w' fun e w'' => ∃ v, e = .returned v ∧ OwnV w'' w'.heap.size 9 v (tv (entsB (ba' + (0 : Nat)) (L'.drop 0))) ∧ Below w'.heap.size w' w'') := Lib.hid (fun w' hb => F5.out w' 0 (Nat.zero_le _) hb)
      rw [← hE0] at HT4 HL0 F50
      clear hE0 c0 c1 c2 c3' c4 c5 c6
      go_upto_region 4 with fail
      have H0 : Hid (Below wq.heap.size wq wq.drew) := Lib.hid (Below.refl _ wq).drew
      have HK := Lib.hid (fun w' (hb : Below wq.heap.size wq w') => c7 (HDq.out.below hb))
      have HWq' : Hid (Below w.heap.size w wq) := Lib.hid (by rw [← HBB.out]; exact HWq.out)
      have HKA := Lib.hid (fun (w4 w5 : World) (hb4 : Below wq.heap.size wq w4) (hb : Below (B + 2) w4 w5) => c7 (show Ce w5 (B + 1) 42 _ from (hb.block (B + 1) (by omega)).trans (HDq.out.below hb4)))
      go_region_held3 (fun w' => w'.cell? ⟨B + 1, 0, none⟩ = some (it t') ∧ w'.cell? ⟨B + 1, 1, none⟩ = some (it vo') ∧ w'.cell? ⟨B + 1, 2, none⟩ = some vs' ∧ w'.cell? ⟨B + 1, 3, none⟩ = some (.string sn') ∧ w'.cell? ⟨B + 1, 4, none⟩ = some (it ba') ∧ w'.cell? ⟨B + 1, 5, none⟩ = some (it bt') ∧ w'.cell? ⟨B + 1, 6, none⟩ = some (.slice a' ng cap'))
        (first | with_reducible exact HKA.out _ _ Bap.out HP6.out | with_reducible exact HK.out _ B4n.out | with_reducible exact HK.out _ B4.out | with_reducible exact HK.out _ B3n.out | with_reducible exact HK.out _ B3.out | with_reducible exact HK.out _ H0.out | fail)
        (first
          | (go_at_call 52; with_reducible refine (F1.out _ (HWq'.out.trans (H0.out.mono HWq'.out.size))).mono ?_; rintro e w3 ⟨rfl, hb⟩; have B3 : Hid (Below wq.heap.size wq w3) := Lib.hid (H0.out.trans (hb.mono H0.out.size)); have B3n := Lib.hid (B3.out.trans ((one_new w3 (.cells #[.string sF] 9)).mono B3.out.size)); have OWa := Lib.hid (OwnV.one w3 (B + 2) 9 (.string sF) (by have := HZq.out; have := B3.out.size; omega)); clear hb)
          | (go_at_call 53; with_reducible refine (F50.out w3 (HWq'.out.trans (B3.out.mono HWq'.out.size))).mono ?_; rintro e w4 ⟨v4, rfl, ho4, hb⟩; have B4 : Hid (Below wq.heap.size wq w4) := Lib.hid (B3.out.trans (hb.mono B3.out.size)); have B4n := Lib.hid (B4.out.trans ((one_new w4 (.cells #[.string sF] 9)).mono B4.out.size)); have Bap := B4n; have OW := Lib.hid (OwnV.one w4 (B + 2) 9 (.string sF) (by have := HZq.out; have := B4.out.size; omega)); have RV := Lib.hid (ho4.rdV.below (one_new w4 (.cells #[.string sF] 9))); clear ho4 hb)
          | (go_at_call 53; with_reducible refine (F50.out (w3.alloc (.cells #[.string sF] 9)) (HWq'.out.trans (B3n.out.mono HWq'.out.size))).mono ?_; rintro e w4 ⟨v4, rfl, ho4, hb⟩; have B4 : Hid (Below wq.heap.size wq w4) := Lib.hid (B3n.out.trans (hb.mono B3n.out.size)); have Bap := B4; have OW := Lib.hid (OWa.out.below hb); have RV := Lib.hid ho4.rdV; clear ho4 hb)
          | (rw [if_pos (by rfl)]; refine op_app_vals 50 9 _ 16 Try.underlying50 info9 rfl (by decide) (.tmp 39) (.tmp 42) rfl (B + 2) _ [.string sF] (tv E0) rfl OW.out _ rfl RV.out (tv_one _) (by have := HL0.out; simp; omega) (by have := HZq.out; have := Bap.out.size; omega) ?_; intro v6 w6 ho6 hb6; have O6 := Lib.hid ho6.rdV; have HP6 := Lib.hid hb6; clear ho6 hb6)
          | fail)
      all_goals
        go_wp2
        go_ret2
        refine ⟨_, by rw [HB4.out]; rfl, by have h6 := O6.out; rw [HSF.out] at h6; rw [HT4.out]; exact h6, ?_⟩
        have hz := HWq'.out.trans (Bap.out.mono HWq'.out.size)
        exact hz.trans (HP6.out.mono (by rw [← HBB.out]; omega))
    · go_upto_region 3 with fail
      go_wp2_with fail
      refine (F3.out _ (by rw [← HBB.out]; exact HW2.out)).mono ?_
      rintro e wq ⟨rfl, hbq⟩
      have HWq : Hid (Below B w wq) := Lib.hid (HW2.out.trans (hbq.mono (by have := HZ2.out; omega)))
      have HDq := Lib.hid (HD2.out.below hbq)
      have HZq : Hid (B + 2 ≤ wq.heap.size) := Lib.hid (by have := HZ2.out; have := hbq.size; omega)
      clear hbq d0 d1 d2 d3 d4 d5 d6
      obtain ⟨d0, d1, d2, d3, d4, d5, d6⟩ := c7 HDq.out
      have HT4 : Hid (T = fullB ⟨t', vo', vs', sn', ba', bt', a', ng, cap', V', L'⟩ :: entsB (ba' + (0 : Nat)) (L'.drop 0)) := Lib.hid (by rw [HT.out]; simp [svW])
      have HL0 := Lib.hid (show (entsB (ba' + (0 : Nat)) (L'.drop 0)).length ≤ 40 by rw [entsB_len]; have := HLL.out; simp; omega)
      have HB4 : Hid (bb = true) := Lib.hid (by rw [HB.out]; rfl)
      obtain ⟨E0, hE0⟩ : ∃ E0, E0 = entsB (ba' + (0 : Nat)) (L'.drop 0) := ⟨_, rfl⟩
      have F50 : Hid (∀ w', Below w.heap.size w w' → Calls Try.prog 53 #[lv ba' bt' (.slice a' ng cap'), it 0] w' fun e w'' => ∃ v, e = .returned v ∧ OwnV w'' w'.heap.size 9 v (tv (entsB (ba' + (0 : Nat)) (L'.drop 0))) ∧ Below w'.heap.size w' w'') := Lib.hid (fun w' hb => F5.out w' 0 (Nat.zero_le _) hb)
      rw [← hE0] at HT4 HL0 F50
      clear hE0 c0 c1 c2 c3' c4 c5 c6
      go_upto_region 4 with fail
      have H0 : Hid (Below wq.heap.size wq wq.drew) := Lib.hid (Below.refl _ wq).drew
      have HK := Lib.hid (fun w' (hb : Below wq.heap.size wq w') => c7 (HDq.out.below hb))
      have HWq' : Hid (Below w.heap.size w wq) := Lib.hid (by rw [← HBB.out]; exact HWq.out)
      have HKA := Lib.hid (fun (w4 w5 : World) (hb4 : Below wq.heap.size wq w4) (hb : Below (B + 2) w4 w5) => c7 (show Ce w5 (B + 1) 42 _ from (hb.block (B + 1) (by omega)).trans (HDq.out.below hb4)))
      go_region_held3 (fun w' => w'.cell? ⟨B + 1, 0, none⟩ = some (it t') ∧ w'.cell? ⟨B + 1, 1, none⟩ = some (it vo') ∧ w'.cell? ⟨B + 1, 2, none⟩ = some vs' ∧ w'.cell? ⟨B + 1, 3, none⟩ = some (.string sn') ∧ w'.cell? ⟨B + 1, 4, none⟩ = some (it ba') ∧ w'.cell? ⟨B + 1, 5, none⟩ = some (it bt') ∧ w'.cell? ⟨B + 1, 6, none⟩ = some (.slice a' ng cap'))
        (first | with_reducible exact HKA.out _ _ Bap.out HP6.out | with_reducible exact HK.out _ B4n.out | with_reducible exact HK.out _ B4.out | with_reducible exact HK.out _ B3n.out | with_reducible exact HK.out _ B3.out | with_reducible exact HK.out _ H0.out | fail)
        (first
          | (go_at_call 52; with_reducible refine (F1.out _ (HWq'.out.trans (H0.out.mono HWq'.out.size))).mono ?_; rintro e w3 ⟨rfl, hb⟩; have B3 : Hid (Below wq.heap.size wq w3) := Lib.hid (H0.out.trans (hb.mono H0.out.size)); have B3n := Lib.hid (B3.out.trans ((one_new w3 (.cells #[.string sF] 9)).mono B3.out.size)); have OWa := Lib.hid (OwnV.one w3 (B + 2) 9 (.string sF) (by have := HZq.out; have := B3.out.size; omega)); clear hb)
          | (go_at_call 53; with_reducible refine (F50.out w3 (HWq'.out.trans (B3.out.mono HWq'.out.size))).mono ?_; rintro e w4 ⟨v4, rfl, ho4, hb⟩; have B4 : Hid (Below wq.heap.size wq w4) := Lib.hid (B3.out.trans (hb.mono B3.out.size)); have B4n := Lib.hid (B4.out.trans ((one_new w4 (.cells #[.string sF] 9)).mono B4.out.size)); have Bap := B4n; have OW := Lib.hid (OwnV.one w4 (B + 2) 9 (.string sF) (by have := HZq.out; have := B4.out.size; omega)); have RV := Lib.hid (ho4.rdV.below (one_new w4 (.cells #[.string sF] 9))); clear ho4 hb)
          | (go_at_call 53; with_reducible refine (F50.out (w3.alloc (.cells #[.string sF] 9)) (HWq'.out.trans (B3n.out.mono HWq'.out.size))).mono ?_; rintro e w4 ⟨v4, rfl, ho4, hb⟩; have B4 : Hid (Below wq.heap.size wq w4) := Lib.hid (B3n.out.trans (hb.mono B3n.out.size)); have Bap := B4; have OW := Lib.hid (OWa.out.below hb); have RV := Lib.hid ho4.rdV; clear ho4 hb)
          | (rw [if_pos (by rfl)]; refine op_app_vals 50 9 _ 16 Try.underlying50 info9 rfl (by decide) (.tmp 39) (.tmp 42) rfl (B + 2) _ [.string sF] (tv E0) rfl OW.out _ rfl RV.out (tv_one _) (by have := HL0.out; simp; omega) (by have := HZq.out; have := Bap.out.size; omega) ?_; intro v6 w6 ho6 hb6; have O6 := Lib.hid ho6.rdV; have HP6 := Lib.hid hb6; clear ho6 hb6)
          | fail)
      all_goals
        go_wp2
        go_ret2
        refine ⟨_, by rw [HB4.out]; rfl, by have h6 := O6.out; rw [HSF.out] at h6; rw [HT4.out]; exact h6, ?_⟩
        have hz := HWq'.out.trans (Bap.out.mono HWq'.out.size)
        exact hz.trans (HP6.out.mono (by rw [← HBB.out]; omega))
    · go_upto_region 3 with fail
      go_wp2_with fail
      refine (F3.out _ (by rw [← HBB.out]; exact HW2.out)).mono ?_
      rintro e wq ⟨rfl, hbq⟩
      have HWq : Hid (Below B w wq) := Lib.hid (HW2.out.trans (hbq.mono (by have := HZ2.out; omega)))
      have HDq := Lib.hid (HD2.out.below hbq)
      have HCq := Lib.hid (HC2.out.below hbq)
      have HZq : Hid (B + 2 ≤ wq.heap.size) := Lib.hid (by have := HZ2.out; have := hbq.size; omega)
      clear hbq c0 c1 c2 c3' c4 c5 c6 d0 d1 d2 d3 d4 d5 d6
      obtain ⟨c0, c1, c2, c3', c4, c5, c6⟩ := c7 HCq.out
      obtain ⟨d0, d1, d2, d3, d4, d5, d6⟩ := c7 HDq.out
      have HB4 : Hid (bb = false) := Lib.hid (by rw [HB.out]; rfl)
      obtain ⟨X, hX⟩ : ∃ X, X = svR ⟨t, vo, vs, sn, ba, bt, a, nh, cap, V, L⟩ ⟨t', vo', vs', sn', ba', bt', a', ng, cap', V', L'⟩ := ⟨_, rfl⟩
      have HT4 : Hid (T = X ++ entsB (ba' + (n : Nat)) (L'.drop n)) := Lib.hid (by rw [HT.out, hX]; rfl)
      have hX2 : X = if t = t' ∧ vo = vo' then [] else [84 :: numsB [t', vo']] := hX
      have hXl : X.length ≤ 1 := by rw [hX2]; split <;> simp
      have HX2 := Lib.hid hX2
      obtain ⟨E0, hE0⟩ : ∃ E0, E0 = entsB (ba' + (n : Nat)) (L'.drop n) := ⟨_, rfl⟩
      have HL0 := Lib.hid (show E0.length ≤ 40 by rw [hE0, entsB_len]; have := HLL.out; simp; omega)
      have F50 := Lib.hid (fun w' (hb : Below w.heap.size w w') => F5.out w' n hdl.2 hb)
      rw [← hE0] at HT4 F50
      have HXL := Lib.hid hXl
      clear hX hX2 hXl hE0
      go_upto_region 6 with fail
      obtain ⟨qb, hqb⟩ : ∃ qb, qb = decide (¬ (t = t' ∧ vo = vo')) := ⟨_, rfl⟩
      have HQB := Lib.hid hqb
      clear hqb
      go_cut [55] from 44 to 55 (fun v wx => v = .bool qb ∧ wq = wx)
      case first =>
        by_cases e1 : t = t'
        · subst e1
          by_cases e2 : vo = vo'
          · subst e2
            go_wp2
            all_goals
              go_meet
              exact ⟨congrArg Value.bool (by rw [HQB.out]; simp), rfl⟩
          · have q1 : (vo != vo') = true := by simpa using e2
            go_wp2
            all_goals
              go_meet
              exact ⟨congrArg Value.bool (by rw [HQB.out]; simp [e2]), rfl⟩
        · have q1 : (t != t') = true := by simpa using e1
          go_wp2
          all_goals
            go_meet
            exact ⟨congrArg Value.bool (by rw [HQB.out]; simp [e1]), rfl⟩
      case rest =>
      obtain ⟨rfl, rfl⟩ := hcut
      go_upto_if 55 with fail
      go_cut [8] from 56 to 60 (fun v wx => OwnV wx (B + 2) 9 v (tv X) ∧ Below (B + 2) wq wx)
      case first =>
        cases qb with
        | false =>
          have HX0 : Hid (X = []) := Lib.hid (by rw [HX2.out, if_pos (by have := HQB.out; simpa using this)])
          go_wp2
          go_meet
          rw [HX0.out]
          exact ⟨OwnV.nil _ _ _, Below.refl _ _⟩
        | true =>
          have HX0 : Hid (X = [84 :: numsB [t', vo']]) := Lib.hid (by rw [HX2.out, if_neg (of_decide_eq_true HQB.out.symm)])
          obtain ⟨sT, hsT⟩ : ∃ N : ByteArray, N = ⟨(84 :: numsB [t', vo']).toArray⟩ := ⟨_, rfl⟩
          unfold str at F2
          rw [← hsT] at F2
          have HST := Lib.hid hsT
          clear hsT
          go_wp2_with fail
          refine (F2.out _).mono ?_
          rintro e w3 ⟨rfl, hb3⟩
          have HB3 := Lib.hid (show Below (B + 2) wq w3 from hb3.mono HZq.out)
          have HN3 : Hid (OwnV w3 (B + 2) 9 (.slice none 0 0) []) := Lib.hid (OwnV.nil _ _ _)
          have hs : B + 2 ≤ w3.heap.size := by have := HZq.out; have := hb3.size; omega
          clear hb3 c0 c1 c2 c3' c4 c5 c6 d0 d1 d2 d3 d4 d5 d6
          go_wp2_with (at_builtin; refine wp_app_one 50 9 _ 16 Try.underlying50 info9 rfl (by decide) rfl (.tmp 56) (.tmp 59) rfl (B + 2) _ [] rfl HN3.out _ rfl rfl (by simp) hs ?_)
          intro v' w4 ho4 hb4
          have HO4 := Lib.hid ho4
          have HB4' := Lib.hid (HB3.out.trans hb4)
          clear ho4 hb4 hs
          go_wp2
          go_meet
          rw [HX0.out]
          refine ⟨?_, HB4'.out⟩
          have := HO4.out
          rw [HST.out] at this
          exact this
      case rest =>
        obtain ⟨ho, hb⟩ := hcut
        have HO5 := Lib.hid ho
        have HB5 := Lib.hid hb
        have HDc : Hid (Ce wc (B + 1) 42 _) := Lib.hid ((hb.block (B + 1) (by omega)).trans HDq.out)
        have HWc : Hid (Below B w wc) := Lib.hid (HWq.out.trans (hb.mono (by omega)))
        have hzc := HZq.out
        have HZc : Hid (B + 2 ≤ wc.heap.size) := Lib.hid (by have := hb.size; omega)
        clear ho hb hzc c0 c1 c2 c3' c4 c5 c6 d0 d1 d2 d3 d4 d5 d6
        obtain ⟨d0, d1, d2, d3, d4, d5, d6⟩ := c7 HDc.out
        go_wp2_with fail
        refine (F50.out _ (by rw [← HBB.out]; exact HWc.out)).mono ?_
        rintro e w6 ⟨v6, rfl, ho6, hb6⟩
        have HO6 := Lib.hid (HO5.out.below hb6)
        have HR6 := Lib.hid ho6.rdV
        have HB6 := Lib.hid (show Below (B + 2) wc w6 from hb6.mono HZc.out)
        have HZ6 : Hid (B + 2 ≤ w6.heap.size) := Lib.hid (by have := HZc.out; have := hb6.size; omega)
        clear ho6 hb6 d0 d1 d2 d3 d4 d5 d6
        go_wp2_with (at_builtin; refine wp_app_vals 50 9 _ 16 Try.underlying50 info9 rfl (by decide) rfl (.tmp 61) (.tmp 65) rfl (B + 2) _ (tv X) (tv E0) rfl HO6.out _ rfl HR6.out (tv_one _) (by have := HL0.out; have := HXL.out; simp; omega) HZ6.out ?_)
        intro v7 w7 ho7 hb7
        have HO7 := Lib.hid ho7.rdV
        have HB7 := Lib.hid (HWc.out.trans ((HB6.out.trans hb7).mono (by omega)))
        clear ho7 hb7
        go_wp2
        go_ret2
        refine ⟨_, by rw [HB4.out]; rfl, ?_, by rw [← HBB.out]; exact HB7.out⟩
        rw [HT4.out, tv_app]
        exact HO7.out
end Go.Proofs.Ytopnmiakljpgbaa

/-
  Logs with other entries behind: Add, Put; whose log is newer.
-/
import Derived.Test.YtopnmiakljpgbaaBehind
namespace Go.Proofs.Ytopnmiakljpgbaa
open Go.RowKit
/-- r[k:]. -/
theorem slice_from {w0 : World} {a : Option Addr} {n cap : Nat} {L : List En} (h : RdE w0 (.slice a n cap) L) (k : Nat) (hk : k ≤ L.length) :
    ∃ a', (∀ w : World, (Instr.slice 22 (.slice a n cap) (some (it (k : Int))) none none).run Try.prog w = .ok (.slice a' (n - k) (cap - k)) w) ∧ RdE w0 (.slice a' (n - k) (cap - k)) (L.drop k) := by
  obtain ⟨i, hi, hz0, hz1, hz2⟩ := info_parts info31
  obtain ⟨a', c', he, h1, h2, h3⟩ := h
  cases he
  have e : (L.drop k).length = L.length - k := List.length_drop
  cases a with
  | none =>
    rcases h3 with rfl | ⟨g, o, e, _⟩
    · obtain rfl : k = 0 := by simpa using hk
      refine ⟨none, fun w => ?_, ⟨none, cap, rfl, Nat.zero_le _, h2, .inl rfl⟩⟩
      simp [Instr.slice, Instr.sliceBounds, Instr.sliceBound, run_underlying Try.underlying22, sizeOf, typeInfo, hi, asIntOf]
    · cases e
  | some ad =>
    by_cases hc : cap = k
    · subst hc
      have hl : L.length = cap := by omega
      refine ⟨some ad, fun w => ?_, ?_⟩
      · simp [Instr.slice, Instr.sliceBounds, Instr.sliceBound, run_underlying Try.underlying22, sizeOf, typeInfo, hi, asIntOf, hl]
      · refine ⟨_, _, by rw [e], by omega, by omega, .inl (List.eq_nil_of_length_eq_zero (by omega))⟩
    · refine ⟨some (ad.add (k * 3)), fun w => ?_, ?_⟩
      · simp [Instr.slice, Instr.sliceBounds, Instr.sliceBound, run_underlying Try.underlying22, sizeOf, typeInfo, hi, hz1, asIntOf, hk, hc]
      · refine ⟨_, _, by rw [e], by omega, by omega, ?_⟩
        rcases h3 with rfl | ⟨g, o, ha, hcell⟩
        · exact .inl (by simp)
        · cases ha
          refine .inr ⟨g, o + k * 3, by rw [add_any], fun i x hx => ?_⟩
          have := hcell (k + i) x (by rw [List.getElem?_drop] at hx; exact hx)
          rw [show o + (k + i) * 3 = o + k * 3 + i * 3 by omega] at this
          exact this
section
variable {w : World} {base bt : Int} {a : Option Addr} {n cap : Nat} {L M : List En} {u : Value}
theorem add_any2 (h : RdE w (.slice a n cap) L) (hu : RdE w u M) (hl : L.length ≤ 100000) (hm : M.length ≤ 100000) :
    Calls Try.prog 64 #[lv base bt (.slice a n cap), u] w fun e w' => ∃ v, e = .returned (lv base bt v) ∧ OwnE w' w.heap.size v (L ++ M) ∧ Below w.heap.size w w' := by
  have hn := h.len
  subst hn
  have H2 := Lib.hid (two_new w #[it base, it bt, .slice a L.length cap] #[it 0, it 0, .slice none 0 0] 24 24)
  have HC := Lib.hid (fun w' (hb : Below w.heap.size w w') => behind_any (base := base) (bt := bt) (h.below hb) L.length (Nat.le_refl _) (hu.below hb) hl hm)
  rw [List.take_length] at HC
  obtain ⟨m, hmm⟩ : ∃ m, m = L.length := ⟨_, rfl⟩
  rw [← hmm] at HC H2 hl ⊢
  clear h hu hmm
  go_enter Try.func64, Try.ntmps64
  go_wp2_with fail
  obtain ⟨wA, hwA⟩ : ∃ wA, wA = (w.alloc (.cells #[it base, it bt, .slice a m cap] 24)).alloc (.cells #[it 0, it 0, .slice none 0 0] 24) := ⟨_, rfl⟩
  rw [← hwA] at H2 ⊢
  obtain ⟨a1, a2, a3, a4⟩ := H2.out
  refine (HC.out wA a4).mono ?_
  rintro e w1 ⟨v, rfl, hr, hb1⟩
  have HB := Lib.hid (a4.trans (hb1.mono a4.size))
  have HC2 := Lib.hid (a2.below hb1)
  obtain ⟨d0, d1, d2⟩ := c3 HC2.out
  obtain ⟨g0, g1, g2⟩ := f3 HC2.out
  obtain ⟨va, vc, rfl, _⟩ := hr.rd.shape
  have HR := Lib.hid hr
  have HA := Lib.hid a3
  rw [List.length_append] at HR
  rw [List.length_append]
  clear hr hb1 a1 a2 a3 a4 hwA
  go_wp2
  refine bodyPost_ret (resL rfl rfl (set3_ce HC2.out _ _ _)) rfl ?_
  exact ⟨_, rfl, (HR.out.set3 (by have := HA.out; omega) _ _ _).weak (by have := HA.out; omega), set3_below HB.out (Nat.le_succ _) _ _ _⟩
/-- What Put leaves, and the index that it tells. -/
def putAt (base : Int) (prev : Int) : Nat := (prev - base).toNat
def putM (base : Int) (M : List En) (prev : Int) : List En := if prev < base then M.drop (min (base - prev).toNat M.length) else M
def putN (base : Int) (L M : List En) (prev : Int) : Nat := dif sameT (L.drop (putAt base prev)) (putM base M prev)
def putS (base : Int) (L M : List En) (prev : Int) : Bool := decide (prev < 0) || decide (base + L.length < prev) || decide (putN base L M prev = (putM base M prev).length)
def putL (base : Int) (L M : List En) (prev : Int) : List En := if putS base L M prev = true then L else L.take (putAt base prev + putN base L M prev) ++ (putM base M prev).drop (putN base L M prev)
def putI (base : Int) (L M : List En) (prev : Int) : Int := if putS base L M prev = true then 0 else base + (putAt base prev + putN base L M prev : Nat) + 1
set_option maxRecDepth 100000 in
set_option maxHeartbeats 3200000 in
theorem put_any (h : RdE w (.slice a n cap) L) (hu : RdE w u M) (hb : -1000 ≤ base ∧ base ≤ 1125899906842624) {prev : Int} (hp : I64 prev) (hl : L.length ≤ 100000) (hm : M.length ≤ 100000) :
    Calls Try.prog 40 #[lv base bt (.slice a n cap), it prev, u] w fun e w' => ∃ v, e = .returned (.tuple #[lv base bt v, it (putI base L M prev)]) ∧ OwnE w' w.heap.size v (putL base L M prev) ∧ Below w.heap.size w w' := by
  have hn := h.len
  subst hn
  obtain ⟨ua, uc, rfl, _⟩ := hu.shape
  have H2 := Lib.hid (two_new w #[it base, it bt, .slice a L.length cap] #[it 0, it 0, .slice none 0 0] 24 24)
  have HP := Lib.hid (fun w' => place_any (base := base) ⟨by omega, by omega⟩ hp bt a L.length cap (by omega) w')
  have HL := Lib.hid h
  have HU := Lib.hid hu
  have HADD := Lib.hid (fun w' (hb : Below w.heap.size w w') => add_any2 (base := base) (bt := bt) (h.below hb) (RdE.nil w') hl (by simp))
  rw [List.append_nil] at HADD
  have hpl := plc_cases base L.length prev
  obtain ⟨m, hmm⟩ : ∃ m, m = L.length := ⟨_, rfl⟩
  obtain ⟨z, hzz⟩ : ∃ z, z = M.length := ⟨_, rfl⟩
  have HMM := Lib.hid hmm
  have HZZ := Lib.hid hzz
  obtain ⟨wA, hwA⟩ : ∃ wA, wA = (w.alloc (.cells #[it base, it bt, .slice a m cap] 24)).alloc (.cells #[it 0, it 0, .slice none 0 0] 24) := ⟨_, rfl⟩
  rw [← hmm, ← hwA] at H2
  rw [← hmm] at HP HL HADD hl hpl ⊢
  rw [← hzz] at HU hm ⊢
  clear h hu hmm hzz
  by_cases hbad : prev < 0 ∨ base + L.length < prev
  · have hS : putS base L M prev = true := by unfold putS; rcases hbad with h | h <;> simp [h]
    have hI : putI base L M prev = 0 := if_pos hS
    have hLL : putL base L M prev = L := if_pos hS
    rw [hI, hLL]
    obtain ⟨P, hP⟩ : ∃ P, P = plc base m prev := ⟨_, rfl⟩
    rw [← hP] at HP hpl
    have hq : decide (prev < 0) = true ∨ (decide (prev < 0) = false ∧ decide ((m : Int) < P) = true) := by
      rcases hbad with h | h
      · exact .inl (by simpa using h)
      · by_cases h0 : prev < 0
        · exact .inl (by simpa using h0)
        · refine .inr ⟨by simpa using h0, ?_⟩
          have := HMM.out
          rcases hpl with ⟨h1, h2⟩ | ⟨h1, h2⟩ | ⟨p, h1, h2, h3⟩
          · omega
          · rw [h2]; simp; omega
          · omega
    have hpl2 : I64 P := by
      rcases hpl with ⟨h1, h2⟩ | ⟨h1, h2⟩ | ⟨p, h1, h2, h3⟩ <;> (unfold I64; omega)
    clear hpl hP hbad hS hI hLL
    rcases hq with q | ⟨q, q'⟩
    all_goals
      go_enter Try.func40, Try.ntmps40
      go_wp2_with fail
      rw [← hwA]
      clear hwA
      obtain ⟨a1, a2, a3, a4⟩ := H2.out
      have HA3 := Lib.hid a3
      refine (HP.out wA).mono ?_
      rintro e w1 ⟨rfl, hb1⟩
      obtain ⟨c0, c1, c2⟩ := c3 (a1.below hb1)
      have HB1 := Lib.hid (a4.trans (hb1.mono a4.size))
      have HC2 := Lib.hid (a2.below hb1)
      clear hb1 a1 a2 a3 a4
      go_wp2_with fail
      refine (HADD.out _ HB1.out).mono ?_
      rintro e w2 ⟨v, rfl, ho, hb2⟩
      have HS1 := Lib.hid HB1.out.size
      have HB2 := Lib.hid (HB1.out.trans (hb2.mono HB1.out.size))
      have HC3 := Lib.hid (HC2.out.below hb2)
      obtain ⟨d0, d1, d2⟩ := c3 HC3.out
      obtain ⟨g0, g1, g2⟩ := f3 HC3.out
      obtain ⟨va, vc, rfl, _⟩ := ho.rd.shape
      have HO := Lib.hid ho
      have HLT := Lib.hid HC2.out.lt
      clear ho hb2 c0 c1 c2
      go_wp2
      refine bodyPost_ret (resLt rfl rfl (set3_ce HC3.out _ _ _)) rfl ?_
      exact ⟨_, rfl, (HO.out.set3 HLT.out _ _ _).weak HS1.out, set3_below HB2.out (Nat.le_succ _) _ _ _⟩
  · obtain ⟨P, hP⟩ : ∃ P, P = plc base m prev := ⟨_, rfl⟩
    rw [← hP] at HP hpl
    have hp0 : decide (prev < 0) = false := by simp; omega
    have hp1 : decide ((m : Int) < P) = false := by
      have := HMM.out
      rcases hpl with ⟨h1, h2⟩ | ⟨h1, h2⟩ | ⟨p, h1, h2, h3⟩
      · rw [h2]; simp
      · omega
      · rw [h3]; simp; omega
    have hcase : (prev < base ∧ P = -1) ∨ (base ≤ prev ∧ ∃ p : Nat, P = p ∧ p ≤ m ∧ prev = base + p) := by
      have := HMM.out
      rcases hpl with ⟨h1, h2⟩ | ⟨h1, h2⟩ | ⟨p, h1, h2, h3⟩
      · exact .inl ⟨h1, h2⟩
      · omega
      · exact .inr ⟨by omega, p, h3, h2, h1⟩
    have hpA : putAt base prev ≤ m := by
      unfold putAt
      have := HMM.out
      omega
    have hS : putS base L M prev = decide (putN base L M prev = (putM base M prev).length) := by
      unfold putS
      have h1 : decide (prev < 0) = false := hp0
      have h2 : decide (base + L.length < prev) = false := by simp; omega
      rw [h1, h2]; rfl
    unfold putL putI
    rw [hS]
    obtain ⟨p, hpp⟩ : ∃ p, p = putAt base prev := ⟨_, rfl⟩
    obtain ⟨M', hM'⟩ : ∃ M', M' = putM base M prev := ⟨_, rfl⟩
    obtain ⟨k, hk⟩ : ∃ k, k = putN base L M prev := ⟨_, rfl⟩
    have hk2 : k = dif sameT (L.drop p) M' := by rw [hk, hpp, hM']; rfl
    have hml : M'.length ≤ 100000 := by
      rw [hM']
      unfold putM
      have := HZZ.out
      split
      · rw [List.length_drop]; omega
      · omega
    rw [← hpp] at hpA ⊢
    rw [← hM'] at ⊢
    rw [← hk]
    have HPP := Lib.hid hpp
    have HM' := Lib.hid hM'
    have HK2 := Lib.hid hk2
    obtain ⟨RI, hRI⟩ : ∃ r : Int, r = (if decide (k = M'.length) = true then 0 else base + (p + k : Nat) + 1) := ⟨_, rfl⟩
    obtain ⟨RL, hRL⟩ : ∃ r : List En, r = (if decide (k = M'.length) = true then L else L.take (p + k) ++ M'.drop k) := ⟨_, rfl⟩
    rw [← hRI, ← hRL]
    have HRI := Lib.hid hRI
    have HRL := Lib.hid hRL
    clear hpl hP hS hpp hM' hk hk2 hRI hRL
    go_enter Try.func40, Try.ntmps40
    go_wp2_with fail
    rw [← hwA]
    clear hwA
    obtain ⟨a1, a2, a3, a4⟩ := H2.out
    refine (HP.out wA).mono ?_
    rintro e w1 ⟨rfl, hb1⟩
    have HC1 := Lib.hid (a1.below hb1)
    obtain ⟨c0, c1, c2⟩ := c3 HC1.out
    have HB1 := Lib.hid (a4.trans (hb1.mono a4.size))
    have HC2 := Lib.hid (a2.below hb1)
    clear hb1 a1 a2 a3 a4
    go_upto_if 25 with fail
    go_cut [2, 8] from 24 to 60 (fun v av wx => ∃ va vc, v = .slice va M'.length vc ∧ RdE w (.slice va M'.length vc) M' ∧ av = it (p : Nat) ∧ w1 = wx)
    case first =>
      rcases hcase with ⟨h1, h2⟩ | ⟨h1, p', h2, h3, h4⟩
      · subst h2
        obtain ⟨k, hk⟩ : ∃ k : Nat, k = min (base - prev).toNat z := ⟨_, rfl⟩
        obtain ⟨a', hs1, hs2⟩ := slice_from HU.out k (by have := HZZ.out; omega)
        have hM : M' = M.drop k := by
          rw [HM'.out]
          unfold putM
          rw [if_pos h1, hk, HZZ.out]
        have hA : p = 0 := by rw [HPP.out]; unfold putAt; omega
        have e : (M.drop k).length = z - k := by rw [List.length_drop, ← HZZ.out]
        have HR := Lib.hid hs2
        have HM := Lib.hid hM
        have HE := Lib.hid e
        have HA := Lib.hid hA
        by_cases hlt : (z : Int) < base - prev
        · have hkz : k = z := by omega
          subst hkz
          clear hs2 hM hA e hk
          go_wp2
          all_goals
            go_meet
            exact ⟨a', uc - k, by rw [HM.out, HE.out, Nat.sub_self], by rw [HM.out, HE.out]; exact HR.out, by rw [HA.out]; rfl, rfl⟩
        · have hkz : base - prev = (k : Int) := by omega
          rw [← hkz] at hs1
          have hlt' : decide ((z : Int) < base - prev) = false := by simpa using hlt
          clear hs2 hM hA e hk hkz
          go_wp2
          all_goals
            go_meet
            exact ⟨a', uc - k, by rw [HM.out, HE.out], by rw [HM.out, HE.out]; exact HR.out, by rw [HA.out]; rfl, rfl⟩
      · subst h2
        have q : decide ((p' : Int) < 0) = false := by simp
        have hM : M' = M := by rw [HM'.out]; exact if_neg (by omega)
        have hA : p = p' := by rw [HPP.out]; unfold putAt; omega
        have HM := Lib.hid hM
        have HA := Lib.hid hA
        clear hM hA
        go_wp2
        go_meet
        exact ⟨ua, uc, by rw [HM.out, HZZ.out], by rw [HM.out, ← HZZ.out]; exact HU.out, by rw [HA.out], rfl⟩
    case rest =>
      obtain ⟨va, vc, rfl, hrm, rfl, rfl⟩ := hcut
      clear hcase hp0 hp1 hbad
      obtain ⟨a', hs1, hs2⟩ := slice_from HL.out p (by have := HMM.out; omega)
      have hdl : (L.drop p).length = m - p := by rw [List.length_drop, ← HMM.out]
      have HDIF := Lib.hid (difT_any (hs2.below HB1.out) (hrm.below HB1.out) (by omega) (by omega))
      have hk3 := dif_le sameT (L.drop p) M'
      rw [← HK2.out] at HDIF hk3
      have hkm : p + k ≤ m := by omega
      have hkz : k ≤ M'.length := hk3.2
      have HRM := Lib.hid hrm
      obtain ⟨y, hy⟩ : ∃ y, y = M'.length := ⟨_, rfl⟩
      have HY := Lib.hid hy
      rw [← hy] at HDIF HRM hml hkz ⊢
      clear hdl hk3 hs2 hrm hy
      go_wp2_with fail
      refine HDIF.out.mono ?_
      rintro e w2 ⟨rfl, hb2⟩
      have HC3 := Lib.hid (HC1.out.below hb2)
      obtain ⟨c0, c1, c2⟩ := c3 HC3.out
      have HB2 := Lib.hid (HB1.out.trans (hb2.mono HB1.out.size))
      have HC4 := Lib.hid (HC2.out.below hb2)
      clear hb2 HDIF HC1 HC2
      by_cases hky : k = y
      · have q1 : ((k : Int) == (y : Int)) = true := by simp; omega
        have HI : Hid (RI = 0) := Lib.hid (by rw [HRI.out]; exact if_pos (by have := HY.out; simp; omega))
        have HLL : Hid (RL = L) := Lib.hid (by rw [HRL.out]; exact if_pos (by have := HY.out; simp; omega))
        clear hky
        go_wp2_with fail
        refine (HADD.out _ HB2.out).mono ?_
        rintro e w3 ⟨v, rfl, ho, hb3⟩
        have HS1 := Lib.hid HB2.out.size
        have HB3 := Lib.hid (HB2.out.trans (hb3.mono HB2.out.size))
        have HC5 := Lib.hid (HC4.out.below hb3)
        obtain ⟨d0, d1, d2⟩ := c3 HC5.out
        obtain ⟨g0, g1, g2⟩ := f3 HC5.out
        obtain ⟨xa, xc, rfl, _⟩ := ho.rd.shape
        have HO := Lib.hid ho
        have HLT := Lib.hid HC4.out.lt
        clear ho hb3 c0 c1 c2
        go_wp2
        refine bodyPost_ret (resLt rfl rfl (set3_ce HC5.out _ _ _)) rfl ?_
        exact ⟨_, by rw [HI.out]; rfl, by rw [HLL.out]; exact (HO.out.set3 HLT.out _ _ _).weak HS1.out, set3_below HB3.out (Nat.le_succ _) _ _ _⟩
      · have q1 : ((k : Int) == (y : Int)) = false := by simp; omega
        have HI : Hid (RI = base + (p + k : Nat) + 1) := Lib.hid (by rw [HRI.out]; exact if_neg (by have := HY.out; simp; omega))
        have HLL : Hid (RL = L.take (p + k) ++ M'.drop k) := Lib.hid (by rw [HRL.out]; exact if_neg (by have := HY.out; simp; omega))
        obtain ⟨x', ht1, ht2⟩ := slice_from HRM.out k (by have := HY.out; omega)
        have HBH := Lib.hid (fun w' (hb : Below w.heap.size w w') => behind_any (base := base) (bt := bt) (HL.out.below hb) (p + k) (by have := HMM.out; omega) (ht2.below hb) (by have := HMM.out; omega) (by rw [List.length_drop]; have := HY.out; omega))
        have HH := Lib.hid hky
        clear hky ht2
        rw [← HLL.out] at HBH
        rw [Int.natCast_add] at HBH HI
        have hs3 : IntKind.i64.wrap (base + ((p : Int) + (k : Int))) = base + ((p : Int) + (k : Int)) := by
          unfold IntKind.wrap; simp only [IntKind.bits, IntKind.signed]; have := HY.out; have := HH.out; simp; omega
        have hs4 : IntKind.i64.wrap (base + ((p : Int) + (k : Int)) + 1) = base + ((p : Int) + (k : Int)) + 1 := by
          unfold IntKind.wrap; simp only [IntKind.bits, IntKind.signed]; have := HY.out; have := HH.out; simp; omega
        have H0 : Hid (Below w2.heap.size w2 w2.drew) := Lib.hid (Below.refl _ w2).drew
        have HK := Lib.hid (fun w' (hb : Below w2.heap.size w2 w') => c3 (HC3.out.below hb))
        clear c0 c1 c2
        go_upto_region 10 with fail
        go_region_held3 (fun w' => w'.cell? ⟨w.heap.size, 0, none⟩ = some (it base) ∧ w'.cell? ⟨w.heap.size, 1, none⟩ = some (it bt) ∧ w'.cell? ⟨w.heap.size, 2, none⟩ = some (.slice a m cap))
          (first | with_reducible exact HK2.out _ _ _ | with_reducible exact HK.out _ HB3.out | with_reducible exact HK.out _ H0.out | fail)
          (first | (go_at_call 66; refine (HBH.out _ (HB2.out.trans (H0.out.mono HB2.out.size))).mono ?_; rintro e w3 ⟨v, rfl, ho, hb3⟩; have HB3 : Hid (Below w2.heap.size w2 w3) := Lib.hid (H0.out.trans (hb3.mono H0.out.size)); have HC5 := Lib.hid (HC4.out.below HB3.out); obtain ⟨d0, d1, d2⟩ := c3 HC5.out; obtain ⟨g0, g1, g2⟩ := f3 HC5.out; obtain ⟨xa, xc, rfl, _⟩ := ho.rd.shape; have HO := Lib.hid ho
                    have HK2 : Hid (∀ x y z, (set3 w3 (w.heap.size + 1) x y z).cell? ⟨w.heap.size, 0, none⟩ = some (it base) ∧ (set3 w3 (w.heap.size + 1) x y z).cell? ⟨w.heap.size, 1, none⟩ = some (it bt) ∧ (set3 w3 (w.heap.size + 1) x y z).cell? ⟨w.heap.size, 2, none⟩ = some (.slice a m cap)) := Lib.hid (fun x y z => c3 (set3_keep (HC3.out.below HB3.out) (by omega) x y z)); clear ho hb3) | fail)
        have HLT := Lib.hid HC4.out.lt
        have HS1 := Lib.hid HB2.out.size
        have HB4 := Lib.hid (HB2.out.trans (HB3.out.mono HB2.out.size))
        go_wp2
        refine bodyPost_ret (resLt rfl rfl (set3_ce HC5.out _ _ _)) rfl ?_
        exact ⟨_, by rw [HI.out]; rfl, (HO.out.set3 HLT.out _ _ _).weak HS1.out, set3_below HB4.out (Nat.le_succ _) _ _ _⟩
theorem newer_any (h : RdE w (.slice a n cap) L) (hb : -1000 ≤ base ∧ base ≤ 1125899906842624) {last : Int} (hp : I64 last) (term : Int) (hl : L.length ≤ 100000) :
    Calls Try.prog 42 #[lv base bt (.slice a n cap), it last, it term] w fun e w' => e = .returned (.bool (decide (term > atT bt L L.length ∨ (term = atT bt L L.length ∧ last ≥ base + L.length)))) ∧ Below w.heap.size w w' := by
  have hn := h.len
  subst hn
  have HP := Lib.hid (fun w' => place_any (base := base) ⟨by omega, by omega⟩ hp bt a L.length cap (by omega) w')
  have HT := Lib.hid (fun w' (hw : Below w.heap.size w w') => termAt_any (base := base) (bt := bt) (h.below hw) L.length (Nat.le_refl _) (by omega))
  have HB := Lib.hid (lb_new w base bt (.slice a L.length cap))
  have HW := Lib.hid (one_new w (.cells #[it base, it bt, .slice a L.length cap] 24))
  obtain ⟨own, ho⟩ : ∃ t, t = atT bt L L.length := ⟨_, rfl⟩
  have hpl := plc_cases base L.length last
  rw [← ho] at HT ⊢
  obtain ⟨m, hm⟩ : ∃ m, m = L.length := ⟨_, rfl⟩
  rw [← hm] at HP HT HB HW hl hpl ⊢
  obtain ⟨P, hP⟩ : ∃ P, P = plc base m last := ⟨_, rfl⟩
  rw [← hP] at HP hpl
  have hge : (decide ((m : Int) ≤ P)) = decide (last ≥ base + m) := by
    rcases hpl with ⟨h1, h2⟩ | ⟨h1, h2⟩ | ⟨p, h1, h2, h3⟩
    · rw [decide_eq_decide]; omega
    · rw [decide_eq_decide]; omega
    · rw [decide_eq_decide]; omega
  clear h ho hm hP hpl
  by_cases h1 : own < term
  · rw [show decide (term > own ∨ (term = own ∧ last ≥ base + m)) = true from decide_eq_true (.inl h1)]
    go_enter Try.func42, Try.ntmps42
    go_wp2_with fail
    generalize w.alloc _ = wA at *
    refine (HT.out wA HW.out).mono ?_
    rintro e w1 ⟨rfl, hb1⟩
    have HB1 := Lib.hid (HW.out.trans (hb1.mono HW.out.size))
    obtain ⟨c0, c1, c2⟩ := HB.out.below hb1
    clear hb1
    go_wp2
    go_ret
    exact ⟨rfl, HB1.out⟩
  · have q1 : decide (own < term) = false := by simpa using h1
    by_cases h2 : term = own
    · subst h2
      have e : decide (term > term ∨ (term = term ∧ last ≥ base + m)) = decide ((m : Int) ≤ P) := by
        rw [hge, decide_eq_decide]; omega
      rw [e]
      clear hge e
      go_enter Try.func42, Try.ntmps42
      go_wp2_with fail
      generalize w.alloc _ = wA at *
      refine (HT.out wA HW.out).mono ?_
      rintro e w1 ⟨rfl, hb1⟩
      have HB1 := Lib.hid (HW.out.trans (hb1.mono HW.out.size))
      obtain ⟨c0, c1, c2⟩ := HB.out.below hb1
      clear hb1
      go_wp2_with fail
      refine (HP.out w1).mono ?_
      rintro e w2 ⟨rfl, hb2⟩
      have HB2 := Lib.hid (HB1.out.trans (hb2.mono HB1.out.size))
      clear hb2
      cases hq : decide ((m : Int) ≤ P)
      all_goals
        go_wp2
        go_ret
        exact ⟨by rw [hq]; rfl, HB2.out⟩
    · have q2 : (term == own) = false := by simpa using h2
      rw [show decide (term > own ∨ (term = own ∧ last ≥ base + m)) = false from decide_eq_false (fun h => h.elim h1 (fun h => h2 h.1))]
      go_enter Try.func42, Try.ntmps42
      go_wp2_with fail
      generalize w.alloc _ = wA at *
      refine (HT.out wA HW.out).mono ?_
      rintro e w1 ⟨rfl, hb1⟩
      have HB1 := Lib.hid (HW.out.trans (hb1.mono HW.out.size))
      obtain ⟨c0, c1, c2⟩ := HB.out.below hb1
      clear hb1
      go_wp2
      go_ret
      exact ⟨rfl, HB1.out⟩
end
end Go.Proofs.Ytopnmiakljpgbaa

/-
  Whether numbers are a list of voters; whether two states are the same; whether all of it may be.
-/
import Derived.Test.YtopnmiakljpgbaaBackM
namespace Go.Proofs.Ytopnmiakljpgbaa
open Go.RowKit
set_option maxRecDepth 100000 in
set_option maxHeartbeats 6400000 in
theorem rright_any {w : World} {v : Value} {V : List Int} (hv : RdN w v V) (hl : V.length ≤ 1000000) :
    Calls Try.prog 62 #[v] w fun e w' => ∃ b, e = .returned (.bool b) ∧ (b = true ↔ vGood V ∧ 0 < V.length) ∧ Below w.heap.size w w' := by
  obtain ⟨va, vc, rfl, _⟩ := hv.shape
  have HV := Lib.hid hv
  obtain ⟨n, hn⟩ : ∃ n, n = V.length := ⟨_, rfl⟩
  have HN := Lib.hid hn
  have HL := Lib.hid hl
  have HOK : Hid (∀ P : Prop, P ↔ P) := Lib.hid (fun _ => Iff.rfl)
  rw [← hn] at HV ⊢
  have HLN : Hid (n ≤ 1000000) := Lib.hid (by omega)
  clear hv hn hl HOK
  go_enter Try.func62, Try.ntmps62
  go_wp2
  go_loopw [3] (fun i wr => ∃ k : Nat, k ≤ n ∧ i = it (k : Int) ∧ ((∀ j, j < k → 0 ≤ V.getD j 0 ∧ V.getD j 0 < 64) ∧ ∀ j, 0 < j → j < k → V.getD (j - 1) 0 < V.getD j 0) ∧ Below w.heap.size w wr) (fun i _ => n - (intOf i).toNat)
  case atStart => exact ⟨0, by omega, rfl, ⟨fun j h => absurd h (Nat.not_lt_zero _), fun j _ h => absurd h (Nat.not_lt_zero _)⟩, Below.refl _ _⟩
  case round =>
    obtain ⟨k, hk, rfl, hP, hbr⟩ := hrel
    have HP := Lib.hid hP
    have HBR := Lib.hid hbr
    clear hP
    by_cases hlt : k < n
    · have q : (k : Int) < (n : Int) := by omega
      have q0 : (0 : Int) ≤ (k : Int) := by omega
      obtain ⟨x, hx⟩ : ∃ x, V[k]? = some x := ⟨_, List.getElem?_eq_getElem (by have := HN.out; omega)⟩
      have hxd : V.getD k 0 = x := by rw [List.getD_eq_getElem?_getD, hx]; rfl
      obtain ⟨e1, g, o, rfl, hg, c0⟩ := HV.out.at hx
      have c0 := (hbr.cell (p := ⟨g, o + k, none⟩) hg).trans c0
      have HXD := Lib.hid hxd
      have hkn := HLN.out
      have hbad : ∀ P : Prop, (P → 0 ≤ x ∧ x < 64) → (¬ (0 ≤ x ∧ x < 64)) → ¬ P := fun P h1 h2 h3 => h2 (h1 h3)
      clear hbad
      by_cases h1 : x < 0
      · have HF : Hid (¬ (vGood V ∧ 0 < n)) := Lib.hid (by
          rintro ⟨⟨h, _⟩, _⟩
          have := h x (List.mem_of_getElem? hx)
          omega)
        clear hx hxd hbr e1
        go_wp2_with fail
        go_quiet (fail)
        go_wp2
        go_ret
        exact ⟨false, rfl, ⟨fun h => (by cases h), fun h => absurd h HF.out⟩, HBR.out.trans ((below_drewN _ _).mono HBR.out.size)⟩
      · have p1 : decide (x < 0) = false := decide_eq_false h1
        by_cases h2 : 63 < x
        · have HF : Hid (¬ (vGood V ∧ 0 < n)) := Lib.hid (by
            rintro ⟨⟨h, _⟩, _⟩
            have := h x (List.mem_of_getElem? hx)
            omega)
          clear hx hxd hbr e1
          go_wp2_with fail
          go_quiet (fail)
          go_wp2
          go_ret
          exact ⟨false, rfl, ⟨fun h => (by cases h), fun h => absurd h HF.out⟩, HBR.out.trans ((below_drewN _ _).mono HBR.out.size)⟩
        · have p2 : decide (63 < x) = false := decide_eq_false h2
          have HXR : Hid (0 ≤ x ∧ x < 64) := Lib.hid ⟨by omega, by omega⟩
          by_cases hk0 : k = 0
          · have p3 : decide ((0 : Int) < (k : Int)) = false := decide_eq_false (by omega)
            have p3' : decide (0 < k) = false := decide_eq_false (by omega)
            have HK0 := Lib.hid hk0
            clear hx hxd hbr e1 hk0
            go_wp2_with fail
            go_quiet (fail)
            go_wp2
            go_roundw
            case rel =>
              refine ⟨k + 1, by omega, by go_num, ⟨fun j hj => ?_, fun j h0 hj => ?_⟩, HBR.out.trans ((below_drewN _ _).mono HBR.out.size)⟩
              · by_cases e : j = k
                · rw [e, HXD.out]; exact HXR.out
                · exact HP.out.1 j (by omega)
              · have := HK0.out; omega
            case measure => simp [intOf]; omega
          · have p3 : (0 : Int) < (k : Int) := by omega
            have p3' : 0 < k := by omega
            obtain ⟨jj, hjj⟩ : ∃ jj : Nat, k = jj + 1 := ⟨k - 1, by omega⟩
            obtain ⟨y, hy⟩ : ∃ y, V[jj]? = some y := ⟨_, List.getElem?_eq_getElem (by have := HN.out; omega)⟩
            have hyd : V.getD jj 0 = y := by rw [List.getD_eq_getElem?_getD, hy]; rfl
            obtain ⟨e2, g', o', he', hg', d0⟩ := HV.out.at hy
            cases he'
            have d0 := (hbr.cell (p := ⟨g, o + jj, none⟩) hg').trans d0
            have hwk : IntKind.i64.wrap ((k : Int) - 1) = (jj : Int) := by unfold IntKind.wrap; simp only [IntKind.bits, IntKind.signed]; simp; omega
            have r1 : (jj : Int) < (n : Int) := by omega
            have r2 : (0 : Int) ≤ (jj : Int) := by omega
            have HJJ := Lib.hid hjj
            have HYD := Lib.hid hyd
            by_cases h3 : x ≤ y
            · have HF : Hid (¬ (vGood V ∧ 0 < n)) := Lib.hid (by
                rintro ⟨⟨_, h⟩, _⟩
                have := h k (by omega) (by have := HN.out; omega)
                rw [hxd, show k - 1 = jj by omega, hyd] at this
                omega)
              clear hx hxd hbr e1 hk0 hy hyd e2 hjj
              go_wp2_with fail
              go_quiet (fail)
              go_wp2
              go_ret
              exact ⟨false, rfl, ⟨fun h => (by cases h), fun h => absurd h HF.out⟩, HBR.out.trans ((below_drewN _ _).mono HBR.out.size)⟩
            · have p4 : decide (x ≤ y) = false := decide_eq_false h3
              have H3 := Lib.hid h3
              clear hx hxd hbr e1 hk0 hy hyd e2 hjj h3
              go_wp2_with fail
              go_quiet (fail)
              go_wp2
              go_roundw
              case rel =>
                refine ⟨k + 1, by omega, by go_num, ⟨fun j hj => ?_, fun j h0 hj => ?_⟩, HBR.out.trans ((below_drewN _ _).mono HBR.out.size)⟩
                · by_cases e : j = k
                  · rw [e, HXD.out]; exact HXR.out
                  · exact HP.out.1 j (by omega)
                · by_cases e : j = k
                  · rw [e, HXD.out, show k - 1 = jj by have := HJJ.out; omega, HYD.out]; have := H3.out; omega
                  · exact HP.out.2 j h0 (by omega)
              case measure => simp [intOf]; omega
    · have q : decide ((k : Int) < (n : Int)) = false := decide_eq_false (by omega)
      have q2 : decide (k < n) = false := decide_eq_false (by omega)
      have HG : Hid (vGood V) := Lib.hid (by
        have hkn : k = V.length := by have := HN.out; omega
        refine ⟨fun x hx => ?_, fun i h0 hi => HP.out.2 i h0 (by omega)⟩
        obtain ⟨i, hi, rfl⟩ := List.mem_iff_getElem.1 hx
        have := HP.out.1 i (by omega)
        rw [List.getD_eq_getElem?_getD, List.getElem?_eq_getElem hi] at this
        exact this)
      clear hbr
      by_cases h0 : 0 < n
      · have r1 : (0 : Int) < (n : Int) := by omega
        go_wp2
        go_ret
        exact ⟨_, rfl, ⟨fun _ => ⟨HG.out, by have := HN.out; omega⟩, fun _ => by simp⟩, HBR.out⟩
      · have r1 : decide ((0 : Int) < (n : Int)) = false := decide_eq_false (by omega)
        have r2 : decide (0 < n) = false := decide_eq_false (by omega)
        go_wp2
        go_ret
        exact ⟨_, rfl, ⟨fun h => (by simp at h), fun h => absurd h.2 (by have := HN.out; omega)⟩, HBR.out⟩
set_option maxRecDepth 100000 in
set_option maxHeartbeats 6400000 in
theorem same_any {w : World} {S : Hs} {vs us es fs : Value} (hvs : RdN w vs S.V) (hus : RdN w us S.V) (hes : RdE w es S.L) (hfs : RdE w fs S.L) (l1 : S.V.length ≤ 1000000) (l2 : S.L.length ≤ 1000000) :
    Calls Try.prog 37 #[hv S.t S.vo vs S.sn S.ba S.bt es, hv S.t S.vo us S.sn S.ba S.bt fs] w fun e w' => e = .returned (.bool true) ∧ Below w.heap.size w w' := by
  obtain ⟨t, vo, V, sn, ba, bt, L⟩ := S
  dsimp only at *
  obtain ⟨xa, xc, rfl, _⟩ := hes.shape
  obtain ⟨ya, yc, rfl, _⟩ := hfs.shape
  have SL := Lib.hid (fun w' (hb : Below w.heap.size w w') => sameLog_any (b1 := ba) (t1 := bt) (b2 := ba) (t2 := bt) (hes.below hb) (hfs.below hb) l2)
  have SI := Lib.hid (fun w' (hb : Below w.heap.size w w') => sameInts_any (hvs.below hb) (hus.below hb) l1)
  rw [show decide (ba = ba ∧ bt = bt ∧ L = L) = true from decide_eq_true ⟨rfl, rfl, rfl⟩] at SL
  rw [show decide (V = V) = true from decide_eq_true rfl] at SI
  obtain ⟨za, zc, rfl, _⟩ := hvs.shape
  obtain ⟨ua, uc, rfl, _⟩ := hus.shape
  generalize V.length = lv1 at *
  generalize L.length = ll1 at *
  have HA := Lib.hid (two_new w #[it t, it vo, .slice za lv1 zc, .string sn, it ba, it bt, .slice xa ll1 xc] #[it t, it vo, .slice ua lv1 uc, .string sn, it ba, it bt, .slice ya ll1 yc] 42 42)
  clear hvs hus hes hfs
  go_enter Try.func37, Try.ntmps37
  go_upto_region 1 with fail
  generalize (w.alloc _).alloc _ = wA at *
  have HB := Lib.hid HA.out.2.2.2
  obtain ⟨c0, c1, c2, c3', c4, c5, c6⟩ := c7 HA.out.1
  obtain ⟨d0, d1, d2, d3, d4, d5, d6⟩ := c7 HA.out.2.1
  go_wp2_with fail
  refine (SL.out _ HB.out).mono ?_
  rintro e w2 ⟨rfl, hb⟩
  have HB2 := Lib.hid (HB.out.trans (hb.mono HB.out.size))
  have HC2 := Lib.hid (HA.out.1.below hb)
  have HD2 := Lib.hid (HA.out.2.1.below hb)
  clear hb c0 c1 c2 c3' c4 c5 c6 d0 d1 d2 d3 d4 d5 d6
  obtain ⟨c0, c1, c2, c3', c4, c5, c6⟩ := c7 HC2.out
  obtain ⟨d0, d1, d2, d3, d4, d5, d6⟩ := c7 HD2.out
  go_wp2_with fail
  refine (SI.out _ HB2.out).mono ?_
  rintro e w3 ⟨rfl, hb⟩
  have HB3 := Lib.hid (HB2.out.trans (hb.mono HB2.out.size))
  have HC3 := Lib.hid (HC2.out.below hb)
  have HD3 := Lib.hid (HD2.out.below hb)
  clear hb c0 c1 c2 c3' c4 c5 c6 d0 d1 d2 d3 d4 d5 d6
  obtain ⟨c0, c1, c2, c3', c4, c5, c6⟩ := c7 HC3.out
  obtain ⟨d0, d1, d2, d3, d4, d5, d6⟩ := c7 HD3.out
  have q1 : (t == t) = true := by simp
  have q2 : (vo == vo) = true := by simp
  have q3 : (sn.toList == sn.toList) = true := by simp
  go_wp2
  all_goals
    go_ret
    exact ⟨rfl, HB3.out⟩
end Go.Proofs.Ytopnmiakljpgbaa

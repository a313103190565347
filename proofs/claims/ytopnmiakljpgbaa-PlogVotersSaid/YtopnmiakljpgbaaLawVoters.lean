/-
  The walk of the law PlogVoters: it returns true; no older memory is changed.
-/
import Derived.Test.YtopnmiakljpgbaaNow
namespace Go.Proofs.Ytopnmiakljpgbaa
open Go.RowKit
theorem info3' : (Try.prog.info? 3).map (fun i => (i.zero, i.size, i.bytes)) = some (some (.int .i64 0), 1, 8) := info3
/-- r[:k] of numbers. -/
theorem slice_toN {w0 : World} {a : Option Addr} {n cap : Nat} {L : List Int} (h : RdN w0 (.slice a n cap) L) (k : Nat) (hk : k ≤ L.length) (h0 : 0 < k) :
    (∀ w : World, (Instr.slice 40 (.slice a n cap) none (some (it (k : Int))) none).run Try.prog w = .ok (.slice a k cap) w) ∧ RdN w0 (.slice a k cap) (L.take k) := by
  obtain ⟨i, hi, hz0, hz1, hz2⟩ := info_parts info3
  obtain ⟨a', c', he, h1, h2, h3⟩ := h
  cases he
  have e : (L.take k).length = k := by rw [List.length_take]; omega
  rcases h3 with rfl | ⟨g, o, rfl, hc⟩
  · simp at hk; omega
  · refine ⟨fun w => ?_, ⟨_, cap, by rw [e], by rw [e]; omega, h2, .inr ⟨g, o, rfl, fun i x hx => hc i x ?_⟩⟩⟩
    · have h4 : k ≤ cap := by omega
      have h5 : ¬ cap = 0 := by omega
      simp [Instr.slice, Instr.sliceBounds, Instr.sliceBound, run_underlying Try.underlying40, sizeOf, typeInfo, hi, asIntOf, h4, add_any]
    · have hi := (List.getElem?_eq_some_iff.1 hx).1
      rw [e] at hi
      rw [List.getElem?_take, if_pos hi] at hx
      exact hx
theorem set_c2 {w : World} {n : Nat} {T : TypeId} {v0 v1 v2 v3 v4 v5 v6 : Value} (h : Ce w n T #[v0, v1, v2, v3, v4, v5, v6]) (x : Value) : Ce (w.setCell ⟨n, 2, none⟩ x) n T #[v0, v1, x, v3, v4, v5, v6] := h.set x (i := 2)
theorem lst_len (b : Bs) : (lst b).length ≤ b.length := by
  unfold lst
  split
  · unfold vot; rw [List.length_map]; exact Nat.le_refl _
  · simp
theorem nowL_len (k : Nat) : ∀ (L : List En) (V : List Int), V.length ≤ k → (∀ e ∈ L, e.data.size ≤ k) → (nowL L V).length ≤ k
  | [], V, hV, _ => hV
  | e :: r, V, hV, h => by
    have hr : ∀ x ∈ r, x.data.size ≤ k := fun x hx => h x (List.mem_cons_of_mem _ hx)
    show (nowL r (if e.kind = 1 then lst e.data.data.toList else V)).length ≤ k
    split
    · exact nowL_len k r _ (Nat.le_trans (lst_len _) (by rw [← size_list]; exact h e (List.mem_cons_self ..))) hr
    · exact nowL_len k r V hV hr
theorem set_c456 {w : World} {n : Nat} {T : TypeId} {v0 v1 v2 v3 v4 v5 v6 : Value} (h : Ce w n T #[v0, v1, v2, v3, v4, v5, v6]) (x y z : Value) : Ce (((w.setCell ⟨n, 4, none⟩ x).setCell ⟨n, 5, none⟩ y).setCell ⟨n, 6, none⟩ z) n T #[v0, v1, v2, v3, x, y, z] := ((h.set x (i := 4)).set y (i := 5)).set z (i := 6)
theorem f7 {w : World} {n : Nat} {T : TypeId} {cs : Array Value} (h : Ce w n T cs) : w.frozen? ⟨n, 2, none⟩ = false ∧ w.frozen? ⟨n, 3, none⟩ = false ∧ w.frozen? ⟨n, 4, none⟩ = false ∧ w.frozen? ⟨n, 5, none⟩ = false ∧ w.frozen? ⟨n, 6, none⟩ = false :=
  ⟨h.frozen 2, h.frozen 3, h.frozen 4, h.frozen 5, h.frozen 6⟩
set_option maxRecDepth 100000 in
set_option maxHeartbeats 12800000 in
theorem lawVoters_any {w : World} (d : ByteArray) {u vs : Value} {V0 V : List Int} (hu : RdN w u V0) {t vo ba bt : Int} {sn : ByteArray} {a : Option Addr} {n cap : Nat} {L : List En} (hV : RdN w vs V) (h : RdE w (.slice a n cap) L) :
    Calls Try.prog 4 #[.string d, u, hv t vo vs sn ba bt (.slice a n cap)] w fun e w' => e = .returned (.bool true) ∧ Below w.heap.size w w' := by
  have hn := h.len
  subst hn
  obtain ⟨va, vc, rfl, _⟩ := hV.shape
  obtain ⟨ua, uc, rfl, _⟩ := hu.shape
  have HR := Lib.hid h
  have HV := Lib.hid hV
  have HU := Lib.hid hu
  have HC := Lib.hid (Ce.new w 42 #[it t, it vo, .slice va V.length vc, .string sn, it ba, it bt, .slice a L.length cap])
  have HB := Lib.hid (one_new w (.cells #[it t, it vo, .slice va V.length vc, .string sn, it ba, it bt, .slice a L.length cap] 42))
  obtain ⟨m, hm⟩ : ∃ m, m = L.length := ⟨_, rfl⟩
  obtain ⟨z, hz⟩ : ∃ z, z = V.length := ⟨_, rfl⟩
  obtain ⟨y, hy⟩ : ∃ y, y = V0.length := ⟨_, rfl⟩
  have HZ := Lib.hid hz
  have HY := Lib.hid hy
  rw [← hz] at HV
  rw [← hy] at HU
  rw [← hm] at HR
  rw [← hm, ← hz] at HC HB
  rw [← hm, ← hz, ← hy]
  clear h hV hu hm hz hy
  go_enter Try.func4, Try.ntmps4
  go_upto_region 1 with fail
  generalize w.alloc _ = wA at *
  go_wp2_with fail
  refine (awake_any wA).mono ?_
  rintro e w1 ⟨rfl, hb1⟩
  have HC1 := Lib.hid (HC.out.below hb1)
  have HB1 := Lib.hid (HB.out.trans (hb1.mono HB.out.size))
  clear hb1 HC HB
  obtain ⟨D, hD⟩ : ∃ D, D = ctake d 100 := ⟨_, rfl⟩
  have hDs : D.size ≤ 100 := by rw [hD, ctake_size]; omega
  go_upto_if 17 with fail
  go_cut [0] from 15 to 19 (fun dv wx => dv = .string D ∧ w1 = wx)
  case first =>
    by_cases hd : d.size ≤ 100
    · have q1 : decide ((100 : Int) < (d.size : Int)) = false := decide_eq_false (by omega)
      have q2 : decide (100 < d.size) = false := decide_eq_false (by omega)
      have e : d = D := by rw [hD, ctake_all hd]
      clear hD
      go_wp2
      go_meet
      exact ⟨congrArg Value.string e, rfl⟩
    · have q1 : (100 : Int) < (d.size : Int) := by omega
      have q2 : 100 < d.size := by omega
      have e : d.extract 0 100 = D := by rw [hD, sub_str]; rfl
      clear hD
      go_wp2
      go_meet
      exact ⟨rfl, rfl⟩
  case rest =>
    obtain ⟨rfl, rfl⟩ := hcut
    clear hD
    go_upto_if 22 with fail
    go_cut [1] from 20 to 24 (fun uv wx => ∃ W0 : List Int, RdN w uv W0 ∧ W0.length ≤ 100 ∧ w1 = wx)
    case first =>
      by_cases hd : y ≤ 100
      · have q1 : decide ((100 : Int) < (y : Int)) = false := decide_eq_false (by omega)
        have q2 : decide (100 < y) = false := decide_eq_false (by omega)
        go_wp2
        go_meet
        exact ⟨V0, HU.out, by have := HY.out; omega, rfl⟩
      · have q1 : (100 : Int) < (y : Int) := by omega
        have q2 : 100 < y := by omega
        obtain ⟨h1, h2⟩ := slice_toN HU.out 100 (by have := HY.out; omega) (by decide)
        have h1 : ∀ w : World, (Instr.slice 40 (.slice ua y uc) none (some (it 100)) none).run Try.prog w = .ok (.slice ua 100 uc) w := h1
        have hcap : 100 ≤ uc := by obtain ⟨_, _, e, h, _⟩ := h2.shape; injection e with _ _ e3; rw [List.length_take] at h; have := HY.out; omega
        have H2 := Lib.hid h2
        clear h2
        go_wp2
        go_meet
        exact ⟨V0.take 100, H2.out, by rw [List.length_take]; omega, rfl⟩
    case rest =>
      obtain ⟨W0, hW0, hW1, rfl⟩ := hcut
      have HW0 := Lib.hid hW0
      clear HU HY hW0
      obtain ⟨c0, c1, c2, c3', c4, c5, c6⟩ := c7 HC1.out
      obtain ⟨f2, f3', f4, f5, f6⟩ := f7 HC1.out
      go_upto_if 28 with fail
      go_cut [] from 25 to 32 (fun wx => ∃ (va : Option Addr) (z vc : Nat) (W : List Int), RdN w (.slice va z vc) W ∧ W.length ≤ 100 ∧ Ce wx w.heap.size 42 #[it t, it vo, .slice va z vc, .string sn, it ba, it bt, .slice a m cap] ∧ Below w.heap.size w wx)
      case first =>
        by_cases hd : z ≤ 100
        · have q1 : decide ((100 : Int) < (z : Int)) = false := decide_eq_false (by omega)
          have q2 : decide (100 < z) = false := decide_eq_false (by omega)
          go_wp2
          go_meet
          exact ⟨va, z, vc, V, HV.out, by have := HZ.out; omega, HC1.out, HB1.out⟩
        · have q1 : (100 : Int) < (z : Int) := by omega
          have q2 : 100 < z := by omega
          obtain ⟨h1, h2⟩ := slice_toN HV.out 100 (by have := HZ.out; omega) (by decide)
          have h1 : ∀ w : World, (Instr.slice 40 (.slice va z vc) none (some (it 100)) none).run Try.prog w = .ok (.slice va 100 vc) w := h1
          have hcap : 100 ≤ vc := by obtain ⟨_, _, e, h, _⟩ := h2.shape; injection e with _ _ e3; rw [List.length_take] at h; have := HZ.out; omega
          have H2 := Lib.hid h2
          clear h2
          go_wp2
          go_meet
          exact ⟨va, 100, vc, V.take 100, H2.out, by rw [List.length_take]; omega, set_c2 HC1.out _, HB1.out.setCell (p := ⟨w.heap.size, 2, none⟩) (Nat.le_refl _) _⟩
      case rest =>
        obtain ⟨va', z', vc', W, hW, hWl, hC, hB⟩ := hcut
        clear HV HZ HC1 HB1 c0 c1 c2 c3' c4 c5 c6 f2 f3' f4 f5 f6
        have HW := Lib.hid hW
        have HC2 := Lib.hid hC
        have HB2 := Lib.hid hB
        have HSM := Lib.hid (small_any (base := ba) (bt := bt) (HR.out.below hB))
        obtain ⟨c0, c1, c2, c3', c4, c5, c6⟩ := c7 hC
        clear hW hC hB
        go_wp2_with fail
        refine HSM.out.mono ?_
        rintro e w3 ⟨v, rfl, ho, hb3⟩
        obtain ⟨la, lc, rfl, _⟩ := ho.rd.shape
        have hC3 := HC2.out.below hb3
        obtain ⟨d0, d1, d2, d3, d4, d5, d6⟩ := c7 hC3
        obtain ⟨f2, f3', f4, f5, f6⟩ := f7 hC3
        have HC3 := Lib.hid hC3
        have HO3 := Lib.hid ho
        have HB3 := Lib.hid (HB2.out.trans (hb3.mono HB2.out.size))
        have HLT := Lib.hid HC2.out.lt
        have hfl : (fewL L).length ≤ 40 := by rw [fewL_length]; omega
        have HDS : Hid (∀ e ∈ fewL L, e.data.size ≤ 1000000) := Lib.hid (by
          intro e he
          obtain ⟨x, _, rfl⟩ := List.mem_map.1 he
          show (ctake x.data 60).size ≤ _
          rw [ctake_size]; omega)
        obtain ⟨F, hF⟩ : ∃ F, F = fewL L := ⟨_, rfl⟩
        rw [← hF] at HO3 hfl HDS ⊢
        obtain ⟨q, hq⟩ : ∃ q, q = F.length := ⟨_, rfl⟩
        have HQ := Lib.hid hq
        rw [← hq] at HO3 hfl ⊢
        clear ho hb3 hC3 hF hq c0 c1 c2 c3' c4 c5 c6
        go_upto_region 9 with fail
        generalize hwD : World.setCell (World.setCell (World.setCell w3 _ _) _ _) _ _ = wD
        have HC4 : Hid (Ce wD w.heap.size 42 #[it t, it vo, .slice va' z' vc', .string sn, it ba, it bt, .slice la q lc]) := Lib.hid (by rw [← hwD]; exact set_c456 HC3.out _ _ _)
        have HO4 : Hid (OwnE wD (w.heap.size + 1) (.slice la q lc) F) := Lib.hid (by
          rw [← hwD]
          have hwk := HO3.out.weak (base' := w.heap.size + 1) HLT.out
          exact ((hwk.set (Nat.lt_succ_self _) _).set (Nat.lt_succ_self _) _).set (Nat.lt_succ_self _) _)
        have HB4 : Hid (Below w.heap.size w wD) := Lib.hid (by
          rw [← hwD]
          exact ((HB3.out.setCell (p := ⟨w.heap.size, 4, none⟩) (Nat.le_refl _) _).setCell (p := ⟨w.heap.size, 5, none⟩) (Nat.le_refl _) _).setCell (p := ⟨w.heap.size, 6, none⟩) (Nat.le_refl _) _)
        clear hwD d0 d1 d2 d3 d4 d5 d6 f2 f3' f4 f5 f6 HC3 HO3 HB3 HC2 HB2 HSM
        obtain ⟨G, hG⟩ : ∃ G, G = lst D.data.toList := ⟨_, rfl⟩
        obtain ⟨ok, hok⟩ : ∃ ok, ok = lsk D.data.toList := ⟨_, rfl⟩
        have HL1 := Lib.hid (fun w' => list_any D (by omega) w')
        have HL2 := Lib.hid (fun w' => rlist_any D (by omega) w')
        rw [← hG, ← hok] at HL1 HL2
        have hGok : ok = false → G = [] := by
          intro h
          rw [hok] at h
          rw [hG]
          unfold lst
          split
          · rename_i h1
            unfold lsk at h
            rw [h1, Bool.true_and] at h
            have : D.data.toList = [] := List.eq_nil_of_length_eq_zero (by have := of_decide_eq_false h; omega)
            rw [this]; rfl
          · rfl
        have hGl : G.length ≤ 1000000 := by
          rw [hG]
          unfold lst
          split
          · unfold vot; rw [List.length_map, ← size_list]; omega
          · simp
        have HGOK := Lib.hid hGok
        clear hG hok hGok
        go_wp2_with fail
        refine (HL1.out _).mono ?_
        rintro e w5 ⟨v5, rfl, ho5, hb5⟩
        have HO5 := Lib.hid ho5.rdN
        have HB5 := Lib.hid (HB4.out.trans (hb5.mono HB4.out.size))
        have HC5 := Lib.hid (HC4.out.below hb5)
        have HF5 := Lib.hid (HO4.out.below hb5)
        clear ho5 hb5
        go_wp2_with fail
        refine (HL2.out _).mono ?_
        rintro e w6 ⟨v6, rfl, ho6, hb6⟩
        have HO6 := Lib.hid ho6.rdN
        have HB6 := Lib.hid (HB5.out.trans (hb6.mono HB5.out.size))
        have HC6 := Lib.hid (HC5.out.below hb6)
        have HF6 := Lib.hid (HF5.out.below hb6)
        have HO5' := Lib.hid (HO5.out.below hb6)
        clear ho6 hb6
        go_upto_if 48 with fail
        go_cut [10] from 47 to 48 (fun v wx => RdN w6 v G ∧ w6 = wx)
        case first =>
          cases ok with
          | true =>
            go_wp2
            go_meet
            exact ⟨HO6.out, rfl⟩
          | false =>
            go_wp2
            go_meet
            exact ⟨by rw [HGOK.out (by simp)]; exact RdN.nil _, rfl⟩
        case rest =>
          obtain ⟨hv6, rfl⟩ := hcut
          have HSI := Lib.hid (sameInts_any HO5'.out hv6 hGl)
          rw [show decide (G = G) = true from decide_eq_true rfl] at HSI
          clear hv6
          go_wp2_with fail
          refine HSI.out.mono ?_
          rintro e w7 ⟨rfl, hb7⟩
          have HB7 := Lib.hid (HB6.out.trans (hb7.mono HB6.out.size))
          have HC7 := Lib.hid (HC6.out.below hb7)
          have HF7 := Lib.hid (HF6.out.below hb7)
          clear hb7 HSI
          have hln : (nowL F W).length ≤ 1000000 := nowL_len _ F W (by omega) HDS.out
          have H0 : Hid (Below w7.heap.size w7 w7.drew) := Lib.hid (Below.refl _ w7).drew
          have HK := Lib.hid (fun w' (hb : Below w7.heap.size w7 w') => c7 (HC7.out.below hb))
          have HNW := Lib.hid (fun w' (hb : Below w7.heap.size w7 w') => now_any (t := t) (vo := vo) (ba := ba) (bt := bt) (sn := sn) (HF7.out.below hb).rd ((HW.out.below HB7.out).below hb) (by have := HQ.out; omega) (by omega) HDS.out)
          have HRW := Lib.hid (fun w' (hb : Below w7.heap.size w7 w') => rnow_any (t := t) (vo := vo) (ba := ba) (bt := bt) (sn := sn) (HF7.out.below hb).rd ((HW.out.below HB7.out).below hb) (by have := HQ.out; omega) HDS.out)
          obtain ⟨NW, hNW⟩ : ∃ NW, NW = nowL F W := ⟨_, rfl⟩
          rw [← hNW] at HNW HRW hln
          clear hNW
          go_upto_region 14 with fail
          go_region_held3 (fun w' => w'.cell? ⟨w.heap.size, 0, none⟩ = some (it t) ∧ w'.cell? ⟨w.heap.size, 1, none⟩ = some (it vo) ∧ w'.cell? ⟨w.heap.size, 2, none⟩ = some (.slice va' z' vc') ∧ w'.cell? ⟨w.heap.size, 3, none⟩ = some (.string sn) ∧
              w'.cell? ⟨w.heap.size, 4, none⟩ = some (it ba) ∧ w'.cell? ⟨w.heap.size, 5, none⟩ = some (it bt) ∧ w'.cell? ⟨w.heap.size, 6, none⟩ = some (.slice la q lc))
            (first | with_reducible exact HK.out _ HB10.out | with_reducible exact HK.out _ HB9.out | with_reducible exact HK.out _ HB8.out | with_reducible exact HK.out _ H0.out | fail)
            (first
              | (go_at_call 27; refine (HNW.out _ H0.out).mono ?_; rintro e w8 ⟨v8, rfl, ho8, hb8⟩; have HB8 : Hid (Below w7.heap.size w7 w8) := Lib.hid (H0.out.trans (hb8.mono H0.out.size)); have HO8 := Lib.hid ho8.rdN; clear ho8 hb8)
              | (go_at_call 28; refine (HRW.out _ HB8.out).mono ?_; rintro e w9 ⟨v9, rfl, ho9, hb9⟩; have HB9 : Hid (Below w7.heap.size w7 w9) := Lib.hid (HB8.out.trans (hb9.mono HB8.out.size)); have HO9 := Lib.hid ho9; have HO8' := Lib.hid (HO8.out.below hb9); clear ho9 hb9)
              | (go_at_call 26; refine (sameInts_any HO8'.out HO9.out hln).mono ?_; rw [show decide (NW = NW) = true from decide_eq_true rfl]; rintro e w10 ⟨rfl, hb10⟩; have HB10 : Hid (Below w7.heap.size w7 w10) := Lib.hid (HB9.out.trans (hb10.mono HB9.out.size)); clear hb10)
              | fail)
          have HBA := Lib.hid (HB7.out.trans (HB10.out.mono HB7.out.size))
          have HD1 := Lib.hid (fun w' (hb : Below w.heap.size w w') => data_any (HW0.out.below hb) (by omega))
          have HD2 := Lib.hid (fun w' (hb : Below w.heap.size w w') => rdata_any (HW0.out.below hb) (by omega))
          obtain ⟨X, hX⟩ : ∃ X, X = dataB W0 := ⟨_, rfl⟩
          rw [← hX] at HD1 HD2
          clear hX
          have hokk : (ok == ok) = true := by cases ok <;> rfl
          go_wp2_with fail
          refine (HD1.out _ HBA.out).mono ?_
          rintro e w11 ⟨rfl, hb11⟩
          have HB11 := Lib.hid (HBA.out.trans (hb11.mono HBA.out.size))
          clear hb11
          go_wp2_with fail
          refine (HD2.out _ HB11.out).mono ?_
          rintro e w12 ⟨rfl, hb12⟩
          have HB12 := Lib.hid (HB11.out.trans (hb12.mono HB11.out.size))
          clear hb12
          go_wp2
          go_ret
          exact ⟨rfl, HB12.out⟩
end Go.Proofs.Ytopnmiakljpgbaa

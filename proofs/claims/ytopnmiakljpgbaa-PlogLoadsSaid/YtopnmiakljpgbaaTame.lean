/-
  All of a node's, cut to what is not too great.
-/
import Derived.Test.YtopnmiakljpgbaaWhole
namespace Go.Proofs.Ytopnmiakljpgbaa
open Go.RowKit
theorem slice_toN {w0 : World} {a : Option Addr} {n cap : Nat} {L : List Int} (h : RdN w0 (.slice a n cap) L) (k : Nat) (hk : k ≤ L.length) (h0 : 0 < k) :
    (∀ w : World, (Instr.slice 40 (.slice a n cap) none (some (it (k : Int))) none).run Try.prog w = .ok (.slice a k cap) w) ∧ RdN w0 (.slice a k cap) (L.take k) := by
  obtain ⟨i, hi, hz0, hz1, hz2⟩ := info_parts info3
  obtain ⟨a', c', he, h1, h2, h3⟩ := h
  cases he
  have e : (L.take k).length = k := by rw [List.length_take]; omega
  rcases h3 with rfl | ⟨g, o, rfl, hc⟩
  · simp at hk; omega
  · refine ⟨fun w => ?_, ⟨_, cap, by rw [e], by rw [e]; omega, h2, .inr ⟨g, o, rfl, fun i x hx => hc i x ?_⟩⟩⟩
    · have h4 : k ≤ cap := by omega
      have h5 : ¬ cap = 0 := by omega
      simp [Instr.slice, Instr.sliceBounds, Instr.sliceBound, run_underlying Try.underlying40, sizeOf, typeInfo, hi, asIntOf, h4, add_any]
    · have hi := (List.getElem?_eq_some_iff.1 hx).1
      rw [e] at hi
      rw [List.getElem?_take, if_pos hi] at hx
      exact hx
theorem set_c2 {w : World} {n : Nat} {T : TypeId} {v0 v1 v2 v3 v4 v5 v6 : Value} (h : Ce w n T #[v0, v1, v2, v3, v4, v5, v6]) (x : Value) : Ce (w.setCell ⟨n, 2, none⟩ x) n T #[v0, v1, x, v3, v4, v5, v6] := h.set x (i := 2)
theorem set_c456 {w : World} {n : Nat} {T : TypeId} {v0 v1 v2 v3 v4 v5 v6 : Value} (h : Ce w n T #[v0, v1, v2, v3, v4, v5, v6]) (x y z : Value) : Ce (((w.setCell ⟨n, 4, none⟩ x).setCell ⟨n, 5, none⟩ y).setCell ⟨n, 6, none⟩ z) n T #[v0, v1, v2, v3, x, y, z] := ((h.set x (i := 4)).set y (i := 5)).set z (i := 6)
theorem f7 {w : World} {n : Nat} {T : TypeId} {cs : Array Value} (h : Ce w n T cs) : w.frozen? ⟨n, 2, none⟩ = false ∧ w.frozen? ⟨n, 3, none⟩ = false ∧ w.frozen? ⟨n, 4, none⟩ = false ∧ w.frozen? ⟨n, 5, none⟩ = false ∧ w.frozen? ⟨n, 6, none⟩ = false :=
  ⟨h.frozen 2, h.frozen 3, h.frozen 4, h.frozen 5, h.frozen 6⟩
theorem f7a {w : World} {n : Nat} {T : TypeId} {cs : Array Value} (h : Ce w n T cs) : w.frozen? ⟨n, 0, none⟩ = false ∧ w.frozen? ⟨n, 1, none⟩ = false := ⟨h.frozen 0, h.frozen 1⟩
theorem set_c3 {w : World} {n : Nat} {T : TypeId} {v0 v1 v2 v3 v4 v5 v6 : Value} (h : Ce w n T #[v0, v1, v2, v3, v4, v5, v6]) (x : Value) : Ce (w.setCell ⟨n, 3, none⟩ x) n T #[v0, v1, v2, x, v4, v5, v6] := h.set x (i := 3)
/-- A whole struct of seven cells stored. -/
abbrev set7 (w : World) (n : Nat) (v0 v1 v2 v3 v4 v5 v6 : Value) : World := ((((((w.setCell ⟨n, 0, none⟩ v0).setCell ⟨n, 1, none⟩ v1).setCell ⟨n, 2, none⟩ v2).setCell ⟨n, 3, none⟩ v3).setCell ⟨n, 4, none⟩ v4).setCell ⟨n, 5, none⟩ v5).setCell ⟨n, 6, none⟩ v6
set_option maxHeartbeats 3200000 in
theorem set7_ce {w : World} {n : Nat} {T : TypeId} {u0 u1 u2 u3 u4 u5 u6 : Value} (b : Ce w n T #[u0, u1, u2, u3, u4, u5, u6]) (v0 v1 v2 v3 v4 v5 v6 : Value) : Ce (set7 w n v0 v1 v2 v3 v4 v5 v6) n T #[v0, v1, v2, v3, v4, v5, v6] :=
  ((((((b.set v0 (i := 0)).set v1 (i := 1)).set v2 (i := 2)).set v3 (i := 3)).set v4 (i := 4)).set v5 (i := 5)).set v6 (i := 6)
theorem set7_keep {w : World} {n m : Nat} {T : TypeId} {cs : Array Value} (h : Ce w n T cs) (hne : n ≠ m) (v0 v1 v2 v3 v4 v5 v6 : Value) : Ce (set7 w m v0 v1 v2 v3 v4 v5 v6) n T cs :=
  ((((((h.other hne v0 (i := 0)).other hne v1 (i := 1)).other hne v2 (i := 2)).other hne v3 (i := 3)).other hne v4 (i := 4)).other hne v5 (i := 5)).other hne v6 (i := 6)
theorem set7_below {w w2 : World} {n : Nat} (h : Below w.heap.size w w2) (hn : w.heap.size ≤ n) (v0 v1 v2 v3 v4 v5 v6 : Value) : Below w.heap.size w (set7 w2 n v0 v1 v2 v3 v4 v5 v6) :=
  ((((((h.setCell (p := ⟨n, 0, none⟩) hn v0).setCell (p := ⟨n, 1, none⟩) hn v1).setCell (p := ⟨n, 2, none⟩) hn v2).setCell (p := ⟨n, 3, none⟩) hn v3).setCell (p := ⟨n, 4, none⟩) hn v4).setCell (p := ⟨n, 5, none⟩) hn v5).setCell (p := ⟨n, 6, none⟩) hn v6
theorem OwnE.set7 {w : World} {base : Nat} {v : Value} {L : List En} (h : OwnE w base v L) {b : Nat} (hb : b < base) (v0 v1 v2 v3 v4 v5 v6 : Value) : OwnE (Ytopnmiakljpgbaa.set7 w b v0 v1 v2 v3 v4 v5 v6) base v L :=
  ((((((h.set hb v0).set hb v1).set hb v2).set hb v3).set hb v4).set hb v5).set hb v6
theorem resH {fn : Func} {w : World} {tmps : Array Value} {n : Nat} {v0 v1 v2 v3 v4 v5 v6 : Value} {t : Tmp} (h : fn.results = #[.cell t 42]) (e1 : tmps.getD t undef = ptr n) (h1 : Ce w n 42 #[v0, v1, v2, v3, v4, v5, v6]) :
    (results fn tmps).run Try.prog w = .ok (.agg #[v0, v1, v2, v3, v4, v5, v6]) w := by
  obtain ⟨a0, a1, a2, a3, a4, a5, a6⟩ := c7 h1
  rw [Array.getD_eq_getD_getElem?] at e1
  simp [results, h, e1, go_sem, a0, a1, a2, a3, a4, a5, a6]
/-- What is not too great. -/
def Hd.Tame (G : Hd) : Prop := G.V.length ≤ 70 ∧ G.sn.size ≤ 200 ∧ G.L.length ≤ 40 ∧ ∀ e ∈ G.L, e.data.size ≤ 60
set_option maxRecDepth 100000 in
set_option maxHeartbeats 12800000 in
theorem tame_any {H : Hd} {w0 w : World} (hV : RdN w0 H.vs H.V) (h : RdE w (.slice H.a H.n H.cap) H.L) : Calls Try.prog 31 #[H.v] w fun e w' => ∃ G : Hd, e = .returned G.v ∧ RdN w0 G.vs G.V ∧ OwnE w' w.heap.size (.slice G.a G.n G.cap) G.L ∧ G.Tame ∧ Below w.heap.size w w' := by
  obtain ⟨t, vo, vs, sn, ba, bt, a, n, cap, V, L⟩ := H
  dsimp only at hV h
  have hn := h.len
  subst hn
  obtain ⟨va, vc, rfl, _⟩ := hV.shape
  dsimp only [Hd.v]
  have HR := Lib.hid h
  have HV := Lib.hid hV
  have HA := Lib.hid (two_new w #[it t, it vo, .slice va V.length vc, .string sn, it ba, it bt, .slice a L.length cap] #[it 0, it 0, .slice none 0 0, .string ⟨#[]⟩, it 0, it 0, .slice none 0 0] 42 42)
  obtain ⟨m, hm⟩ : ∃ m, m = L.length := ⟨_, rfl⟩
  obtain ⟨z, hz⟩ : ∃ z, z = V.length := ⟨_, rfl⟩
  have HZ := Lib.hid hz
  rw [← hz] at HV
  rw [← hm] at HR
  rw [← hm, ← hz] at HA
  rw [← hm, ← hz]
  clear h hV hm hz
  go_enter Try.func31, Try.ntmps31
  go_upto_region 1 with fail
  generalize (w.alloc _).alloc _ = wA at *
  obtain ⟨B, hB⟩ : ∃ B, B = w.heap.size := ⟨_, rfl⟩
  have HBB := Lib.hid hB
  rw [← hB] at HA ⊢
  clear hB
  have HSM := Lib.hid (small_any (base := ba) (bt := bt) (HR.out.below (by have := HA.out.2.2.2; rw [HBB.out] at this; exact this)))
  obtain ⟨c0, c1, c2, c3', c4, c5, c6⟩ := c7 HA.out.1
  go_wp2_with fail
  refine HSM.out.mono ?_
  rintro e w3 ⟨v, rfl, ho, hb3⟩
  obtain ⟨la, lc, rfl, _⟩ := ho.rd.shape
  have hC3 := HA.out.1.below hb3
  have hD3 := HA.out.2.1.below hb3
  obtain ⟨d0, d1, d2, d3, d4, d5, d6⟩ := c7 hC3
  obtain ⟨f2, f3', f4, f5, f6⟩ := f7 hC3
  have HC3 := Lib.hid hC3
  have HD3 := Lib.hid hD3
  have HS3 := Lib.hid HA.out.2.2.1
  have HO3 : Hid (OwnE w3 (B + 2) (.slice la (fewL L).length lc) (fewL L)) := Lib.hid (ho.weak (by have := HS3.out; omega))
  have HB3 : Hid (Below B w w3) := Lib.hid (HA.out.2.2.2.trans (hb3.mono (by have := HS3.out; omega)))
  have hfl : (fewL L).length ≤ 40 := by rw [fewL_length]; omega
  have HDS : Hid (∀ e ∈ fewL L, e.data.size ≤ 60) := Lib.hid (by
    intro e he
    obtain ⟨x, _, rfl⟩ := List.mem_map.1 he
    show (ctake x.data 60).size ≤ _
    rw [ctake_size]; omega)
  obtain ⟨F, hF⟩ : ∃ F, F = fewL L := ⟨_, rfl⟩
  rw [← hF] at HO3 hfl HDS ⊢
  obtain ⟨q, hq⟩ : ∃ q, q = F.length := ⟨_, rfl⟩
  have HQ := Lib.hid hq
  rw [← hq] at HO3 hfl ⊢
  have HFL := Lib.hid hfl
  clear ho hb3 hC3 hD3 hF hq c0 c1 c2 c3' c4 c5 c6 hfl HSM HR
  go_upto_region 2 with fail
  generalize hwD : World.setCell (World.setCell (World.setCell w3 _ _) _ _) _ _ = wD
  have HC4 : Hid (Ce wD B 42 #[it t, it vo, .slice va z vc, .string sn, it ba, it bt, .slice la q lc]) := Lib.hid (by rw [← hwD]; exact set_c456 HC3.out _ _ _)
  have HD4 : Hid (Ce wD (B + 1) 42 #[it 0, it 0, .slice none 0 0, .string ⟨#[]⟩, it 0, it 0, .slice none 0 0]) := Lib.hid (by rw [← hwD]; exact ((HD3.out.other (by omega) _).other (by omega) _).other (by omega) _)
  have HO4 : Hid (OwnE wD (B + 2) (.slice la q lc) F) := Lib.hid (by
    rw [← hwD]
    exact ((HO3.out.set (by omega) _).set (by omega) _).set (by omega) _)
  have HB4 : Hid (Below B w wD) := Lib.hid (by
    rw [← hwD]
    exact ((HB3.out.setCell (p := ⟨B, 4, none⟩) (Nat.le_refl _) _).setCell (p := ⟨B, 5, none⟩) (Nat.le_refl _) _).setCell (p := ⟨B, 6, none⟩) (Nat.le_refl _) _)
  clear hwD d0 d1 d2 d3 d4 d5 d6 f2 f3' f4 f5 f6 HC3 HO3 HB3 HD3 HA
  obtain ⟨c0, c1, c2, c3', c4, c5, c6⟩ := c7 HC4.out
  obtain ⟨f2, f3', f4, f5, f6⟩ := f7 HC4.out
  go_upto_if 10 with fail
  go_cut [] from 7 to 14 (fun wx => ∃ (va : Option Addr) (z vc : Nat) (W : List Int), RdN w0 (.slice va z vc) W ∧ W.length ≤ 70 ∧ Ce wx B 42 #[it t, it vo, .slice va z vc, .string sn, it ba, it bt, .slice la q lc] ∧ Ce wx (B + 1) 42 #[it 0, it 0, .slice none 0 0, .string ⟨#[]⟩, it 0, it 0, .slice none 0 0] ∧ OwnE wx (B + 2) (.slice la q lc) F ∧ Below B w wx)
  case first =>
    by_cases hd : z ≤ 70
    · have q1 : decide ((70 : Int) < (z : Int)) = false := decide_eq_false (by omega)
      have q2 : decide (70 < z) = false := decide_eq_false (by omega)
      go_wp2
      go_meet
      exact ⟨va, z, vc, V, HV.out, by have := HZ.out; omega, HC4.out, HD4.out, HO4.out, HB4.out⟩
    · have q1 : (70 : Int) < (z : Int) := by omega
      have q2 : 70 < z := by omega
      obtain ⟨h1, h2⟩ := slice_toN HV.out 70 (by have := HZ.out; omega) (by decide)
      have h1 : ∀ w : World, (Instr.slice 40 (.slice va z vc) none (some (it 70)) none).run Try.prog w = .ok (.slice va 70 vc) w := h1
      have hcap : 70 ≤ vc := by obtain ⟨_, _, e, h, _⟩ := h2.shape; injection e with _ _ e3; rw [List.length_take] at h; have := HZ.out; omega
      have H2 := Lib.hid h2
      clear h2
      go_wp2
      go_meet
      exact ⟨va, 70, vc, V.take 70, H2.out, by rw [List.length_take]; omega, set_c2 HC4.out _, HD4.out.other (by omega) _, HO4.out.set (by omega) _, HB4.out.setCell (p := ⟨B, 2, none⟩) (Nat.le_refl _) _⟩
  case rest =>
    obtain ⟨va', z', vc', W, hW, hWl, hC, hD, hO, hB⟩ := hcut
    clear HV HZ HC4 HD4 HO4 HB4 c0 c1 c2 c3' c4 c5 c6 f2 f3' f4 f5 f6
    have HW := Lib.hid hW
    have HC5 := Lib.hid hC
    have HD5 := Lib.hid hD
    have HO5 := Lib.hid hO
    have HB5 := Lib.hid hB
    obtain ⟨c0, c1, c2, c3', c4, c5, c6⟩ := c7 hC
    obtain ⟨f2, f3', f4, f5, f6⟩ := f7 hC
    clear hW hC hD hO hB
    go_upto_if 18 with fail
    go_cut [] from 15 to 22 (fun wx => ∃ (sn : ByteArray), sn.size ≤ 200 ∧ Ce wx B 42 #[it t, it vo, .slice va' z' vc', .string sn, it ba, it bt, .slice la q lc] ∧ Ce wx (B + 1) 42 #[it 0, it 0, .slice none 0 0, .string ⟨#[]⟩, it 0, it 0, .slice none 0 0] ∧ OwnE wx (B + 2) (.slice la q lc) F ∧ Below B w wx)
    case first =>
      by_cases hd : sn.size ≤ 200
      · have q1 : decide ((200 : Int) < (sn.size : Int)) = false := decide_eq_false (by omega)
        have q2 : decide (200 < sn.size) = false := decide_eq_false (by omega)
        go_wp2
        go_meet
        exact ⟨sn, hd, HC5.out, HD5.out, HO5.out, HB5.out⟩
      · have q1 : (200 : Int) < (sn.size : Int) := by omega
        have q2 : 200 < sn.size := by omega
        go_wp2
        go_meet
        exact ⟨sn.extract 0 200, by rw [ByteArray.size_extract]; omega, set_c3 HC5.out _, HD5.out.other (by omega) _, HO5.out.set (by omega) _, HB5.out.setCell (p := ⟨B, 3, none⟩) (Nat.le_refl _) _⟩
    case rest =>
      obtain ⟨sn', hsn, hC, hD, hO, hB⟩ := hcut
      clear HC5 HD5 HO5 HB5 c0 c1 c2 c3' c4 c5 c6 f2 f3' f4 f5 f6
      have HC6 := Lib.hid hC
      have HD6 := Lib.hid hD
      have HO6 := Lib.hid hO
      have HB6 := Lib.hid hB
      have HSN := Lib.hid hsn
      have HWL := Lib.hid hWl
      obtain ⟨c0, c1, c2, c3', c4, c5, c6⟩ := c7 hC
      obtain ⟨d0, d1, d2, d3, d4, d5, d6⟩ := c7 hD
      obtain ⟨f2, f3', f4, f5, f6⟩ := f7 hD
      obtain ⟨f0, f1⟩ := f7a hD
      clear hC hD hO hB hsn hWl
      go_wp2
      refine bodyPost_ret (resH rfl rfl (set7_ce HD6.out _ _ _ _ _ _ _)) rfl ?_
      have HBF := set7_below (n := B + 1) (by rw [← HBB.out]; exact HB6.out) (by rw [← HBB.out]; omega) (it t) (it vo) (.slice va' z' vc') (.string sn') (it ba) (it bt) (.slice la q lc)
      refine ⟨⟨t, vo, .slice va' z' vc', sn', ba, bt, la, q, lc, W, F⟩, rfl, HW.out, (HO6.out.set7 (b := B + 1) (by omega) _ _ _ _ _ _ _).weak (by have := HBB.out; omega), ⟨HWL.out, HSN.out, by have := HQ.out; have := HFL.out; dsimp only; omega, HDS.out⟩, HBF⟩
end Go.Proofs.Ytopnmiakljpgbaa

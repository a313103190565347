/-
  Apply, as far as every order goes one way.
-/
import Derived.Test.YtjoplnkagfkffaaOwn
namespace Go.Proofs.Ytjoplnkagfkffaa
open Go.RowKit
theorem three_new (w : World) (c1 c2 c3 : Array Value) (t1 t2 t3 : TypeId) : Ce (((w.alloc (.cells c1 t1)).alloc (.cells c2 t2)).alloc (.cells c3 t3)) w.heap.size t1 c1 ∧ Ce (((w.alloc (.cells c1 t1)).alloc (.cells c2 t2)).alloc (.cells c3 t3)) (w.heap.size + 1) t2 c2 ∧
    Ce (((w.alloc (.cells c1 t1)).alloc (.cells c2 t2)).alloc (.cells c3 t3)) (w.heap.size + 2) t3 c3 ∧ (((w.alloc (.cells c1 t1)).alloc (.cells c2 t2)).alloc (.cells c3 t3)).heap.size = w.heap.size + 3 ∧ Below w.heap.size w (((w.alloc (.cells c1 t1)).alloc (.cells c2 t2)).alloc (.cells c3 t3)) := by
  obtain ⟨h1, h2, h3, h4⟩ := two_new w c1 c2 t1 t2
  have hb := one_new ((w.alloc (.cells c1 t1)).alloc (.cells c2 t2)) (.cells c3 t3)
  have hn := Ce.new ((w.alloc (.cells c1 t1)).alloc (.cells c2 t2)) t3 c3
  rw [h3] at hn
  exact ⟨h1.below hb, h2.below hb, hn, by rw [alloc_size, h3], h4.trans (hb.mono (by rw [h3]; omega))⟩
set_option maxRecDepth 100000 in
set_option maxHeartbeats 12800000 in
theorem apply_bad {w : World} {r h a fs : Value} {C : Cf} (hC : RdC w r h a fs C) (hok : C.Ok) {k nd : Int} {nm tx zn : ByteArray} {hv : Value} {H : List ByteArray} (hh : RdX elS w hv H) (hl : H.length ≤ 1000000) (hnm : nm.size ≤ 1000000) (hzn : zn.size ≤ 1000000)
    (hfit : fitB k nd nm tx zn H = false) :
    Calls Try.prog 9 #[cv r h a C.epoch fs, .agg #[it k, it nd, .string nm, .string tx, .string zn, hv]] w fun e w' => ∃ r' h' a' fs', e = .returned (.tuple #[cv r' h' a' C.epoch fs', it 1]) ∧ OwnC w' w.heap.size r' h' a' fs' C ∧ Below w.heap.size w w' := by
  obtain ⟨⟨xr, yr, rfl⟩, ⟨xh, yh, rfl⟩, ⟨xa0, ya0, rfl⟩, ⟨xf, yf, rfl⟩⟩ := hC.shape
  obtain ⟨va, vc, rfl, _⟩ := hh.shape
  have HA := Lib.hid (three_new w #[.slice xr C.ring.length yr, .slice xh C.hints.length yh, .slice xa0 C.anchors.length ya0, it C.epoch, .slice xf C.flushes.length yf] #[it k, it nd, .string nm, .string tx, .string zn, .slice va H.length vc] #[.slice none 0 0, .slice none 0 0, .slice none 0 0, it 0, .slice none 0 0] 29 35 29)
  obtain ⟨hC2, hC3, hC4, hsz, hbw⟩ := HA.out
  have HC2 := Lib.hid hC2
  have HC3 := Lib.hid hC3
  have HC4 := Lib.hid hC4
  have HBW := Lib.hid hbw
  have HRC := Lib.hid (hC.below hbw)
  have HHH := Lib.hid (hh.below hbw)
  have HSZ := Lib.hid hsz
  obtain ⟨n, hn⟩ : ∃ n, n = w.heap.size := ⟨_, rfl⟩
  rw [← hn] at HC2 HC3 HC4 HSZ HBW
  rw [show w.heap.size = n from hn.symm]
  have HNE := Lib.hid hn
  clear hC hh hC2 hC3 hC4 hsz hbw HA
  go_enter Try.func9, Try.ntmps9
  go_upto_region 1 with fail
  rw [← hn]
  generalize World.alloc (World.alloc (World.alloc w _) _) _ = wA at *
  clear hn
  have H0 : Hid (Below wA.heap.size wA wA) := Lib.hid (Below.refl _ wA)
  have H1 := Lib.hid (fun W (hb : Below wA.heap.size wA W) => own_any (HRC.out.below hb) hok)
  have H2 := Lib.hid (fun W (hb : Below wA.heap.size wA W) => ocheck_any (k := k) (nd := nd) (tx := tx) (HHH.out.below hb) hl hnm hzn)
  rw [hfit] at H2
  have HKS := Lib.hid (fun W (hC2 : Ce W n 29 #[.slice xr C.ring.length yr, .slice xh C.hints.length yh, .slice xa0 C.anchors.length ya0, it C.epoch, .slice xf C.flushes.length yf]) (hC3 : Ce W (n + 1) 35 #[it k, it nd, .string nm, .string tx, .string zn, .slice va H.length vc]) =>
    (show (W.cell? ⟨n, 0, none⟩ = some (.slice xr C.ring.length yr) ∧ W.cell? ⟨n, 1, none⟩ = some (.slice xh C.hints.length yh) ∧ W.cell? ⟨n, 2, none⟩ = some (.slice xa0 C.anchors.length ya0) ∧ W.cell? ⟨n, 3, none⟩ = some (it C.epoch) ∧ W.cell? ⟨n, 4, none⟩ = some (.slice xf C.flushes.length yf)) ∧
      (W.cell? ⟨n + 1, 0, none⟩ = some (it k) ∧ W.cell? ⟨n + 1, 1, none⟩ = some (it nd) ∧ W.cell? ⟨n + 1, 2, none⟩ = some (.string nm) ∧ W.cell? ⟨n + 1, 3, none⟩ = some (.string tx) ∧ W.cell? ⟨n + 1, 4, none⟩ = some (.string zn) ∧ W.cell? ⟨n + 1, 5, none⟩ = some (.slice va H.length vc)) from ⟨c5 hC2, c6 hC3⟩))
  go_cut [6, 7] from 6 to 11 (fun p q wx => ∃ G r' h' a' fs', p = ptr G ∧ q = it 1 ∧ wA.heap.size ≤ G ∧ Ce wx G 29 #[r', h', a', it C.epoch, fs'] ∧ OwnC wx wA.heap.size r' h' a' fs' C ∧ Below wA.heap.size wA wx)
  case first =>
    refine wp_region_held_drew (S := fun W => (W.cell? ⟨n, 0, none⟩ = some (.slice xr C.ring.length yr) ∧ W.cell? ⟨n, 1, none⟩ = some (.slice xh C.hints.length yh) ∧ W.cell? ⟨n, 2, none⟩ = some (.slice xa0 C.anchors.length ya0) ∧ W.cell? ⟨n, 3, none⟩ = some (it C.epoch) ∧ W.cell? ⟨n, 4, none⟩ = some (.slice xf C.flushes.length yf)) ∧
      (W.cell? ⟨n + 1, 0, none⟩ = some (it k) ∧ W.cell? ⟨n + 1, 1, none⟩ = some (it nd) ∧ W.cell? ⟨n + 1, 2, none⟩ = some (.string nm) ∧ W.cell? ⟨n + 1, 3, none⟩ = some (.string tx) ∧ W.cell? ⟨n + 1, 4, none⟩ = some (.string zn) ∧ W.cell? ⟨n + 1, 5, none⟩ = some (.slice va H.length vc))) (by kernel_rfl) (HKS.out _ (HC2.out.below H0.out.drew) (HC3.out.below H0.out.drew)) (fun hHeld => ?_)
    have HD0 : Hid (Below wA.heap.size wA wA.drew) := Lib.hid H0.out.drew
    refine' wpAnyH_take (i := 0) (v := ?v1) rfl (by kernel_rfl) (by kernel_rfl) (by kernel_rfl) (fun _ _ _ h => h) (Or.inl ⟨by rfl, ?y1⟩) (by assumption) ?r1
    case y1 => (intro w hSw; (try dsimp only at hSw); go_simp; try with_reducible rfl)
    try simp only [Act.put, List.getElem_toArray, List.getElem_cons_zero, List.setIfInBounds_toArray, List.set_cons_zero, List.set_cons_succ]
    refine' wpAnyH_take (i := 2) (v := ?v2) rfl (by kernel_rfl) (by kernel_rfl) (by kernel_rfl) (fun _ _ _ h => h) (Or.inl ⟨by rfl, ?y2⟩) (by assumption) ?r2
    case y2 => (intro w hSw; (try dsimp only at hSw); go_simp; try with_reducible rfl)
    try simp only [Act.put, List.getElem_toArray, List.getElem_cons_succ, List.getElem_cons_zero, List.setIfInBounds_toArray, List.set_cons_zero, List.set_cons_succ]
    refine wpAnyH_ready (rs := [1, 4]) (by kernel_rfl) (by simp) ?_
    refine AllReadyH.cons rfl (fun K hK => ?_) ?_
    ·
      go_simp
      refine (H1.out _ HD0.out).mono ?_
      rintro e w5 ⟨r', h', a', fs', rfl, ho5, hb5⟩
      have HD_1 : Hid (Below wA.heap.size wA w5) := Lib.hid (HD0.out.trans (hb5.mono HD0.out.size))
      have HO5 := Lib.hid (ho5.weak (base' := wA.heap.size) HD0.out.size)
      have HP_2 := Lib.hid (HC2.out.below HD_1.out)
      have HQ_3 := Lib.hid (HC3.out.below HD_1.out)
      obtain ⟨⟨xr', yr', rfl⟩, ⟨xh', yh', rfl⟩, ⟨xa', ya', rfl⟩, ⟨xf', yf', rfl⟩⟩ := ho5.rd.shape
      clear ho5 hb5
      go_wp2_with fail
      refine hK.out _ _ (by first | with_reducible exact HKS.out _ HP_2.out HQ_3.out | exact HKS.out _ HP_2.out HQ_3.out) (fun hHeld => ?_)
      clear hK K
      try simp only [Act.put, List.getElem_toArray, List.getElem_cons_succ, List.getElem_cons_zero, List.setIfInBounds_toArray, List.set_cons_zero, List.set_cons_succ]
      refine wpAnyH_ready (rs := [3, 4]) (by kernel_rfl) (by simp) ?_
      refine AllReadyH.cons rfl (fun K hK => ?_) ?_
      ·
        go_simp
        refine (H2.out _ HD_1.out).mono ?_
        rintro e w6 ⟨rfl, hb6⟩
        have HD_4 : Hid (Below wA.heap.size wA w6) := Lib.hid (HD_1.out.trans (hb6.mono HD_1.out.size))
        have HO6 := Lib.hid (HO5.out.below hb6)
        have HP_5 := Lib.hid (HC2.out.below HD_4.out)
        have HQ_6 := Lib.hid (HC3.out.below HD_4.out)
        clear hb6
        go_wp2_with fail
        refine hK.out _ _ (by first | with_reducible exact HKS.out _ HP_5.out HQ_6.out | exact HKS.out _ HP_5.out HQ_6.out) (fun hHeld => ?_)
        clear hK K
        try simp only [Act.put, List.getElem_toArray, List.getElem_cons_succ, List.getElem_cons_zero, List.setIfInBounds_toArray, List.set_cons_zero, List.set_cons_succ]
        refine wpAnyH_ready (rs := [4]) (by kernel_rfl) (by simp) ?_
        refine AllReadyH.cons rfl (fun K hK => ?_) AllReadyH.nil
        go_simp
        obtain ⟨G, hG⟩ : ∃ G, G = w6.heap.size := ⟨_, rfl⟩
        have HGL : Hid (wA.heap.size ≤ G) := Lib.hid (by rw [hG]; exact HD_4.out.size)
        have HD_7 : Hid (Below wA.heap.size wA (w6.alloc (.cells #[.slice none 0 0, .slice none 0 0, .slice none 0 0, it 0, .slice none 0 0] 29))) := Lib.hid (HD_4.out.trans ((one_new w6 (.cells #[.slice none 0 0, .slice none 0 0, .slice none 0 0, it 0, .slice none 0 0] 29)).mono HD_4.out.size))
        have HGC : Hid (Ce (w6.alloc (.cells #[.slice none 0 0, .slice none 0 0, .slice none 0 0, it 0, .slice none 0 0] 29)) G 29 #[.slice none 0 0, .slice none 0 0, .slice none 0 0, it 0, .slice none 0 0]) := Lib.hid (by rw [hG]; exact Ce.new _ _ _)
        have HOb := Lib.hid (HO6.out.below (one_new w6 (.cells #[.slice none 0 0, .slice none 0 0, .slice none 0 0, it 0, .slice none 0 0] 29)))
        have HP_8 := Lib.hid (HC2.out.below HD_7.out)
        have HQ_9 := Lib.hid (HC3.out.below HD_7.out)
        have hdr : w6.heap.size = G := hG.symm
        try rw [hdr]
        obtain ⟨g0, g1, g2, g3, g4⟩ := c5 HGC.out
        obtain ⟨f0, f1, f2, f3, f4⟩ := f5 HGC.out
        clear hG hdr
        refine hK.out _ _ (by first | with_reducible exact HKS.out _ HP_8.out HQ_9.out | exact HKS.out _ HP_8.out HQ_9.out) (fun hHeld => ?_)
        clear hK K
        try simp only [Act.put, List.getElem_toArray, List.getElem_cons_succ, List.getElem_cons_zero, List.setIfInBounds_toArray, List.set_cons_zero, List.set_cons_succ]
        refine wpAnyH_ready (rs := [5]) (by kernel_rfl) (by simp) ?_
        refine AllReadyH.cons rfl (fun K hK => ?_) AllReadyH.nil
        go_simp
        have HD_10 := Lib.hid (set5_below HD_7.out HGL.out (.slice xr' C.ring.length yr') (.slice xh' C.hints.length yh') (.slice xa' C.anchors.length ya') (it C.epoch) (.slice xf' C.flushes.length yf'))
        have HGS := Lib.hid (set5_ce HGC.out (.slice xr' C.ring.length yr') (.slice xh' C.hints.length yh') (.slice xa' C.anchors.length ya') (it C.epoch) (.slice xf' C.flushes.length yf'))
        have HOS := Lib.hid (HOb.out.set5 HGC.out (.slice xr' C.ring.length yr') (.slice xh' C.hints.length yh') (.slice xa' C.anchors.length ya') (it C.epoch) (.slice xf' C.flushes.length yf'))
        have HP_11 := Lib.hid (HC2.out.below HD_10.out)
        have HQ_12 := Lib.hid (HC3.out.below HD_10.out)
        refine hK.out _ _ (by first | with_reducible exact HKS.out _ HP_11.out HQ_12.out | exact HKS.out _ HP_11.out HQ_12.out) (fun hHeld => ?_)
        clear hK K
        try simp only [Act.put, List.getElem_toArray, List.getElem_cons_succ, List.getElem_cons_zero, List.setIfInBounds_toArray, List.set_cons_zero, List.set_cons_succ]
        refine' wpAnyH_take (i := 6) (v := ?v3) rfl (by kernel_rfl) (by kernel_rfl) (by kernel_rfl) (fun _ _ _ h => h) (Or.inl ⟨by rfl, ?y3⟩) (by assumption) ?r3
        case y3 => (intro w hSw; (try dsimp only at hSw); go_simp; try with_reducible rfl)
        try simp only [Act.put, List.getElem_toArray, List.getElem_cons_succ, List.getElem_cons_zero, List.setIfInBounds_toArray, List.set_cons_zero, List.set_cons_succ]
        refine wpAnyH_done (by kernel_rfl) ?_ _
        go_wp2
        go_meet
        exact ⟨_, _, _, _, _, rfl, rfl, HGL.out, HGS.out, HOS.out, HD_10.out⟩
      refine AllReadyH.cons rfl (fun K hK => ?_) AllReadyH.nil
      go_simp
      obtain ⟨G, hG⟩ : ∃ G, G = w5.heap.size := ⟨_, rfl⟩
      have HGL : Hid (wA.heap.size ≤ G) := Lib.hid (by rw [hG]; exact HD_1.out.size)
      have HD_13 : Hid (Below wA.heap.size wA (w5.alloc (.cells #[.slice none 0 0, .slice none 0 0, .slice none 0 0, it 0, .slice none 0 0] 29))) := Lib.hid (HD_1.out.trans ((one_new w5 (.cells #[.slice none 0 0, .slice none 0 0, .slice none 0 0, it 0, .slice none 0 0] 29)).mono HD_1.out.size))
      have HGC : Hid (Ce (w5.alloc (.cells #[.slice none 0 0, .slice none 0 0, .slice none 0 0, it 0, .slice none 0 0] 29)) G 29 #[.slice none 0 0, .slice none 0 0, .slice none 0 0, it 0, .slice none 0 0]) := Lib.hid (by rw [hG]; exact Ce.new _ _ _)
      have HOb := Lib.hid (HO5.out.below (one_new w5 (.cells #[.slice none 0 0, .slice none 0 0, .slice none 0 0, it 0, .slice none 0 0] 29)))
      have HP_14 := Lib.hid (HC2.out.below HD_13.out)
      have HQ_15 := Lib.hid (HC3.out.below HD_13.out)
      have hdr : w5.heap.size = G := hG.symm
      try rw [hdr]
      obtain ⟨g0, g1, g2, g3, g4⟩ := c5 HGC.out
      obtain ⟨f0, f1, f2, f3, f4⟩ := f5 HGC.out
      clear hG hdr
      refine hK.out _ _ (by first | with_reducible exact HKS.out _ HP_14.out HQ_15.out | exact HKS.out _ HP_14.out HQ_15.out) (fun hHeld => ?_)
      clear hK K
      try simp only [Act.put, List.getElem_toArray, List.getElem_cons_succ, List.getElem_cons_zero, List.setIfInBounds_toArray, List.set_cons_zero, List.set_cons_succ]
      refine wpAnyH_ready (rs := [3]) (by kernel_rfl) (by simp) ?_
      refine AllReadyH.cons rfl (fun K hK => ?_) AllReadyH.nil
      go_simp
      refine (H2.out _ HD_13.out).mono ?_
      rintro e w6 ⟨rfl, hb6⟩
      have HD_16 : Hid (Below wA.heap.size wA w6) := Lib.hid (HD_13.out.trans (hb6.mono HD_13.out.size))
      have HO6 := Lib.hid (HOb.out.below hb6)
      have HG6 := Lib.hid (HGC.out.below hb6)
      have HP_17 := Lib.hid (HC2.out.below HD_16.out)
      have HQ_18 := Lib.hid (HC3.out.below HD_16.out)
      obtain ⟨g0, g1, g2, g3, g4⟩ := c5 HG6.out
      obtain ⟨f0, f1, f2, f3, f4⟩ := f5 HG6.out
      clear hb6
      go_wp2_with fail
      refine hK.out _ _ (by first | with_reducible exact HKS.out _ HP_17.out HQ_18.out | exact HKS.out _ HP_17.out HQ_18.out) (fun hHeld => ?_)
      clear hK K
      try simp only [Act.put, List.getElem_toArray, List.getElem_cons_succ, List.getElem_cons_zero, List.setIfInBounds_toArray, List.set_cons_zero, List.set_cons_succ]
      refine wpAnyH_ready (rs := [5]) (by kernel_rfl) (by simp) ?_
      refine AllReadyH.cons rfl (fun K hK => ?_) AllReadyH.nil
      go_simp
      have HD_19 := Lib.hid (set5_below HD_16.out HGL.out (.slice xr' C.ring.length yr') (.slice xh' C.hints.length yh') (.slice xa' C.anchors.length ya') (it C.epoch) (.slice xf' C.flushes.length yf'))
      have HGS := Lib.hid (set5_ce HG6.out (.slice xr' C.ring.length yr') (.slice xh' C.hints.length yh') (.slice xa' C.anchors.length ya') (it C.epoch) (.slice xf' C.flushes.length yf'))
      have HOS := Lib.hid (HO6.out.set5 HG6.out (.slice xr' C.ring.length yr') (.slice xh' C.hints.length yh') (.slice xa' C.anchors.length ya') (it C.epoch) (.slice xf' C.flushes.length yf'))
      have HP_20 := Lib.hid (HC2.out.below HD_19.out)
      have HQ_21 := Lib.hid (HC3.out.below HD_19.out)
      refine hK.out _ _ (by first | with_reducible exact HKS.out _ HP_20.out HQ_21.out | exact HKS.out _ HP_20.out HQ_21.out) (fun hHeld => ?_)
      clear hK K
      try simp only [Act.put, List.getElem_toArray, List.getElem_cons_succ, List.getElem_cons_zero, List.setIfInBounds_toArray, List.set_cons_zero, List.set_cons_succ]
      refine' wpAnyH_take (i := 6) (v := ?v4) rfl (by kernel_rfl) (by kernel_rfl) (by kernel_rfl) (fun _ _ _ h => h) (Or.inl ⟨by rfl, ?y4⟩) (by assumption) ?r4
      case y4 => (intro w hSw; (try dsimp only at hSw); go_simp; try with_reducible rfl)
      try simp only [Act.put, List.getElem_toArray, List.getElem_cons_succ, List.getElem_cons_zero, List.setIfInBounds_toArray, List.set_cons_zero, List.set_cons_succ]
      refine wpAnyH_done (by kernel_rfl) ?_ _
      go_wp2
      go_meet
      exact ⟨_, _, _, _, _, rfl, rfl, HGL.out, HGS.out, HOS.out, HD_19.out⟩
    refine AllReadyH.cons rfl (fun K hK => ?_) AllReadyH.nil
    go_simp
    obtain ⟨G, hG⟩ : ∃ G, G = wA.heap.size := ⟨_, rfl⟩
    have HGL : Hid (wA.heap.size ≤ G) := Lib.hid (by rw [hG]; exact HD0.out.size)
    have HD_22 : Hid (Below wA.heap.size wA (wA.drew.alloc (.cells #[.slice none 0 0, .slice none 0 0, .slice none 0 0, it 0, .slice none 0 0] 29))) := Lib.hid (HD0.out.trans ((one_new wA.drew (.cells #[.slice none 0 0, .slice none 0 0, .slice none 0 0, it 0, .slice none 0 0] 29)).mono HD0.out.size))
    have HGC : Hid (Ce (wA.drew.alloc (.cells #[.slice none 0 0, .slice none 0 0, .slice none 0 0, it 0, .slice none 0 0] 29)) G 29 #[.slice none 0 0, .slice none 0 0, .slice none 0 0, it 0, .slice none 0 0]) := Lib.hid (by rw [hG]; exact Ce.new _ _ _)
    have HP_23 := Lib.hid (HC2.out.below HD_22.out)
    have HQ_24 := Lib.hid (HC3.out.below HD_22.out)
    have hdr : wA.heap.size = G := hG.symm
    try rw [hdr]
    obtain ⟨g0, g1, g2, g3, g4⟩ := c5 HGC.out
    obtain ⟨f0, f1, f2, f3, f4⟩ := f5 HGC.out
    clear hG hdr
    refine hK.out _ _ (by first | with_reducible exact HKS.out _ HP_23.out HQ_24.out | exact HKS.out _ HP_23.out HQ_24.out) (fun hHeld => ?_)
    clear hK K
    try simp only [Act.put, List.getElem_toArray, List.getElem_cons_succ, List.getElem_cons_zero, List.setIfInBounds_toArray, List.set_cons_zero, List.set_cons_succ]
    refine wpAnyH_ready (rs := [1]) (by kernel_rfl) (by simp) ?_
    refine AllReadyH.cons rfl (fun K hK => ?_) AllReadyH.nil
    go_simp
    refine (H1.out _ HD_22.out).mono ?_
    rintro e w5 ⟨r', h', a', fs', rfl, ho5, hb5⟩
    have HD_25 : Hid (Below wA.heap.size wA w5) := Lib.hid (HD_22.out.trans (hb5.mono HD_22.out.size))
    have HO5 := Lib.hid (ho5.weak (base' := wA.heap.size) HD_22.out.size)
    have HG5 := Lib.hid (HGC.out.below hb5)
    have HP_26 := Lib.hid (HC2.out.below HD_25.out)
    have HQ_27 := Lib.hid (HC3.out.below HD_25.out)
    obtain ⟨⟨xr', yr', rfl⟩, ⟨xh', yh', rfl⟩, ⟨xa', ya', rfl⟩, ⟨xf', yf', rfl⟩⟩ := ho5.rd.shape
    clear ho5 hb5
    go_wp2_with fail
    refine hK.out _ _ (by first | with_reducible exact HKS.out _ HP_26.out HQ_27.out | exact HKS.out _ HP_26.out HQ_27.out) (fun hHeld => ?_)
    clear hK K
    try simp only [Act.put, List.getElem_toArray, List.getElem_cons_succ, List.getElem_cons_zero, List.setIfInBounds_toArray, List.set_cons_zero, List.set_cons_succ]
    refine wpAnyH_ready (rs := [3]) (by kernel_rfl) (by simp) ?_
    refine AllReadyH.cons rfl (fun K hK => ?_) AllReadyH.nil
    go_simp
    refine (H2.out _ HD_25.out).mono ?_
    rintro e w6 ⟨rfl, hb6⟩
    have HD_28 : Hid (Below wA.heap.size wA w6) := Lib.hid (HD_25.out.trans (hb6.mono HD_25.out.size))
    have HO6 := Lib.hid (HO5.out.below hb6)
    have HG6 := Lib.hid (HG5.out.below hb6)
    have HP_29 := Lib.hid (HC2.out.below HD_28.out)
    have HQ_30 := Lib.hid (HC3.out.below HD_28.out)
    obtain ⟨g0, g1, g2, g3, g4⟩ := c5 HG6.out
    obtain ⟨f0, f1, f2, f3, f4⟩ := f5 HG6.out
    clear hb6
    go_wp2_with fail
    refine hK.out _ _ (by first | with_reducible exact HKS.out _ HP_29.out HQ_30.out | exact HKS.out _ HP_29.out HQ_30.out) (fun hHeld => ?_)
    clear hK K
    try simp only [Act.put, List.getElem_toArray, List.getElem_cons_succ, List.getElem_cons_zero, List.setIfInBounds_toArray, List.set_cons_zero, List.set_cons_succ]
    refine wpAnyH_ready (rs := [5]) (by kernel_rfl) (by simp) ?_
    refine AllReadyH.cons rfl (fun K hK => ?_) AllReadyH.nil
    go_simp
    have HD_31 := Lib.hid (set5_below HD_28.out HGL.out (.slice xr' C.ring.length yr') (.slice xh' C.hints.length yh') (.slice xa' C.anchors.length ya') (it C.epoch) (.slice xf' C.flushes.length yf'))
    have HGS := Lib.hid (set5_ce HG6.out (.slice xr' C.ring.length yr') (.slice xh' C.hints.length yh') (.slice xa' C.anchors.length ya') (it C.epoch) (.slice xf' C.flushes.length yf'))
    have HOS := Lib.hid (HO6.out.set5 HG6.out (.slice xr' C.ring.length yr') (.slice xh' C.hints.length yh') (.slice xa' C.anchors.length ya') (it C.epoch) (.slice xf' C.flushes.length yf'))
    have HP_32 := Lib.hid (HC2.out.below HD_31.out)
    have HQ_33 := Lib.hid (HC3.out.below HD_31.out)
    refine hK.out _ _ (by first | with_reducible exact HKS.out _ HP_32.out HQ_33.out | exact HKS.out _ HP_32.out HQ_33.out) (fun hHeld => ?_)
    clear hK K
    try simp only [Act.put, List.getElem_toArray, List.getElem_cons_succ, List.getElem_cons_zero, List.setIfInBounds_toArray, List.set_cons_zero, List.set_cons_succ]
    refine' wpAnyH_take (i := 6) (v := ?v5) rfl (by kernel_rfl) (by kernel_rfl) (by kernel_rfl) (fun _ _ _ h => h) (Or.inl ⟨by rfl, ?y5⟩) (by assumption) ?r5
    case y5 => (intro w hSw; (try dsimp only at hSw); go_simp; try with_reducible rfl)
    try simp only [Act.put, List.getElem_toArray, List.getElem_cons_succ, List.getElem_cons_zero, List.setIfInBounds_toArray, List.set_cons_zero, List.set_cons_succ]
    refine wpAnyH_done (by kernel_rfl) ?_ _
    go_wp2
    go_meet
    exact ⟨_, _, _, _, _, rfl, rfl, HGL.out, HGS.out, HOS.out, HD_31.out⟩
  case rest =>
    obtain ⟨G, r', h', a', fs', rfl, rfl, _, _, _, hb⟩ := hcut
    have HBX := Lib.hid hb
    have HC4X := Lib.hid (HC4.out.below hb)
    obtain ⟨c0, c1, c2, c3, c4⟩ := c5 (HC2.out.below hb)
    have HOWN := Lib.hid (own_any (HRC.out.below hb) hok)
    clear hb
    go_wp2_with fail
    refine HOWN.out.mono ?_
    rintro e w7 ⟨r7, h7, a7, f7, rfl, ho7, hb7⟩
    obtain ⟨⟨xr2, yr2, rfl⟩, ⟨xh2, yh2, rfl⟩, ⟨xa2, ya2, rfl⟩, ⟨xf2, yf2, rfl⟩⟩ := ho7.rd.shape
    have HO7 := Lib.hid ho7
    have HB7 : Hid (Below n w w7) := Lib.hid (HBW.out.trans ((HBX.out.trans (hb7.mono HBX.out.size)).mono (by have := HSZ.out; omega)))
    have HC7 := Lib.hid (HC4X.out.below hb7)
    have HNX : Hid (n ≤ wc.heap.size) := Lib.hid (by have := HSZ.out; have := HBX.out.size; omega)
    obtain ⟨d0, d1, d2, d3, d4⟩ := c5 HC7.out
    obtain ⟨f0, f1, f2, f3, f4⟩ := f5 HC7.out
    clear ho7 hb7 c0 c1 c2 c3 c4
    go_wp2
    refine bodyPost_ret (resCt rfl rfl (set5_ce HC7.out _ _ _ _ _)) rfl ?_
    exact ⟨_, _, _, _, rfl, (HO7.out.weak HNX.out).set5 HC7.out _ _ _ _ _, set5_below HB7.out (by omega) _ _ _ _ _⟩
set_option maxRecDepth 100000 in
set_option maxHeartbeats 12800000 in
theorem apply_any {w : World} {r h a fs : Value} {C : Cf} (hC : RdC w r h a fs C) (hok : C.Ok) {k nd : Int} {nm tx zn : ByteArray} {hv : Value} {H : List ByteArray} (hh : RdX elS w hv H) (hl : H.length ≤ 1000000) (hnm : nm.size ≤ 1000000) (hzn : zn.size ≤ 1000000)
    (C' D : Cf) (er : Int) (hD0 : er = 0 → D = C') (hD1 : er ≠ 0 → D = C)
    (hch : ∀ W B base r h a fs, Ce W B 29 #[r, h, a, it C.epoch, fs] → OwnC W base r h a fs C → base ≤ B → base ≤ W.heap.size → RdX elS W hv H → Calls Try.prog 18 #[ptr B, .agg #[it k, it nd, .string nm, .string tx, .string zn, hv]] W fun e W' => e = .returned (it er) ∧ Below base W W' ∧
      (er = 0 → ∃ r' h' a' fs', Ce W' B 29 #[r', h', a', it C'.epoch, fs'] ∧ OwnC W' base r' h' a' fs' C'))
    (hfit : fitB k nd nm tx zn H = true) :
    Calls Try.prog 9 #[cv r h a C.epoch fs, .agg #[it k, it nd, .string nm, .string tx, .string zn, hv]] w fun e w' => ∃ r' h' a' fs', e = .returned (.tuple #[cv r' h' a' D.epoch fs', it er]) ∧ OwnC w' w.heap.size r' h' a' fs' D ∧ Below w.heap.size w w' := by
  obtain ⟨⟨xr, yr, rfl⟩, ⟨xh, yh, rfl⟩, ⟨xa0, ya0, rfl⟩, ⟨xf, yf, rfl⟩⟩ := hC.shape
  obtain ⟨va, vc, rfl, _⟩ := hh.shape
  have HA := Lib.hid (three_new w #[.slice xr C.ring.length yr, .slice xh C.hints.length yh, .slice xa0 C.anchors.length ya0, it C.epoch, .slice xf C.flushes.length yf] #[it k, it nd, .string nm, .string tx, .string zn, .slice va H.length vc] #[.slice none 0 0, .slice none 0 0, .slice none 0 0, it 0, .slice none 0 0] 29 35 29)
  obtain ⟨hC2, hC3, hC4, hsz, hbw⟩ := HA.out
  have HC2 := Lib.hid hC2
  have HC3 := Lib.hid hC3
  have HC4 := Lib.hid hC4
  have HBW := Lib.hid hbw
  have HRC := Lib.hid (hC.below hbw)
  have HHH := Lib.hid (hh.below hbw)
  have HSZ := Lib.hid hsz
  obtain ⟨n, hn⟩ : ∃ n, n = w.heap.size := ⟨_, rfl⟩
  have HCH := Lib.hid hch
  clear hch
  rw [← hn] at HC2 HC3 HC4 HSZ HBW
  rw [show w.heap.size = n from hn.symm]
  have HNE := Lib.hid hn
  clear hC hh hC2 hC3 hC4 hsz hbw HA
  go_enter Try.func9, Try.ntmps9
  go_upto_region 1 with fail
  rw [← hn]
  generalize World.alloc (World.alloc (World.alloc w _) _) _ = wA at *
  clear hn
  have H0 : Hid (Below wA.heap.size wA wA) := Lib.hid (Below.refl _ wA)
  have H1 := Lib.hid (fun W (hb : Below wA.heap.size wA W) => own_any (HRC.out.below hb) hok)
  have H2 := Lib.hid (fun W (hb : Below wA.heap.size wA W) => ocheck_any (k := k) (nd := nd) (tx := tx) (HHH.out.below hb) hl hnm hzn)
  rw [hfit] at H2
  have HKS := Lib.hid (fun W (hC2 : Ce W n 29 #[.slice xr C.ring.length yr, .slice xh C.hints.length yh, .slice xa0 C.anchors.length ya0, it C.epoch, .slice xf C.flushes.length yf]) (hC3 : Ce W (n + 1) 35 #[it k, it nd, .string nm, .string tx, .string zn, .slice va H.length vc]) =>
    (show (W.cell? ⟨n, 0, none⟩ = some (.slice xr C.ring.length yr) ∧ W.cell? ⟨n, 1, none⟩ = some (.slice xh C.hints.length yh) ∧ W.cell? ⟨n, 2, none⟩ = some (.slice xa0 C.anchors.length ya0) ∧ W.cell? ⟨n, 3, none⟩ = some (it C.epoch) ∧ W.cell? ⟨n, 4, none⟩ = some (.slice xf C.flushes.length yf)) ∧
      (W.cell? ⟨n + 1, 0, none⟩ = some (it k) ∧ W.cell? ⟨n + 1, 1, none⟩ = some (it nd) ∧ W.cell? ⟨n + 1, 2, none⟩ = some (.string nm) ∧ W.cell? ⟨n + 1, 3, none⟩ = some (.string tx) ∧ W.cell? ⟨n + 1, 4, none⟩ = some (.string zn) ∧ W.cell? ⟨n + 1, 5, none⟩ = some (.slice va H.length vc)) from ⟨c5 hC2, c6 hC3⟩))
  go_cut [6, 7] from 6 to 11 (fun p q wx => ∃ G r' h' a' fs', p = ptr G ∧ q = it 0 ∧ wA.heap.size ≤ G ∧ Ce wx G 29 #[r', h', a', it C.epoch, fs'] ∧ OwnC wx wA.heap.size r' h' a' fs' C ∧ Below wA.heap.size wA wx)
  case first =>
    refine wp_region_held_drew (S := fun W => (W.cell? ⟨n, 0, none⟩ = some (.slice xr C.ring.length yr) ∧ W.cell? ⟨n, 1, none⟩ = some (.slice xh C.hints.length yh) ∧ W.cell? ⟨n, 2, none⟩ = some (.slice xa0 C.anchors.length ya0) ∧ W.cell? ⟨n, 3, none⟩ = some (it C.epoch) ∧ W.cell? ⟨n, 4, none⟩ = some (.slice xf C.flushes.length yf)) ∧
      (W.cell? ⟨n + 1, 0, none⟩ = some (it k) ∧ W.cell? ⟨n + 1, 1, none⟩ = some (it nd) ∧ W.cell? ⟨n + 1, 2, none⟩ = some (.string nm) ∧ W.cell? ⟨n + 1, 3, none⟩ = some (.string tx) ∧ W.cell? ⟨n + 1, 4, none⟩ = some (.string zn) ∧ W.cell? ⟨n + 1, 5, none⟩ = some (.slice va H.length vc))) (by kernel_rfl) (HKS.out _ (HC2.out.below H0.out.drew) (HC3.out.below H0.out.drew)) (fun hHeld => ?_)
    have HD0 : Hid (Below wA.heap.size wA wA.drew) := Lib.hid H0.out.drew
    refine' wpAnyH_take (i := 0) (v := ?v6) rfl (by kernel_rfl) (by kernel_rfl) (by kernel_rfl) (fun _ _ _ h => h) (Or.inl ⟨by rfl, ?y6⟩) (by assumption) ?r6
    case y6 => (intro w hSw; (try dsimp only at hSw); go_simp; try with_reducible rfl)
    try simp only [Act.put, List.getElem_toArray, List.getElem_cons_zero, List.setIfInBounds_toArray, List.set_cons_zero, List.set_cons_succ]
    refine' wpAnyH_take (i := 2) (v := ?v7) rfl (by kernel_rfl) (by kernel_rfl) (by kernel_rfl) (fun _ _ _ h => h) (Or.inl ⟨by rfl, ?y7⟩) (by assumption) ?r7
    case y7 => (intro w hSw; (try dsimp only at hSw); go_simp; try with_reducible rfl)
    try simp only [Act.put, List.getElem_toArray, List.getElem_cons_succ, List.getElem_cons_zero, List.setIfInBounds_toArray, List.set_cons_zero, List.set_cons_succ]
    refine wpAnyH_ready (rs := [1, 4]) (by kernel_rfl) (by simp) ?_
    refine AllReadyH.cons rfl (fun K hK => ?_) ?_
    ·
      go_simp
      refine (H1.out _ HD0.out).mono ?_
      rintro e w5 ⟨r', h', a', fs', rfl, ho5, hb5⟩
      have HD_34 : Hid (Below wA.heap.size wA w5) := Lib.hid (HD0.out.trans (hb5.mono HD0.out.size))
      have HO5 := Lib.hid (ho5.weak (base' := wA.heap.size) HD0.out.size)
      have HP_35 := Lib.hid (HC2.out.below HD_34.out)
      have HQ_36 := Lib.hid (HC3.out.below HD_34.out)
      obtain ⟨⟨xr', yr', rfl⟩, ⟨xh', yh', rfl⟩, ⟨xa', ya', rfl⟩, ⟨xf', yf', rfl⟩⟩ := ho5.rd.shape
      clear ho5 hb5
      go_wp2_with fail
      refine hK.out _ _ (by first | with_reducible exact HKS.out _ HP_35.out HQ_36.out | exact HKS.out _ HP_35.out HQ_36.out) (fun hHeld => ?_)
      clear hK K
      try simp only [Act.put, List.getElem_toArray, List.getElem_cons_succ, List.getElem_cons_zero, List.setIfInBounds_toArray, List.set_cons_zero, List.set_cons_succ]
      refine wpAnyH_ready (rs := [3, 4]) (by kernel_rfl) (by simp) ?_
      refine AllReadyH.cons rfl (fun K hK => ?_) ?_
      ·
        go_simp
        refine (H2.out _ HD_34.out).mono ?_
        rintro e w6 ⟨rfl, hb6⟩
        have HD_37 : Hid (Below wA.heap.size wA w6) := Lib.hid (HD_34.out.trans (hb6.mono HD_34.out.size))
        have HO6 := Lib.hid (HO5.out.below hb6)
        have HP_38 := Lib.hid (HC2.out.below HD_37.out)
        have HQ_39 := Lib.hid (HC3.out.below HD_37.out)
        clear hb6
        go_wp2_with fail
        refine hK.out _ _ (by first | with_reducible exact HKS.out _ HP_38.out HQ_39.out | exact HKS.out _ HP_38.out HQ_39.out) (fun hHeld => ?_)
        clear hK K
        try simp only [Act.put, List.getElem_toArray, List.getElem_cons_succ, List.getElem_cons_zero, List.setIfInBounds_toArray, List.set_cons_zero, List.set_cons_succ]
        refine wpAnyH_ready (rs := [4]) (by kernel_rfl) (by simp) ?_
        refine AllReadyH.cons rfl (fun K hK => ?_) AllReadyH.nil
        go_simp
        obtain ⟨G, hG⟩ : ∃ G, G = w6.heap.size := ⟨_, rfl⟩
        have HGL : Hid (wA.heap.size ≤ G) := Lib.hid (by rw [hG]; exact HD_37.out.size)
        have HD_40 : Hid (Below wA.heap.size wA (w6.alloc (.cells #[.slice none 0 0, .slice none 0 0, .slice none 0 0, it 0, .slice none 0 0] 29))) := Lib.hid (HD_37.out.trans ((one_new w6 (.cells #[.slice none 0 0, .slice none 0 0, .slice none 0 0, it 0, .slice none 0 0] 29)).mono HD_37.out.size))
        have HGC : Hid (Ce (w6.alloc (.cells #[.slice none 0 0, .slice none 0 0, .slice none 0 0, it 0, .slice none 0 0] 29)) G 29 #[.slice none 0 0, .slice none 0 0, .slice none 0 0, it 0, .slice none 0 0]) := Lib.hid (by rw [hG]; exact Ce.new _ _ _)
        have HOb := Lib.hid (HO6.out.below (one_new w6 (.cells #[.slice none 0 0, .slice none 0 0, .slice none 0 0, it 0, .slice none 0 0] 29)))
        have HP_41 := Lib.hid (HC2.out.below HD_40.out)
        have HQ_42 := Lib.hid (HC3.out.below HD_40.out)
        have hdr : w6.heap.size = G := hG.symm
        try rw [hdr]
        obtain ⟨g0, g1, g2, g3, g4⟩ := c5 HGC.out
        obtain ⟨f0, f1, f2, f3, f4⟩ := f5 HGC.out
        clear hG hdr
        refine hK.out _ _ (by first | with_reducible exact HKS.out _ HP_41.out HQ_42.out | exact HKS.out _ HP_41.out HQ_42.out) (fun hHeld => ?_)
        clear hK K
        try simp only [Act.put, List.getElem_toArray, List.getElem_cons_succ, List.getElem_cons_zero, List.setIfInBounds_toArray, List.set_cons_zero, List.set_cons_succ]
        refine wpAnyH_ready (rs := [5]) (by kernel_rfl) (by simp) ?_
        refine AllReadyH.cons rfl (fun K hK => ?_) AllReadyH.nil
        go_simp
        have HD_43 := Lib.hid (set5_below HD_40.out HGL.out (.slice xr' C.ring.length yr') (.slice xh' C.hints.length yh') (.slice xa' C.anchors.length ya') (it C.epoch) (.slice xf' C.flushes.length yf'))
        have HGS := Lib.hid (set5_ce HGC.out (.slice xr' C.ring.length yr') (.slice xh' C.hints.length yh') (.slice xa' C.anchors.length ya') (it C.epoch) (.slice xf' C.flushes.length yf'))
        have HOS := Lib.hid (HOb.out.set5 HGC.out (.slice xr' C.ring.length yr') (.slice xh' C.hints.length yh') (.slice xa' C.anchors.length ya') (it C.epoch) (.slice xf' C.flushes.length yf'))
        have HP_44 := Lib.hid (HC2.out.below HD_43.out)
        have HQ_45 := Lib.hid (HC3.out.below HD_43.out)
        refine hK.out _ _ (by first | with_reducible exact HKS.out _ HP_44.out HQ_45.out | exact HKS.out _ HP_44.out HQ_45.out) (fun hHeld => ?_)
        clear hK K
        try simp only [Act.put, List.getElem_toArray, List.getElem_cons_succ, List.getElem_cons_zero, List.setIfInBounds_toArray, List.set_cons_zero, List.set_cons_succ]
        refine' wpAnyH_take (i := 6) (v := ?v8) rfl (by kernel_rfl) (by kernel_rfl) (by kernel_rfl) (fun _ _ _ h => h) (Or.inl ⟨by rfl, ?y8⟩) (by assumption) ?r8
        case y8 => (intro w hSw; (try dsimp only at hSw); go_simp; try with_reducible rfl)
        try simp only [Act.put, List.getElem_toArray, List.getElem_cons_succ, List.getElem_cons_zero, List.setIfInBounds_toArray, List.set_cons_zero, List.set_cons_succ]
        refine wpAnyH_done (by kernel_rfl) ?_ _
        go_wp2
        go_meet
        exact ⟨_, _, _, _, _, rfl, rfl, HGL.out, HGS.out, HOS.out, HD_43.out⟩
      refine AllReadyH.cons rfl (fun K hK => ?_) AllReadyH.nil
      go_simp
      obtain ⟨G, hG⟩ : ∃ G, G = w5.heap.size := ⟨_, rfl⟩
      have HGL : Hid (wA.heap.size ≤ G) := Lib.hid (by rw [hG]; exact HD_34.out.size)
      have HD_46 : Hid (Below wA.heap.size wA (w5.alloc (.cells #[.slice none 0 0, .slice none 0 0, .slice none 0 0, it 0, .slice none 0 0] 29))) := Lib.hid (HD_34.out.trans ((one_new w5 (.cells #[.slice none 0 0, .slice none 0 0, .slice none 0 0, it 0, .slice none 0 0] 29)).mono HD_34.out.size))
      have HGC : Hid (Ce (w5.alloc (.cells #[.slice none 0 0, .slice none 0 0, .slice none 0 0, it 0, .slice none 0 0] 29)) G 29 #[.slice none 0 0, .slice none 0 0, .slice none 0 0, it 0, .slice none 0 0]) := Lib.hid (by rw [hG]; exact Ce.new _ _ _)
      have HOb := Lib.hid (HO5.out.below (one_new w5 (.cells #[.slice none 0 0, .slice none 0 0, .slice none 0 0, it 0, .slice none 0 0] 29)))
      have HP_47 := Lib.hid (HC2.out.below HD_46.out)
      have HQ_48 := Lib.hid (HC3.out.below HD_46.out)
      have hdr : w5.heap.size = G := hG.symm
      try rw [hdr]
      obtain ⟨g0, g1, g2, g3, g4⟩ := c5 HGC.out
      obtain ⟨f0, f1, f2, f3, f4⟩ := f5 HGC.out
      clear hG hdr
      refine hK.out _ _ (by first | with_reducible exact HKS.out _ HP_47.out HQ_48.out | exact HKS.out _ HP_47.out HQ_48.out) (fun hHeld => ?_)
      clear hK K
      try simp only [Act.put, List.getElem_toArray, List.getElem_cons_succ, List.getElem_cons_zero, List.setIfInBounds_toArray, List.set_cons_zero, List.set_cons_succ]
      refine wpAnyH_ready (rs := [3]) (by kernel_rfl) (by simp) ?_
      refine AllReadyH.cons rfl (fun K hK => ?_) AllReadyH.nil
      go_simp
      refine (H2.out _ HD_46.out).mono ?_
      rintro e w6 ⟨rfl, hb6⟩
      have HD_49 : Hid (Below wA.heap.size wA w6) := Lib.hid (HD_46.out.trans (hb6.mono HD_46.out.size))
      have HO6 := Lib.hid (HOb.out.below hb6)
      have HG6 := Lib.hid (HGC.out.below hb6)
      have HP_50 := Lib.hid (HC2.out.below HD_49.out)
      have HQ_51 := Lib.hid (HC3.out.below HD_49.out)
      obtain ⟨g0, g1, g2, g3, g4⟩ := c5 HG6.out
      obtain ⟨f0, f1, f2, f3, f4⟩ := f5 HG6.out
      clear hb6
      go_wp2_with fail
      refine hK.out _ _ (by first | with_reducible exact HKS.out _ HP_50.out HQ_51.out | exact HKS.out _ HP_50.out HQ_51.out) (fun hHeld => ?_)
      clear hK K
      try simp only [Act.put, List.getElem_toArray, List.getElem_cons_succ, List.getElem_cons_zero, List.setIfInBounds_toArray, List.set_cons_zero, List.set_cons_succ]
      refine wpAnyH_ready (rs := [5]) (by kernel_rfl) (by simp) ?_
      refine AllReadyH.cons rfl (fun K hK => ?_) AllReadyH.nil
      go_simp
      have HD_52 := Lib.hid (set5_below HD_49.out HGL.out (.slice xr' C.ring.length yr') (.slice xh' C.hints.length yh') (.slice xa' C.anchors.length ya') (it C.epoch) (.slice xf' C.flushes.length yf'))
      have HGS := Lib.hid (set5_ce HG6.out (.slice xr' C.ring.length yr') (.slice xh' C.hints.length yh') (.slice xa' C.anchors.length ya') (it C.epoch) (.slice xf' C.flushes.length yf'))
      have HOS := Lib.hid (HO6.out.set5 HG6.out (.slice xr' C.ring.length yr') (.slice xh' C.hints.length yh') (.slice xa' C.anchors.length ya') (it C.epoch) (.slice xf' C.flushes.length yf'))
      have HP_53 := Lib.hid (HC2.out.below HD_52.out)
      have HQ_54 := Lib.hid (HC3.out.below HD_52.out)
      refine hK.out _ _ (by first | with_reducible exact HKS.out _ HP_53.out HQ_54.out | exact HKS.out _ HP_53.out HQ_54.out) (fun hHeld => ?_)
      clear hK K
      try simp only [Act.put, List.getElem_toArray, List.getElem_cons_succ, List.getElem_cons_zero, List.setIfInBounds_toArray, List.set_cons_zero, List.set_cons_succ]
      refine' wpAnyH_take (i := 6) (v := ?v9) rfl (by kernel_rfl) (by kernel_rfl) (by kernel_rfl) (fun _ _ _ h => h) (Or.inl ⟨by rfl, ?y9⟩) (by assumption) ?r9
      case y9 => (intro w hSw; (try dsimp only at hSw); go_simp; try with_reducible rfl)
      try simp only [Act.put, List.getElem_toArray, List.getElem_cons_succ, List.getElem_cons_zero, List.setIfInBounds_toArray, List.set_cons_zero, List.set_cons_succ]
      refine wpAnyH_done (by kernel_rfl) ?_ _
      go_wp2
      go_meet
      exact ⟨_, _, _, _, _, rfl, rfl, HGL.out, HGS.out, HOS.out, HD_52.out⟩
    refine AllReadyH.cons rfl (fun K hK => ?_) AllReadyH.nil
    go_simp
    obtain ⟨G, hG⟩ : ∃ G, G = wA.heap.size := ⟨_, rfl⟩
    have HGL : Hid (wA.heap.size ≤ G) := Lib.hid (by rw [hG]; exact HD0.out.size)
    have HD_55 : Hid (Below wA.heap.size wA (wA.drew.alloc (.cells #[.slice none 0 0, .slice none 0 0, .slice none 0 0, it 0, .slice none 0 0] 29))) := Lib.hid (HD0.out.trans ((one_new wA.drew (.cells #[.slice none 0 0, .slice none 0 0, .slice none 0 0, it 0, .slice none 0 0] 29)).mono HD0.out.size))
    have HGC : Hid (Ce (wA.drew.alloc (.cells #[.slice none 0 0, .slice none 0 0, .slice none 0 0, it 0, .slice none 0 0] 29)) G 29 #[.slice none 0 0, .slice none 0 0, .slice none 0 0, it 0, .slice none 0 0]) := Lib.hid (by rw [hG]; exact Ce.new _ _ _)
    have HP_56 := Lib.hid (HC2.out.below HD_55.out)
    have HQ_57 := Lib.hid (HC3.out.below HD_55.out)
    have hdr : wA.heap.size = G := hG.symm
    try rw [hdr]
    obtain ⟨g0, g1, g2, g3, g4⟩ := c5 HGC.out
    obtain ⟨f0, f1, f2, f3, f4⟩ := f5 HGC.out
    clear hG hdr
    refine hK.out _ _ (by first | with_reducible exact HKS.out _ HP_56.out HQ_57.out | exact HKS.out _ HP_56.out HQ_57.out) (fun hHeld => ?_)
    clear hK K
    try simp only [Act.put, List.getElem_toArray, List.getElem_cons_succ, List.getElem_cons_zero, List.setIfInBounds_toArray, List.set_cons_zero, List.set_cons_succ]
    refine wpAnyH_ready (rs := [1]) (by kernel_rfl) (by simp) ?_
    refine AllReadyH.cons rfl (fun K hK => ?_) AllReadyH.nil
    go_simp
    refine (H1.out _ HD_55.out).mono ?_
    rintro e w5 ⟨r', h', a', fs', rfl, ho5, hb5⟩
    have HD_58 : Hid (Below wA.heap.size wA w5) := Lib.hid (HD_55.out.trans (hb5.mono HD_55.out.size))
    have HO5 := Lib.hid (ho5.weak (base' := wA.heap.size) HD_55.out.size)
    have HG5 := Lib.hid (HGC.out.below hb5)
    have HP_59 := Lib.hid (HC2.out.below HD_58.out)
    have HQ_60 := Lib.hid (HC3.out.below HD_58.out)
    obtain ⟨⟨xr', yr', rfl⟩, ⟨xh', yh', rfl⟩, ⟨xa', ya', rfl⟩, ⟨xf', yf', rfl⟩⟩ := ho5.rd.shape
    clear ho5 hb5
    go_wp2_with fail
    refine hK.out _ _ (by first | with_reducible exact HKS.out _ HP_59.out HQ_60.out | exact HKS.out _ HP_59.out HQ_60.out) (fun hHeld => ?_)
    clear hK K
    try simp only [Act.put, List.getElem_toArray, List.getElem_cons_succ, List.getElem_cons_zero, List.setIfInBounds_toArray, List.set_cons_zero, List.set_cons_succ]
    refine wpAnyH_ready (rs := [3]) (by kernel_rfl) (by simp) ?_
    refine AllReadyH.cons rfl (fun K hK => ?_) AllReadyH.nil
    go_simp
    refine (H2.out _ HD_58.out).mono ?_
    rintro e w6 ⟨rfl, hb6⟩
    have HD_61 : Hid (Below wA.heap.size wA w6) := Lib.hid (HD_58.out.trans (hb6.mono HD_58.out.size))
    have HO6 := Lib.hid (HO5.out.below hb6)
    have HG6 := Lib.hid (HG5.out.below hb6)
    have HP_62 := Lib.hid (HC2.out.below HD_61.out)
    have HQ_63 := Lib.hid (HC3.out.below HD_61.out)
    obtain ⟨g0, g1, g2, g3, g4⟩ := c5 HG6.out
    obtain ⟨f0, f1, f2, f3, f4⟩ := f5 HG6.out
    clear hb6
    go_wp2_with fail
    refine hK.out _ _ (by first | with_reducible exact HKS.out _ HP_62.out HQ_63.out | exact HKS.out _ HP_62.out HQ_63.out) (fun hHeld => ?_)
    clear hK K
    try simp only [Act.put, List.getElem_toArray, List.getElem_cons_succ, List.getElem_cons_zero, List.setIfInBounds_toArray, List.set_cons_zero, List.set_cons_succ]
    refine wpAnyH_ready (rs := [5]) (by kernel_rfl) (by simp) ?_
    refine AllReadyH.cons rfl (fun K hK => ?_) AllReadyH.nil
    go_simp
    have HD_64 := Lib.hid (set5_below HD_61.out HGL.out (.slice xr' C.ring.length yr') (.slice xh' C.hints.length yh') (.slice xa' C.anchors.length ya') (it C.epoch) (.slice xf' C.flushes.length yf'))
    have HGS := Lib.hid (set5_ce HG6.out (.slice xr' C.ring.length yr') (.slice xh' C.hints.length yh') (.slice xa' C.anchors.length ya') (it C.epoch) (.slice xf' C.flushes.length yf'))
    have HOS := Lib.hid (HO6.out.set5 HG6.out (.slice xr' C.ring.length yr') (.slice xh' C.hints.length yh') (.slice xa' C.anchors.length ya') (it C.epoch) (.slice xf' C.flushes.length yf'))
    have HP_65 := Lib.hid (HC2.out.below HD_64.out)
    have HQ_66 := Lib.hid (HC3.out.below HD_64.out)
    refine hK.out _ _ (by first | with_reducible exact HKS.out _ HP_65.out HQ_66.out | exact HKS.out _ HP_65.out HQ_66.out) (fun hHeld => ?_)
    clear hK K
    try simp only [Act.put, List.getElem_toArray, List.getElem_cons_succ, List.getElem_cons_zero, List.setIfInBounds_toArray, List.set_cons_zero, List.set_cons_succ]
    refine' wpAnyH_take (i := 6) (v := ?v10) rfl (by kernel_rfl) (by kernel_rfl) (by kernel_rfl) (fun _ _ _ h => h) (Or.inl ⟨by rfl, ?y10⟩) (by assumption) ?r10
    case y10 => (intro w hSw; (try dsimp only at hSw); go_simp; try with_reducible rfl)
    try simp only [Act.put, List.getElem_toArray, List.getElem_cons_succ, List.getElem_cons_zero, List.setIfInBounds_toArray, List.set_cons_zero, List.set_cons_succ]
    refine wpAnyH_done (by kernel_rfl) ?_ _
    go_wp2
    go_meet
    exact ⟨_, _, _, _, _, rfl, rfl, HGL.out, HGS.out, HOS.out, HD_64.out⟩
  case rest =>
    obtain ⟨G, r', h', a', fs', rfl, rfl, hG, hCG, hOG, hb⟩ := hcut
    have HBX := Lib.hid hb
    obtain ⟨c0, c1, c2, c3, c4, c5⟩ := c6 (HC3.out.below hb)
    have HCC := Lib.hid (HCH.out wc G wA.heap.size r' h' a' fs' hCG hOG hG hb.size (HHH.out.below hb))
    have HGL := Lib.hid hG
    clear hCG hOG hb hG
    go_wp2_with fail
    refine HCC.out.mono ?_
    rintro e w7 ⟨rfl, hb7, hok7⟩
    have HB7 := Lib.hid (HBX.out.trans hb7)
    have HOK7 := Lib.hid hok7
    clear hb7 hok7 c0 c1 c2 c3 c4 c5
    have HC2X := Lib.hid (HC2.out.below HB7.out)
    have HC4X := Lib.hid (HC4.out.below HB7.out)
    by_cases her : er = 0
    · have HN7 : Hid (n ≤ wA.heap.size) := Lib.hid (by have := HSZ.out; omega)
      subst her
      have her : (0 : Int) = 0 := rfl
      obtain ⟨r7, h7, a7, f7, hC7, hO7⟩ := HOK7.out her
      have HD := Lib.hid (hD0 her)
      obtain ⟨⟨xr2, yr2, rfl⟩, ⟨xh2, yh2, rfl⟩, ⟨xa2, ya2, rfl⟩, ⟨xf2, yf2, rfl⟩⟩ := hO7.rd.shape
      have HO7 := Lib.hid hO7
      have HC7 := Lib.hid hC7
      have HBF : Hid (Below n w w7) := Lib.hid (HBW.out.trans (HB7.out.mono (by have := HSZ.out; omega)))
      obtain ⟨c0, c1, c2, c3, c4⟩ := c5 hC7
      obtain ⟨d0, d1, d2, d3, d4⟩ := c5 HC4X.out
      obtain ⟨f0, f1, f2, f3, f4⟩ := f5 HC4X.out
      clear hO7 hC7 hD0 hD1 her
      go_wp2
      refine bodyPost_ret (resCt rfl rfl (set5_ce HC4X.out _ _ _ _ _)) rfl ?_
      exact ⟨_, _, _, _, by rw [HD.out]; rfl, by rw [HD.out]; exact (HO7.out.weak HN7.out).set5 HC4X.out _ _ _ _ _, set5_below HBF.out (by omega) _ _ _ _ _⟩
    · have q1 : (er != 0) = true := by simp [her]
      have q2 : (er == 0) = false := by simp [her]
      have HD := Lib.hid (hD1 her)
      obtain ⟨c0, c1, c2, c3, c4⟩ := c5 HC2X.out
      have HOWN := Lib.hid (own_any (HRC.out.below HB7.out) hok)
      clear hD0 hD1 her HOK7
      go_wp2_with fail
      refine HOWN.out.mono ?_
      rintro e w8 ⟨r7, h7, a7, f7, rfl, ho7, hb8⟩
      obtain ⟨⟨xr2, yr2, rfl⟩, ⟨xh2, yh2, rfl⟩, ⟨xa2, ya2, rfl⟩, ⟨xf2, yf2, rfl⟩⟩ := ho7.rd.shape
      have HO7 := Lib.hid ho7
      have HB8 : Hid (Below n w w8) := Lib.hid (HBW.out.trans ((HB7.out.trans (hb8.mono HB7.out.size)).mono (by have := HSZ.out; omega)))
      have HC8 := Lib.hid (HC4X.out.below hb8)
      have HNX : Hid (n ≤ w7.heap.size) := Lib.hid (by have := HSZ.out; have := HB7.out.size; omega)
      obtain ⟨d0, d1, d2, d3, d4⟩ := c5 HC8.out
      obtain ⟨f0, f1, f2, f3, f4⟩ := f5 HC8.out
      clear ho7 hb8 c0 c1 c2 c3 c4
      go_wp2
      refine bodyPost_ret (resCt rfl rfl (set5_ce HC8.out _ _ _ _ _)) rfl ?_
      exact ⟨_, _, _, _, by rw [HD.out]; rfl, by rw [HD.out]; exact (HO7.out.weak HNX.out).set5 HC8.out _ _ _ _ _, set5_below HB8.out (by omega) _ _ _ _ _⟩
end Go.Proofs.Ytjoplnkagfkffaa

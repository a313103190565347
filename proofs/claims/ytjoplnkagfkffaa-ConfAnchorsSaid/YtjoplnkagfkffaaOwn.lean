/-
  A configuration in memory of its own.
-/
import Derived.Test.YtjoplnkagfkffaaFits
namespace Go.Proofs.Ytjoplnkagfkffaa
open Go.RowKit
/-- A configuration. -/
structure Cf where
  ring : List Int
  hints : List ByteArray
  anchors : List An
  epoch : Int
  flushes : List Fl'
  deriving DecidableEq
abbrev cv (r h a : Value) (ep : Int) (fs : Value) : Value := .agg #[r, h, a, it ep, fs]
/-- What reads as a configuration. -/
structure RdC (w : World) (r h a fs : Value) (C : Cf) : Prop where
  r : RdX elI w r C.ring
  h : RdX elS w h C.hints
  a : RdX elA w a C.anchors
  f : RdX elF w fs C.flushes
structure OwnC (w : World) (base : Nat) (r h a fs : Value) (C : Cf) : Prop where
  r : OwnX elI w base r C.ring
  h : OwnX elS w base h C.hints
  a : OwnX elA w base a C.anchors
  f : OwnX elF w base fs C.flushes
/-- None of its lists is too long. -/
structure Cf.Ok (C : Cf) : Prop where
  r : C.ring.length ≤ 1000
  h : C.hints.length ≤ 1000000
  a : C.anchors.length ≤ 1000
  f : C.flushes.length ≤ 1000
  an : ∀ x ∈ C.anchors, x.name.size ≤ 1000000
  fz : ∀ x ∈ C.flushes, x.zone.size ≤ 1000000
variable {w w' : World} {r h a fs : Value} {C : Cf}
theorem RdC.below (hC : RdC w r h a fs C) (hb : Below w.heap.size w w') : RdC w' r h a fs C := ⟨hC.r.below hb, hC.h.below hb, hC.a.below hb, hC.f.below hb⟩
theorem OwnC.below {base : Nat} (hC : OwnC w base r h a fs C) (hb : Below w.heap.size w w') : OwnC w' base r h a fs C := ⟨hC.r.below hb, hC.h.below hb, hC.a.below hb, hC.f.below hb⟩
theorem OwnC.rd {base : Nat} (hC : OwnC w base r h a fs C) : RdC w r h a fs C := ⟨hC.r.rd, hC.h.rd, hC.a.rd, hC.f.rd⟩
theorem OwnC.weak {base base' : Nat} (hC : OwnC w base r h a fs C) (hb : base' ≤ base) : OwnC w base' r h a fs C := ⟨hC.r.weak hb, hC.h.weak hb, hC.a.weak hb, hC.f.weak hb⟩
theorem RdC.shape (hC : RdC w r h a fs C) : (∃ x y, r = .slice x C.ring.length y) ∧ (∃ x y, h = .slice x C.hints.length y) ∧ (∃ x y, a = .slice x C.anchors.length y) ∧ (∃ x y, fs = .slice x C.flushes.length y) :=
  ⟨let ⟨x, y, e, _⟩ := hC.r.shape; ⟨x, y, e⟩, let ⟨x, y, e, _⟩ := hC.h.shape; ⟨x, y, e⟩, let ⟨x, y, e, _⟩ := hC.a.shape; ⟨x, y, e⟩, let ⟨x, y, e, _⟩ := hC.f.shape; ⟨x, y, e⟩⟩
/-- A whole configuration stored. -/
abbrev set5 (w : World) (n : Nat) (v0 v1 v2 v3 v4 : Value) : World := ((((w.setCell ⟨n, 0, none⟩ v0).setCell ⟨n, 1, none⟩ v1).setCell ⟨n, 2, none⟩ v2).setCell ⟨n, 3, none⟩ v3).setCell ⟨n, 4, none⟩ v4
theorem set5_ce {w : World} {n : Nat} {T : TypeId} {u0 u1 u2 u3 u4 : Value} (b : Ce w n T #[u0, u1, u2, u3, u4]) (v0 v1 v2 v3 v4 : Value) : Ce (set5 w n v0 v1 v2 v3 v4) n T #[v0, v1, v2, v3, v4] :=
  ((((b.set v0 (i := 0)).set v1 (i := 1)).set v2 (i := 2)).set v3 (i := 3)).set v4 (i := 4)
theorem set5_below {w w2 : World} {m n : Nat} (h : Below m w w2) (hn : m ≤ n) (v0 v1 v2 v3 v4 : Value) : Below m w (set5 w2 n v0 v1 v2 v3 v4) :=
  ((((h.setCell (p := ⟨n, 0, none⟩) hn v0).setCell (p := ⟨n, 1, none⟩) hn v1).setCell (p := ⟨n, 2, none⟩) hn v2).setCell (p := ⟨n, 3, none⟩) hn v3).setCell (p := ⟨n, 4, none⟩) hn v4
theorem set5_tr {S : Nat → Prop} {w w2 : World} {n : Nat} (h : Tr S w w2) (hn : S n ∨ w.heap.size ≤ n) (v0 v1 v2 v3 v4 : Value) : Tr S w (set5 w2 n v0 v1 v2 v3 v4) :=
  ((((h.setCell (i := 0) hn v0).setCell (i := 1) hn v1).setCell (i := 2) hn v2).setCell (i := 3) hn v3).setCell (i := 4) hn v4
theorem set5_keep {w : World} {n m : Nat} {T : TypeId} {cs : Array Value} (h : Ce w n T cs) (hne : n ≠ m) (v0 v1 v2 v3 v4 : Value) : Ce (set5 w m v0 v1 v2 v3 v4) n T cs :=
  ((((h.other hne v0 (i := 0)).other hne v1 (i := 1)).other hne v2 (i := 2)).other hne v3 (i := 3)).other hne v4 (i := 4)
theorem OwnX.set5 {α : Type} {E : El α} {w : World} {base B : Nat} {v : Value} {L : List α} {T : TypeId} {cs : Array Value} (h : OwnX E w base v L) (hc : Ce w B T cs) (hT : T ≠ E.e) (v0 v1 v2 v3 v4 : Value) : OwnX E (Ytjoplnkagfkffaa.set5 w B v0 v1 v2 v3 v4) base v L :=
  ((((h.setT hc hT v0 (i := 0)).setT (hc.set v0 (i := 0)) hT v1 (i := 1)).setT ((hc.set v0 (i := 0)).set v1 (i := 1)) hT v2 (i := 2)).setT (((hc.set v0 (i := 0)).set v1 (i := 1)).set v2 (i := 2)) hT v3 (i := 3)).setT ((((hc.set v0 (i := 0)).set v1 (i := 1)).set v2 (i := 2)).set v3 (i := 3)) hT v4 (i := 4)
theorem OwnC.set5 {base B : Nat} {cs : Array Value} (hO : OwnC w base r h a fs C) (hc : Ce w B 29 cs) (v0 v1 v2 v3 v4 : Value) : OwnC (Ytjoplnkagfkffaa.set5 w B v0 v1 v2 v3 v4) base r h a fs C :=
  ⟨hO.r.set5 hc (by decide) v0 v1 v2 v3 v4, hO.h.set5 hc (by decide) v0 v1 v2 v3 v4, hO.a.set5 hc (by decide) v0 v1 v2 v3 v4, hO.f.set5 hc (by decide) v0 v1 v2 v3 v4⟩
section
variable {fn : Func} {w : World} {tmps : Array Value} {n : Nat} {v0 v1 v2 v3 v4 : Value}
theorem resC {t : Tmp} (h : fn.results = #[.cell t 29]) (e1 : tmps.getD t undef = ptr n) (h1 : Ce w n 29 #[v0, v1, v2, v3, v4]) :
    (results fn tmps).run Try.prog w = .ok (.agg #[v0, v1, v2, v3, v4]) w := by
  obtain ⟨a0, a1, a2, a3, a4⟩ := c5 h1
  rw [Array.getD_eq_getD_getElem?] at e1
  simp [results, h, e1, go_sem, a0, a1, a2, a3, a4]
theorem resCt {t u : Tmp} (h : fn.results = #[.cell t 29, .tmp u]) (e1 : tmps.getD t undef = ptr n) (h1 : Ce w n 29 #[v0, v1, v2, v3, v4]) :
    (results fn tmps).run Try.prog w = .ok (.tuple #[.agg #[v0, v1, v2, v3, v4], tmps.getD u undef]) w := by
  obtain ⟨a0, a1, a2, a3, a4⟩ := c5 h1
  rw [Array.getD_eq_getD_getElem?] at e1
  simp [results, h, e1, go_sem, a0, a1, a2, a3, a4]
end
set_option maxRecDepth 100000 in
set_option maxHeartbeats 12800000 in
theorem own_any {w : World} {r h a fs : Value} {C : Cf} (hC : RdC w r h a fs C) (hok : C.Ok) :
    Calls Try.prog 16 #[cv r h a C.epoch fs] w fun e w' => ∃ r' h' a' fs', e = .returned (cv r' h' a' C.epoch fs') ∧ OwnC w' w.heap.size r' h' a' fs' C ∧ Below w.heap.size w w' := by
  obtain ⟨R, H, A, ep, L⟩ := C
  obtain ⟨⟨xr, yr, rfl⟩, ⟨xh, yh, rfl⟩, ⟨xa0, ya0, rfl⟩, ⟨xf, yf, rfl⟩⟩ := hC.shape
  dsimp only at hC ⊢
  obtain ⟨l1, l2, l3, l4, _, _⟩ := hok
  dsimp only at l1 l2 l3 l4
  have HA := Lib.hid (two_new w #[.slice xr R.length yr, .slice xh H.length yh, .slice xa0 A.length ya0, it ep, .slice xf L.length yf] #[.slice none 0 0, .slice none 0 0, .slice none 0 0, it 0, .slice none 0 0] 29 29)
  obtain ⟨hC0, hC1, hsz, hbw⟩ := HA.out
  have HC0 := Lib.hid hC0
  have HC1 := Lib.hid hC1
  have HBW := Lib.hid hbw
  have HRC := Lib.hid (hC.below hbw)
  have HRC0 := Lib.hid hC
  obtain ⟨base, hbase⟩ : ∃ b, b = w.heap.size := ⟨_, rfl⟩
  obtain ⟨B, hB⟩ : ∃ b, b = w.heap.size := ⟨_, rfl⟩
  have HBB : Hid (base ≤ B) := Lib.hid (by omega)
  have HBE := Lib.hid hbase
  have HBE2 := Lib.hid hB
  rw [← hB] at HC0 HC1
  rw [← hbase] at HBW
  rw [show w.heap.size = base from hbase.symm]
  have HSZ : Hid (base ≤ ((w.alloc (.cells #[.slice xr R.length yr, .slice xh H.length yh, .slice xa0 A.length ya0, it ep, .slice xf L.length yf] 29)).alloc (.cells #[.slice none 0 0, .slice none 0 0, .slice none 0 0, it 0, .slice none 0 0] 29)).heap.size) := Lib.hid (by rw [hsz]; omega)
  clear hC hC0 hC1 hsz hbw HA
  go_enter Try.func16, Try.ntmps16
  go_upto_region 1 with fail
  rw [← hB]
  generalize World.alloc (World.alloc w _) _ = wA at *
  clear hB hbase
  have H0 : Hid (Below wA.heap.size wA wA.drew) := Lib.hid (Below.refl _ wA).drew
  have HCa := Lib.hid (HC0.out.below H0.out)
  have H1 := Lib.hid (fun W (hb : Below wA.heap.size wA W) => cloneI_any (HRC.out.r.below hb) (by show R.length ≤ _; omega))
  have H2 := Lib.hid (fun W (hb : Below wA.heap.size wA W) => cloneS_any (HRC.out.h.below hb) (by show H.length ≤ _; omega))
  obtain ⟨c0, c1, c2, c3, c4⟩ := c5 HCa.out
  go_cut [] from 3 to 10 (fun wx => ∃ r' h', Ce wx B 29 #[r', h', .slice xa0 A.length ya0, it ep, .slice xf L.length yf] ∧ OwnX elI wx base r' R ∧ OwnX elS wx base h' H ∧ Below base wA wx ∧ wA.heap.size ≤ wx.heap.size ∧ Ce wx (B + 1) 29 #[.slice none 0 0, .slice none 0 0, .slice none 0 0, it 0, .slice none 0 0])
  case first =>
    refine wp_region_held_drew (S := fun _ => True) (by kernel_rfl) trivial (fun hHeld => ?_)
    refine' wpAnyH_take (i := 0) (v := ?v1) rfl (by kernel_rfl) (by kernel_rfl) (by kernel_rfl) (fun _ _ _ h => h) (Or.inl ⟨by rfl, ?y1⟩) (by assumption) ?r1
    case y1 => (intro w hSw; (try dsimp only at hSw); go_simp; try with_reducible rfl)
    try simp only [Act.put, List.getElem_toArray, List.getElem_cons_zero, List.setIfInBounds_toArray, List.set_cons_zero, List.set_cons_succ]
    refine' wpAnyH_take (i := 3) (v := ?v2) rfl (by kernel_rfl) (by kernel_rfl) (by kernel_rfl) (fun _ _ _ h => h) (Or.inl ⟨by rfl, ?y2⟩) (by assumption) ?r2
    case y2 => (intro w hSw; (try dsimp only at hSw); go_simp; try with_reducible rfl)
    try simp only [Act.put, List.getElem_toArray, List.getElem_cons_succ, List.getElem_cons_zero, List.setIfInBounds_toArray, List.set_cons_zero, List.set_cons_succ]
    refine wpAnyH_ready (rs := [1, 4]) (by kernel_rfl) (by simp) ?_
    refine AllReadyH.cons rfl (fun K hK => ?_) ?_
    ·
      go_simp
      refine hK.out _ _ (by first | with_reducible exact trivial | exact trivial) (fun hHeld => ?_)
      clear hK K
      try simp only [Act.put, List.getElem_toArray, List.getElem_cons_succ, List.getElem_cons_zero, List.setIfInBounds_toArray, List.set_cons_zero, List.set_cons_succ]
      refine wpAnyH_ready (rs := [2, 4]) (by kernel_rfl) (by simp) ?_
      refine AllReadyH.cons rfl (fun K hK => ?_) ?_
      ·
        go_simp
        refine (H1.out _ H0.out).mono ?_
        rintro e w5 ⟨x1, rfl, ho5, hb5⟩
        obtain ⟨xa, xc, rfl, _⟩ := ho5.shape
        have HD_2 : Hid (Below wA.heap.size wA w5) := Lib.hid (H0.out.trans (hb5.mono H0.out.size))
        have HC_1 := Lib.hid (HC0.out.below HD_2.out)
        have HO5 := Lib.hid (ho5.weak (base' := base) (Nat.le_trans HSZ.out H0.out.size))
        clear ho5 hb5
        obtain ⟨c0, c1, c2, c3, c4⟩ := c5 HC_1.out
        go_wp2_with fail
        refine hK.out _ _ (by first | with_reducible exact trivial | exact trivial) (fun hHeld => ?_)
        clear hK K
        try simp only [Act.put, List.getElem_toArray, List.getElem_cons_succ, List.getElem_cons_zero, List.setIfInBounds_toArray, List.set_cons_zero, List.set_cons_succ]
        refine wpAnyH_ready (rs := [4]) (by kernel_rfl) (by simp) ?_
        refine AllReadyH.cons rfl (fun K hK => ?_) AllReadyH.nil
        go_simp
        refine hK.out _ _ (by first | with_reducible exact trivial | exact trivial) (fun hHeld => ?_)
        clear hK K
        try simp only [Act.put, List.getElem_toArray, List.getElem_cons_succ, List.getElem_cons_zero, List.setIfInBounds_toArray, List.set_cons_zero, List.set_cons_succ]
        refine' wpAnyH_take (i := 6) (v := ?v3) rfl (by kernel_rfl) (by kernel_rfl) (by kernel_rfl) (fun _ _ _ h => h) (Or.inl ⟨by rfl, ?y3⟩) (by assumption) ?r3
        case y3 => (intro w hSw; (try dsimp only at hSw); go_simp; try with_reducible rfl)
        try simp only [Act.put, List.getElem_toArray, List.getElem_cons_succ, List.getElem_cons_zero, List.setIfInBounds_toArray, List.set_cons_zero, List.set_cons_succ]
        refine wpAnyH_ready (rs := [5]) (by kernel_rfl) (by simp) ?_
        refine AllReadyH.cons rfl (fun K hK => ?_) AllReadyH.nil
        go_simp
        refine (H2.out _ HD_2.out).mono ?_
        rintro e w6 ⟨x2, rfl, ho6, hb6⟩
        obtain ⟨ya, yc, rfl, _⟩ := ho6.shape
        have HD_4 : Hid (Below wA.heap.size wA w6) := Lib.hid (HD_2.out.trans (hb6.mono HD_2.out.size))
        have HC_3 := Lib.hid (HC0.out.below HD_4.out)
        have HO6 := Lib.hid (ho6.weak (base' := base) (Nat.le_trans HSZ.out HD_2.out.size))
        have HO5' := Lib.hid (HO5.out.below hb6)
        clear ho6 hb6
        obtain ⟨c0, c1, c2, c3, c4⟩ := c5 HC_3.out
        obtain ⟨f0, f1, f2, f3, f4⟩ := f5 HC_3.out
        go_wp2_with fail
        refine hK.out _ _ (by first | with_reducible exact trivial | exact trivial) (fun hHeld => ?_)
        clear hK K
        try simp only [Act.put, List.getElem_toArray, List.getElem_cons_succ, List.getElem_cons_zero, List.setIfInBounds_toArray, List.set_cons_zero, List.set_cons_succ]
        refine wpAnyH_ready (rs := [7]) (by kernel_rfl) (by simp) ?_
        refine AllReadyH.cons rfl (fun K hK => ?_) AllReadyH.nil
        go_simp
        have HC_5 := Lib.hid (HC_3.out.set (.slice xa R.length xc) (i := 0))
        obtain ⟨c0, c1, c2, c3, c4⟩ := c5 HC_5.out
        obtain ⟨f0, f1, f2, f3, f4⟩ := f5 HC_5.out
        refine hK.out _ _ (by first | with_reducible exact trivial | exact trivial) (fun hHeld => ?_)
        clear hK K
        try simp only [Act.put, List.getElem_toArray, List.getElem_cons_succ, List.getElem_cons_zero, List.setIfInBounds_toArray, List.set_cons_zero, List.set_cons_succ]
        refine' wpAnyH_take (i := 8) (v := ?v4) rfl (by kernel_rfl) (by kernel_rfl) (by kernel_rfl) (fun _ _ _ h => h) (Or.inl ⟨by rfl, ?y4⟩) (by assumption) ?r4
        case y4 => (intro w hSw; (try dsimp only at hSw); go_simp; try with_reducible rfl)
        try simp only [Act.put, List.getElem_toArray, List.getElem_cons_succ, List.getElem_cons_zero, List.setIfInBounds_toArray, List.set_cons_zero, List.set_cons_succ]
        refine wpAnyH_ready (rs := [9]) (by kernel_rfl) (by simp) ?_
        refine AllReadyH.cons rfl (fun K hK => ?_) AllReadyH.nil
        go_simp
        refine hK.out _ _ (by first | with_reducible exact trivial | exact trivial) (fun hHeld => ?_)
        clear hK K
        try simp only [Act.put, List.getElem_toArray, List.getElem_cons_succ, List.getElem_cons_zero, List.setIfInBounds_toArray, List.set_cons_zero, List.set_cons_succ]
        refine wpAnyH_done (by kernel_rfl) ?_ _
        have HCF := Lib.hid (HC_5.out.set (.slice ya H.length yc) (i := 1))
        have HF1 : Hid (OwnX elI ((w6.setCell ⟨B, 0, none⟩ (.slice xa R.length xc)).setCell ⟨B, 1, none⟩ (.slice ya H.length yc)) base (.slice xa R.length xc) R) := Lib.hid ((HO5'.out.setT HC_3.out (by decide) (i := 0) _).setT HC_5.out (by decide) (i := 1) _)
        have HF2 : Hid (OwnX elS ((w6.setCell ⟨B, 0, none⟩ (.slice xa R.length xc)).setCell ⟨B, 1, none⟩ (.slice ya H.length yc)) base (.slice ya H.length yc) H) := Lib.hid ((HO6.out.setT HC_3.out (by decide) (i := 0) _).setT HC_5.out (by decide) (i := 1) _)
        have HBF : Hid (Below base wA ((w6.setCell ⟨B, 0, none⟩ (.slice xa R.length xc)).setCell ⟨B, 1, none⟩ (.slice ya H.length yc))) := Lib.hid (((HD_4.out.mono HSZ.out).setCell (p := ⟨B, 0, none⟩) HBB.out _).setCell (p := ⟨B, 1, none⟩) HBB.out _)
        have HC1F : Hid (Ce ((w6.setCell ⟨B, 0, none⟩ (.slice xa R.length xc)).setCell ⟨B, 1, none⟩ (.slice ya H.length yc)) (B + 1) 29 #[.slice none 0 0, .slice none 0 0, .slice none 0 0, it 0, .slice none 0 0]) := Lib.hid (((HC1.out.below HD_4.out).other (by omega) _).other (by omega) _)
        go_wp2
        go_meet
        exact ⟨_, _, HCF.out, HF1.out, HF2.out, HBF.out, HBF.out.size, HC1F.out⟩
      refine AllReadyH.cons rfl (fun K hK => ?_) AllReadyH.nil
      go_simp
      refine hK.out _ _ (by first | with_reducible exact trivial | exact trivial) (fun hHeld => ?_)
      clear hK K
      try simp only [Act.put, List.getElem_toArray, List.getElem_cons_succ, List.getElem_cons_zero, List.setIfInBounds_toArray, List.set_cons_zero, List.set_cons_succ]
      refine wpAnyH_ready (rs := [2]) (by kernel_rfl) (by simp) ?_
      refine AllReadyH.cons rfl (fun K hK => ?_) AllReadyH.nil
      go_simp
      refine (H1.out _ H0.out).mono ?_
      rintro e w5 ⟨x1, rfl, ho5, hb5⟩
      obtain ⟨xa, xc, rfl, _⟩ := ho5.shape
      have HD_7 : Hid (Below wA.heap.size wA w5) := Lib.hid (H0.out.trans (hb5.mono H0.out.size))
      have HC_6 := Lib.hid (HC0.out.below HD_7.out)
      have HO5 := Lib.hid (ho5.weak (base' := base) (Nat.le_trans HSZ.out H0.out.size))
      clear ho5 hb5
      obtain ⟨c0, c1, c2, c3, c4⟩ := c5 HC_6.out
      go_wp2_with fail
      refine hK.out _ _ (by first | with_reducible exact trivial | exact trivial) (fun hHeld => ?_)
      clear hK K
      try simp only [Act.put, List.getElem_toArray, List.getElem_cons_succ, List.getElem_cons_zero, List.setIfInBounds_toArray, List.set_cons_zero, List.set_cons_succ]
      refine' wpAnyH_take (i := 6) (v := ?v5) rfl (by kernel_rfl) (by kernel_rfl) (by kernel_rfl) (fun _ _ _ h => h) (Or.inl ⟨by rfl, ?y5⟩) (by assumption) ?r5
      case y5 => (intro w hSw; (try dsimp only at hSw); go_simp; try with_reducible rfl)
      try simp only [Act.put, List.getElem_toArray, List.getElem_cons_succ, List.getElem_cons_zero, List.setIfInBounds_toArray, List.set_cons_zero, List.set_cons_succ]
      refine wpAnyH_ready (rs := [5]) (by kernel_rfl) (by simp) ?_
      refine AllReadyH.cons rfl (fun K hK => ?_) AllReadyH.nil
      go_simp
      refine (H2.out _ HD_7.out).mono ?_
      rintro e w6 ⟨x2, rfl, ho6, hb6⟩
      obtain ⟨ya, yc, rfl, _⟩ := ho6.shape
      have HD_9 : Hid (Below wA.heap.size wA w6) := Lib.hid (HD_7.out.trans (hb6.mono HD_7.out.size))
      have HC_8 := Lib.hid (HC0.out.below HD_9.out)
      have HO6 := Lib.hid (ho6.weak (base' := base) (Nat.le_trans HSZ.out HD_7.out.size))
      have HO5' := Lib.hid (HO5.out.below hb6)
      clear ho6 hb6
      obtain ⟨c0, c1, c2, c3, c4⟩ := c5 HC_8.out
      obtain ⟨f0, f1, f2, f3, f4⟩ := f5 HC_8.out
      go_wp2_with fail
      refine hK.out _ _ (by first | with_reducible exact trivial | exact trivial) (fun hHeld => ?_)
      clear hK K
      try simp only [Act.put, List.getElem_toArray, List.getElem_cons_succ, List.getElem_cons_zero, List.setIfInBounds_toArray, List.set_cons_zero, List.set_cons_succ]
      refine wpAnyH_ready (rs := [7]) (by kernel_rfl) (by simp) ?_
      refine AllReadyH.cons rfl (fun K hK => ?_) AllReadyH.nil
      go_simp
      have HC_10 := Lib.hid (HC_8.out.set (.slice xa R.length xc) (i := 0))
      obtain ⟨c0, c1, c2, c3, c4⟩ := c5 HC_10.out
      obtain ⟨f0, f1, f2, f3, f4⟩ := f5 HC_10.out
      refine hK.out _ _ (by first | with_reducible exact trivial | exact trivial) (fun hHeld => ?_)
      clear hK K
      try simp only [Act.put, List.getElem_toArray, List.getElem_cons_succ, List.getElem_cons_zero, List.setIfInBounds_toArray, List.set_cons_zero, List.set_cons_succ]
      refine' wpAnyH_take (i := 8) (v := ?v6) rfl (by kernel_rfl) (by kernel_rfl) (by kernel_rfl) (fun _ _ _ h => h) (Or.inl ⟨by rfl, ?y6⟩) (by assumption) ?r6
      case y6 => (intro w hSw; (try dsimp only at hSw); go_simp; try with_reducible rfl)
      try simp only [Act.put, List.getElem_toArray, List.getElem_cons_succ, List.getElem_cons_zero, List.setIfInBounds_toArray, List.set_cons_zero, List.set_cons_succ]
      refine wpAnyH_ready (rs := [9]) (by kernel_rfl) (by simp) ?_
      refine AllReadyH.cons rfl (fun K hK => ?_) AllReadyH.nil
      go_simp
      refine hK.out _ _ (by first | with_reducible exact trivial | exact trivial) (fun hHeld => ?_)
      clear hK K
      try simp only [Act.put, List.getElem_toArray, List.getElem_cons_succ, List.getElem_cons_zero, List.setIfInBounds_toArray, List.set_cons_zero, List.set_cons_succ]
      refine wpAnyH_done (by kernel_rfl) ?_ _
      have HCF := Lib.hid (HC_10.out.set (.slice ya H.length yc) (i := 1))
      have HF1 : Hid (OwnX elI ((w6.setCell ⟨B, 0, none⟩ (.slice xa R.length xc)).setCell ⟨B, 1, none⟩ (.slice ya H.length yc)) base (.slice xa R.length xc) R) := Lib.hid ((HO5'.out.setT HC_8.out (by decide) (i := 0) _).setT HC_10.out (by decide) (i := 1) _)
      have HF2 : Hid (OwnX elS ((w6.setCell ⟨B, 0, none⟩ (.slice xa R.length xc)).setCell ⟨B, 1, none⟩ (.slice ya H.length yc)) base (.slice ya H.length yc) H) := Lib.hid ((HO6.out.setT HC_8.out (by decide) (i := 0) _).setT HC_10.out (by decide) (i := 1) _)
      have HBF : Hid (Below base wA ((w6.setCell ⟨B, 0, none⟩ (.slice xa R.length xc)).setCell ⟨B, 1, none⟩ (.slice ya H.length yc))) := Lib.hid (((HD_9.out.mono HSZ.out).setCell (p := ⟨B, 0, none⟩) HBB.out _).setCell (p := ⟨B, 1, none⟩) HBB.out _)
      have HC1F : Hid (Ce ((w6.setCell ⟨B, 0, none⟩ (.slice xa R.length xc)).setCell ⟨B, 1, none⟩ (.slice ya H.length yc)) (B + 1) 29 #[.slice none 0 0, .slice none 0 0, .slice none 0 0, it 0, .slice none 0 0]) := Lib.hid (((HC1.out.below HD_9.out).other (by omega) _).other (by omega) _)
      go_wp2
      go_meet
      exact ⟨_, _, HCF.out, HF1.out, HF2.out, HBF.out, HBF.out.size, HC1F.out⟩
    refine AllReadyH.cons rfl (fun K hK => ?_) AllReadyH.nil
    go_simp
    refine hK.out _ _ (by first | with_reducible exact trivial | exact trivial) (fun hHeld => ?_)
    clear hK K
    try simp only [Act.put, List.getElem_toArray, List.getElem_cons_succ, List.getElem_cons_zero, List.setIfInBounds_toArray, List.set_cons_zero, List.set_cons_succ]
    refine wpAnyH_ready (rs := [1]) (by kernel_rfl) (by simp) ?_
    refine AllReadyH.cons rfl (fun K hK => ?_) AllReadyH.nil
    go_simp
    refine hK.out _ _ (by first | with_reducible exact trivial | exact trivial) (fun hHeld => ?_)
    clear hK K
    try simp only [Act.put, List.getElem_toArray, List.getElem_cons_succ, List.getElem_cons_zero, List.setIfInBounds_toArray, List.set_cons_zero, List.set_cons_succ]
    refine wpAnyH_ready (rs := [2]) (by kernel_rfl) (by simp) ?_
    refine AllReadyH.cons rfl (fun K hK => ?_) AllReadyH.nil
    go_simp
    refine (H1.out _ H0.out).mono ?_
    rintro e w5 ⟨x1, rfl, ho5, hb5⟩
    obtain ⟨xa, xc, rfl, _⟩ := ho5.shape
    have HD_12 : Hid (Below wA.heap.size wA w5) := Lib.hid (H0.out.trans (hb5.mono H0.out.size))
    have HC_11 := Lib.hid (HC0.out.below HD_12.out)
    have HO5 := Lib.hid (ho5.weak (base' := base) (Nat.le_trans HSZ.out H0.out.size))
    clear ho5 hb5
    obtain ⟨c0, c1, c2, c3, c4⟩ := c5 HC_11.out
    go_wp2_with fail
    refine hK.out _ _ (by first | with_reducible exact trivial | exact trivial) (fun hHeld => ?_)
    clear hK K
    try simp only [Act.put, List.getElem_toArray, List.getElem_cons_succ, List.getElem_cons_zero, List.setIfInBounds_toArray, List.set_cons_zero, List.set_cons_succ]
    refine' wpAnyH_take (i := 6) (v := ?v7) rfl (by kernel_rfl) (by kernel_rfl) (by kernel_rfl) (fun _ _ _ h => h) (Or.inl ⟨by rfl, ?y7⟩) (by assumption) ?r7
    case y7 => (intro w hSw; (try dsimp only at hSw); go_simp; try with_reducible rfl)
    try simp only [Act.put, List.getElem_toArray, List.getElem_cons_succ, List.getElem_cons_zero, List.setIfInBounds_toArray, List.set_cons_zero, List.set_cons_succ]
    refine wpAnyH_ready (rs := [5]) (by kernel_rfl) (by simp) ?_
    refine AllReadyH.cons rfl (fun K hK => ?_) AllReadyH.nil
    go_simp
    refine (H2.out _ HD_12.out).mono ?_
    rintro e w6 ⟨x2, rfl, ho6, hb6⟩
    obtain ⟨ya, yc, rfl, _⟩ := ho6.shape
    have HD_14 : Hid (Below wA.heap.size wA w6) := Lib.hid (HD_12.out.trans (hb6.mono HD_12.out.size))
    have HC_13 := Lib.hid (HC0.out.below HD_14.out)
    have HO6 := Lib.hid (ho6.weak (base' := base) (Nat.le_trans HSZ.out HD_12.out.size))
    have HO5' := Lib.hid (HO5.out.below hb6)
    clear ho6 hb6
    obtain ⟨c0, c1, c2, c3, c4⟩ := c5 HC_13.out
    obtain ⟨f0, f1, f2, f3, f4⟩ := f5 HC_13.out
    go_wp2_with fail
    refine hK.out _ _ (by first | with_reducible exact trivial | exact trivial) (fun hHeld => ?_)
    clear hK K
    try simp only [Act.put, List.getElem_toArray, List.getElem_cons_succ, List.getElem_cons_zero, List.setIfInBounds_toArray, List.set_cons_zero, List.set_cons_succ]
    refine wpAnyH_ready (rs := [7]) (by kernel_rfl) (by simp) ?_
    refine AllReadyH.cons rfl (fun K hK => ?_) AllReadyH.nil
    go_simp
    have HC_15 := Lib.hid (HC_13.out.set (.slice xa R.length xc) (i := 0))
    obtain ⟨c0, c1, c2, c3, c4⟩ := c5 HC_15.out
    obtain ⟨f0, f1, f2, f3, f4⟩ := f5 HC_15.out
    refine hK.out _ _ (by first | with_reducible exact trivial | exact trivial) (fun hHeld => ?_)
    clear hK K
    try simp only [Act.put, List.getElem_toArray, List.getElem_cons_succ, List.getElem_cons_zero, List.setIfInBounds_toArray, List.set_cons_zero, List.set_cons_succ]
    refine' wpAnyH_take (i := 8) (v := ?v8) rfl (by kernel_rfl) (by kernel_rfl) (by kernel_rfl) (fun _ _ _ h => h) (Or.inl ⟨by rfl, ?y8⟩) (by assumption) ?r8
    case y8 => (intro w hSw; (try dsimp only at hSw); go_simp; try with_reducible rfl)
    try simp only [Act.put, List.getElem_toArray, List.getElem_cons_succ, List.getElem_cons_zero, List.setIfInBounds_toArray, List.set_cons_zero, List.set_cons_succ]
    refine wpAnyH_ready (rs := [9]) (by kernel_rfl) (by simp) ?_
    refine AllReadyH.cons rfl (fun K hK => ?_) AllReadyH.nil
    go_simp
    refine hK.out _ _ (by first | with_reducible exact trivial | exact trivial) (fun hHeld => ?_)
    clear hK K
    try simp only [Act.put, List.getElem_toArray, List.getElem_cons_succ, List.getElem_cons_zero, List.setIfInBounds_toArray, List.set_cons_zero, List.set_cons_succ]
    refine wpAnyH_done (by kernel_rfl) ?_ _
    have HCF := Lib.hid (HC_15.out.set (.slice ya H.length yc) (i := 1))
    have HF1 : Hid (OwnX elI ((w6.setCell ⟨B, 0, none⟩ (.slice xa R.length xc)).setCell ⟨B, 1, none⟩ (.slice ya H.length yc)) base (.slice xa R.length xc) R) := Lib.hid ((HO5'.out.setT HC_13.out (by decide) (i := 0) _).setT HC_15.out (by decide) (i := 1) _)
    have HF2 : Hid (OwnX elS ((w6.setCell ⟨B, 0, none⟩ (.slice xa R.length xc)).setCell ⟨B, 1, none⟩ (.slice ya H.length yc)) base (.slice ya H.length yc) H) := Lib.hid ((HO6.out.setT HC_13.out (by decide) (i := 0) _).setT HC_15.out (by decide) (i := 1) _)
    have HBF : Hid (Below base wA ((w6.setCell ⟨B, 0, none⟩ (.slice xa R.length xc)).setCell ⟨B, 1, none⟩ (.slice ya H.length yc))) := Lib.hid (((HD_14.out.mono HSZ.out).setCell (p := ⟨B, 0, none⟩) HBB.out _).setCell (p := ⟨B, 1, none⟩) HBB.out _)
    have HC1F : Hid (Ce ((w6.setCell ⟨B, 0, none⟩ (.slice xa R.length xc)).setCell ⟨B, 1, none⟩ (.slice ya H.length yc)) (B + 1) 29 #[.slice none 0 0, .slice none 0 0, .slice none 0 0, it 0, .slice none 0 0]) := Lib.hid (((HC1.out.below HD_14.out).other (by omega) _).other (by omega) _)
    go_wp2
    go_meet
    exact ⟨_, _, HCF.out, HF1.out, HF2.out, HBF.out, HBF.out.size, HC1F.out⟩
  case rest =>
    obtain ⟨r', h', hCb, hOr, hOh, hBb, hSb, hC1b⟩ := hcut
    obtain ⟨ra, rc, rfl, _⟩ := hOr.shape
    obtain ⟨ha, hc, rfl, _⟩ := hOh.shape
    clear H1 H2 HCa H0 c0 c1 c2 c3 c4 HRC
    have HBW' : Hid (Below base w wc) := Lib.hid (HBW.out.trans hBb)
    have HC0' := Lib.hid hCb
    have HOR := Lib.hid hOr
    have HOH := Lib.hid hOh
    have HSZ' : Hid (base ≤ wc.heap.size) := Lib.hid (Nat.le_trans HSZ.out hSb)
    have HC1' := Lib.hid hC1b
    clear HC0 HBW HSZ HC1 hCb hOr hOh hBb hSb hC1b
    have HC1 := HC1'
    clear HC1'
    have HC0 := HC0'
    have HBW := HBW'
    have HSZ := HSZ'
    clear HC0' HBW' HSZ'
    have H0 : Hid (Below wc.heap.size wc wc.drew) := Lib.hid (Below.refl _ wc).drew
    have HCa := Lib.hid (HC0.out.below H0.out)
    have H1 := Lib.hid (fun W (hb : Below wc.heap.size wc W) => cloneA_any (HRC0.out.a.below (HBE.out ▸ HBW.out.trans (hb.mono HSZ.out))) (by show A.length ≤ _; omega))
    have H2 := Lib.hid (fun W (hb : Below wc.heap.size wc W) => cloneF_any (HRC0.out.f.below (HBE.out ▸ HBW.out.trans (hb.mono HSZ.out))) (by show L.length ≤ _; omega))
    obtain ⟨c0, c1, c2, c3, c4⟩ := c5 HCa.out
    go_upto_region 2 with fail
    go_cut [] from 11 to 18 (fun wx => ∃ r' h' a' fs', Ce wx B 29 #[r', h', a', it ep, fs'] ∧ OwnX elI wx base r' R ∧ OwnX elS wx base h' H ∧ OwnX elA wx base a' A ∧ OwnX elF wx base fs' L ∧ Below base w wx ∧ Ce wx (B + 1) 29 #[.slice none 0 0, .slice none 0 0, .slice none 0 0, it 0, .slice none 0 0])
    case first =>
      refine wp_region_held_drew (S := fun _ => True) (by kernel_rfl) trivial (fun hHeld => ?_)
      refine' wpAnyH_take (i := 0) (v := ?v9) rfl (by kernel_rfl) (by kernel_rfl) (by kernel_rfl) (fun _ _ _ h => h) (Or.inl ⟨by rfl, ?y9⟩) (by assumption) ?r9
      case y9 => (intro w hSw; (try dsimp only at hSw); go_simp; try with_reducible rfl)
      try simp only [Act.put, List.getElem_toArray, List.getElem_cons_zero, List.setIfInBounds_toArray, List.set_cons_zero, List.set_cons_succ]
      refine' wpAnyH_take (i := 3) (v := ?v10) rfl (by kernel_rfl) (by kernel_rfl) (by kernel_rfl) (fun _ _ _ h => h) (Or.inl ⟨by rfl, ?y10⟩) (by assumption) ?r10
      case y10 => (intro w hSw; (try dsimp only at hSw); go_simp; try with_reducible rfl)
      try simp only [Act.put, List.getElem_toArray, List.getElem_cons_succ, List.getElem_cons_zero, List.setIfInBounds_toArray, List.set_cons_zero, List.set_cons_succ]
      refine wpAnyH_ready (rs := [1, 4]) (by kernel_rfl) (by simp) ?_
      refine AllReadyH.cons rfl (fun K hK => ?_) ?_
      ·
        go_simp
        refine hK.out _ _ (by first | with_reducible exact trivial | exact trivial) (fun hHeld => ?_)
        clear hK K
        try simp only [Act.put, List.getElem_toArray, List.getElem_cons_succ, List.getElem_cons_zero, List.setIfInBounds_toArray, List.set_cons_zero, List.set_cons_succ]
        refine wpAnyH_ready (rs := [2, 4]) (by kernel_rfl) (by simp) ?_
        refine AllReadyH.cons rfl (fun K hK => ?_) ?_
        ·
          go_simp
          refine (H1.out _ H0.out).mono ?_
          rintro e w5 ⟨x1, rfl, ho5, hb5⟩
          obtain ⟨xa, xc, rfl, _⟩ := ho5.shape
          have HD_17 : Hid (Below wc.heap.size wc w5) := Lib.hid (H0.out.trans (hb5.mono H0.out.size))
          have HC_16 := Lib.hid (HC0.out.below HD_17.out)
          have HO5 := Lib.hid (ho5.weak (base' := base) (Nat.le_trans HSZ.out H0.out.size))
          clear ho5 hb5
          obtain ⟨c0, c1, c2, c3, c4⟩ := c5 HC_16.out
          go_wp2_with fail
          refine hK.out _ _ (by first | with_reducible exact trivial | exact trivial) (fun hHeld => ?_)
          clear hK K
          try simp only [Act.put, List.getElem_toArray, List.getElem_cons_succ, List.getElem_cons_zero, List.setIfInBounds_toArray, List.set_cons_zero, List.set_cons_succ]
          refine wpAnyH_ready (rs := [4]) (by kernel_rfl) (by simp) ?_
          refine AllReadyH.cons rfl (fun K hK => ?_) AllReadyH.nil
          go_simp
          refine hK.out _ _ (by first | with_reducible exact trivial | exact trivial) (fun hHeld => ?_)
          clear hK K
          try simp only [Act.put, List.getElem_toArray, List.getElem_cons_succ, List.getElem_cons_zero, List.setIfInBounds_toArray, List.set_cons_zero, List.set_cons_succ]
          refine' wpAnyH_take (i := 6) (v := ?v11) rfl (by kernel_rfl) (by kernel_rfl) (by kernel_rfl) (fun _ _ _ h => h) (Or.inl ⟨by rfl, ?y11⟩) (by assumption) ?r11
          case y11 => (intro w hSw; (try dsimp only at hSw); go_simp; try with_reducible rfl)
          try simp only [Act.put, List.getElem_toArray, List.getElem_cons_succ, List.getElem_cons_zero, List.setIfInBounds_toArray, List.set_cons_zero, List.set_cons_succ]
          refine wpAnyH_ready (rs := [5]) (by kernel_rfl) (by simp) ?_
          refine AllReadyH.cons rfl (fun K hK => ?_) AllReadyH.nil
          go_simp
          refine (H2.out _ HD_17.out).mono ?_
          rintro e w6 ⟨x2, rfl, ho6, hb6⟩
          obtain ⟨ya, yc, rfl, _⟩ := ho6.shape
          have HD_19 : Hid (Below wc.heap.size wc w6) := Lib.hid (HD_17.out.trans (hb6.mono HD_17.out.size))
          have HC_18 := Lib.hid (HC0.out.below HD_19.out)
          have HO6 := Lib.hid (ho6.weak (base' := base) (Nat.le_trans HSZ.out HD_17.out.size))
          have HO5' := Lib.hid (HO5.out.below hb6)
          clear ho6 hb6
          obtain ⟨c0, c1, c2, c3, c4⟩ := c5 HC_18.out
          obtain ⟨f0, f1, f2, f3, f4⟩ := f5 HC_18.out
          go_wp2_with fail
          refine hK.out _ _ (by first | with_reducible exact trivial | exact trivial) (fun hHeld => ?_)
          clear hK K
          try simp only [Act.put, List.getElem_toArray, List.getElem_cons_succ, List.getElem_cons_zero, List.setIfInBounds_toArray, List.set_cons_zero, List.set_cons_succ]
          refine wpAnyH_ready (rs := [7]) (by kernel_rfl) (by simp) ?_
          refine AllReadyH.cons rfl (fun K hK => ?_) AllReadyH.nil
          go_simp
          have HC_20 := Lib.hid (HC_18.out.set (.slice xa A.length xc) (i := 2))
          obtain ⟨c0, c1, c2, c3, c4⟩ := c5 HC_20.out
          obtain ⟨f0, f1, f2, f3, f4⟩ := f5 HC_20.out
          refine hK.out _ _ (by first | with_reducible exact trivial | exact trivial) (fun hHeld => ?_)
          clear hK K
          try simp only [Act.put, List.getElem_toArray, List.getElem_cons_succ, List.getElem_cons_zero, List.setIfInBounds_toArray, List.set_cons_zero, List.set_cons_succ]
          refine' wpAnyH_take (i := 8) (v := ?v12) rfl (by kernel_rfl) (by kernel_rfl) (by kernel_rfl) (fun _ _ _ h => h) (Or.inl ⟨by rfl, ?y12⟩) (by assumption) ?r12
          case y12 => (intro w hSw; (try dsimp only at hSw); go_simp; try with_reducible rfl)
          try simp only [Act.put, List.getElem_toArray, List.getElem_cons_succ, List.getElem_cons_zero, List.setIfInBounds_toArray, List.set_cons_zero, List.set_cons_succ]
          refine wpAnyH_ready (rs := [9]) (by kernel_rfl) (by simp) ?_
          refine AllReadyH.cons rfl (fun K hK => ?_) AllReadyH.nil
          go_simp
          refine hK.out _ _ (by first | with_reducible exact trivial | exact trivial) (fun hHeld => ?_)
          clear hK K
          try simp only [Act.put, List.getElem_toArray, List.getElem_cons_succ, List.getElem_cons_zero, List.setIfInBounds_toArray, List.set_cons_zero, List.set_cons_succ]
          refine wpAnyH_done (by kernel_rfl) ?_ _
          have HCF := Lib.hid (HC_20.out.set (.slice ya L.length yc) (i := 4))
          have HF1 : Hid (OwnX elA ((w6.setCell ⟨B, 2, none⟩ (.slice xa A.length xc)).setCell ⟨B, 4, none⟩ (.slice ya L.length yc)) base (.slice xa A.length xc) A) := Lib.hid ((HO5'.out.setT HC_18.out (by decide) (i := 2) _).setT HC_20.out (by decide) (i := 4) _)
          have HF2 : Hid (OwnX elF ((w6.setCell ⟨B, 2, none⟩ (.slice xa A.length xc)).setCell ⟨B, 4, none⟩ (.slice ya L.length yc)) base (.slice ya L.length yc) L) := Lib.hid ((HO6.out.setT HC_18.out (by decide) (i := 2) _).setT HC_20.out (by decide) (i := 4) _)
          have HBF : Hid (Below base wc ((w6.setCell ⟨B, 2, none⟩ (.slice xa A.length xc)).setCell ⟨B, 4, none⟩ (.slice ya L.length yc))) := Lib.hid (((HD_19.out.mono HSZ.out).setCell (p := ⟨B, 2, none⟩) HBB.out _).setCell (p := ⟨B, 4, none⟩) HBB.out _)
          have HC1F : Hid (Ce ((w6.setCell ⟨B, 2, none⟩ (.slice xa A.length xc)).setCell ⟨B, 4, none⟩ (.slice ya L.length yc)) (B + 1) 29 #[.slice none 0 0, .slice none 0 0, .slice none 0 0, it 0, .slice none 0 0]) := Lib.hid (((HC1.out.below HD_19.out).other (by omega) _).other (by omega) _)
          have HORF : Hid (OwnX elI ((w6.setCell ⟨B, 2, none⟩ (.slice xa A.length xc)).setCell ⟨B, 4, none⟩ (.slice ya L.length yc)) base (.slice ra R.length rc) R) := Lib.hid (((HOR.out.below HD_19.out).setT HC_18.out (by decide) (i := 2) _).setT HC_20.out (by decide) (i := 4) _)
          have HOHF : Hid (OwnX elS ((w6.setCell ⟨B, 2, none⟩ (.slice xa A.length xc)).setCell ⟨B, 4, none⟩ (.slice ya L.length yc)) base (.slice ha H.length hc) H) := Lib.hid (((HOH.out.below HD_19.out).setT HC_18.out (by decide) (i := 2) _).setT HC_20.out (by decide) (i := 4) _)
          go_wp2
          go_meet
          exact ⟨_, _, _, _, HCF.out, HORF.out, HOHF.out, HF1.out, HF2.out, (HBW.out.trans HBF.out), HC1F.out⟩
        refine AllReadyH.cons rfl (fun K hK => ?_) AllReadyH.nil
        go_simp
        refine hK.out _ _ (by first | with_reducible exact trivial | exact trivial) (fun hHeld => ?_)
        clear hK K
        try simp only [Act.put, List.getElem_toArray, List.getElem_cons_succ, List.getElem_cons_zero, List.setIfInBounds_toArray, List.set_cons_zero, List.set_cons_succ]
        refine wpAnyH_ready (rs := [2]) (by kernel_rfl) (by simp) ?_
        refine AllReadyH.cons rfl (fun K hK => ?_) AllReadyH.nil
        go_simp
        refine (H1.out _ H0.out).mono ?_
        rintro e w5 ⟨x1, rfl, ho5, hb5⟩
        obtain ⟨xa, xc, rfl, _⟩ := ho5.shape
        have HD_22 : Hid (Below wc.heap.size wc w5) := Lib.hid (H0.out.trans (hb5.mono H0.out.size))
        have HC_21 := Lib.hid (HC0.out.below HD_22.out)
        have HO5 := Lib.hid (ho5.weak (base' := base) (Nat.le_trans HSZ.out H0.out.size))
        clear ho5 hb5
        obtain ⟨c0, c1, c2, c3, c4⟩ := c5 HC_21.out
        go_wp2_with fail
        refine hK.out _ _ (by first | with_reducible exact trivial | exact trivial) (fun hHeld => ?_)
        clear hK K
        try simp only [Act.put, List.getElem_toArray, List.getElem_cons_succ, List.getElem_cons_zero, List.setIfInBounds_toArray, List.set_cons_zero, List.set_cons_succ]
        refine' wpAnyH_take (i := 6) (v := ?v13) rfl (by kernel_rfl) (by kernel_rfl) (by kernel_rfl) (fun _ _ _ h => h) (Or.inl ⟨by rfl, ?y13⟩) (by assumption) ?r13
        case y13 => (intro w hSw; (try dsimp only at hSw); go_simp; try with_reducible rfl)
        try simp only [Act.put, List.getElem_toArray, List.getElem_cons_succ, List.getElem_cons_zero, List.setIfInBounds_toArray, List.set_cons_zero, List.set_cons_succ]
        refine wpAnyH_ready (rs := [5]) (by kernel_rfl) (by simp) ?_
        refine AllReadyH.cons rfl (fun K hK => ?_) AllReadyH.nil
        go_simp
        refine (H2.out _ HD_22.out).mono ?_
        rintro e w6 ⟨x2, rfl, ho6, hb6⟩
        obtain ⟨ya, yc, rfl, _⟩ := ho6.shape
        have HD_24 : Hid (Below wc.heap.size wc w6) := Lib.hid (HD_22.out.trans (hb6.mono HD_22.out.size))
        have HC_23 := Lib.hid (HC0.out.below HD_24.out)
        have HO6 := Lib.hid (ho6.weak (base' := base) (Nat.le_trans HSZ.out HD_22.out.size))
        have HO5' := Lib.hid (HO5.out.below hb6)
        clear ho6 hb6
        obtain ⟨c0, c1, c2, c3, c4⟩ := c5 HC_23.out
        obtain ⟨f0, f1, f2, f3, f4⟩ := f5 HC_23.out
        go_wp2_with fail
        refine hK.out _ _ (by first | with_reducible exact trivial | exact trivial) (fun hHeld => ?_)
        clear hK K
        try simp only [Act.put, List.getElem_toArray, List.getElem_cons_succ, List.getElem_cons_zero, List.setIfInBounds_toArray, List.set_cons_zero, List.set_cons_succ]
        refine wpAnyH_ready (rs := [7]) (by kernel_rfl) (by simp) ?_
        refine AllReadyH.cons rfl (fun K hK => ?_) AllReadyH.nil
        go_simp
        have HC_25 := Lib.hid (HC_23.out.set (.slice xa A.length xc) (i := 2))
        obtain ⟨c0, c1, c2, c3, c4⟩ := c5 HC_25.out
        obtain ⟨f0, f1, f2, f3, f4⟩ := f5 HC_25.out
        refine hK.out _ _ (by first | with_reducible exact trivial | exact trivial) (fun hHeld => ?_)
        clear hK K
        try simp only [Act.put, List.getElem_toArray, List.getElem_cons_succ, List.getElem_cons_zero, List.setIfInBounds_toArray, List.set_cons_zero, List.set_cons_succ]
        refine' wpAnyH_take (i := 8) (v := ?v14) rfl (by kernel_rfl) (by kernel_rfl) (by kernel_rfl) (fun _ _ _ h => h) (Or.inl ⟨by rfl, ?y14⟩) (by assumption) ?r14
        case y14 => (intro w hSw; (try dsimp only at hSw); go_simp; try with_reducible rfl)
        try simp only [Act.put, List.getElem_toArray, List.getElem_cons_succ, List.getElem_cons_zero, List.setIfInBounds_toArray, List.set_cons_zero, List.set_cons_succ]
        refine wpAnyH_ready (rs := [9]) (by kernel_rfl) (by simp) ?_
        refine AllReadyH.cons rfl (fun K hK => ?_) AllReadyH.nil
        go_simp
        refine hK.out _ _ (by first | with_reducible exact trivial | exact trivial) (fun hHeld => ?_)
        clear hK K
        try simp only [Act.put, List.getElem_toArray, List.getElem_cons_succ, List.getElem_cons_zero, List.setIfInBounds_toArray, List.set_cons_zero, List.set_cons_succ]
        refine wpAnyH_done (by kernel_rfl) ?_ _
        have HCF := Lib.hid (HC_25.out.set (.slice ya L.length yc) (i := 4))
        have HF1 : Hid (OwnX elA ((w6.setCell ⟨B, 2, none⟩ (.slice xa A.length xc)).setCell ⟨B, 4, none⟩ (.slice ya L.length yc)) base (.slice xa A.length xc) A) := Lib.hid ((HO5'.out.setT HC_23.out (by decide) (i := 2) _).setT HC_25.out (by decide) (i := 4) _)
        have HF2 : Hid (OwnX elF ((w6.setCell ⟨B, 2, none⟩ (.slice xa A.length xc)).setCell ⟨B, 4, none⟩ (.slice ya L.length yc)) base (.slice ya L.length yc) L) := Lib.hid ((HO6.out.setT HC_23.out (by decide) (i := 2) _).setT HC_25.out (by decide) (i := 4) _)
        have HBF : Hid (Below base wc ((w6.setCell ⟨B, 2, none⟩ (.slice xa A.length xc)).setCell ⟨B, 4, none⟩ (.slice ya L.length yc))) := Lib.hid (((HD_24.out.mono HSZ.out).setCell (p := ⟨B, 2, none⟩) HBB.out _).setCell (p := ⟨B, 4, none⟩) HBB.out _)
        have HC1F : Hid (Ce ((w6.setCell ⟨B, 2, none⟩ (.slice xa A.length xc)).setCell ⟨B, 4, none⟩ (.slice ya L.length yc)) (B + 1) 29 #[.slice none 0 0, .slice none 0 0, .slice none 0 0, it 0, .slice none 0 0]) := Lib.hid (((HC1.out.below HD_24.out).other (by omega) _).other (by omega) _)
        have HORF : Hid (OwnX elI ((w6.setCell ⟨B, 2, none⟩ (.slice xa A.length xc)).setCell ⟨B, 4, none⟩ (.slice ya L.length yc)) base (.slice ra R.length rc) R) := Lib.hid (((HOR.out.below HD_24.out).setT HC_23.out (by decide) (i := 2) _).setT HC_25.out (by decide) (i := 4) _)
        have HOHF : Hid (OwnX elS ((w6.setCell ⟨B, 2, none⟩ (.slice xa A.length xc)).setCell ⟨B, 4, none⟩ (.slice ya L.length yc)) base (.slice ha H.length hc) H) := Lib.hid (((HOH.out.below HD_24.out).setT HC_23.out (by decide) (i := 2) _).setT HC_25.out (by decide) (i := 4) _)
        go_wp2
        go_meet
        exact ⟨_, _, _, _, HCF.out, HORF.out, HOHF.out, HF1.out, HF2.out, (HBW.out.trans HBF.out), HC1F.out⟩
      refine AllReadyH.cons rfl (fun K hK => ?_) AllReadyH.nil
      go_simp
      refine hK.out _ _ (by first | with_reducible exact trivial | exact trivial) (fun hHeld => ?_)
      clear hK K
      try simp only [Act.put, List.getElem_toArray, List.getElem_cons_succ, List.getElem_cons_zero, List.setIfInBounds_toArray, List.set_cons_zero, List.set_cons_succ]
      refine wpAnyH_ready (rs := [1]) (by kernel_rfl) (by simp) ?_
      refine AllReadyH.cons rfl (fun K hK => ?_) AllReadyH.nil
      go_simp
      refine hK.out _ _ (by first | with_reducible exact trivial | exact trivial) (fun hHeld => ?_)
      clear hK K
      try simp only [Act.put, List.getElem_toArray, List.getElem_cons_succ, List.getElem_cons_zero, List.setIfInBounds_toArray, List.set_cons_zero, List.set_cons_succ]
      refine wpAnyH_ready (rs := [2]) (by kernel_rfl) (by simp) ?_
      refine AllReadyH.cons rfl (fun K hK => ?_) AllReadyH.nil
      go_simp
      refine (H1.out _ H0.out).mono ?_
      rintro e w5 ⟨x1, rfl, ho5, hb5⟩
      obtain ⟨xa, xc, rfl, _⟩ := ho5.shape
      have HD_27 : Hid (Below wc.heap.size wc w5) := Lib.hid (H0.out.trans (hb5.mono H0.out.size))
      have HC_26 := Lib.hid (HC0.out.below HD_27.out)
      have HO5 := Lib.hid (ho5.weak (base' := base) (Nat.le_trans HSZ.out H0.out.size))
      clear ho5 hb5
      obtain ⟨c0, c1, c2, c3, c4⟩ := c5 HC_26.out
      go_wp2_with fail
      refine hK.out _ _ (by first | with_reducible exact trivial | exact trivial) (fun hHeld => ?_)
      clear hK K
      try simp only [Act.put, List.getElem_toArray, List.getElem_cons_succ, List.getElem_cons_zero, List.setIfInBounds_toArray, List.set_cons_zero, List.set_cons_succ]
      refine' wpAnyH_take (i := 6) (v := ?v15) rfl (by kernel_rfl) (by kernel_rfl) (by kernel_rfl) (fun _ _ _ h => h) (Or.inl ⟨by rfl, ?y15⟩) (by assumption) ?r15
      case y15 => (intro w hSw; (try dsimp only at hSw); go_simp; try with_reducible rfl)
      try simp only [Act.put, List.getElem_toArray, List.getElem_cons_succ, List.getElem_cons_zero, List.setIfInBounds_toArray, List.set_cons_zero, List.set_cons_succ]
      refine wpAnyH_ready (rs := [5]) (by kernel_rfl) (by simp) ?_
      refine AllReadyH.cons rfl (fun K hK => ?_) AllReadyH.nil
      go_simp
      refine (H2.out _ HD_27.out).mono ?_
      rintro e w6 ⟨x2, rfl, ho6, hb6⟩
      obtain ⟨ya, yc, rfl, _⟩ := ho6.shape
      have HD_29 : Hid (Below wc.heap.size wc w6) := Lib.hid (HD_27.out.trans (hb6.mono HD_27.out.size))
      have HC_28 := Lib.hid (HC0.out.below HD_29.out)
      have HO6 := Lib.hid (ho6.weak (base' := base) (Nat.le_trans HSZ.out HD_27.out.size))
      have HO5' := Lib.hid (HO5.out.below hb6)
      clear ho6 hb6
      obtain ⟨c0, c1, c2, c3, c4⟩ := c5 HC_28.out
      obtain ⟨f0, f1, f2, f3, f4⟩ := f5 HC_28.out
      go_wp2_with fail
      refine hK.out _ _ (by first | with_reducible exact trivial | exact trivial) (fun hHeld => ?_)
      clear hK K
      try simp only [Act.put, List.getElem_toArray, List.getElem_cons_succ, List.getElem_cons_zero, List.setIfInBounds_toArray, List.set_cons_zero, List.set_cons_succ]
      refine wpAnyH_ready (rs := [7]) (by kernel_rfl) (by simp) ?_
      refine AllReadyH.cons rfl (fun K hK => ?_) AllReadyH.nil
      go_simp
      have HC_30 := Lib.hid (HC_28.out.set (.slice xa A.length xc) (i := 2))
      obtain ⟨c0, c1, c2, c3, c4⟩ := c5 HC_30.out
      obtain ⟨f0, f1, f2, f3, f4⟩ := f5 HC_30.out
      refine hK.out _ _ (by first | with_reducible exact trivial | exact trivial) (fun hHeld => ?_)
      clear hK K
      try simp only [Act.put, List.getElem_toArray, List.getElem_cons_succ, List.getElem_cons_zero, List.setIfInBounds_toArray, List.set_cons_zero, List.set_cons_succ]
      refine' wpAnyH_take (i := 8) (v := ?v16) rfl (by kernel_rfl) (by kernel_rfl) (by kernel_rfl) (fun _ _ _ h => h) (Or.inl ⟨by rfl, ?y16⟩) (by assumption) ?r16
      case y16 => (intro w hSw; (try dsimp only at hSw); go_simp; try with_reducible rfl)
      try simp only [Act.put, List.getElem_toArray, List.getElem_cons_succ, List.getElem_cons_zero, List.setIfInBounds_toArray, List.set_cons_zero, List.set_cons_succ]
      refine wpAnyH_ready (rs := [9]) (by kernel_rfl) (by simp) ?_
      refine AllReadyH.cons rfl (fun K hK => ?_) AllReadyH.nil
      go_simp
      refine hK.out _ _ (by first | with_reducible exact trivial | exact trivial) (fun hHeld => ?_)
      clear hK K
      try simp only [Act.put, List.getElem_toArray, List.getElem_cons_succ, List.getElem_cons_zero, List.setIfInBounds_toArray, List.set_cons_zero, List.set_cons_succ]
      refine wpAnyH_done (by kernel_rfl) ?_ _
      have HCF := Lib.hid (HC_30.out.set (.slice ya L.length yc) (i := 4))
      have HF1 : Hid (OwnX elA ((w6.setCell ⟨B, 2, none⟩ (.slice xa A.length xc)).setCell ⟨B, 4, none⟩ (.slice ya L.length yc)) base (.slice xa A.length xc) A) := Lib.hid ((HO5'.out.setT HC_28.out (by decide) (i := 2) _).setT HC_30.out (by decide) (i := 4) _)
      have HF2 : Hid (OwnX elF ((w6.setCell ⟨B, 2, none⟩ (.slice xa A.length xc)).setCell ⟨B, 4, none⟩ (.slice ya L.length yc)) base (.slice ya L.length yc) L) := Lib.hid ((HO6.out.setT HC_28.out (by decide) (i := 2) _).setT HC_30.out (by decide) (i := 4) _)
      have HBF : Hid (Below base wc ((w6.setCell ⟨B, 2, none⟩ (.slice xa A.length xc)).setCell ⟨B, 4, none⟩ (.slice ya L.length yc))) := Lib.hid (((HD_29.out.mono HSZ.out).setCell (p := ⟨B, 2, none⟩) HBB.out _).setCell (p := ⟨B, 4, none⟩) HBB.out _)
      have HC1F : Hid (Ce ((w6.setCell ⟨B, 2, none⟩ (.slice xa A.length xc)).setCell ⟨B, 4, none⟩ (.slice ya L.length yc)) (B + 1) 29 #[.slice none 0 0, .slice none 0 0, .slice none 0 0, it 0, .slice none 0 0]) := Lib.hid (((HC1.out.below HD_29.out).other (by omega) _).other (by omega) _)
      have HORF : Hid (OwnX elI ((w6.setCell ⟨B, 2, none⟩ (.slice xa A.length xc)).setCell ⟨B, 4, none⟩ (.slice ya L.length yc)) base (.slice ra R.length rc) R) := Lib.hid (((HOR.out.below HD_29.out).setT HC_28.out (by decide) (i := 2) _).setT HC_30.out (by decide) (i := 4) _)
      have HOHF : Hid (OwnX elS ((w6.setCell ⟨B, 2, none⟩ (.slice xa A.length xc)).setCell ⟨B, 4, none⟩ (.slice ya L.length yc)) base (.slice ha H.length hc) H) := Lib.hid (((HOH.out.below HD_29.out).setT HC_28.out (by decide) (i := 2) _).setT HC_30.out (by decide) (i := 4) _)
      go_wp2
      go_meet
      exact ⟨_, _, _, _, HCF.out, HORF.out, HOHF.out, HF1.out, HF2.out, (HBW.out.trans HBF.out), HC1F.out⟩
    case rest =>
      obtain ⟨r', h', a', fs', hCc, hOr, hOh, hOa, hOf, hBc, hC1c⟩ := hcut
      obtain ⟨ra', rc', rfl, _⟩ := hOr.shape
      obtain ⟨ha', hc', rfl, _⟩ := hOh.shape
      obtain ⟨aa', ac', rfl, _⟩ := hOa.shape
      obtain ⟨fa', fc', rfl, _⟩ := hOf.shape
      have HO : Hid (OwnC wc base _ _ _ _ ⟨R, H, A, ep, L⟩) := Lib.hid ⟨hOr, hOh, hOa, hOf⟩
      have HCX := Lib.hid hC1c
      have HBX := Lib.hid hBc
      obtain ⟨c0, c1, c2, c3, c4⟩ := c5 hCc
      obtain ⟨d0, d1, d2, d3, d4⟩ := c5 hC1c
      obtain ⟨f0, f1, f2, f3, f4⟩ := f5 hC1c
      clear HC0 HBW HSZ HC1 hCc hOr hOh hOa hOf hBc hC1c H0 HCa H1 H2 HOR HOH
      generalize R.length = lr' at *
      generalize H.length = lh' at *
      generalize A.length = la' at *
      generalize L.length = lf' at *
      go_wp2
      refine bodyPost_ret (resC rfl rfl (set5_ce HCX.out _ _ _ _ _)) rfl ?_
      exact ⟨_, _, _, _, rfl, HO.out.set5 HCX.out _ _ _ _ _, set5_below HBX.out (by have := HBB.out; omega) _ _ _ _ _⟩
end Go.Proofs.Ytjoplnkagfkffaa

/-
  The nodes in the order in which their points are met, as the iterator gives them.
-/
import Derived.Test.YtomghpielgkigaaDoorRing1
namespace Go.Proofs.YtomghpielgkigaaDoor
open Go.RowKit Go.Shelf
attribute [local go_sem] Oper.semAt_some
abbrev encN (x : Fin 64) : Value := it (x.val : Int)
/-- The points from a place on. -/
def rot (h : Int) (L : List Pt) : List Pt := ro (st h L) L
/-- The nodes, each once, as they are met from a place on. -/
def nds (h : Int) (L : List Pt) : List (Fin 64) := dd ((rot h L).map (·.2))
/-- An array of truth values. -/
def onA (on : Fin 64 → Bool) : Array Value := Array.ofFn fun i => Value.bool (on i)
theorem onA_size (on : Fin 64 → Bool) : (onA on).size = 64 := Array.size_ofFn
theorem onA_at (on : Fin 64 → Bool) (i : Fin 64) : (onA on)[i.val]? = some (.bool (on i)) := by
  unfold onA
  rw [Array.getElem?_ofFn, dif_pos i.isLt]
theorem onA_set (on : Fin 64 → Bool) (i : Fin 64) : (onA on).setIfInBounds i.val (.bool true) = onA (fun j => on j || decide (j = i)) := by
  unfold onA
  apply Array.ext
  · rw [Array.size_setIfInBounds, Array.size_ofFn, Array.size_ofFn]
  · intro j h1 h2
    rw [Array.getElem_setIfInBounds, Array.getElem_ofFn, Array.getElem_ofFn]
    · by_cases h : i.val = j
      · rw [if_pos h]
        have : (⟨j, by simpa using h2⟩ : Fin 64) = i := Fin.ext h.symm
        rw [this]
        simp
      · rw [if_neg h]
        have : ¬ ((⟨j, by simpa using h2⟩ : Fin 64) = i) := fun e => h (by rw [← e])
        simp [this]
    · simpa using h2
theorem onA_none : onA (fun _ => false) = Array.replicate 64 (.bool false) := by
  unfold onA
  apply Array.ext
  · rw [Array.size_ofFn, Array.size_replicate]
  · intro j h1 h2
    rw [Array.getElem_ofFn, Array.getElem_replicate]
theorem round_wide {n m l' : Nat} {P : Program} {l : Nat} {f : FuncId} {tmps : Array Value} {assign body : Code} {w : World} {R : Ending → World → Prop} (h : RoundIn Fence.wide n P l f tmps assign body w R) : RoundIn (Fence.wide.inRound l') m P l f tmps assign body w R :=
  ⟨h.1, fun c cs _ => h.2 c cs (room_wide _)⟩
theorem met_snoc (pre : List Pt) (x : Pt) : (onA fun j => decide (j ∈ pre.map (·.2))).setIfInBounds x.2.val (.bool true) = onA fun j => decide (j ∈ (pre ++ [x]).map (·.2)) := by
  rw [onA_set]
  refine congrArg onA (funext fun j => ?_)
  rw [List.map_append, List.map_singleton, ← Bool.decide_or]
  exact decide_eq_decide.2 (by rw [List.mem_append, List.mem_singleton])
theorem met_old (pre : List Pt) (x : Pt) (h : x.2 ∈ pre.map (·.2)) : (onA fun j => decide (j ∈ pre.map (·.2))) = onA fun j => decide (j ∈ (pre ++ [x]).map (·.2)) := by
  refine congrArg onA (funext fun j => ?_)
  rw [List.map_append, List.map_singleton]
  refine decide_eq_decide.2 ?_
  rw [List.mem_append, List.mem_singleton]
  exact ⟨.inl, fun h1 => h1.elim id fun e => e ▸ h⟩
set_option maxRecDepth 100000 in
set_option maxHeartbeats 3200000 in
theorem nodes_gives (n : Nat) (hn : 4 ≤ n) (Z : Nat → Prop) (w0 : World) (B1 B2 : Nat) (v : Value) (h : Int) (L : List Pt) (hB1 : Boxed w0 B1 26 v) (hB2 : Boxed w0 B2 42 (.int .u64 h)) (hZ1 : ¬ Z B1) (hZ2 : ¬ Z B2)
    (hR : RingAt Z w0 v L) (hS : Srt L) (hL : L.length ≤ 1024) : Gives n Tryd.prog 33 #[ptr B1, ptr B2] encN (nds h L) Z w0 := by
  intro l J Jx A W hsz hK hJ hJx hJl hJxl hY h0
  have hRA : RingAt A W v L := hR.at hK
  have c1 : W.cell? ⟨B1, 0, none⟩ = some v := (World.cell?_of_block (w := w0) (a := ⟨B1, 0, none⟩) (hK B1 hB1.lt hZ1).2).trans hB1.cell
  have c2 : W.cell? ⟨B2, 0, none⟩ = some (.int .u64 h) := (World.cell?_of_block (w := w0) (a := ⟨B2, 0, none⟩) (hK B2 hB2.lt hZ2).2).trans hB2.cell
  have HRA := Lib.hid hRA
  have HJ := Lib.hid hJ
  have HJX := Lib.hid hJx
  have HJL := Lib.hid hJl
  have HJXL := Lib.hid hJxl
  have HY := Lib.hid hY
  have HS := Lib.hid hS
  have HL := Lib.hid hL
  have H0 := Lib.hid h0
  have l1 : B1 < W.heap.size := Nat.lt_of_lt_of_le hB1.lt hsz
  have l2 : B2 < W.heap.size := Nat.lt_of_lt_of_le hB2.lt hsz
  clear hRA hJ hJx hJl hJxl hY hS hL h0 hK hB1 hB2 hZ1 hZ2 hR hsz
  refine callsIn_of_wp_marks Tryd.func33 rfl trivial ?_ rfl
  simp only [Tryd.ntmps33, List.size_toArray, List.length_cons, List.length_nil, Nat.reduceAdd, Nat.reduceSub, Array.replicate_succ, Array.replicate_zero, List.push_toArray, List.append_toArray, List.nil_append, List.cons_append]
  gi_wp2_with fail
  obtain ⟨k1, k2, ks, kb⟩ := two_new W #[.func (.yield l) #[] #[]] (Array.replicate 64 (.bool false)) 54 47
  refine ⟨trivial, fun h => (by cases h), ?_⟩
  change CallsIn _ _ _ _ _ ((W.alloc (.cells #[.func (.yield l) #[] #[]] 54)).alloc (.cells (Array.replicate 64 (.bool false)) 47)) _
  rw [← onA_none] at k2 kb ks k1 ⊢
  generalize (W.alloc (.cells #[.func (.yield l) #[] #[]] 54)).alloc (.cells (onA fun _ => false) 47) = w1 at *
  have HK1 := Lib.hid k1
  have HK2 := Lib.hid k2
  have HKB := Lib.hid kb
  obtain ⟨Y, hY⟩ : ∃ Y, Y = W.heap.size := ⟨_, rfl⟩
  have hR1 : RingAt (fun k => A k ∨ k = Y ∨ k = Y + 1) w1 v L := HRA.out.below kb fun k hk h => by
    rintro (h1 | h1 | h1)
    · exact h h1
    · omega
    · omega
  refine (callsIn_wide.2 (from_any hR1 h HS.out HL.out)).mono ?_
  rintro e w2 ⟨b1, b2, sl, rfl, g1, g2, x1, x2, hr, hb2⟩
  have hsz2 := hb2.size
  gi_wp2_with fail
  have HYY := Lib.hid hY
  rw [← hY] at HK1 HK2 ks kb l1 l2 HJ HJX
  have hA0 := HJL.out _ _ _ H0.out
  rw [← hY] at hA0
  have sh : Fr w2.heap.size (fun (pre : List Pt) A' W' => ∃ Ao, (∀ k, A' k ↔ Ao k ∨ k = Y ∨ k = Y + 1) ∧ J (dd (pre.map (·.2))) Ao W' ∧ ¬ Ao Y ∧ ¬ Ao (Y + 1) ∧ Boxed W' Y 54 (.func (.yield l) #[] #[]) ∧ Ce W' (Y + 1) 47 (onA fun j => decide (j ∈ pre.map (·.2)))) := by
    rintro pre A' W' C ⟨Ao, h1, h2, h3, h4, h5, h6⟩ ht
    exact ⟨Ao, h1, HJ.out _ _ _ _ h2 (ht.mono fun k hk => ⟨fun ha => hk.1 ((h1 k).2 (.inl ha)), by have := hk.2; omega⟩), h3, h4, ht.boxed h5 (fun h => h.1 ((h1 _).2 (.inr (.inl rfl)))), h6.tr ht (fun h => h.1 ((h1 _).2 (.inr (.inr rfl))))⟩
  have shx : ∀ c : Code, Fr w2.heap.size (fun (pre : List Pt) A' W' => ∃ Ao, (∀ k, A' k ↔ Ao k ∨ k = Y ∨ k = Y + 1) ∧ c = .ret ∧ Y + 1 < W'.heap.size ∧ ∃ pre', pre' <+: nds h L ∧ Jx pre' Ao W') := by
    rintro c pre A' W' C ⟨Ao, h1, h2, h4, pre', h5, h6⟩ ht
    exact ⟨Ao, h1, h2, Nat.lt_of_lt_of_le h4 ht.size, pre', h5, HJX.out _ _ _ _ h6 (ht.mono fun k hk => ⟨fun ha => hk.1 ((h1 k).2 (.inl ha)), by have := hk.2; omega⟩)⟩
  have SH := Lib.hid sh
  have SHX := Lib.hid shx
  have HR := Lib.hid hr
  have HX1 := Lib.hid x1
  have HX2 := Lib.hid x2
  have HB2 := Lib.hid hb2
  have HA0 := Lib.hid hA0
  have hw2 : Y + 2 ≤ w2.heap.size := by omega
  clear hY sh shx hr x1 x2 hb2 hA0
  refine range_gives (by omega) (gf := 44) (cb := #[ptr b1, ptr b2]) rfl (enters_of Tryd.func44 (by kernel_rfl) rfl) rfl
    (from_gives (n - 1) (by omega) (fun k => A k ∨ k = Y ∨ k = Y + 1) w2 b1 b2 (st h L) sl L HX1.out HX2.out ?z1 ?z2 ?z3 (st_le _ _) HL.out)
    _ (fun c (pre : List Pt) A' W' => ∃ Ao, (∀ k, A' k ↔ Ao k ∨ k = Y ∨ k = Y + 1) ∧ c = .ret ∧ Y + 1 < W'.heap.size ∧ ∃ pre', pre' <+: nds h L ∧ Jx pre' Ao W') SH.out SHX.out ?l1 ?l2
    (fun k => A k ∨ k = Y ∨ k = Y + 1) ?h0 (Nat.le_refl _) (fun k _ hz => ⟨hz, rfl⟩)
    (fun x a' m W' => ∃ bp, m ≤ bp ∧ Ce W' bp 50 #[.int .u64 x.1, .int .i64 (x.2.val : Int)] ∧ a' = { tmps := #[.func (.yield l) #[] #[], ptr B1, ptr B2, ptr Y, ptr (Y + 1), ptr bp, v, .int .u64 h, .func (.func 44) #[] #[ptr b1, ptr b2], encP x, undef, undef, undef, undef, undef, undef, undef, undef, undef, undef, undef, undef], defers := [] })
    ?hax ?assign ?body ?done ?stop
  case z1 =>
    rintro (hz | hz | hz)
    · have := HA0.out _ hz; omega
    · omega
    · omega
  case z2 =>
    rintro (hz | hz | hz)
    · have := HA0.out _ hz; omega
    · omega
    · omega
  case z3 =>
    exact HR.out.below HB2.out fun k hk hz => hz
  case l1 =>
    rintro pre A' W' ⟨Ao, h1, h2, h3, h4, h5, h6⟩ k hk
    rcases (h1 k).1 hk with h7 | rfl | rfl
    · exact HJL.out _ _ _ h2 k h7
    · exact h5.lt
    · exact h6.lt
  case l2 =>
    rintro c pre A' W' ⟨Ao, h1, h2, h4, pre', h5, h6⟩ k hk
    rcases (h1 k).1 hk with h7 | h7 | h7
    · exact HJXL.out _ _ _ h6 k h7
    · omega
    · omega
  case h0 =>
    have hbw : Below w1.heap.size w1 w2 := HB2.out
    refine ⟨A, fun _ => Iff.rfl, HJ.out _ _ _ _ (HJ.out _ _ _ _ H0.out (Tr.of_below HKB.out)) (Tr.of_below hbw), fun h => ?_, fun h => ?_, (hbw.block _ HK1.out.lt).trans HK1.out, ?_⟩
    · have := HA0.out _ h; omega
    · have := HA0.out _ h; omega
    · have := HK2.out.below hbw
      exact this
  case hax =>
    rintro x a' m W' C ⟨bp, h1, h2, h3⟩ ht
    exact ⟨bp, h1, h2.tr ht (by omega), h3⟩
  case assign =>
    intro l' x W' K' hK'
    gi_wp2
    exact hK' _ _ (one_new _ _) ⟨_, Nat.le_refl _, Ce.new _ _ _, by rw [HYY.out]⟩
  case body =>
    rintro l' pre x A' m a' W' hpre ⟨Ao, hA, hJ, hnY, hnM, hYb, hMb⟩ hlt hm ⟨bp, hbp, hcp, rfl⟩
    have d1 : W'.cell? ⟨bp, 1, none⟩ = some (.int .i64 (x.2.val : Int)) := hcp.cell 1
    have hxl : (x.2.val : Int) < 64 := by have := x.2.isLt; omega
    have cm : W'.cell? ⟨Y + 1, x.2.val, none⟩ = some (.bool (decide (x.2 ∈ pre.map (·.2)))) := by
      have := hMb.cell x.2.val
      rw [onA_at] at this
      exact this
    have fm : W'.frozen? ⟨Y + 1, x.2.val, none⟩ = false := hMb.frozen _
    have cY := hYb.cell
    have HJ1 := Lib.hid hJ
    have HA1 := Lib.hid hA
    have HNY := Lib.hid hnY
    have HNM := Lib.hid hnM
    have HYB := Lib.hid hYb
    have HMB := Lib.hid hMb
    have HCP := Lib.hid hcp
    have HPRE := Lib.hid hpre
    by_cases hin : x.2 ∈ pre.map (·.2)
    · have HIN := Lib.hid hin
      have hdec : decide (x.2 ∈ pre.map (·.2)) = true := decide_eq_true hin
      rw [hdec] at cm
      clear hdec hJ hA hnY hnM hYb hMb hcp hpre hin
      gi_wp2
      refine ⟨A', ⟨Ao, HA1.out, ?_, HNY.out, HNM.out, HYB.out, ?_⟩, Move.refl _ _⟩
      · rw [List.map_append, List.map_singleton, dd_snoc, if_pos ((mem_dd _ _).2 HIN.out)]
        exact HJ1.out
      · rw [← met_old pre x HIN.out]
        exact HMB.out
    · have HIN := Lib.hid hin
      have hdec : decide (x.2 ∈ pre.map (·.2)) = false := decide_eq_false hin
      rw [hdec] at cm
      have hM2 : Ce (W'.setCell ⟨Y + 1, x.2.val, none⟩ (.bool true)) (Y + 1) 47 (onA fun j => decide (j ∈ (pre ++ [x]).map (·.2))) := by
        have := hMb.set (i := x.2.val) (.bool true)
        rwa [met_snoc] at this
      have hY2 : Boxed (W'.setCell ⟨Y + 1, x.2.val, none⟩ (.bool true)) Y 54 (.func (.yield l) #[] #[]) := (heap_setCell_other W' ⟨Y + 1, x.2.val, none⟩ Y (.bool true) (fun e => by have e : Y = Y + 1 := e; omega)).trans hYb
      have hne : bp ≠ Y + 1 := by
        have := hlt _ ((hA _).2 (.inr (.inr rfl)))
        omega
      have hc2 : Ce (W'.setCell ⟨Y + 1, x.2.val, none⟩ (.bool true)) bp 50 #[.int .u64 x.1, .int .i64 (x.2.val : Int)] := hcp.other hne _
      have htr : Tr (· = Y + 1) W' (W'.setCell ⟨Y + 1, x.2.val, none⟩ (.bool true)) := (Tr.refl (· = Y + 1) W').setCell (b := Y + 1) (.inl rfl) _
      obtain ⟨w5, hw5⟩ : ∃ w5, w5 = W'.setCell ⟨Y + 1, x.2.val, none⟩ (.bool true) := ⟨_, rfl⟩
      rw [← hw5] at hM2 hY2 hc2 htr
      have HW5 := Lib.hid hw5
      have hJ5 := HJ.out _ _ _ _ hJ (htr.mono fun k hk => ⟨fun ha => hnM (hk ▸ ha), by omega⟩)
      have hddx : dd ((pre ++ [x]).map (·.2)) = dd (pre.map (·.2)) ++ [x.2] := by
        rw [List.map_append, List.map_singleton, dd_snoc, if_neg (fun h => hin ((mem_dd _ _).1 h))]
      have hpx : dd (pre.map (·.2)) ++ [x.2] <+: nds h L := by
        rw [← hddx]
        obtain ⟨t, ht⟩ := hpre
        unfold nds rot
        rw [← ht, List.map_append (l₂ := t)]
        exact dd_mono _ _
      obtain ⟨fn, tmps, assign, body, hy, hRd⟩ := HY.out _ x.2 Ao w5 hpx hJ5
      have HRD := Lib.hid hRd
      have HM2 := Lib.hid hM2
      have HY2 := Lib.hid hY2
      have HTR := Lib.hid htr
      have HDDX := Lib.hid hddx
      have HPX := Lib.hid hpx
      have e1 := hc2.cell 1
      have e2 := hY2.cell
      simp at e1
      clear hdec hJ hA hnY hnM hYb hMb hcp hpre hin hM2 hY2 hc2 htr hJ5 hddx hpx hRd hne hw5 cY
      gi_upto_region 6 with fail
      rw [← HW5.out]
      clear cm fm d1
      gi_wp2_with fail
      refine ⟨fun h => (by cases h), (round_wide HRD.out).mono ?_⟩
      rintro e w3 (⟨rfl, A3, hJ3, hm3⟩ | ⟨rfl, A3, hJ3, hm3⟩)
      · have n1 : ¬ A3 Y := fun ha => by
          rcases hm3.own _ ha with h1 | h1
          · exact HNY.out h1
          · have := HY2.out.lt; omega
        have n2 : ¬ A3 (Y + 1) := fun ha => by
          rcases hm3.own _ ha with h1 | h1
          · exact HNM.out h1
          · have := HM2.out.lt; omega
        have hmv : Move A' W' (fun k => A3 k ∨ k = Y ∨ k = Y + 1) w3 := by
          refine ⟨(HTR.out.mono (S' := A') fun k hk => (HA1.out k).2 (.inr (.inr hk))).trans hm3.tr fun k hk => .inl ((HA1.out k).2 (.inl hk)), fun k hk => ?_⟩
          rcases hk with hk | hk | hk
          · rcases hm3.own k hk with h1 | h1
            · exact .inl ((HA1.out k).2 (.inl h1))
            · exact .inr (Nat.le_trans HTR.out.size h1)
          · exact .inl ((HA1.out k).2 (.inr (.inl hk)))
          · exact .inl ((HA1.out k).2 (.inr (.inr hk)))
        have hY3 := hm3.tr.boxed HY2.out HNY.out
        have hM3 := HM2.out.tr hm3.tr HNM.out
        rw [← HDDX.out] at hJ3
        have HFIN := Lib.hid (show ∃ A'', (∃ Ao, (∀ k, A'' k ↔ Ao k ∨ k = Y ∨ k = Y + 1) ∧ J (dd ((pre ++ [x]).map (·.2))) Ao w3 ∧ ¬ Ao Y ∧ ¬ Ao (Y + 1) ∧ Boxed w3 Y 54 (.func (.yield l) #[] #[]) ∧ Ce w3 (Y + 1) 47 (onA fun j => decide (j ∈ (pre ++ [x]).map (·.2)))) ∧ Move A' W' A'' w3 from ⟨_, ⟨A3, fun _ => Iff.rfl, hJ3, n1, n2, hY3, hM3⟩, hmv⟩)
        clear hJ3 hm3 n1 n2 hmv hY3 hM3 e1 e2 hy
        gi_wp2
        exact HFIN.out
      · have hmv : Move A' W' (fun k => A3 k ∨ k = Y ∨ k = Y + 1) w3 := by
          refine ⟨(HTR.out.mono (S' := A') fun k hk => (HA1.out k).2 (.inr (.inr hk))).trans hm3.tr fun k hk => .inl ((HA1.out k).2 (.inl hk)), fun k hk => ?_⟩
          rcases hk with hk | hk | hk
          · rcases hm3.own k hk with h1 | h1
            · exact .inl ((HA1.out k).2 (.inl h1))
            · exact .inr (Nat.le_trans HTR.out.size h1)
          · exact .inl ((HA1.out k).2 (.inr (.inl hk)))
          · exact .inl ((HA1.out k).2 (.inr (.inr hk)))
        have hlt3 : Y + 1 < w3.heap.size := Nat.lt_of_lt_of_le HM2.out.lt hm3.tr.size
        have HFIN := Lib.hid (show ∃ A'', (∃ Ao, (∀ k, A'' k ↔ Ao k ∨ k = Y ∨ k = Y + 1) ∧ Y + 1 < w3.heap.size ∧ ∃ pre', pre' <+: nds h L ∧ Jx pre' Ao w3) ∧ Move A' W' A'' w3 from ⟨_, ⟨A3, fun _ => Iff.rfl, hlt3, _, HPX.out, hJ3⟩, hmv⟩)
        clear hJ3 hm3 hmv hlt3 e1 e2 hy
        gi_wp2
        obtain ⟨A'', ⟨Ao, q1, q2, q3⟩, q4⟩ := HFIN.out
        exact ⟨A'', ⟨Ao, q1, rfl, q2, q3⟩, q4⟩
  case done =>
    rintro D A' W' ⟨Ao, h1, h2, h3, h4, h5, h6⟩ hAD hD hle
    have hND : ¬ Ao D := fun ha => hAD ((h1 D).2 (.inl ha))
    have HJF := Lib.hid (HJ.out _ _ _ _ h2 ((put_tr W' D (.deferred none)).mono fun k hk => ⟨fun ha => hND (hk ▸ ha), by omega⟩))
    have HD := Lib.hid hD
    clear h1 h2 h3 h4 h5 h6 hAD hD hND
    gi_wp2
    refine ⟨by simp, .inl ⟨_, _, rfl, run_takeDeferred HD.out, ?_⟩⟩
    exact ⟨_, results_none rfl _ _ _, ⟨_, rfl⟩, .inl ⟨_, HJF.out⟩⟩
  case stop =>
    rintro D c pre A' W' hpre ⟨Ao, h1, rfl, h2, pre', h3, h4⟩ hAD hD hle
    have hND : ¬ Ao D := fun ha => hAD ((h1 D).2 (.inl ha))
    have HJF := Lib.hid (HJX.out _ _ _ _ h4 ((put_tr W' D (.deferred none)).mono fun k hk => ⟨fun ha => hND (hk ▸ ha), by omega⟩))
    have HD := Lib.hid hD
    clear h1 h2 h4 hAD hD hND
    gi_wp2
    refine ⟨by simp, .inl ⟨_, _, rfl, run_takeDeferred HD.out, ?_⟩⟩
    exact ⟨_, results_none rfl _ _ _, ⟨_, rfl⟩, .inr ⟨_, _, h3, HJF.out⟩⟩
end Go.Proofs.YtomghpielgkigaaDoor

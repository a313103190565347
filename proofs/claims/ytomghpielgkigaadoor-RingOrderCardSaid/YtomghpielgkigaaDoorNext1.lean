/-
  The nodes that a text belongs to, one after the other; at most so many.
-/
import Derived.Test.YtomghpielgkigaaDoorOwner
namespace Go.Proofs.YtomghpielgkigaaDoor
open Go.RowKit Go.Shelf
attribute [local go_sem] Oper.semAt_some
theorem wpIn_app {α : Type} (E : El α) {F : Fence} {n : Nat} {ops : Array Oper} {rest : List Oper} {o : Oper} {a : Act} {w : World} {Q : Exit → Act → World → Prop} (hgd : o.guard = .none) (s x : Operand)
    (ho : o.op = .call { callee := .builtin .append, args := #[s, x], argTypes := #[E.t, E.t] }) (base : Nat) (v : Value) (L M : List α) (hs : a.eval s = v) (hown : OwnX E w base v L)
    (u : Value) (hx : a.eval x = u) (hr : RdX E w u M) (hn : L.length + M.length ≤ 1000000) (hbase : base ≤ w.heap.size)
    (h : ∀ v' w', OwnX E w' base v' (L ++ M) → w.grownBy w' v.ownBlock → (v'.ownBlock = v.ownBlock ∨ v'.ownBlock = some w.heap.size) → wpListIn F n Tryd.prog ops Q rest (a.put o.dst v') w') : wpListIn F n Tryd.prog ops Q (o :: rest) a w := by
  refine wpListIn_plain hgd fun K hK => ?_
  obtain ⟨v', w', hrun, h2, h3, h4⟩ := run_app E o.type base v L M hown u hr hn hbase
  unfold Oper.wpIn
  refine ⟨?_, ?_⟩
  · simp [Oper.about, ho, resolve, Target.leads, Sem.run_pure]
  · rw [Oper.semAt_plain F _ _ (by rw [ho]; intro c hc'; cases hc')]
    simp [execOp, ho, resolve, invoke, builtin, hs, hx, hrun, Result.andThen]
    exact hK _ _ (h v' w' h2 h3 h4)
def vls (l : List (Fin 64)) : List Int := l.map fun x => (x.val : Int)
theorem vls_snoc (l : List (Fin 64)) (x : Fin 64) : vls (l ++ [x]) = vls l ++ [(x.val : Int)] := by simp [vls]
theorem vls_len (l : List (Fin 64)) : (vls l).length = l.length := by simp [vls]
theorem nds_len (h : Int) (L : List Pt) : (nds h L).length ≤ L.length := by
  unfold nds rot
  exact Nat.le_trans (dd_len _) (by rw [List.length_map, ro_length]; exact Nat.le_refl _)
/-- What Next has put behind. -/
structure Nx (Y : Nat) (w w4 : World) (most : Int) (pre : List (Fin 64)) (A : Nat → Prop) (W : World) (v : Value) : Prop where
  foot : ∀ k, A k ↔ k = Y + 1 ∨ v.ownBlock = some k
  lim : Ce W Y 3 #[it most]
  box : Ce W (Y + 1) 22 #[v]
  own : OwnX elI W (Y + 1) v (vls pre)
  bel : Below w.heap.size w W
  size : w4.heap.size ≤ W.heap.size
  le : pre = [] ∨ (pre.length : Int) ≤ most
theorem Nx.fr {Y : Nat} {w w4 : World} {most : Int} {pre : List (Fin 64)} {A : Nat → Prop} {W C : World} {v : Value} (h : Nx Y w w4 most pre A W v) (hY : Y = w.heap.size) (h4 : Y + 2 ≤ w4.heap.size) (ht : Tr (fun k => ¬ A k ∧ w4.heap.size ≤ k) W C) : Nx Y w w4 most pre A C v := by
  have hs := h.size
  refine ⟨h.foot, h.lim.tr ht (by omega), h.box.tr ht (by omega), h.own.tr ht fun g cs _ hv hS => hS.1 ((h.foot g).2 (.inr hv)), h.bel.trans (ht.below (by omega) fun k hk => by omega), Nat.le_trans hs ht.size, h.le⟩
theorem Nx.lo {Y : Nat} {w w4 : World} {most : Int} {pre : List (Fin 64)} {A : Nat → Prop} {W : World} {v : Value} (h : Nx Y w w4 most pre A W v) : ∀ k, A k → k < W.heap.size := by
  intro k hk
  rcases (h.foot k).1 hk with rfl | hk
  · exact h.box.lt
  · exact (h.own.block k hk).2
/-- Stopped, as there were enough. -/
def NxS (Y : Nat) (w w4 : World) (most : Int) (c : Code) (pre : List (Fin 64)) (A : Nat → Prop) (W : World) : Prop :=
  c = .exit 0 ∧ ∃ pre0 x v, pre = pre0 ++ [x] ∧ most ≤ (pre0.length : Int) ∧ Nx Y w w4 most pre0 A W v
def NxI (Y : Nat) (w w4 : World) (most : Int) (pre : List (Fin 64)) (A : Nat → Prop) (W : World) : Prop := ∃ v, Nx Y w w4 most pre A W v
theorem rd_oneW {w : World} {b : Nat} {n : Int} (h : Ce w b 3 #[it n]) : RdX elI w (.slice (some ⟨b, 0, none⟩) 1 1) [n] := by
  refine ⟨_, 1, rfl, Nat.le_refl _, by decide, .inr ⟨b, 0, rfl, fun j u hu => ?_⟩⟩
  rw [h.cell (0 + j)]
  cases j with
  | zero => exact hu
  | succ j => simp [El.fl, elI] at hu
set_option maxRecDepth 100000 in
set_option maxHeartbeats 3200000 in
theorem next_any {w : World} {v : Value} {L : List Pt} (hT : Tab w) (h : RingAt Z0 w v L) (hS : Srt L) (hL : L.length ≤ 1024) (s : ByteArray) (hs : s.size ≤ 140737488355328) (most : Int) :
    Calls Tryd.prog 13 #[v, .string s, it most] w fun e w' => ∃ v', e = .returned v' ∧ OwnX elI w' w.heap.size v' (vls ((nds (pk s) L).take most.toNat)) ∧ Below w.heap.size w w' := by
  refine (callsIn_wide (n := 9)).1 ?_
  have HT := Lib.hid hT
  have HR := Lib.hid h
  have HS := Lib.hid hS
  have HL := Lib.hid hL
  obtain ⟨p0, rfl⟩ := h.ptr
  clear hT h hS hL
  refine callsIn_of_wp_marks Tryd.func13 rfl trivial ?_ rfl
  simp only [Tryd.ntmps13, List.size_toArray, List.length_cons, List.length_nil, Nat.reduceAdd, Nat.reduceSub, Array.replicate_succ, Array.replicate_zero, List.push_toArray, List.append_toArray, List.nil_append, List.cons_append]
  gi_wp2_with fail
  obtain ⟨k1, k2, ks, kb⟩ := two_new w #[it most] #[.slice none 0 0] 3 22
  generalize hw1 : (w.alloc (.cells #[it most] 3)).alloc (.cells #[.slice none 0 0] 22) = w1 at *
  have hb2 := one_new w1 (.cells #[.string s] 9)
  have hc2 := Ce.new w1 9 #[.string s]
  have e1 : w1.heap.size = w.heap.size + 1 + 1 := ks
  rw [e1] at hc2
  have e2 := alloc_size w1 (.cells #[.string s] 9)
  generalize w1.alloc _ = w2 at *
  refine ⟨trivial, (callsIn_wide.2 (pt_any (HT.out.below (kb.trans (hb2.mono (by omega)))) hc2 hs)).mono ?_⟩
  rintro e w3 ⟨rfl, hb3⟩
  have hsz2 := hb2.size
  have hsz3 := hb3.size
  gi_wp2_with fail
  refine ⟨trivial, (callsIn_wide.2 (nodesFrom_any w3 p0 (pk s))).mono ?_⟩
  rintro e w4 ⟨B1, B2, rfl, g1, g2, x1, x2, hb4⟩
  have hsz4 := hb4.size
  gi_wp2_with fail
  obtain ⟨Y, hY⟩ : ∃ Y, Y = w.heap.size := ⟨_, rfl⟩
  have hbw : Below w.heap.size w w4 := ((kb.trans (hb2.mono (by omega))).trans (hb3.mono (by omega))).trans (hb4.mono (by omega))
  have k1' := ((k1.below hb2).below hb3).below hb4
  have k2' := ((k2.below hb2).below hb3).below hb4
  rw [← hY] at k1' k2' ks e1
  have K1 := Lib.hid k1'
  have K2 := Lib.hid k2'
  have HBW := Lib.hid hbw
  have X1 := Lib.hid x1
  have X2 := Lib.hid x2
  have HYY := Lib.hid hY
  have hw4 : Y + 3 ≤ w4.heap.size := by omega
  have hB1 : Y + 3 ≤ B1 := by omega
  have hB2 : Y + 3 ≤ B2 := by omega
  have HR4 := Lib.hid (HR.out.below hbw (Z' := fun k => k = Y + 1) (fun k hk _ => by omega))
  clear hY k1 k2 ks kb hb2 hb3 hb4 k1' k2' hbw x1 x2 g1 g2 hsz2 hsz3 hsz4 hc2 e1 e2 hw1
  refine range_gives (by omega) (gf := 33) (cb := #[ptr B1, ptr B2]) rfl (enters_of Tryd.func33 (by kernel_rfl) rfl) rfl
    (nodes_gives 8 (by omega) (fun k => k = Y + 1) w4 B1 B2 (.pointer p0) (pk s) L X1.out X2.out (by omega) (by omega) HR4.out HS.out HL.out)
    (NxI Y w w4 most) (NxS Y w w4 most)
    (fun pre A W C ⟨v, h⟩ ht => ⟨v, h.fr HYY.out (by omega) ht⟩) (fun c pre A W C ⟨hc, pre0, x, v, h1, h2, h3⟩ ht => ⟨hc, pre0, x, v, h1, h2, h3.fr HYY.out (by omega) ht⟩)
    (fun pre A W ⟨v, h⟩ => h.lo) (fun c pre A W ⟨hc, pre0, x, v, h1, h2, h3⟩ => h3.lo)
    (fun k => k = Y + 1) ⟨.slice none 0 0, fun k => ⟨.inl, fun h => h.elim id fun h => by cases h⟩, K1.out, K2.out, OwnX.nil _ _, HBW.out, Nat.le_refl _, .inl rfl⟩ (Nat.le_refl _) (fun k _ hz => ⟨hz, rfl⟩)
    (fun x a' m W' => a' = { tmps := #[.pointer p0, .string s, it most, undef, undef, ptr Y, .slice none 0 0, ptr (Y + 1), encN x, .pointer p0, .string s, .slice (some ⟨Y + 1 + 1, 0, none⟩) 1 1, .int .u64 (pk s), .func (.func 33) #[] #[ptr B1, ptr B2], encN x, undef, undef, undef, undef, undef, undef, undef, undef, undef], defers := [] })
    (fun x a' m W' C h ht => h) ?assign ?body ?done ?stop
  case assign =>
    intro l' x W' K' hK'
    gi_wp2
    exact hK' _ _ (Below.refl _ _) (by rw [HYY.out])
  case body =>
    rintro l' pre x A m a' W hpre ⟨v, hN⟩ hlt hm rfl
    obtain ⟨a, cap, rfl, hcap, hcm⟩ := hN.own.shape
    have hplen : pre.length + 1 ≤ 1024 := by
      have h1 := hpre.length_le
      have h2 := nds_len (pk s) L
      have h3 := HL.out
      rw [List.length_append, List.length_singleton] at h1
      omega
    have HN := Lib.hid hN
    have HPRE := Lib.hid hpre
    have c1 := hN.lim.cell 0
    have c2 := hN.box.cell 0
    have f2 := hN.box.frozen 0
    simp at c1 c2
    rw [vls_len] at c2 HN hcap
    obtain ⟨k, hk⟩ : ∃ k, k = pre.length := ⟨_, rfl⟩
    have HK := Lib.hid hk
    rw [← hk] at c2 HN hcap hplen
    clear hN hpre hk
    by_cases hmo : most ≤ (k : Int)
    · have HMO := Lib.hid (show most ≤ (pre.length : Int) by rw [← HK.out]; exact hmo)
      gi_wp2
      exact ⟨A, ⟨rfl, pre, x, _, rfl, HMO.out, HN.out⟩, Move.refl _ _⟩
    · have hb5 := one_new W (.cells #[encN x] 3)
      have hc5 := Ce.new W 3 #[encN x]
      have hle : Y + 1 ≤ W.heap.size := by have := HN.out.size; omega
      have HC5 := Lib.hid hc5
      have HB5 := Lib.hid hb5
      have HO5 := Lib.hid (HN.out.own.below hb5)
      have hl5 : (vls pre).length + [(x.val : Int)].length ≤ 1000000 := by rw [vls_len, List.length_singleton, ← HK.out]; omega
      have HL5 := Lib.hid hl5
      have HLE5 := Lib.hid (Nat.le_trans hle hb5.size)
      have c25 : (W.alloc (.cells #[encN x] 3)).cell? ⟨Y + 1, 0, none⟩ = some (.slice a k cap) := (HN.out.box.below hb5).cell 0
      have t1 : decide (most ≤ (k : Int)) = false := decide_eq_false hmo
      clear hb5 hc5 hl5 hle
      gi_wp2_with (gi_at_builtin; refine wpIn_app elI rfl (.tmp 19) (.tmp 21) rfl (Y + 1) _ (vls pre) [(x.val : Int)] rfl HO5.out _ rfl (rd_oneW HC5.out) HL5.out HLE5.out ?_)
      intro v5 w5 ho hg hv
      have hbx := HN.out.box.below HB5.out
      have hne : (Value.slice a k cap).ownBlock ≠ some (Y + 1) := HN.out.own.ne HN.out.box (by decide)
      have t5 : Tr (fun j => (Value.slice a k cap).ownBlock = some j) (W.alloc (.cells #[encN x] 3)) w5 := ⟨hg.os, hg.tape, hg.output, hg.size, fun j hj hS => hg.block j hj (fun e => hS e.symm)⟩
      have hb6 := hbx.tr t5 hne
      have hnY : (Value.slice a k cap).ownBlock ≠ some Y := fun e => by have := (HN.out.own.block Y e).1; omega
      have hl6 := (HN.out.lim.below HB5.out).tr t5 hnY
      obtain ⟨a5, cap5, rfl, _, _⟩ := ho.shape
      have c6 := hb6.cell 0
      have f6 := hb6.frozen 0
      simp at c6
      have hbel : Below w.heap.size w w5 := HN.out.bel.trans ((HB5.out.mono HN.out.bel.size).trans (t5.below (by have := HN.out.bel.size; have := HB5.out.size; omega) fun j hj => by have := (HN.out.own.block j hj).1; have := HYY.out; omega))
      have hs5 : W.heap.size ≤ w5.heap.size := Nat.le_trans HB5.out.size t5.size
      have tA : Tr A W w5 := (Tr.of_below HB5.out).trans t5 fun j hj => .inl ((HN.out.foot j).2 (.inr hj))
      have hlen5 : (vls pre ++ [(x.val : Int)]).length = k + 1 := by rw [List.length_append, vls_len, ← HK.out]; rfl
      rw [hlen5] at ho hv ⊢
      have fin : NxI Y w w4 most (pre ++ [x]) (fun j => j = Y + 1 ∨ (Value.slice a5 (k + 1) cap5).ownBlock = some j) (w5.setCell ⟨Y + 1, 0, none⟩ (.slice a5 (k + 1) cap5)) := by
        refine ⟨_, fun j => Iff.rfl, hl6.other (by omega) _, hb6.set (i := 0) (.slice a5 (k + 1) cap5), ?_, ?_, ?_, .inr ?_⟩
        · rw [vls_snoc]; exact ho.setT hb6 (by decide) _
        · exact hbel.trans (((Tr.refl (· = Y + 1) w5).setCell (b := Y + 1) (i := 0) (.inl rfl) _).below (by have := hbel.size; omega) fun j hj => by have := HYY.out; omega)
        · have := HN.out.size; have h9 := ((Tr.refl (· = Y + 1) w5).setCell (b := Y + 1) (i := 0) (.inl rfl) (.slice a5 (k + 1) cap5)).size; omega
        · rw [List.length_append, List.length_singleton, ← HK.out]; omega
      have mv : Move A W (fun j => j = Y + 1 ∨ (Value.slice a5 (k + 1) cap5).ownBlock = some j) (w5.setCell ⟨Y + 1, 0, none⟩ (.slice a5 (k + 1) cap5)) := by
        refine ⟨tA.setCell (b := Y + 1) (.inl ((HN.out.foot _).2 (.inl rfl))) _, fun j hj => ?_⟩
        rcases hj with rfl | hj
        · exact .inl ((HN.out.foot _).2 (.inl rfl))
        · rw [hj] at hv
          rcases hv with hv | hv
          · exact .inl ((HN.out.foot j).2 (.inr hv.symm))
          · have := alloc_size W (.cells #[encN x] 3)
            injection hv with hv
            exact .inr (by omega)
      have FIN := Lib.hid fin
      have MV := Lib.hid mv
      clear ho hg hv hbx hne t5 hb6 hnY hl6 hbel hs5 tA hlen5 fin mv t1 c25 c1 c2 f2
      gi_wp2
      exact ⟨_, FIN.out, MV.out⟩
  case done =>
    rintro D A W ⟨v, hN⟩ hAD hD hle
    obtain ⟨a, cap, rfl, hcap, hcm⟩ := hN.own.shape
    have e0 := HYY.out
    subst e0
    have HD := Lib.hid hD
    have HN := Lib.hid hN
    have c2 := hN.box.cell 0
    simp at c2
    have hfin : vls ((nds (pk s) L).take most.toNat) = vls (nds (pk s) L) := by
      rw [List.take_of_length_le]
      rcases hN.le with h | h
      · rw [h]; exact Nat.zero_le _
      · omega
    have HFIN := Lib.hid hfin
    obtain ⟨k, hk⟩ : ∃ k, k = (vls (nds (pk s) L)).length := ⟨_, rfl⟩
    rw [← hk] at HN c2
    clear hN hD hAD hfin hk hcap
    gi_wp2
    have tE := put_tr W D (.deferred none)
    refine ⟨by simp, .inl ⟨_, _, rfl, run_takeDeferred HD.out, ?_⟩⟩
    refine ⟨_, results_tmp rfl _ _ _, _, rfl, ?_, HN.out.bel.trans (tE.below (by have := HN.out.bel.size; omega) fun k hk => by omega)⟩
    rw [HFIN.out]
    refine (HN.out.own.weak (Nat.le_succ _)).tr tE fun g cs hg _ hS => ?_
    subst hS
    have h8 := HD.out.symm.trans hg
    cases h8
  case stop =>
    rintro D c pre A W hpre ⟨rfl, pre0, x, v, rfl, hmo, hN⟩ hAD hD hle
    obtain ⟨a, cap, rfl, hcap, hcm⟩ := hN.own.shape
    have e0 := HYY.out
    subst e0
    have HD := Lib.hid hD
    have HN := Lib.hid hN
    have c2 := hN.box.cell 0
    simp at c2
    have hfin : (nds (pk s) L).take most.toNat = pre0 := by
      obtain ⟨t, ht⟩ := hpre
      have hl : most.toNat = pre0.length := by
        rcases hN.le with h | h
        · rw [h] at hmo ⊢
          simp at hmo ⊢
          omega
        · omega
      rw [hl, ← ht, List.append_assoc, List.take_left]
    have HFIN := Lib.hid hfin
    obtain ⟨k, hk⟩ : ∃ k, k = (vls pre0).length := ⟨_, rfl⟩
    rw [← hk] at HN c2
    clear hN hD hAD hfin hk hcap hpre hmo
    gi_wp2
    have tE := put_tr W D (.deferred none)
    refine ⟨by simp, .inl ⟨_, _, rfl, run_takeDeferred HD.out, ?_⟩⟩
    refine ⟨_, results_tmp rfl _ _ _, _, rfl, ?_, HN.out.bel.trans (tE.below (by have := HN.out.bel.size; omega) fun k hk => by omega)⟩
    rw [HFIN.out]
    refine (HN.out.own.weak (Nat.le_succ _)).tr tE fun g cs hg _ hS => ?_
    subst hS
    have h8 := HD.out.symm.trans hg
    cases h8
end Go.Proofs.YtomghpielgkigaaDoor

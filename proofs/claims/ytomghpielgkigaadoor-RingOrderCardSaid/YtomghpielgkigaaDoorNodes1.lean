/-
  The nodes of a ring, rising: collected and sorted.
-/
import Derived.Test.YtomghpielgkigaaDoorNext1
import Derived.Sort.OwnSortedInts
namespace Go.Proofs.YtomghpielgkigaaDoor
open Go.RowKit Go.Shelf
attribute [local go_sem] Oper.semAt_some
/-- What has been collected. -/
structure Ap (Y : Nat) (w w4 : World) (pre : List (Fin 64)) (A : Nat → Prop) (W : World) (v : Value) : Prop where
  foot : ∀ k, A k ↔ k = Y ∨ v.ownBlock = some k
  box : Ce W Y 22 #[v]
  own : OwnX elI W (Y + 1) v (vls pre)
  bel : Below w.heap.size w W
  size : w4.heap.size ≤ W.heap.size
theorem Ap.fr {Y : Nat} {w w4 : World} {pre : List (Fin 64)} {A : Nat → Prop} {W C : World} {v : Value} (h : Ap Y w w4 pre A W v) (hY : Y = w.heap.size) (h4 : Y + 1 ≤ w4.heap.size) (ht : Tr (fun k => ¬ A k ∧ w4.heap.size ≤ k) W C) : Ap Y w w4 pre A C v := by
  have hs := h.size
  refine ⟨h.foot, h.box.tr ht (by omega), h.own.tr ht fun g cs _ hv hS => hS.1 ((h.foot g).2 (.inr hv)), h.bel.trans (ht.below (by omega) fun k hk => by omega), Nat.le_trans hs ht.size⟩
theorem Ap.lo {Y : Nat} {w w4 : World} {pre : List (Fin 64)} {A : Nat → Prop} {W : World} {v : Value} (h : Ap Y w w4 pre A W v) : ∀ k, A k → k < W.heap.size := by
  intro k hk
  rcases (h.foot k).1 hk with rfl | hk
  · exact h.box.lt
  · exact (h.own.block k hk).2
def ApI (Y : Nat) (w w4 : World) (pre : List (Fin 64)) (A : Nat → Prop) (W : World) : Prop := ∃ v, Ap Y w w4 pre A W v
set_option maxRecDepth 100000 in
set_option maxHeartbeats 3200000 in
theorem appendSeq_any {w : World} {v : Value} {L : List Pt} (h : Int) (B1 B2 : Nat) (x1 : Boxed w B1 26 v) (x2 : Boxed w B2 42 (.int .u64 h)) (hR : RingAt Z0 w v L) (hS : Srt L) (hL : L.length ≤ 1024) :
    Calls Tryd.prog 47 #[.slice none 0 0, .func (.func 33) #[] #[ptr B1, ptr B2]] w fun e w' => ∃ v', e = .returned v' ∧ OwnX elI w' w.heap.size v' (vls (nds h L)) ∧ Below w.heap.size w w' := by
  refine (callsIn_wide (n := 9)).1 ?_
  have HR := Lib.hid hR
  have HS := Lib.hid hS
  have HL := Lib.hid hL
  have l1 := x1.lt
  have l2 := x2.lt
  have X1 := Lib.hid x1
  have X2 := Lib.hid x2
  clear hR hS hL x1 x2
  refine callsIn_of_wp_marks Tryd.func47 rfl trivial ?_ rfl
  simp only [Tryd.ntmps47, List.size_toArray, List.length_cons, List.length_nil, Nat.reduceAdd, Nat.reduceSub, Array.replicate_succ, Array.replicate_zero, List.push_toArray, List.append_toArray, List.nil_append, List.cons_append]
  gi_wp2_with fail
  have hb := one_new w (.cells #[.slice none 0 0] 22)
  have hc := Ce.new w 22 #[.slice none 0 0]
  have es := alloc_size w (.cells #[.slice none 0 0] 22)
  generalize w.alloc _ = w4 at *
  obtain ⟨Y, hY⟩ : ∃ Y, Y = w.heap.size := ⟨_, rfl⟩
  rw [← hY] at hc es l1 l2
  have K2 := Lib.hid hc
  have HBW := Lib.hid hb
  have X1' := Lib.hid ((hb.block _ X1.out.lt).trans X1.out)
  have X2' := Lib.hid ((hb.block _ X2.out.lt).trans X2.out)
  have HYY := Lib.hid hY
  have hw4 : Y + 1 ≤ w4.heap.size := by omega
  have HR4 := Lib.hid (HR.out.below hb (Z' := fun k => k = Y) (fun k hk _ => by omega))
  clear hY hb hc es X1 X2
  refine range_gives (by omega) (gf := 33) (cb := #[ptr B1, ptr B2]) rfl (enters_of Tryd.func33 (by kernel_rfl) rfl) rfl
    (nodes_gives 8 (by omega) (fun k => k = Y) w4 B1 B2 v h L X1'.out X2'.out (by omega) (by omega) HR4.out HS.out HL.out)
    (ApI Y w w4) (fun _ _ _ _ => False)
    (fun pre A W C ⟨v, h⟩ ht => ⟨v, h.fr HYY.out (by omega) ht⟩) (fun c pre A W C h ht => h)
    (fun pre A W ⟨v, h⟩ => h.lo) (fun c pre A W h => h.elim)
    (fun k => k = Y) ⟨.slice none 0 0, fun k => ⟨.inl, fun h => h.elim id fun h => by cases h⟩, K2.out, OwnX.nil _ _, HBW.out, Nat.le_refl _⟩ (Nat.le_refl _) (fun k _ hz => ⟨hz, rfl⟩)
    (fun x a' m W' => a' = { tmps := #[.slice none 0 0, .func (.func 33) #[] #[ptr B1, ptr B2], ptr Y, undef, .slice none 0 0, encN x, .func (.func 33) #[] #[ptr B1, ptr B2], encN x, undef, undef, undef, undef, undef], defers := [] })
    (fun x a' m W' C h ht => h) ?assign ?body ?done ?stop
  case assign =>
    intro l' x W' K' hK'
    gi_wp2
    exact hK' _ _ (Below.refl _ _) (by rw [HYY.out])
  case body =>
    rintro l' pre x A m a' W hpre ⟨v', hN⟩ hlt hm rfl
    obtain ⟨a, cap, rfl, hcap, hcm⟩ := hN.own.shape
    have hplen : pre.length + 1 ≤ 1024 := by
      have h1 := hpre.length_le
      have h2 := nds_len h L
      have h3 := HL.out
      rw [List.length_append, List.length_singleton] at h1
      omega
    have HN := Lib.hid hN
    have c2 := hN.box.cell 0
    have f2 := hN.box.frozen 0
    simp at c2
    rw [vls_len] at c2 HN hcap
    obtain ⟨k, hk⟩ : ∃ k, k = pre.length := ⟨_, rfl⟩
    have HK := Lib.hid hk
    rw [← hk] at c2 HN hcap hplen
    clear hN hpre hk
    have hb5 := one_new W (.cells #[encN x] 3)
    have hc5 := Ce.new W 3 #[encN x]
    have hle : Y + 1 ≤ W.heap.size := by have := HN.out.size; omega
    have HC5 := Lib.hid hc5
    have HB5 := Lib.hid hb5
    have HO5 := Lib.hid (HN.out.own.below hb5)
    have hl5 : (vls pre).length + [(x.val : Int)].length ≤ 1000000 := by rw [vls_len, List.length_singleton, ← HK.out]; omega
    have HL5 := Lib.hid hl5
    have HLE5 := Lib.hid (Nat.le_trans hle hb5.size)
    have c25 : (W.alloc (.cells #[encN x] 3)).cell? ⟨Y, 0, none⟩ = some (.slice a k cap) := (HN.out.box.below hb5).cell 0
    clear hb5 hc5 hl5 hle
    gi_wp2_with (gi_at_builtin; refine wpIn_app elI rfl (.tmp 8) (.tmp 10) rfl (Y + 1) _ (vls pre) [(x.val : Int)] rfl HO5.out _ rfl (rd_oneW HC5.out) HL5.out HLE5.out ?_)
    intro v5 w5 ho hg hv
    have hbx := HN.out.box.below HB5.out
    have hne : (Value.slice a k cap).ownBlock ≠ some Y := HN.out.own.ne HN.out.box (by decide)
    have t5 : Tr (fun j => (Value.slice a k cap).ownBlock = some j) (W.alloc (.cells #[encN x] 3)) w5 := ⟨hg.os, hg.tape, hg.output, hg.size, fun j hj hS => hg.block j hj (fun e => hS e.symm)⟩
    have hb6 := hbx.tr t5 hne
    obtain ⟨a5, cap5, rfl, _, _⟩ := ho.shape
    have c6 := hb6.cell 0
    have f6 := hb6.frozen 0
    simp at c6
    have hbel : Below w.heap.size w w5 := HN.out.bel.trans ((HB5.out.mono HN.out.bel.size).trans (t5.below (by have := HN.out.bel.size; have := HB5.out.size; omega) fun j hj => by have := (HN.out.own.block j hj).1; have := HYY.out; omega))
    have hs5 : W.heap.size ≤ w5.heap.size := Nat.le_trans HB5.out.size t5.size
    have tA : Tr A W w5 := (Tr.of_below HB5.out).trans t5 fun j hj => .inl ((HN.out.foot j).2 (.inr hj))
    have hlen5 : (vls pre ++ [(x.val : Int)]).length = k + 1 := by rw [List.length_append, vls_len, ← HK.out]; rfl
    rw [hlen5] at ho hv ⊢
    have fin : ApI Y w w4 (pre ++ [x]) (fun j => j = Y ∨ (Value.slice a5 (k + 1) cap5).ownBlock = some j) (w5.setCell ⟨Y, 0, none⟩ (.slice a5 (k + 1) cap5)) := by
      refine ⟨_, fun j => Iff.rfl, hb6.set (i := 0) (.slice a5 (k + 1) cap5), ?_, ?_, ?_⟩
      · rw [vls_snoc]; exact ho.setT hb6 (by decide) _
      · exact hbel.trans (((Tr.refl (· = Y) w5).setCell (b := Y) (i := 0) (.inl rfl) _).below (by have := hbel.size; omega) fun j hj => by have := HYY.out; omega)
      · have := HN.out.size; have h9 := ((Tr.refl (· = Y) w5).setCell (b := Y) (i := 0) (.inl rfl) (.slice a5 (k + 1) cap5)).size; omega
    have mv : Move A W (fun j => j = Y ∨ (Value.slice a5 (k + 1) cap5).ownBlock = some j) (w5.setCell ⟨Y, 0, none⟩ (.slice a5 (k + 1) cap5)) := by
      refine ⟨tA.setCell (b := Y) (.inl ((HN.out.foot _).2 (.inl rfl))) _, fun j hj => ?_⟩
      rcases hj with rfl | hj
      · exact .inl ((HN.out.foot _).2 (.inl rfl))
      · rw [hj] at hv
        rcases hv with hv | hv
        · exact .inl ((HN.out.foot j).2 (.inr hv.symm))
        · have := alloc_size W (.cells #[encN x] 3)
          injection hv with hv
          exact .inr (by omega)
    have FIN := Lib.hid fin
    have MV := Lib.hid mv
    clear ho hg hv hbx hne t5 hb6 hbel hs5 tA hlen5 fin mv c25 c2 f2
    gi_wp2
    exact ⟨_, FIN.out, MV.out⟩
  case done =>
    rintro D A W ⟨v', hN⟩ hAD hD hle
    obtain ⟨a, cap, rfl, hcap, hcm⟩ := hN.own.shape
    have e0 := HYY.out
    subst e0
    have HD := Lib.hid hD
    have HN := Lib.hid hN
    have c2 := hN.box.cell 0
    simp at c2
    obtain ⟨k, hk⟩ : ∃ k, k = (vls (nds h L)).length := ⟨_, rfl⟩
    rw [← hk] at HN c2
    clear hN hD hAD hk hcap
    gi_wp2
    have tE := put_tr W D (.deferred none)
    refine ⟨by simp, .inl ⟨_, _, rfl, run_takeDeferred HD.out, ?_⟩⟩
    refine ⟨_, results_tmp rfl _ _ _, _, rfl, ?_, HN.out.bel.trans (tE.below (by have := HN.out.bel.size; omega) fun k hk => by omega)⟩
    refine (HN.out.own.weak (Nat.le_succ _)).tr tE fun g cs hg _ hS => ?_
    subst hS
    have h8 := HD.out.symm.trans hg
    cases h8
  case stop =>
    rintro D c pre A W hpre hf
    exact hf.elim
set_option maxRecDepth 100000 in
set_option maxHeartbeats 1600000 in
theorem collect_any {w : World} {v : Value} {L : List Pt} (h : Int) (B1 B2 : Nat) (x1 : Boxed w B1 26 v) (x2 : Boxed w B2 42 (.int .u64 h)) (hR : RingAt Z0 w v L) (hS : Srt L) (hL : L.length ≤ 1024) :
    Calls Tryd.prog 36 #[.func (.func 33) #[] #[ptr B1, ptr B2]] w fun e w' => ∃ v', e = .returned v' ∧ OwnX elI w' w.heap.size v' (vls (nds h L)) ∧ Below w.heap.size w w' := by
  have H := Lib.hid (appendSeq_any h B1 B2 x1 x2 hR hS hL)
  clear x1 x2 hR hS hL
  go_enter Tryd.func36, Tryd.ntmps36
  go_wp2_with fail
  refine H.out.mono ?_
  rintro e w2 ⟨v', rfl, ho, hb⟩
  obtain ⟨a, cap, rfl, _, _⟩ := ho.shape
  have HO := Lib.hid ho
  have HB := Lib.hid hb
  generalize (vls (nds h L)).length = n at *
  clear ho hb
  go_wp2
  go_ret
  exact ⟨_, rfl, HO.out, HB.out⟩
def srtI (l : List Int) : List Int := l.mergeSort fun x y => decide (x ≤ y)
/-- slices.Sort over numbers of one's own. -/
theorem sort_any {w : World} {base : Nat} {a : Option Addr} {n cap : Nat} {l : List Int} (h : OwnX elI w base (.slice a n cap) l) (hl : l.length ≤ 1000000) :
    Calls Tryd.prog 37 #[.slice a n cap] w fun e w' => e = .returned (.tuple #[]) ∧ OwnX elI w' base (.slice a n cap) (srtI l) ∧ w.grownBy w' (Value.slice a n cap).ownBlock := by
  have hn := h.rd.len
  subst hn
  by_cases h0 : l = []
  · subst h0
    refine (Any.slices_Sort_int_none Tryd.laySort a cap w).mono fun e w' he => ?_
    obtain ⟨he, hw⟩ := he
    subst hw
    refine ⟨he, ?_, ⟨rfl, rfl, rfl, Nat.le_refl _, fun _ _ _ => rfl⟩⟩
    rw [show srtI [] = [] from List.mergeSort_nil]
    exact h
  · rcases h.2 with ⟨e, _⟩ | ⟨g, cap', cur, e, hb, hg, h1, h2, h3, h4⟩
    · injection e with _ e2
      exact absurd (List.length_eq_zero_iff.1 e2) h0
    · cases e
      have hf : ∀ l : List Int, elI.fl l = l.map (Value.int .i64) := fun l => by
        induction l with
        | nil => rfl
        | cons x r ih => rw [El.fl_cons, ih]; rfl
      have h4' : cur.toList.take l.length = l.map (Value.int .i64) := by
        rw [← hf, ← h4, show elI.k = 1 from rfl, Nat.mul_one]
      have hH := holds_of_blockI hg h4'
      refine (Any.slices_Sort_int Tryd.laySort g 0 cap l w hH (Array.getElem?_eq_some_iff.1 hg).1 (by omega)).mono fun e w' he => ?_
      obtain ⟨he, q, os, hw⟩ := he
      have hlen : (srtI l).length = l.length := List.length_mergeSort _
      refine ⟨he, ?_, by rw [hw]; exact grownBy_sortedI _⟩
      rw [hw]
      unfold OwnX
      rw [hf, hlen]
      exact ownsRow_sortedI hlen hb hg h1 h2 (by rw [h3]; rfl)
set_option maxRecDepth 100000 in
set_option maxHeartbeats 1600000 in
theorem sorted_any {w : World} {v : Value} {L : List Pt} (h : Int) (B1 B2 : Nat) (x1 : Boxed w B1 26 v) (x2 : Boxed w B2 42 (.int .u64 h)) (hR : RingAt Z0 w v L) (hS : Srt L) (hL : L.length ≤ 1024) :
    Calls Tryd.prog 25 #[.func (.func 33) #[] #[ptr B1, ptr B2]] w fun e w' => ∃ v', e = .returned v' ∧ OwnX elI w' w.heap.size v' (srtI (vls (nds h L))) ∧ Below w.heap.size w w' := by
  have H := Lib.hid (collect_any h B1 B2 x1 x2 hR hS hL)
  have hl : (vls (nds h L)).length ≤ 1000000 := by rw [vls_len]; have := nds_len h L; omega
  have HL := Lib.hid hl
  clear x1 x2 hR hS hL hl
  go_enter Tryd.func25, Tryd.ntmps25
  go_wp2_with fail
  refine H.out.mono ?_
  rintro e w2 ⟨v', rfl, ho, hb⟩
  obtain ⟨a, cap, rfl, _, _⟩ := ho.shape
  have HS := Lib.hid (sort_any ho HL.out)
  have HO := Lib.hid ho
  have HB := Lib.hid hb
  generalize (vls (nds h L)).length = n at *
  clear ho hb
  go_wp2_with fail
  refine HS.out.mono ?_
  rintro e w3 ⟨rfl, ho3, hg3⟩
  have HO3 := Lib.hid ho3
  have hbl : Below w.heap.size w w3 := HB.out.trans ⟨hg3.os, hg3.tape, hg3.output, hg3.size, fun k hk => hg3.block k (by have := HB.out.size; omega) fun e => by have := (HO.out.block k e.symm).1; omega⟩
  have HBL := Lib.hid hbl
  clear ho3 hg3 hbl
  go_wp2
  go_ret
  exact ⟨_, rfl, HO3.out, HBL.out⟩
/-- A ring's nodes, rising. -/
def nlist (L : List Pt) : List Int := srtI (vls (nds 0 L))
set_option maxRecDepth 100000 in
set_option maxHeartbeats 1600000 in
theorem nodes_any {w : World} {v : Value} {L : List Pt} (hR : RingAt Z0 w v L) (hS : Srt L) (hL : L.length ≤ 1024) :
    Calls Tryd.prog 14 #[v] w fun e w' => ∃ v', e = .returned v' ∧ OwnX elI w' w.heap.size v' (nlist L) ∧ Below w.heap.size w w' := by
  obtain ⟨p0, rfl⟩ := hR.ptr
  have HN := Lib.hid (nodesFrom_any w p0 0)
  have HR := Lib.hid hR
  have HS := Lib.hid hS
  have HL := Lib.hid hL
  clear hR hS hL
  go_enter Tryd.func14, Tryd.ntmps14
  go_wp2_with fail
  refine HN.out.mono ?_
  rintro e w2 ⟨B1, B2, rfl, g1, g2, x1, x2, hb⟩
  have H := Lib.hid (sorted_any 0 B1 B2 x1 x2 (HR.out.below hb (fun _ _ h => h)) HS.out HL.out)
  have HB := Lib.hid hb
  clear hb x1 x2 g1 g2
  go_wp2_with fail
  refine H.out.mono ?_
  rintro e w3 ⟨v', rfl, ho, hb3⟩
  obtain ⟨a, cap, rfl, _, _⟩ := ho.shape
  have HO := Lib.hid (ho.weak HB.out.size)
  have HB3 := Lib.hid (HB.out.trans (hb3.mono HB.out.size))
  generalize (srtI (vls (nds 0 L))).length = n at *
  clear ho hb3
  go_wp2
  go_ret
  exact ⟨_, rfl, HO.out, HB3.out⟩
end Go.Proofs.YtomghpielgkigaaDoor

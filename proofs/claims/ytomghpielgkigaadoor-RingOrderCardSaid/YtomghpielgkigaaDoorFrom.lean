/-
  The points from a place on, as the iterator gives them.
-/
import Derived.Test.YtomghpielgkigaaDoorRMath
namespace Go.Proofs.YtomghpielgkigaaDoor
open Go.RowKit Go.Shelf
abbrev encP (p : Pt) : Value := .agg #[.int .u64 p.1, .int .i64 (p.2.val : Int)]
/-- A ring's points, read: a slice that leads to a block outside Z. -/
def RdZ (Z : Nat → Prop) (w : World) (v : Value) (L : List Pt) : Prop := RdX elP w v L ∧ ∀ g o n c, v = .slice (some ⟨g, o, none⟩) n c → L ≠ [] → ¬ Z g
set_option maxRecDepth 100000 in
set_option maxHeartbeats 3200000 in
theorem from_gives (n : Nat) (hn : 1 ≤ n) (Z : Nat → Prop) (w0 : World) (B1 B2 s : Nat) (sl : Value) (L : List Pt) (hB1 : Boxed w0 B1 39 sl) (hB2 : Boxed w0 B2 3 (it (s : Int))) (hZ1 : ¬ Z B1) (hZ2 : ¬ Z B2)
    (hR : RdZ Z w0 sl L) (hs : s ≤ L.length) (hL : L.length ≤ 1024) : Gives n Tryd.prog 44 #[ptr B1, ptr B2] encP (ro s L) Z w0 := by
  intro l J Jx A W hsz hK hJ hJx hJl hJxl hY h0
  obtain ⟨a, cap, rfl, hcap, hcm⟩ := hR.1.shape
  have HK := Lib.hid hK
  have HJ := Lib.hid hJ
  have HY := Lib.hid hY
  have HR := Lib.hid hR
  have HB1 := Lib.hid hB1
  have HB2 := Lib.hid hB2
  have HZ1 := Lib.hid hZ1
  have HZ2 := Lib.hid hZ2
  have H0 := Lib.hid h0
  obtain ⟨len, hlen⟩ : ∃ len, len = L.length := ⟨_, rfl⟩
  have HLEN := Lib.hid hlen
  rw [← hlen] at hs hL hcap HB1
  have HS := Lib.hid hs
  clear hK hJ hJx hJl hJxl hY hR hB1 hB2 hZ1 hZ2 h0 hlen
  have c1 : W.cell? ⟨B1, 0, none⟩ = some (.slice a len cap) := (World.cell?_of_block (w := w0) (a := ⟨B1, 0, none⟩) (HK.out B1 HB1.out.lt HZ1.out).2).trans HB1.out.cell
  refine callsIn_of_wp Tryd.func44 rfl trivial ?_ rfl
  simp only [Tryd.ntmps44, List.size_toArray, List.length_cons, List.length_nil, Nat.reduceAdd, Nat.reduceSub, Array.replicate_succ, Array.replicate_zero, List.push_toArray, List.append_toArray, List.nil_append, List.cons_append]
  gi_wp2
  gi_loopw [7] (fun i wr => ∃ (k : Nat) (A' : Nat → Prop), i = it (k : Int) ∧ k ≤ len ∧ J ((ro s L).take k) A' wr ∧ w0.heap.size ≤ wr.heap.size ∧ (∀ x, x < w0.heap.size → ¬ Z x → ¬ A' x ∧ wr.heap[x]? = w0.heap[x]?)) (fun i _ => len - (intOf i).toNat)
  case atStart => exact ⟨0, A, rfl, Nat.zero_le _, H0.out, hsz, HK.out⟩
  case round =>
    obtain ⟨k, A', rfl, hk, hJk, hsz', hK'⟩ := hrel
    have HJK := Lib.hid hJk
    have HK' := Lib.hid hK'
    clear hJk hK' c1
    by_cases hlt : k < len
    · obtain ⟨x, hx⟩ : ∃ x, (ro s L)[k]? = some x := ⟨_, List.getElem?_eq_getElem (by rw [ro_length, ← HLEN.out]; exact hlt)⟩
      obtain ⟨j, hj⟩ : ∃ j, j = (s + k) % len := ⟨_, rfl⟩
      have hjl : j < len := by rw [hj]; exact Nat.mod_lt _ (by omega)
      have hxj : L[j]? = some x := by rw [hj, HLEN.out, ← ro_at (by rw [← HLEN.out]; exact HS.out) (by rw [← HLEN.out]; exact hlt)]; exact hx
      obtain ⟨_, g, o, ea, hg, hc⟩ := HR.out.1.at hxj
      subst ea
      have hZg := HR.out.2 g o _ _ rfl (fun e => by rw [e] at hxj; cases hxj)
      have hc' : ∀ i, i < 2 → wr.cell? ⟨g, o + j * 2 + i, none⟩ = ([.int .u64 x.1, .int .i64 (x.2.val : Int)] : List Value)[i]? := fun i hi => (World.cell?_of_block (w := w0) (a := ⟨g, o + j * 2 + i, none⟩) (HK'.out g hg hZg).2).trans (hc i hi)
      have d0 : wr.cell? ⟨g, o + j * 2, none⟩ = some (.int .u64 x.1) := hc' 0 (by decide)
      have d1 : wr.cell? ⟨g, o + j * 2 + 1, none⟩ = some (.int .i64 (x.2.val : Int)) := hc' 1 (by decide)
      have c1 : wr.cell? ⟨B1, 0, none⟩ = some (.slice (some ⟨g, o, none⟩) len cap) := (World.cell?_of_block (w := w0) (a := ⟨B1, 0, none⟩) (HK'.out B1 HB1.out.lt HZ1.out).2).trans HB1.out.cell
      have c2 : wr.cell? ⟨B2, 0, none⟩ = some (it (s : Int)) := (World.cell?_of_block (w := w0) (a := ⟨B2, 0, none⟩) (HK'.out B2 HB2.out.lt HZ2.out).2).trans HB2.out.cell
      have htk : (ro s L).take k ++ [x] = (ro s L).take (k + 1) := by rw [List.take_add_one, hx]; rfl
      obtain ⟨fn, tmps, assign, body, hy, hRd⟩ := HY.out _ x A' wr.drew (by rw [htk]; exact List.take_prefix _ _) (HJ.out _ _ _ _ HJK.out (Tr.refl _ _).drew)
      have HRD := Lib.hid hRd
      have HTK := Lib.hid htk
      have HHJ := Lib.hid hj
      clear hx hxj hc hc' hRd htk hZg hg
      gi_wp2
      have b1 : s + k ≤ 1000000000 := by omega
      have b2 : j ≤ 1000000000 := by omega
      have e4 : (j : Int) < (len : Int) := by omega
      have e3 : ¬ len = 0 := by omega
      have e2 := rem_sum hj
      have e1 := w64_sum s k b1
      have e1' := wi_sum s k b1
      have e5 := wi_nat j b2
      have e5' := w64_nat j b2
      clear b1 b2
      clear hj
      refine wpIn_region_still_tail 10 (by kernel_rfl) (by kernel_rfl) ?_
      simp only [List.take_succ_cons, List.take_zero, List.drop_succ_cons, List.drop_zero]
      repeat still_step
      try refine wpStill_nil ?_
      change wpListIn _ _ _ _ _ _ _ wr.drew
      clear e1 e1' e2 e5 e5' c1 c2 d0 d1
      gi_wp2_with fail
      refine HRD.out.mono ?_
      rintro e w3 (⟨rfl, A3, hJ3, hm⟩ | ⟨rfl, A3, hJ3, hm⟩)
      · have hsz3 : wr.heap.size ≤ w3.heap.size := hm.tr.size
        have hK3 : ∀ x, x < w0.heap.size → ¬ Z x → ¬ A3 x ∧ w3.heap[x]? = w0.heap[x]? := by
          intro x hx hz
          have h1 := HK'.out x hx hz
          refine ⟨fun h => ?_, (hm.tr.block x (Nat.lt_of_lt_of_le hx hsz') h1.1).trans h1.2⟩
          rcases hm.own x h with h | h
          · exact h1.1 h
          · exact absurd (Nat.lt_of_lt_of_le hx (Nat.le_trans hsz' h)) (Nat.lt_irrefl _)
        rw [HTK.out] at hJ3
        have HJ3 := Lib.hid hJ3
        have HK3 := Lib.hid hK3
        clear hJ3 hK3 hm hy HJ HY HK'
        gi_wp2
        go_roundw
        case rel => exact ⟨k + 1, A3, by go_num, hlt, HJ3.out, Nat.le_trans hsz' hsz3, HK3.out⟩
        case measure => simp [intOf]; omega
      · gi_wp2
        refine bodyPost_ret (results_none rfl _ _ _) rfl ?_
        exact ⟨⟨_, rfl⟩, .inr ⟨_, A3, by rw [HTK.out]; exact List.take_prefix _ _, hJ3⟩⟩
    · have hkl : k = len := by omega
      subst hkl
      have hfin := HJK.out
      rw [List.take_of_length_le (by rw [ro_length, ← HLEN.out]; exact Nat.le_refl _)] at hfin
      have HF := Lib.hid hfin
      clear hfin HJ HY HK'
      gi_wp2
      go_end0
      exact ⟨⟨_, rfl⟩, .inl ⟨A', HF.out⟩⟩
end Go.Proofs.YtomghpielgkigaaDoor

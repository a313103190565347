/-
  A file: how many bytes are loose, a copy of its bytes, what a cut leaves.
-/
import Derived.Test.YtpiiknbjllgaoaaTests
import Derived.Laws.AppendOwnNone
namespace Go.Proofs.Ytpiiknbjllgaoaa
open Go.RowKit
section
variable {S : Nat → Prop} {b : Nat} {R : Bs} {v : Value} {t : Nat} {w : World}
set_option maxRecDepth 100000 in
set_option maxHeartbeats 1600000 in
theorem loose_any (h : FV S b R v t w) (hB : R.length ≤ 1000000000) : Calls Try.prog 72 #[ptr b] w fun e w' => e = .returned (.int .i64 ((R.length - t : Nat) : Int)) ∧ Below w.heap.size w w' := by
  have c0 := h.blk.cell0
  have c1 := h.blk.cell1
  have hle := h.le
  obtain ⟨a, cap, rfl, _, _⟩ := h.row.shape
  have HL := Lib.hid (show ((R.length - t : Nat) : Int) = (R.length : Int) - (t : Int) by omega)
  clear h
  rw [HL.out]
  generalize R.length = n at *
  go_enter Try.func72, Try.ntmps72
  go_wp2_with fail
  go_quiet (fail)
  go_wp2
  go_ret
  exact ⟨by go_num, below_drewN _ _⟩
set_option maxRecDepth 100000 in
set_option maxHeartbeats 1600000 in
theorem index_any (p : Int) (hp : -9223372036854775808 ≤ p ∧ p ≤ 9223372036854775807) (k : Nat) (h0 : 0 < k) (hk : k ≤ 2000000000) (w : World) :
    Calls Try.prog 71 #[.int .i64 p, .int .i64 (k : Int)] w fun e w' => e = .returned (.int .i64 (idx p k : Int)) ∧ w = w' := by
  have hk0 : ((k : Int) == 0) = false := by simp; omega
  have hx : ∀ q : Int, 0 ≤ q → (((q.toNat % k : Nat)) : Int) = q.tmod (k : Int) := fun q hq => by
    obtain ⟨n, rfl⟩ := Int.eq_ofNat_of_zero_le hq
    rfl
  by_cases hn : p < 0
  · have HI := Lib.hid (show (idx p k : Int) = -((p + 1).tmod (k : Int)) by unfold idx; rw [if_pos hn, hx _ (by omega), Int.neg_tmod])
    rw [HI.out]
    go_enter Try.func71, Try.ntmps71
    go_wp2
    go_ret
    exact ⟨rfl, rfl⟩
  · have HI := Lib.hid (show (idx p k : Int) = p % (k : Int) by unfold idx; rw [if_neg hn, hx _ (by omega)]; exact Int.tmod_eq_emod_of_nonneg (by omega))
    have q1 : decide (p < 0) = false := by simpa using hn
    rw [HI.out]
    go_enter Try.func71, Try.ntmps71
    go_wp2
    go_ret
    exact ⟨by go_num, rfl⟩
/-- A row of one's own, as it was laid. -/
theorem row_of_own {base : Nat} {v : Value} {w : World} (h : w.ownsRow base 5 1 v R.length (ub R)) : Row w v R := by
  rcases h.2 with ⟨rfl, h0⟩ | ⟨g, cap, cur, rfl, _, hg, h1, h2, h3, ht⟩
  · exact .inl ⟨rfl, List.eq_nil_of_length_eq_zero h0⟩
  · exact .inr ⟨g, 0, cap, cur, rfl, hg, h1, h2, by omega, by simpa using ht⟩
set_option maxRecDepth 100000 in
set_option maxHeartbeats 1600000 in
theorem twin_any (h : Row w v R) (hB : R.length ≤ 1000000000) : Calls Try.prog 79 #[v] w fun e w' => ∃ v', e = .returned v' ∧ Row w' v' R ∧ (∀ k, v'.ownBlock = some k → w.heap.size ≤ k) ∧ Below w.heap.size w w' := by
  obtain ⟨i0, hi, hz0, hz1, hz2⟩ := info_parts info5
  by_cases hn : v = .slice none 0 0
  · subst hn
    have hR : R = [] := by
      rcases h with ⟨_, h⟩ | ⟨g, k, cap, cur, e, _⟩
      · exact h
      · cases e
    subst hR
    go_enter Try.func79, Try.ntmps79
    go_wp2_with (at_builtin; refine wpList_append_own_none rfl (.const (.slice none 0 0)) (.tmp 3) 31 rfl 0 5 i0 1 Try.underlying31 hi _ 0 [] rfl (World.ownsRow_nil _ _ _ _) rfl ?_)
    go_wp2
    go_ret
    exact ⟨_, rfl, .inl ⟨rfl, rfl⟩, fun k hk => by simp [Value.ownBlock] at hk, Below.refl _ _⟩
  · rcases h with ⟨e, _⟩ | ⟨g, k, cap, cur, rfl, hg, h1, h2, h3, ht⟩
    · exact absurd e hn
    · have HC : Hid (∀ j u, (ub R)[j]? = some u → w.cell? ((⟨g, k, none⟩ : Addr).add j) = some u) := Lib.hid (fun j u hu => by
        have hjl : j < R.length := by have := (List.getElem?_eq_some_iff.1 hu).1; rwa [ub_length] at this
        rw [Addr.add_lit, cell_of_row w g (k + j) cur 5 (0, 0) hg]
        rw [← ht, List.getElem?_take, if_pos hjl, List.getElem?_drop] at hu
        simpa using hu)
      have HO : Hid (∀ u ∈ ub R, u.oneCell' = true) := Lib.hid (by
        intro u hu
        obtain ⟨x, _, rfl⟩ := List.mem_map.1 hu
        rfl)
      have HL : Hid ((ub R).length = R.length) := Lib.hid (ub_length R)
      have HR : Hid (∀ {v' : Value} {w' : World}, w'.ownsRow w.heap.size 5 1 v' R.length (ub R) → Row w' v' R) := Lib.hid (fun h => row_of_own h)
      obtain ⟨xs, hxs⟩ : ∃ xs, xs = ub R := ⟨_, rfl⟩
      rw [← hxs] at HC HO HL HR
      obtain ⟨n, hnn⟩ : ∃ n, n = R.length := ⟨_, rfl⟩
      rw [← hnn] at HL HR hB ⊢
      clear hg h1 h2 h3 ht hn hxs hnn
      go_enter Try.func79, Try.ntmps79
      go_wp2_with (at_builtin; refine wpList_append_own_at _ rfl (.const (.slice none 0 0)) (.tmp 3) 31 rfl w.heap.size 5 i0 _ 1 1 Try.underlying31 hi hz0 hz1 hz2 rfl (by decide) _ 0 [] rfl (World.ownsRow_nil _ _ _ _) ⟨g, k, none⟩ n cap xs rfl (by rw [HL.out]; omega) HC.out HO.out (by unfold maxLen; omega) (by omega) (Nat.le_refl _) ?_)
      intro v' w1 hown hgrow _ hloc
      have HW := Lib.hid hown
      have HG := Lib.hid ((Below.refl w.heap.size w).grown hgrow (Nat.le_refl _) (fun j hj => by simp [Value.ownBlock] at hj))
      have HV : Hid (∀ k, v'.ownBlock = some k → w.heap.size ≤ k) := Lib.hid (fun k hk => (World.ownsRow.lt hown k hk).1)
      clear hown hgrow hloc
      go_wp2
      go_ret
      exact ⟨_, rfl, HR.out HW.out, HV.out, HG.out⟩
theorem sl48_some (g k len cap n : Nat) (hn : n ≤ cap) (w : World) : (Instr.slice 31 (.slice (some ⟨g, k, none⟩) len cap) none (some (.int .i64 (n : Int))) none).run Try.prog w = .ok (.slice (some ⟨g, k, none⟩) n cap) w := by
  obtain ⟨i, hi, hz0, hz1, hz2⟩ := info_parts info5
  by_cases hc : cap = 0
  · subst hc
    obtain rfl : n = 0 := by omega
    simp [Instr.slice, Instr.sliceBounds, Instr.sliceBound, run_underlying Try.underlying31, sizeOf, typeInfo, hi, asIntOf]
  · simp [Instr.slice, Instr.sliceBounds, Instr.sliceBound, run_underlying Try.underlying31, sizeOf, typeInfo, hi, asIntOf, hn, hc, Addr.add_lit]
theorem sl48_none (w : World) : (Instr.slice 31 (.slice none 0 0) none (some (.int .i64 0)) none).run Try.prog w = .ok (.slice none 0 0) w := by
  obtain ⟨i, hi, hz0, hz1, hz2⟩ := info_parts info5
  simp [Instr.slice, Instr.sliceBounds, Instr.sliceBound, run_underlying Try.underlying31, sizeOf, typeInfo, hi, asIntOf]
/-- The first n bytes, where they lie. -/
theorem Row.first (h : Row w v R) {n : Nat} (hn : n ≤ R.length) : ∃ a cap, v = .slice a R.length cap ∧ (∀ w', (Instr.slice 31 v none (some (.int .i64 (n : Int))) none).run Try.prog w' = .ok (.slice a n cap) w') ∧ Row w (.slice a n cap) (R.take n) ∧ (Value.slice a n cap).ownBlock = v.ownBlock ∧ cap ≤ maxLen := by
  rcases h with ⟨rfl, rfl⟩ | ⟨g, k, cap, cur, rfl, hg, h1, h2, h3, ht⟩
  · obtain rfl : n = 0 := by simpa using hn
    exact ⟨none, 0, rfl, sl48_none, .inl ⟨rfl, rfl⟩, rfl, Nat.zero_le _⟩
  · have e : (R.take n).length = n := by rw [List.length_take]; omega
    refine ⟨_, cap, rfl, sl48_some g k _ cap n (by omega), .inr ⟨g, k, cap, cur, by rw [e], hg, by omega, h2, h3, ?_⟩, rfl, h2⟩
    rw [e]
    have : ub (R.take n) = (ub R).take n := by simp [ub, List.map_take]
    rw [this, ← ht, List.take_take]
    congr 1
    omega
/-- What a cut leaves: where the bytes lie still. -/
theorem FV.cut (h : FV S b R v t w) {n : Nat} (hn : n ≤ R.length) {v' : Value} (hr : Row w v' (R.take n)) (ho : v'.ownBlock = v.ownBlock) {w' : World} (hb : Blk 85 w' b v' (.int .i64 ((min t n : Nat) : Int))) (ht : Tr (fun k => k = b) w w') :
    FV S b (R.take n) v' (min t n) w' := by
  refine ⟨hb, hr.tr ht (fun k hk e => h.row.not_blk h.blk (by decide) (by rw [← ho, hk, e])), fun k hk => h.rowS k (by rw [← ho]; exact hk), h.own, by rw [List.length_take]; omega⟩
set_option maxRecDepth 100000 in
set_option maxHeartbeats 3200000 in
theorem cut_any (h : FV S b R v t w) (hB : R.length ≤ 1000000000) (n : Nat) (hn : n ≤ R.length) : Calls Try.prog 62 #[ptr b, .int .i64 (n : Int)] w fun e w' => (∃ v, e = .returned v) ∧ Fd (andNew S w.heap.size) b (R.take n) (min t n) w' ∧ Tr S w w' := by
  have c0 := h.blk.cell0
  have c1 := h.blk.cell1
  have f0 := h.blk.frozen0
  have f1 := h.blk.frozen1
  obtain ⟨a, cap, rfl, hsl, hr2, ho, hcm⟩ := h.row.first hn
  have HF := Lib.hid (fun w' => h.cut hn hr2 ho (w' := w'))
  have hRn : (R.take n).length ≤ 1000000000 := by rw [List.length_take]; omega
  obtain ⟨X, hX⟩ : ∃ X, X = R.take n := ⟨_, rfl⟩
  rw [← hX] at HF hRn ⊢
  have HK := Lib.hid h.blk
  have hle := h.le
  have HOW := Lib.hid h.own
  clear h hr2 hX
  have hmin : ((min t n : Nat) : Int) = min (t : Int) (n : Int) := by omega
  have HM := Lib.hid hmin
  clear hmin
  go_enter Try.func62, Try.ntmps62
  go_upto_region 0 with fail
  go_region
  have e : (if n < t then (n : Int) else (t : Int)) = ((min t n : Nat) : Int) := by split <;> omega
  rw [e]
  have hb2 : Blk 85 (((w.setCell ⟨b, 0, none⟩ (.slice a n cap)).setCell ⟨b, 1, none⟩ (.int .i64 ((min t n : Nat) : Int))).drew) b (.slice a n cap) (.int .i64 ((min t n : Nat) : Int)) := (HK.out.set0 _).set1 _
  have ht2 : Tr (fun k => k = b) w (((w.setCell ⟨b, 0, none⟩ (.slice a n cap)).setCell ⟨b, 1, none⟩ (.int .i64 ((min t n : Nat) : Int))).drew) := (((Tr.refl (fun k => k = b) w).setCell (.inl rfl) _).setCell (.inl rfl) _).drew
  have hf2 := HF.out _ hb2 ht2
  generalize ((w.setCell ⟨b, 0, none⟩ (.slice a n cap)).setCell ⟨b, 1, none⟩ (.int .i64 ((min t n : Nat) : Int))).drew = w2 at hf2 ht2 ⊢
  have d0 := hf2.blk.cell0
  have g0 := hf2.blk.frozen0
  have HT := Lib.hid (twin_any hf2.row hRn)
  have H2 := Lib.hid hf2
  have HT2 := Lib.hid ht2
  have hcap : cap ≤ 9223372036854775807 := by unfold maxLen at hcm; omega
  clear hb2 ht2 hf2 c0 c1 f0 f1 hsl HF HK e hcm ho hRn hle hB hn HM
  by_cases hq : n < cap / 2
  · have q1 : (n : Int) < (cap : Int) / 2 := by omega
    go_wp2_with fail
    refine HT.out.mono ?_
    rintro e w3 ⟨v3, rfl, hr3, hn3, hb3⟩
    have F3 := H2.out.below hb3
    have e0 := F3.blk.cell0
    have k0 := F3.blk.frozen0
    obtain ⟨a3, c3, rfl, _, _⟩ := hr3.shape
    have hne := hr3.not_blk F3.blk (by decide)
    have hw2 := HT2.out.size
    have R3 := Lib.hid hr3
    have HF3 := Lib.hid F3
    have HN3 := Lib.hid hn3
    have HB3 := Lib.hid hb3
    clear hr3 hn3 hb3 F3 d0 g0
    go_wp2
    go_end0
    refine ⟨⟨_, rfl⟩, ⟨_, HF3.out.blk.set0 _, R3.out.tr (S := fun k => k = b) ((Tr.refl (fun k => k = b) w3).setCell (.inl rfl) _) (fun k hk e => hne (by rw [hk, e])), fun k hk => .inr (Nat.le_trans hw2 (HN3.out k hk)), .inl HOW.out, HF3.out.le⟩, ?_⟩
    exact ((HT2.out.mono fun k e => by rw [e]; exact HOW.out).then (Tr.of_below HB3.out)).setCell (.inl HOW.out) _
  · have q1 : decide ((n : Int) < (cap : Int) / 2) = false := by simp; omega
    go_wp2
    go_end0
    exact ⟨⟨_, rfl⟩, ⟨_, H2.out.mono fun k => .inl⟩, HT2.out.mono fun k e => by rw [e]; exact HOW.out⟩
end
end Go.Proofs.Ytpiiknbjllgaoaa

/-
  What the document's drop leaves and answers.
-/
import Derived.Test.YtocmgdhhlofajaaSame
namespace Go.Proofs.Ytocmgdhhlofajaa
open Go.RowKit
theorem flat_take {X : List Lk} {k j : Nat} {u : Value} (h : (cs lc (X.take k))[j]? = some u) : (cs lc X)[j]? = some u := by
  have e : cs lc X = cs lc (X.take k) ++ cs lc (X.drop k) := by rw [← cs_append, List.take_append_drop]
  rw [e, List.getElem?_append_left (List.getElem?_eq_some_iff.1 h).1]
  exact h
theorem flat_drop {X : List Lk} {k j : Nat} {u : Value} (h : (cs lc (X.drop k))[j]? = some u) : (cs lc X)[k * 3 + j]? = some u := by
  rw [← cs_drop lc_len, List.getElem?_drop] at h
  exact h
set_option maxRecDepth 100000 in
set_option maxHeartbeats 8000000 in
theorem rdrop_any (k : Nat) (l : Lk) (S : Nat → Prop) (b : Nat) (s : St) (w : World) (h : Rn S b s w) (hk : s.lks[k]? = some l) (hL : s.lks.length ≤ 900000) :
    Calls Try.prog 54 #[ptr b, .int .i64 (k : Int)] w fun e w' => e = .returned (la l) ∧ Rl S b ⟨s.its, s.lks.take k ++ s.lks.drop (k + 1), s.puts, s.opens⟩ w w' := by
  obtain ⟨vi, vl, hp⟩ := h
  have hkl : k < s.lks.length := (List.getElem?_eq_some_iff.1 hk).1
  obtain ⟨g, cap, rfl, hcap, hg, hcell⟩ := hp.rl.cells lc_len (by omega)
  have c1 := hp.c1
  have f1 := hp.fz 1 (by omega)
  have hbl := hp.lt
  have HPV : Hid (∀ w1, Below w.heap.size w w1 → ∀ X v' w5, Below w1.heap.size w1 w5 → w5.ownsRow w1.heap.size 69 3 v' X.length (cs lc X) → Rl (fun k => S k ∧ k < w.heap.size) b ⟨s.its, X, s.puts, s.opens⟩ w1 (w5.setCell ⟨b, 1, none⟩ v')) := Lib.hid (fun w1 hw1 X v' w5 hb hr => by
    have hp0 : PV 30 52 69 (fun k => S k ∧ k < w.heap.size) b s vi (.slice (some ⟨g, 0, none⟩) s.lks.length cap) w1 := PV.below ⟨hp.blk, hp.ri, hp.rl, fun k hk => ⟨hp.si k hk, hp.ri.lt k hk⟩, fun k hk => ⟨hp.sl k hk, hp.rl.lt k hk⟩, ⟨hp.own, hp.lt⟩, hp.ne⟩ hw1
    exact ⟨⟨_, _, hp0.cell_l ⟨hb.os, hb.tape, hb.output, hb.size, fun k hk _ => hb.block k hk⟩ (own_mono hr (Nat.zero_le _)) (fun k hk => .inr (World.ownsRow.lt hr k hk).1)⟩, (Tr.of_below hb).setCell (.inl hp0.own) _⟩)
  have hflat := World.ownsRow.cells (g := g) hp.rl rfl
  clear hp
  generalize s.lks = X at *
  obtain ⟨n, hn⟩ : ∃ n, n = X.length := ⟨_, rfl⟩
  rw [← hn] at c1 hL hkl hcap
  have HN := Lib.hid hn
  have HCL := Lib.hid hcell
  have HK := Lib.hid hk
  have hb0 : Below w.heap.size w (w.alloc (.cells (lc zl).toArray 69)) := (Below.refl _ w).alloc (Nat.le_refl _) _
  have hb1 := hb0.alloc hb0.size (.cells (lc l).toArray 69)
  have he0 := (ce_new w (lc zl).toArray 69).alloc (.cells (lc l).toArray 69)
  have he1 := ce_new (w.alloc (.cells (lc zl).toArray 69)) (lc l).toArray 69
  rw [World.size_alloc] at he1
  have a0 : (w.alloc (.cells (lc zl).toArray 69)).cell? ⟨g, k * 3, none⟩ = some (.int .i64 l.num) := (hb0.cell (p := ⟨g, k * 3, none⟩) hg).trans (hcell k l hk 0 _ rfl)
  have a1 : (w.alloc (.cells (lc zl).toArray 69)).cell? ⟨g, k * 3 + 1, none⟩ = some (.int .i64 l.a) := (hb0.cell (p := ⟨g, k * 3 + 1, none⟩) hg).trans (hcell k l hk 1 _ rfl)
  have a2 : (w.alloc (.cells (lc zl).toArray 69)).cell? ⟨g, k * 3 + 2, none⟩ = some (.int .i64 l.b) := (hb0.cell (p := ⟨g, k * 3 + 2, none⟩) hg).trans (hcell k l hk 2 _ rfl)
  have c1a := (hb0.cell (p := ⟨b, 1, none⟩) hbl).trans c1
  obtain ⟨w1, hw1⟩ : ∃ w1, w1 = (w.alloc (.cells (lc zl).toArray 69)).alloc (.cells (lc l).toArray 69) := ⟨_, rfl⟩
  rw [← hw1] at hb1 he0 he1
  have HB1 := Lib.hid hb1
  have HE0 := Lib.hid he0
  have HE1 := Lib.hid he1
  have HW1 := Lib.hid hw1
  have HC1 := Lib.hid ((hb1.cell (p := ⟨b, 1, none⟩) hbl).trans c1)
  have HF1 := Lib.hid ((World.frozen?_of_block (hb1.block b hbl)).trans f1 : w1.frozen? ⟨b, 1, none⟩ = false)
  have hs1 : w1.heap.size = w.heap.size + 2 := by rw [hw1]; simp
  have hkn : (k : Int) < (n : Int) := by omega
  have hgw : g < w1.heap.size := by omega
  have hgw0 : g < (w.alloc (.cells (lc zl).toArray 69)).heap.size := by simp; omega
  obtain ⟨i0, hi, hz0, hz1, hz2⟩ := info_parts info69
  have HFL := Lib.hid (show ∀ wz, Below w.heap.size w wz → ∀ j u, (cs lc X)[j]? = some u → wz.cell? ⟨g, j, none⟩ = some u from fun wz hb j u hu => (hb.cell (p := ⟨g, j, none⟩) hg).trans (by have := hflat j u hu; rw [add_lit, Nat.zero_add] at this; exact this))
  clear hn hcell hk hb0 hb1 he0 he1 c1 f1 hw1 hflat
  go_enter Try.func54, Try.ntmps54
  go_upto_region 2 with fail
  rw [show ((w.alloc (.cells #[.int .i64 0, .int .i64 0, .int .i64 0] 69)).alloc (.cells #[.int .i64 l.num, .int .i64 l.a, .int .i64 l.b] 69)) = w1 from HW1.out.symm]
  obtain ⟨B0, hB0⟩ : ∃ B0, B0 = w.heap.size := ⟨_, rfl⟩
  obtain ⟨C, hC⟩ : ∃ C, C = w.heap.size + 1 := ⟨_, rfl⟩
  rw [← hC] at HE1 ⊢
  rw [← hB0] at HE0 ⊢
  have HBE := Lib.hid hB0
  have HCE := Lib.hid hC
  obtain ⟨W, hW⟩ : ∃ W, W = w1.heap.size := ⟨_, rfl⟩
  have HWW := Lib.hid hW
  have c1 := HC1.out
  have hkl2 := hkl
  clear hB0 hC a0 a1 a2 c1a hW
  have hlt1 : (cs lc (X.take k)).length = k * 3 := by rw [cs_length lc_len, List.length_take, ← HN.out]; omega
  have hlt2 : (cs lc (X.drop (k + 1))).length = (n - (k + 1)) * 3 := by rw [cs_length lc_len, List.length_drop, ← HN.out]
  have HL1 := Lib.hid hlt1
  have HL2 := Lib.hid hlt2
  clear hlt1 hlt2
  go_upto_region 4 with (at_builtin; refine wpList_append_own _ rfl (.tmp 14) (.tmp 20) 28 rfl W 69 i0 _ 3 24 Try.underlying28 hi hz0 hz1 hz2 rfl (by decide) (.slice none 0 0) 0 [] rfl (World.ownsRow_nil _ _ _ _) ⟨g, 0, none⟩ k cap (cs lc (X.take k)) rfl HL1.out (fun j u hj => by rw [add_lit, Nat.zero_add]; exact HFL.out w1 HB1.out j u (flat_take hj)) (ones_l _) (by unfold maxLen; omega) (by omega) (Nat.le_of_eq HWW.out) ?_)
  intro v3 w3 h3 g3 _
  have hg3 : Below W w1 w3 := ⟨g3.os, g3.tape, g3.output, g3.size, fun i hi => g3.block i (by have := HWW.out; omega) (by simp [Value.ownBlock])⟩
  have hb3 := HB1.out.trans (hg3.mono (by have := HWW.out; have := HB1.out.size; omega))
  have c13 := (hg3.cell (p := ⟨b, 1, none⟩) (by show b < W; have := HWW.out; have := HB1.out.size; omega)).trans HC1.out
  have hs3 := hg3.size
  have hWs : W ≤ w3.heap.size := by have := HWW.out; omega
  have hgw3 : g < w3.heap.size := Nat.lt_of_lt_of_le hgw hs3
  have H3 := Lib.hid h3
  have HG3 := Lib.hid hg3
  have HB3 := Lib.hid hb3
  clear h3 g3 hg3 hb3 c1
  by_cases hck : cap = k + 1
  · have hnk : n = k + 1 := by omega
    have hd0 : X.drop (k + 1) = [] := List.drop_of_length_le (by rw [← HN.out]; omega)
    have HD0 := Lib.hid hd0
    clear hd0
    subst hck
    go_wp2_with (at_builtin; refine wpList_append_own _ rfl (.tmp 23) (.tmp 30) 28 rfl W 69 i0 _ 3 24 Try.underlying28 hi hz0 hz1 hz2 rfl (by decide) v3 k (cs lc (X.take k)) rfl H3.out ⟨g, 0, none⟩ 0 0 (cs lc (X.drop (k + 1))) rfl (by rw [HD0.out]; rfl) (fun j u hj => by rw [HD0.out] at hj; simp [cs] at hj) (ones_l _) (by unfold maxLen; omega) (by omega) (by omega) ?_)
    intro v5 w5 h5 g5 _
    have hbW : Below W w1 w5 := HG3.out.trans ⟨g5.os, g5.tape, g5.output, g5.size, fun i hi => g5.block i (by omega) (fun e => by have := (World.ownsRow.lt H3.out i e.symm).1; omega)⟩
    have he0 := HE0.out.below hbW (by have := HE0.out.lt; have := HWW.out; omega)
    have he1 := HE1.out.below hbW (by have := HE1.out.lt; have := HWW.out; omega)
    have hlen : k = (X.take k ++ X.drop (k + 1)).length := by rw [List.length_append, List.length_take, List.length_drop, ← HN.out]; omega
    replace h5 : w5.ownsRow W 69 3 v5 (X.take k ++ X.drop (k + 1)).length (cs lc (X.take k ++ X.drop (k + 1))) := by rw [← hlen, cs_append]; exact h5
    obtain ⟨a5, cap5, rfl⟩ := row_slice h5
    have hR5 := HPV.out w1 HB1.out _ _ w5 (by rw [← HWW.out]; exact hbW) (by rw [← HWW.out]; exact h5)
    obtain ⟨J, hJ⟩ : ∃ J, J = (X.take k ++ X.drop (k + 1)).length := ⟨_, rfl⟩
    rw [← hJ] at hR5
    have HR5 := Lib.hid hR5
    rw [← hJ]
    have HJ := Lib.hid hJ
    clear hJ
    have c15 := (hbW.cell (p := ⟨b, 1, none⟩) (by show b < W; have := HWW.out; have := HB1.out.size; omega)).trans HC1.out
    have f15 : w5.frozen? ⟨b, 1, none⟩ = false := (World.frozen?_of_block (hbW.block b (by have := HWW.out; have := HB1.out.size; omega))).trans HF1.out
    have hbE : b ≠ B0 := by have := HBE.out; omega
    have hbC : b ≠ C := by have := HCE.out; omega
    have he0' := he0.tr (S := (· = b)) ((Tr.refl (· = b) w5).setCell (i := 1) (.inl rfl) (.slice a5 J cap5)) (fun e => hbE e.symm)
    have he1' := he1.tr (S := (· = b)) ((Tr.refl (· = b) w5).setCell (i := 1) (.inl rfl) (.slice a5 J cap5)) (fun e => hbC e.symm)
    have HE0' := Lib.hid he0'
    have HE1' := Lib.hid he1'
    clear h5 g5 hbW he0 he1 he0' he1' hlen hR5
    go_upto_region 5 with fail
    obtain ⟨w6, hw6⟩ : ∃ w6, w6 = w5.setCell ⟨b, 1, none⟩ (.slice a5 J cap5) := ⟨_, rfl⟩
    rw [← hw6] at HE0' HE1' HR5 ⊢
    obtain ⟨r0, r1, r2⟩ := c3 HE1'.out
    obtain ⟨s0, s1, s2⟩ := c3 HE0'.out
    obtain ⟨t0, t1, t2⟩ := f3 HE0'.out
    clear hw6 c15 f15
    go_wp2
    refine bodyPost_ret (res3 rfl rfl (set3_ce HE0'.out)) rfl ?_
    refine ⟨rfl, ?_⟩
    have hBw := HE0.out.lt
    have hpn := HR5.out.1.tr (S2 := (· = B0)) (w' := set3 w6 B0 (.int .i64 l.num) (.int .i64 l.a) (.int .i64 l.b)) (set3_tr (Tr.refl _ _) (.inl rfl)) (fun i _ hi e => by
      have := HBE.out
      subst e
      rcases hi with hi | hi
      · have := hi.2; omega
      · omega)
    refine ⟨hpn.mono fun i hi => ?_, set3_tr ((HR5.out.mono fun k hk => hk.1).pre HB1.out).2 (.inr (Nat.le_of_eq HBE.out.symm))⟩
    rcases hi with hi | hi
    · exact .inl hi.1
    · have := HB1.out.size
      exact .inr (by omega)
  · go_wp2_with (at_builtin; refine wpList_append_own _ rfl (.tmp 23) (.tmp 30) 28 rfl W 69 i0 _ 3 24 Try.underlying28 hi hz0 hz1 hz2 rfl (by decide) v3 k (cs lc (X.take k)) rfl H3.out ⟨g, (k + 1) * 3, none⟩ (n - (k + 1)) (cap - (k + 1)) (cs lc (X.drop (k + 1))) rfl HL2.out (fun j u hj => by rw [add_lit]; exact HFL.out w3 HB3.out _ u (flat_drop hj)) (ones_l _) (by unfold maxLen; omega) (by omega) (by omega) ?_)
    intro v5 w5 h5 g5 _
    have hbW : Below W w1 w5 := HG3.out.trans ⟨g5.os, g5.tape, g5.output, g5.size, fun i hi => g5.block i (by omega) (fun e => by have := (World.ownsRow.lt H3.out i e.symm).1; omega)⟩
    have he0 := HE0.out.below hbW (by have := HE0.out.lt; have := HWW.out; omega)
    have he1 := HE1.out.below hbW (by have := HE1.out.lt; have := HWW.out; omega)
    have hlen : k + (n - (k + 1)) = (X.take k ++ X.drop (k + 1)).length := by rw [List.length_append, List.length_take, List.length_drop, ← HN.out]; omega
    replace h5 : w5.ownsRow W 69 3 v5 (X.take k ++ X.drop (k + 1)).length (cs lc (X.take k ++ X.drop (k + 1))) := by rw [← hlen, cs_append]; exact h5
    obtain ⟨a5, cap5, rfl⟩ := row_slice h5
    have hR5 := HPV.out w1 HB1.out _ _ w5 (by rw [← HWW.out]; exact hbW) (by rw [← HWW.out]; exact h5)
    obtain ⟨J, hJ⟩ : ∃ J, J = (X.take k ++ X.drop (k + 1)).length := ⟨_, rfl⟩
    rw [← hJ] at hR5
    have HR5 := Lib.hid hR5
    rw [← hJ]
    have HJ := Lib.hid hJ
    clear hJ
    have c15 := (hbW.cell (p := ⟨b, 1, none⟩) (by show b < W; have := HWW.out; have := HB1.out.size; omega)).trans HC1.out
    have f15 : w5.frozen? ⟨b, 1, none⟩ = false := (World.frozen?_of_block (hbW.block b (by have := HWW.out; have := HB1.out.size; omega))).trans HF1.out
    have hbE : b ≠ B0 := by have := HBE.out; omega
    have hbC : b ≠ C := by have := HCE.out; omega
    have he0' := he0.tr (S := (· = b)) ((Tr.refl (· = b) w5).setCell (i := 1) (.inl rfl) (.slice a5 J cap5)) (fun e => hbE e.symm)
    have he1' := he1.tr (S := (· = b)) ((Tr.refl (· = b) w5).setCell (i := 1) (.inl rfl) (.slice a5 J cap5)) (fun e => hbC e.symm)
    have HE0' := Lib.hid he0'
    have HE1' := Lib.hid he1'
    clear h5 g5 hbW he0 he1 he0' he1' hlen hR5
    go_upto_region 5 with fail
    obtain ⟨w6, hw6⟩ : ∃ w6, w6 = w5.setCell ⟨b, 1, none⟩ (.slice a5 J cap5) := ⟨_, rfl⟩
    rw [← hw6] at HE0' HE1' HR5 ⊢
    obtain ⟨r0, r1, r2⟩ := c3 HE1'.out
    obtain ⟨s0, s1, s2⟩ := c3 HE0'.out
    obtain ⟨t0, t1, t2⟩ := f3 HE0'.out
    clear hw6 c15 f15
    go_wp2
    refine bodyPost_ret (res3 rfl rfl (set3_ce HE0'.out)) rfl ?_
    refine ⟨rfl, ?_⟩
    have hBw := HE0.out.lt
    have hpn := HR5.out.1.tr (S2 := (· = B0)) (w' := set3 w6 B0 (.int .i64 l.num) (.int .i64 l.a) (.int .i64 l.b)) (set3_tr (Tr.refl _ _) (.inl rfl)) (fun i _ hi e => by
      have := HBE.out
      subst e
      rcases hi with hi | hi
      · have := hi.2; omega
      · omega)
    refine ⟨hpn.mono fun i hi => ?_, set3_tr ((HR5.out.mono fun k hk => hk.1).pre HB1.out).2 (.inr (Nat.le_of_eq HBE.out.symm))⟩
    rcases hi with hi | hi
    · exact .inl hi.1
    · have := HB1.out.size
      exact .inr (by omega)
end Go.Proofs.Ytocmgdhhlofajaa

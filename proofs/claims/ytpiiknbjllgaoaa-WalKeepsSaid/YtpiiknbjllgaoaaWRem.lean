/-
  What Remove leaves and answers, and what Cut does of a file that has so many bytes.
-/
import Derived.Test.YtpiiknbjllgaoaaRename
namespace Go.Proofs.Ytpiiknbjllgaoaa
open Go.RowKit Go.Maps
def remD (d : Dk) (k : ByteArray) : Dk := if preE d (hasE d k) = 0 then { stepD d with fs := delF d.fs k } else preD d (hasE d k)
section
variable {S : Nat → Prop} {b : Nat} {d : Dk} {w : World}
set_option maxRecDepth 100000 in
set_option maxHeartbeats 6400000 in
theorem remove_any (h : PD S b d w) (k : ByteArray) (hk : Gn k) (h1 : d.steps ≤ 1000000000) (h2 : d.left ≤ mostL) (hL : d.fs.length ≤ 1000000) :
    Calls Try.prog 64 #[ptr b, .string k] w fun e w' => e = .returned (.int .i64 (preE d (hasE d k))) ∧ Lft S b (remD d k) w w' := by
  have hmf : ∀ (fn : Fn) (first cap : Array Value) (w : World), (Instr.makeFunc fn first cap).run Try.prog w = .ok (.func fn first cap) w := fun _ _ _ _ => rfl
  have HP := Lib.hid h
  have HK := Lib.hid hk
  have hk40 : k.size ≤ 40 := hk.2
  have HD : Hid (remD d k = if preE d (hasE d k) = 0 then { stepD d with fs := delF d.fs k } else preD d (hasE d k)) := Lib.hid rfl
  obtain ⟨E, hEE⟩ : ∃ E, E = preE d (hasE d k) := ⟨_, rfl⟩
  have HE := Lib.hid hEE
  rw [← hEE] at HD ⊢
  obtain ⟨D', hDD⟩ : ∃ D', D' = remD d k := ⟨_, rfl⟩
  rw [← hDD] at HD ⊢
  clear h hk hEE hDD
  go_enter Try.func64, Try.ntmps64
  go_wp2_with fail
  refine (named_wk _ _ ⟨_, _, _, rfl⟩).mono ?_
  rintro e w2 ⟨rfl, hc2, hb2⟩
  have hN2 : Hid (Nm (w.heap.size + 1) w2) := Lib.hid (nm_one (w := w) HK.out (by simpa using hc2) (by simpa using hb2))
  have HB2 := Lib.hid (((Below.refl w.heap.size w).alloc (Nat.le_refl _) (.cells #[.string k] 9)).trans (hb2.mono (by simp)))
  clear hc2 hb2
  go_wp2_with fail
  refine (has_wk _ (.inr ⟨b, rfl⟩) k w2).mono ?_
  rintro e w3 ⟨rfl, hc3, hd3, hb3⟩
  have hN3 := Lib.hid (hN2.out.below hb3)
  have HB3 := Lib.hid (HB2.out.trans (hb3.mono HB2.out.size))
  have C3 := Lib.hid hc3
  have D3 := Lib.hid hd3
  clear hN2 hc3 hd3 hb3
  go_wp2_with fail
  have hpre := pre4_at (HP.out.below HB3.out) h1 h2 (w.heap.size + 1) hN3.out ⟨77, #[], #[ptr w2.heap.size, ptr (w2.heap.size + 1)]⟩ (hasE d k) ent40 (fun w1 hb => by
    have := hasf_any (HP.out.below (HB3.out.trans (hb.mono HB3.out.size))) k hk40 w2.heap.size (w2.heap.size + 1) ((hb.cell (w3.block_lt_of_cell? _ C3.out)).trans C3.out) ((hb.cell (w3.block_lt_of_cell? _ D3.out)).trans D3.out)
    exact this)
  rw [← HE.out] at hpre
  refine hpre.mono ?_
  rintro e w5 ⟨rfl, hp5, ht5⟩
  have P5 := Lib.hid hp5
  have T5 : Hid (Tr (fun j => j = b) w w5) := Lib.hid ((Tr.of_below HB3.out).then ht5)
  clear hpre hp5 ht5 hN3 HB3 HB2 C3 D3
  by_cases hE : E = 0
  · have hok := preD_ok (HE.out.symm.trans hE)
    rw [hok] at P5
    obtain ⟨f0, hf0⟩ := preE_ok (HE.out.symm.trans hE)
    have hD' : D' = { stepD d with fs := delF d.fs k } := by rw [HD.out, if_pos hE]
    have HD' := Lib.hid hD'
    subst hE
    obtain ⟨G, mv, hv⟩ := P5.out
    obtain ⟨g, hg, hfg, rfl, hgn⟩ := hv.file_of (d := stepD d) hf0
    rcases hv.mp with ⟨_, rfl⟩ | ⟨m, D, rfl, hs, ho, ht⟩
    · cases hg
    have c0 : w5.cell? ⟨b, 0, none⟩ = some (.map (some m)) := hv.cell 0 _ rfl
    have hl := hv.look k hk40 (Below.refl _ w5)
    rw [hfg] at hl
    have hl : (Instr.lookup 62 (.map (some m)) (.string k) false).run Try.prog w5 = .ok (ptr g.b) w5 := hl
    have hfv := (hv.file g hg).1
    have hGl : G.length ≤ 1000000 := by have := hv.perm.length_eq; rw [List.length_map] at this; have e : (stepD d).fs = d.fs := rfl; rw [e] at this; omega
    have HDEL := Lib.hid (fun w1 (ho1 : OwnM w1 m G.length (D.del (ky k))) (hg1 : w5.grownBy w1 (some m)) => hv.del rfl hs ht ho k ho1 hg1)
    have hmi := hv.not_m hg ho
    have HAP : Hid (∀ x ∈ noG G k, ∀ i, its g.b g.v i → ¬ its x.b x.v i) := Lib.hid (fun x hx => by
      have hxm := List.mem_filter.1 hx
      exact hv.apart g hg x hxm.1 (by rw [hgn]; exact fun e => by simpa [e.symm] using hxm.2))
    have HFV := Lib.hid hfv
    have HMI := Lib.hid hmi
    have HOW := Lib.hid ho
    have HOB := Lib.hid hv.own
    have HSM := Lib.hid hs
    have hkl : k.size ≤ maxLen := by unfold maxLen; omega
    have HKY := Lib.hid (ky_of hkl)
    have hnl : (noG G k).length ≤ 1000000 := Nat.le_trans (List.length_filter_le _ _) hGl
    have hbl := hv.lt
    have hbm : b ≠ m := by
      rintro rfl
      obtain ⟨es, clock, hb, _⟩ := ho
      have := hv.blk; rw [hb] at this; simp at this
    clear hok hD' hv hfv ho ht hs hfg hg hgn hf0 hmi
    go_wp2_with (at_delete; refine wpList_delete_own _ rfl (.tmp 23) (.tmp 24) 62 9 rfl 74 law9 Try.underlying62 pR m G.length D rfl HOW.out _ (ky k) rfl HKY.out ?_)
    intro w6 hown6 hturn6
    have hdel := HDEL.out w6 hown6 hturn6.grown
    have T6 := Lib.hid hdel.2
    have V6 := Lib.hid hdel.1
    clear hown6 hturn6 hdel c0 hl
    go_wp2
    go_ret
    rw [HD'.out]
    exact ⟨rfl, ⟨_, _, V6.out.mono fun _ => .inl⟩, ((T5.out.mono fun i e => by rw [e]; exact HOB.out).then (T6.out.mono fun i e => by rw [e]; exact HSM.out))⟩
  · have hD' : D' = preD d (hasE d k) := by rw [HD.out, if_neg hE]
    have q1 : (E == 0) = false := by simpa using hE
    have q2 : (E != 0) = true := by simpa using hE
    rw [← HE.out] at *
    have HF : Hid (Lft S b D' w w5) := Lib.hid ⟨by rw [hD']; exact P5.out.mono fun _ => .inl, T5.out.mono fun j e => by rw [e]; exact HP.out.own⟩
    clear hD' HE HD P5 T5
    go_wp2
    go_ret
    exact ⟨rfl, HF.out⟩
/-- Five tests ahead of a step; the fourth finds nothing. -/
theorem pre5 (h : PD S b d w) (h1 : d.steps ≤ 1000000000) (h2 : d.left ≤ mostL) (C : Nat) (hC : Nm C w) (mid mid2 : Tst) (E : Int) (hmN : ∀ args w, (callFunc mid.N args).run Try.prog w = .ok (.enter mid.N args) w) (hmN2 : ∀ args w, (callFunc mid2.N args).run Try.prog w = .ok (.enter mid2.N args) w)
    (hmid : ∀ w1, Below w.heap.size w w1 → Calls Try.prog mid.N (mid.fs ++ mid.cs) w1 fun e w2 => e = .returned (.int .i64 E) ∧ Below w1.heap.size w1 w2)
    (hmid2 : E = 0 → ∀ w1, Below w.heap.size w w1 → Calls Try.prog mid2.N (mid2.fs ++ mid2.cs) w1 fun e w2 => e = .returned (.int .i64 0) ∧ Below w1.heap.size w1 w2) (g : Nat)
    (hg0 : w.cell? ⟨g, 0, none⟩ = some (tPow b).val) (hg1 : w.cell? ⟨g, 1, none⟩ = some (tNam C).val) (hg2 : w.cell? ⟨g, 2, none⟩ = some mid.val) (hg3 : w.cell? ⟨g, 3, none⟩ = some mid2.val) (hg4 : w.cell? ⟨g, 4, none⟩ = some (tCnt b).val) :
    Calls Try.prog 56 #[.slice (some ⟨g, 0, none⟩) 5 5] w fun e w' => e = .returned (.int .i64 (preE d E)) ∧ PD S b (preD d E) w' ∧ Tr (fun j => j = b) w w' := by
  have pd : ∀ w1, Below w.heap.size w w1 → PD S b d w1 := fun w1 hb => h.below hb
  refine (first_any [tPow b, tNam C, mid, mid2, tCnt b] g 5 rfl (by decide) w
    (fun k w1 => (k < 5 ∧ Below w.heap.size w w1 ∧ (1 ≤ k → d.off = false) ∧ (3 ≤ k → E = 0)) ∨ (k = 5 ∧ PD S b (stepD d) w1 ∧ Tr (fun j => j = b) w w1 ∧ d.off = false ∧ E = 0 ∧ stopsD d = false))
    (fun z w1 => z = preE d E ∧ PD S b (preD d E) w1 ∧ Tr (fun j => j = b) w w1) ?_ ?_ ?_ (.inl ⟨by decide, Below.refl _ _, (fun h => by omega), (fun h => by omega)⟩)).mono ?_
  · intro k t w1 ht hK
    have hb : Below w.heap.size w w1 := by
      rcases hK with hK | ⟨rfl, _⟩
      · exact hK.2.1
      · cases ht
    have mv : ∀ {p : Addr} {v : Value}, w.cell? p = some v → w1.cell? p = some v := fun hp => (hb.cell (w.block_lt_of_cell? _ hp)).trans hp
    match k, ht with
    | 0, ht => cases ht; exact mv hg0
    | 1, ht => cases ht; exact mv hg1
    | 2, ht => cases ht; exact mv hg2
    | 3, ht => cases ht; exact mv hg3
    | 4, ht => cases ht; exact mv hg4
  · intro k t ht
    match k, ht with
    | 0, ht => cases ht; exact ent26
    | 1, ht => cases ht; exact ent38
    | 2, ht => cases ht; exact hmN
    | 3, ht => cases ht; exact hmN2
    | 4, ht => cases ht; exact ent29
  · intro k t w1 ht hK
    rcases hK with ⟨hk, hb, ho, hE⟩ | ⟨rfl, _⟩
    · have htr := Tr.of_below (S := fun j => j = b) hb
      match k, ht with
      | 0, ht =>
        cases ht
        refine (power_any (pd w1 hb)).mono ?_
        rintro e w2 ⟨rfl, rfl⟩
        cases hoff : d.off with
        | false => exact .inl ⟨rfl, .inl ⟨by decide, hb, fun _ => rfl, fun h => by omega⟩⟩
        | true =>
          refine .inr ⟨14, by decide, rfl, ?_, ?_, htr⟩
          · simp [preE, hoff]
          · rw [show preD d E = d by simp [preD, hoff]]; exact pd w1 hb
      | 1, ht =>
        cases ht
        refine ((hC.below hb).calls).mono ?_
        rintro e w2 ⟨rfl, rfl⟩
        exact .inl ⟨rfl, .inl ⟨by decide, hb, fun _ => ho (by decide), fun h => by omega⟩⟩
      | 2, ht =>
        cases ht
        refine (hmid w1 hb).mono ?_
        rintro e w2 ⟨rfl, hb2⟩
        have hb3 := hb.trans (hb2.mono hb.size)
        by_cases hz : E = 0
        · exact .inl ⟨by rw [hz], .inl ⟨by decide, hb3, fun _ => ho (by decide), fun _ => hz⟩⟩
        · have hoff := ho (by decide)
          refine .inr ⟨E, hz, rfl, ?_, ?_, Tr.of_below hb3⟩
          · simp [preE, hoff, hz]
          · rw [show preD d E = d by simp [preD, hoff, hz]]; exact pd w2 hb3
      | 3, ht =>
        cases ht
        refine (hmid2 (hE (by decide)) w1 hb).mono ?_
        rintro e w2 ⟨rfl, hb2⟩
        exact .inl ⟨rfl, .inl ⟨by decide, hb.trans (hb2.mono hb.size), fun _ => ho (by decide), fun _ => hE (by decide)⟩⟩
      | 4, ht =>
        cases ht
        have hoff := ho (by decide)
        have hz := hE (by decide)
        cases hs : stopsD d with
        | false =>
          refine (count_yes (pd w1 hb) hs h1 h2).mono ?_
          rintro e w2 ⟨rfl, hp, ht⟩
          exact .inl ⟨rfl, .inr ⟨rfl, hp, htr.then ht, hoff, hz, rfl⟩⟩
        | true =>
          refine (count_no (pd w1 hb) hs).mono ?_
          rintro e w2 ⟨rfl, hp, ht⟩
          refine .inr ⟨14, by decide, rfl, ?_, ?_, htr.then ht⟩
          · simp [preE, hoff, hz, hs]
          · rw [show preD d E = offD d by simp [preD, hoff, hz, hs]]; exact hp
    · cases ht
  · rintro e w' (⟨rfl, hK⟩ | ⟨z, _, rfl, rfl, hp, ht⟩)
    · rcases hK with ⟨hk, _⟩ | ⟨_, hp, ht, hoff, hz, hs⟩
      · omega
      · refine ⟨by simp [preE, hoff, hz, hs], ?_, ht⟩
        rw [show preD d E = stepD d by simp [preD, hoff, hz, hs]]
        exact hp
    · exact ⟨rfl, hp, ht⟩
theorem pre5_at (h : PD S b d w) (h1 : d.steps ≤ 1000000000) (h2 : d.left ≤ mostL) (C : Nat) (hC : Nm C w) (mid mid2 : Tst) (E : Int) (hmN : ∀ args w, (callFunc mid.N args).run Try.prog w = .ok (.enter mid.N args) w) (hmN2 : ∀ args w, (callFunc mid2.N args).run Try.prog w = .ok (.enter mid2.N args) w)
    (hmid : ∀ w1, Below w.heap.size w w1 → Calls Try.prog mid.N (mid.fs ++ mid.cs) w1 fun e w2 => e = .returned (.int .i64 E) ∧ Below w1.heap.size w1 w2)
    (hmid2 : E = 0 → ∀ w1, Below w.heap.size w w1 → Calls Try.prog mid2.N (mid2.fs ++ mid2.cs) w1 fun e w2 => e = .returned (.int .i64 0) ∧ Below w1.heap.size w1 w2) :
    Calls Try.prog 56 #[.slice (some ⟨w.heap.size, 0, none⟩) 5 5] (w.alloc (.cells #[(tPow b).val, (tNam C).val, mid.val, mid2.val, (tCnt b).val] 44)) fun e w' => e = .returned (.int .i64 (preE d E)) ∧ PD S b (preD d E) w' ∧ Tr (fun j => j = b) w w' := by
  have hb : Below w.heap.size w (w.alloc (.cells #[(tPow b).val, (tNam C).val, mid.val, mid2.val, (tCnt b).val] 44)) := (Below.refl _ _).alloc (Nat.le_refl _) _
  refine (pre5 (h.below hb) h1 h2 C (hC.below hb) mid mid2 E hmN hmN2 (fun w1 hw1 => hmid w1 (hb.trans (hw1.mono hb.size))) (fun hE w1 hw1 => hmid2 hE w1 (hb.trans (hw1.mono hb.size))) w.heap.size (by simp) (by simp) (by simp) (by simp) (by simp)).mono ?_
  rintro e w' ⟨he, hp, ht⟩
  exact ⟨he, hp, (Tr.of_below hb).then ht⟩
theorem three_alloc (w : World) (A B C : Obj) : (((w.alloc A).alloc B).alloc C).heap[w.heap.size]? = some A ∧ (((w.alloc A).alloc B).alloc C).heap[w.heap.size + 1]? = some B ∧ (((w.alloc A).alloc B).alloc C).heap[w.heap.size + 2]? = some C := by
  have s1 : (w.alloc A).heap.size = w.heap.size + 1 := by simp
  have s2 : ((w.alloc A).alloc B).heap.size = w.heap.size + 2 := by simp
  refine ⟨?_, ?_, ?_⟩
  · rw [Below.heap_alloc _ _ _ (by omega), Below.heap_alloc _ _ _ (by omega)]; exact heap_alloc_new w A
  · rw [Below.heap_alloc _ _ _ (by omega), ← s1]; exact heap_alloc_new _ B
  · rw [← s2]; exact heap_alloc_new _ C
theorem cell_heap {w : World} {g i : Nat} {cs : Array Value} {t : TypeId} {fr : Nat × Nat} (h : w.heap[g]? = some (.cells cs t fr)) : w.cell? ⟨g, i, none⟩ = cs[i]? := by
  rw [cell_of_row w g i cs t fr h]
theorem ent43 (args : Array Value) (w : World) : (callFunc 78 args).run Try.prog w = .ok (.enter 78 args) w := enters Try.func78 (by kernel_rfl) (by kernel_rfl) args w
set_option maxRecDepth 100000 in
set_option maxHeartbeats 1600000 in
theorem reaches_wk (v : Value) (hv : v = nop ∨ ∃ b, v = ptr b) (k : ByteArray) (n : Nat) (w : World) : Calls Try.prog 60 #[v, .string k, .int .i64 (n : Int)] w fun e w' => e = .returned (.func (.func 78) #[] #[ptr (w.heap.size + 2), ptr w.heap.size, ptr (w.heap.size + 1)]) ∧
    w'.cell? ⟨w.heap.size + 2, 0, none⟩ = some (.int .i64 (n : Int)) ∧ w'.cell? ⟨w.heap.size, 0, none⟩ = some v ∧ w'.cell? ⟨w.heap.size + 1, 0, none⟩ = some (.string k) ∧ Below w.heap.size w w' := by
  have hmf : ∀ (fn : Fn) (first cap : Array Value) (w : World), (Instr.makeFunc fn first cap).run Try.prog w = .ok (.func fn first cap) w := fun _ _ _ _ => rfl
  have hb : Hid (Below w.heap.size w (((w.alloc (.cells #[v] 34)).alloc (.cells #[.string k] 9)).alloc (.cells #[.int .i64 (n : Int)] 3))) := Lib.hid (((((Below.refl _ _).alloc (Nat.le_refl _) _).alloc (by simp) _).alloc (by simp; omega) _))
  rcases hv with rfl | ⟨b, rfl⟩
  all_goals
    go_enter Try.func60, Try.ntmps60
    go_wp2
    go_ret
    obtain ⟨h0, h1, h2⟩ := three_alloc w (.cells #[_] 34) (.cells #[.string k] 9) (.cells #[.int .i64 (n : Int)] 3)
    exact ⟨rfl, (cell_heap h2).trans rfl, (cell_heap h0).trans rfl, (cell_heap h1).trans rfl, hb.out⟩
set_option maxRecDepth 100000 in
set_option maxHeartbeats 1600000 in
theorem reachesf_any (h : PD S b d w) (k : ByteArray) (hk : k.size ≤ 40) {f0 : Fl} (hf0 : findF d.fs k = some f0) (n : Nat) (hn : n ≤ f0.data.length) (hB : f0.data.length ≤ 1000000000) (N B C : Nat) (hN : w.cell? ⟨N, 0, none⟩ = some (.int .i64 (n : Int))) (hb : w.cell? ⟨B, 0, none⟩ = some (ptr b)) (hc : w.cell? ⟨C, 0, none⟩ = some (.string k)) :
    Calls Try.prog 78 #[ptr N, ptr B, ptr C] w fun e w' => e = .returned (.int .i64 0) ∧ Below w.heap.size w w' := by
  obtain ⟨G, mv, hv⟩ := h
  obtain ⟨g, hg, hfg, rfl, hgn⟩ := hv.file_of hf0
  have c0 : w.cell? ⟨b, 0, none⟩ = some (.map mv) := hv.cell 0 _ rfl
  have hl : ∀ i, (Instr.lookup 62 (.map mv) (.string k) false).run Try.prog (w.drewN i) = .ok (ptr g.b) (w.drewN i) := fun i => by
    have h := hv.look k hk (below_drewN w i)
    rw [hfg] at h
    exact h
  have hfv := (hv.file g hg).1
  have d0 := hfv.blk.cell0
  obtain ⟨a, cap, he, _, _⟩ := hfv.row.shape
  rw [he] at d0
  have q0 : decide ((n : Int) < 0) = false := by simp
  have q1 : decide ((g.f.data.length : Int) < (n : Int)) = false := by simp; omega
  have q2 : decide (g.f.data.length < n) = false := by simp; omega
  have HB : Hid (Below w.heap.size w w.drew) := Lib.hid (Below.refl _ w).drew
  obtain ⟨gb, hgb⟩ : ∃ x, x = g.b := ⟨_, rfl⟩
  rw [← hgb] at hl d0
  obtain ⟨m, hm⟩ : ∃ x, x = g.f.data.length := ⟨_, rfl⟩
  rw [← hm] at d0 q1 q2 hB
  clear hv hg hfg hf0 hgn hfv he hgb hm hn
  go_enter Try.func78, Try.ntmps78
  go_wp2_with fail
  go_quiet (fail)
  go_wp2
  go_ret
  exact ⟨rfl, below_drewN _ _⟩
/-- What Cut leaves of a file that is there. -/
def cutD (d : Dk) (k : ByteArray) (n : Nat) : Dk := if preE d 0 = 0 then { stepD d with fs := withF d.fs k fun f => ⟨f.name, f.data.take n, min f.dur n⟩ } else preD d 0
set_option maxRecDepth 100000 in
set_option maxHeartbeats 6400000 in
theorem dcut_any (h : PD S b d w) (k : ByteArray) (hk : Gn k) {f0 : Fl} (hf0 : findF d.fs k = some f0) (n : Nat) (hn : n ≤ f0.data.length) (hB : f0.data.length ≤ 1000000000) (h1 : d.steps ≤ 1000000000) (h2 : d.left ≤ mostL) :
    Calls Try.prog 37 #[ptr b, .string k, .int .i64 (n : Int)] w fun e w' => e = .returned (.int .i64 (preE d 0)) ∧ Lft S b (cutD d k n) w w' := by
  have hmf : ∀ (fn : Fn) (first cap : Array Value) (w : World), (Instr.makeFunc fn first cap).run Try.prog w = .ok (.func fn first cap) w := fun _ _ _ _ => rfl
  have HP := Lib.hid h
  have HK := Lib.hid hk
  have HF0 := Lib.hid hf0
  have HN := Lib.hid hn
  have HBB := Lib.hid hB
  have hk40 : k.size ≤ 40 := hk.2
  have HD : Hid (cutD d k n = if preE d 0 = 0 then { stepD d with fs := withF d.fs k fun f => ⟨f.name, f.data.take n, min f.dur n⟩ } else preD d 0) := Lib.hid rfl
  have HH : Hid (hasE d k = 0) := Lib.hid (by unfold hasE; rw [hf0]; rfl)
  obtain ⟨E, hEE⟩ : ∃ E, E = preE d 0 := ⟨_, rfl⟩
  have HE := Lib.hid hEE
  rw [← hEE] at HD ⊢
  obtain ⟨D', hDD⟩ : ∃ D', D' = cutD d k n := ⟨_, rfl⟩
  rw [← hDD] at HD ⊢
  clear h hk hf0 hn hB hEE hDD
  go_enter Try.func37, Try.ntmps37
  go_wp2_with fail
  refine (named_wk _ _ ⟨_, _, _, rfl⟩).mono ?_
  rintro e w2 ⟨rfl, hc2, hb2⟩
  have hN2 : Hid (Nm (w.heap.size + 1) w2) := Lib.hid (nm_one (w := w) HK.out (by simpa using hc2) (by simpa using hb2))
  have HB2 := Lib.hid (((Below.refl w.heap.size w).alloc (Nat.le_refl _) (.cells #[.string k] 9)).trans (hb2.mono (by simp)))
  clear hc2 hb2
  go_wp2_with fail
  refine (has_wk _ (.inr ⟨b, rfl⟩) k w2).mono ?_
  rintro e w3 ⟨rfl, hc3, hd3, hb3⟩
  have hN3 := Lib.hid (hN2.out.below hb3)
  have HB3 := Lib.hid (HB2.out.trans (hb3.mono HB2.out.size))
  have C3 := Lib.hid hc3
  have D3 := Lib.hid hd3
  clear hN2 hc3 hd3 hb3
  go_wp2_with fail
  refine (reaches_wk _ (.inr ⟨b, rfl⟩) k n w3).mono ?_
  rintro e w4 ⟨rfl, hn4, hc4, hd4, hb4⟩
  have hN4 := Lib.hid (hN3.out.below hb4)
  have HB4 := Lib.hid (HB3.out.trans (hb4.mono HB3.out.size))
  have C34 := Lib.hid ((hb4.cell (w3.block_lt_of_cell? _ C3.out)).trans C3.out)
  have D34 := Lib.hid ((hb4.cell (w3.block_lt_of_cell? _ D3.out)).trans D3.out)
  have N4 := Lib.hid hn4
  have C4 := Lib.hid hc4
  have D4 := Lib.hid hd4
  clear hN3 C3 D3 hn4 hc4 hd4 hb4
  go_wp2_with fail
  have hpre := pre5_at (HP.out.below HB4.out) h1 h2 (w.heap.size + 1) hN4.out ⟨77, #[], #[ptr w2.heap.size, ptr (w2.heap.size + 1)]⟩ ⟨78, #[], #[ptr (w3.heap.size + 2), ptr w3.heap.size, ptr (w3.heap.size + 1)]⟩ (hasE d k) ent40 ent43 (fun w1 hb => by
    have := hasf_any (HP.out.below (HB4.out.trans (hb.mono HB4.out.size))) k hk40 w2.heap.size (w2.heap.size + 1) ((hb.cell (w4.block_lt_of_cell? _ C34.out)).trans C34.out) ((hb.cell (w4.block_lt_of_cell? _ D34.out)).trans D34.out)
    exact this) (fun _ w1 hb => by
    have := reachesf_any (HP.out.below (HB4.out.trans (hb.mono HB4.out.size))) k hk40 HF0.out n HN.out HBB.out (w3.heap.size + 2) w3.heap.size (w3.heap.size + 1) ((hb.cell (w4.block_lt_of_cell? _ N4.out)).trans N4.out) ((hb.cell (w4.block_lt_of_cell? _ C4.out)).trans C4.out) ((hb.cell (w4.block_lt_of_cell? _ D4.out)).trans D4.out)
    exact this)
  rw [HH.out] at hpre
  rw [← HE.out] at hpre
  refine hpre.mono ?_
  rintro e w5 ⟨rfl, hp5, ht5⟩
  have P5 := Lib.hid hp5
  have T5 : Hid (Tr (fun j => j = b) w w5) := Lib.hid ((Tr.of_below HB4.out).then ht5)
  clear hpre hp5 ht5 hN4 HB3 HB2 HB4 C34 D34 N4 C4 D4
  by_cases hE : E = 0
  · have hok := preD_ok (HE.out.symm.trans hE)
    rw [hok] at P5
    have hD' : D' = { stepD d with fs := updF d.fs k fun f => ⟨f.name, f0.data.take n, min f0.dur n⟩ } := by
      rw [HD.out, if_pos hE]
      unfold withF
      rw [HF0.out]
    subst hE
    obtain ⟨G, mv, hv⟩ := P5.out
    obtain ⟨g, hg, hfg, rfl, hgn⟩ := hv.file_of (d := stepD d) HF0.out
    have c0 : w5.cell? ⟨b, 0, none⟩ = some (.map mv) := hv.cell 0 _ rfl
    have hl := hv.look k hk40 (Below.refl _ w5)
    rw [hfg] at hl
    have hl : (Instr.lookup 62 (.map mv) (.string k) false).run Try.prog w5 = .ok (ptr g.b) w5 := hl
    have hfv := (hv.file g hg).1.least
    have HD' := Lib.hid hD'
    have hupd := fun R' t' w' => hv.upd hg (R := R') (t := t') (w' := w')
    rw [hgn] at hupd
    have HUP := Lib.hid hupd
    have HOWN := Lib.hid hv.own
    have HCUT := Lib.hid (cut_any hfv HBB.out n HN.out)
    have HG := Lib.hid hgn
    clear hok hD' hv hfg hg hgn hfv hupd
    go_wp2_with fail
    refine HCUT.out.mono ?_
    rintro e w6 ⟨⟨u, rfl⟩, hfd, ht6⟩
    have L := Lib.hid (HUP.out _ _ _ hfd ht6)
    clear hfd ht6
    go_wp2
    go_ret
    rw [HD'.out]
    exact ⟨rfl, L.out.1.mono fun j hj => hj.elim .inl fun h => .inr (Nat.le_trans T5.out.size h), (T5.out.mono fun j e => by rw [e]; exact HOWN.out).then L.out.2⟩
  · have hD' : D' = preD d 0 := by rw [HD.out, if_neg hE]
    have q1 : (E == 0) = false := by simpa using hE
    have q2 : (E != 0) = true := by simpa using hE
    have HF : Hid (Lft S b D' w w5) := Lib.hid ⟨by rw [hD']; exact P5.out.mono fun _ => .inl, T5.out.mono fun j e => by rw [e]; exact HP.out.own⟩
    clear hD' HE HD P5 T5
    go_wp2
    go_ret
    exact ⟨rfl, HF.out⟩
end
end Go.Proofs.Ytpiiknbjllgaoaa

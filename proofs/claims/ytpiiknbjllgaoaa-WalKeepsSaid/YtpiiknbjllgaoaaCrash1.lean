/-
  What a crash leaves of one file.
-/
import Derived.Test.YtpiiknbjllgaoaaNext
namespace Go.Proofs.Ytpiiknbjllgaoaa
open Go.RowKit
abbrev nextF (C : Nat) : Value := .func (.func 47) #[] #[ptr C]
theorem headD_num {ps : List Int} (h : ∀ p ∈ ps, I64 p) : I64 (ps.headD 0) := by
  cases ps with
  | nil => unfold I64; simp
  | cons p r => exact h p (by simp)
set_option maxRecDepth 100000 in
set_option maxHeartbeats 6400000 in
theorem fcrash_any {S T : Nat → Prop} {b C : Nat} {f : Fl} {v : Value} {ps : List Int} {w : World} (h : FV S b f.data v f.dur w) (hP : Pk T C ps w) (hC : ¬ S C ∧ C < w.heap.size) (hT : ∀ g, T g → ¬ S g ∧ g < w.heap.size) (hB : f.data.length ≤ 1000000000) :
    Calls Try.prog 49 #[ptr b, nextF C] w fun e w' => (∃ v, e = .returned v) ∧ Fd (andNew S w.heap.size) b (crD f ps) (crD f ps).length w' ∧ Pk T C ps.tail.tail w' ∧ Tr (fun k => S k ∨ k = C) w w' := by
  have hle := h.le
  have HN1 := Lib.hid (next_any hP)
  have HF := Lib.hid h
  have HP := Lib.hid hP
  have hk := keepN_le hle ps
  have HCR : Hid (crD f ps = if (decide (0 < keepN f ps) && odd (ps.tail.headD 0)) = true then flip (f.data.take (f.dur + keepN f ps)) else f.data.take (f.dur + keepN f ps)) := Lib.hid rfl
  have HIX : Hid (keepN f ps = idx (ps.headD 0) (f.data.length - f.dur + 1)) := Lib.hid rfl
  have hnum := hP.num
  have hn1 := headD_num hnum
  have hn2 : I64 (ps.tail.headD 0) := headD_num fun p hp => hnum p (List.mem_of_mem_tail hp)
  obtain ⟨K, hK⟩ : ∃ K, K = keepN f ps := ⟨_, rfl⟩
  rw [← hK] at hk HCR HIX
  obtain ⟨X, hX⟩ : ∃ X, X = crD f ps := ⟨_, rfl⟩
  rw [← hX] at HCR ⊢
  obtain ⟨p1, hp1⟩ : ∃ p1, p1 = ps.headD 0 := ⟨_, rfl⟩
  obtain ⟨p2, hp2⟩ : ∃ p2, p2 = ps.tail.headD 0 := ⟨_, rfl⟩
  rw [← hp1] at HN1 HIX hn1
  rw [← hp2] at HCR hn2
  have HP2 := Lib.hid hp2
  have HCC := Lib.hid hC
  have HTT := Lib.hid hT
  clear h hP hnum hK hX hp1 hp2 hC hT
  unfold I64 at hn1 hn2
  go_enter Try.func49, Try.ntmps49
  go_wp2_with fail
  refine HN1.out.mono ?_
  rintro e w1 ⟨rfl, hq1, ht1⟩
  have F1 := Lib.hid (HF.out.tr ht1 (fun k _ hk e => HCC.out.1 (e ▸ hk)))
  have Q1 := Lib.hid hq1
  have T1 : Hid (Tr (fun k => S k ∨ k = C) w w1) := Lib.hid (ht1.mono fun k hk => .inr hk)
  have L1 := Lib.hid (loose_any F1.out hB)
  clear hq1 ht1 HN1 HF
  go_wp2_with fail
  refine L1.out.mono ?_
  rintro e w2 ⟨rfl, hb2⟩
  have F2 := Lib.hid (F1.out.below hb2)
  have Q2 := Lib.hid (Q1.out.tr (Tr.of_below (S := fun _ => False) hb2) (fun h => h) (fun _ _ _ h => h))
  have T2 := Lib.hid (T1.out.then (Tr.of_below hb2))
  clear hb2 F1 Q1 T1 L1
  obtain ⟨q, hq⟩ : ∃ q, q = f.data.length - f.dur := ⟨_, rfl⟩
  rw [← hq] at HIX ⊢
  have hqB : q ≤ 1000000000 := by omega
  have hI := index_any p1 hn1 (q + 1) (by omega) (by omega) w2
  rw [← HIX.out, show (((q + 1 : Nat)) : Int) = (q : Int) + 1 from rfl] at hI
  have HI := Lib.hid hI
  clear hI hq hn1
  go_wp2_with fail
  refine HI.out.mono ?_
  rintro e w3 ⟨rfl, rfl⟩
  have HN2 := Lib.hid (next_any Q2.out)
  rw [← HP2.out] at HN2
  clear HI HIX
  go_wp2_with fail
  refine HN2.out.mono ?_
  rintro e w4 ⟨rfl, hq4, ht4⟩
  have F4 := Lib.hid (F2.out.tr ht4 (fun k _ hk e => HCC.out.1 (e ▸ hk)))
  have Q4 := Lib.hid hq4
  have T4 : Hid (Tr (fun k => S k ∨ k = C) w w4) := Lib.hid (T2.out.then (ht4.mono fun k hk => .inr hk))
  clear hq4 ht4 HN2 F2 Q2 T2
  have c1 := F4.out.blk.cell1
  have L4 := Lib.hid (cut_any F4.out hB (f.dur + K) hk)
  rw [show ((f.dur + K : Nat) : Int) = (f.dur : Int) + (K : Int) from Int.natCast_add _ _, show min f.dur (f.dur + K) = f.dur by omega] at L4
  have hd : f.dur ≤ 1000000000 := by omega
  have hKB : K ≤ 1000000000 := by omega
  have ho : odd p2 = (p2.tmod 2 != 0) := rfl
  have HO := Lib.hid ho
  clear ho
  go_wp2_with fail
  refine L4.out.mono ?_
  rintro e w5 ⟨⟨u5, rfl⟩, ⟨v5, hf5⟩, ht5⟩
  have T5 : Hid (Tr (fun k => S k ∨ k = C) w w5) := Lib.hid (T4.out.then (ht5.mono fun k hk => .inl hk))
  have Q5 := Lib.hid (Q4.out.tr ht5 HCC.out.1 (fun g _ ht => (HTT.out g ht).1))
  have hlen : (f.data.take (f.dur + K)).length = f.dur + K := by rw [List.length_take]; omega
  have hsz4 := T4.out.size
  have F5 := Lib.hid (hf5.mono (S' := andNew S w.heap.size) fun k hk => hk.imp id fun e => Nat.le_trans hsz4 e)
  obtain ⟨Y, hY⟩ : ∃ Y, Y = f.data.take (f.dur + K) := ⟨_, rfl⟩
  rw [← hY] at F5 HCR hlen
  clear hf5 ht5 c1 L4 F4 Q4 T4 hsz4 hY HP
  have c0 := F5.out.blk.cell0
  have c1 := F5.out.blk.cell1
  have f0 := F5.out.blk.frozen0
  have f1 := F5.out.blk.frozen1
  have HB5 := Lib.hid F5.out.blk
  have HOWN := Lib.hid F5.out.own
  have HC5 : Hid (w.heap.size ≤ w5.heap.size) := Lib.hid T5.out.size
  by_cases hc : 0 < K ∧ odd p2 = true
  · obtain ⟨hK0, hod⟩ := hc
    have hX : X = flip Y := by rw [HCR.out, if_pos (by simp [hK0, hod])]
    obtain ⟨n, hn⟩ : ∃ n, Y.length = n + 1 := ⟨Y.length - 1, by omega⟩
    have hrow := F5.out.row
    obtain ⟨a, cap, rfl, hcap, hcm⟩ := hrow.shape
    obtain ⟨g, k, rfl, _, hcell⟩ := hrow.cells (by intro e; rw [e] at hn; cases hn)
    obtain ⟨x, hx⟩ : ∃ x, Y[n]? = some x := ⟨_, List.getElem?_eq_getElem (by omega)⟩
    have cx := hcell n x hx
    have hfz : w5.frozen? ⟨g, k + n, none⟩ = false := by
      rcases hrow with ⟨e, _⟩ | ⟨g', k', cap', cur, e, hg, _⟩
      · cases e
      · cases e; simp [World.frozen?, hg]
    have hgb : g ≠ b := fun e => hrow.not_blk F5.out.blk (by decide) (by rw [e]; rfl)
    have hbx : bits .xor .u8 (x.toNat : Int) 255 = ((x ^^^ 255 : UInt8).toNat : Int) := by
      rw [show (255 : Int) = ((255 : Nat) : Int) from rfl, u8_xor_nat _ _ (UInt8.toNat_lt _) (by decide)]
      rfl
    have hr2 : Row (w5.setCell ⟨g, k + n, none⟩ (.int .u8 ((x ^^^ 255 : UInt8).toNat : Int))) (.slice (some ⟨g, k, none⟩) Y.length cap) (flip Y) := by
      have := hrow.flip (x := x) (by rw [hn]; exact hx) (by omega)
      rw [hn] at this
      rw [hn]
      exact this
    rw [← hX, hn] at hr2
    have hXl : X.length = n + 1 := by rw [hX, flip_length, hn]
    have hod2 : (p2.tmod 2 != 0) = true := by rw [← HO.out]; exact hod
    have hg5 : w5.heap[g]? ≠ none := by have := w5.block_lt_of_cell? _ cx; simp; exact this
    have hSg : andNew S w.heap.size g := F5.out.rowS g rfl
    rw [hn] at c0
    have q1 : (0 : Int) < (K : Int) := by omega
    have hnB : n ≤ 1000000000 := by omega
    have q2 : (n : Int) < (n : Int) + 1 := by omega
    have x1 : IntKind.i64.wrap (n : Int) = (n : Int) := by simp [IntKind.wrap, IntKind.bits, IntKind.signed]; omega
    rw [show (x ^^^ 255 : UInt8).toNat = x.toNat ^^^ 255 from UInt8.toNat_xor _ _] at hr2 hbx
    have HR2 := Lib.hid hr2
    have HXL := Lib.hid hXl
    have HYL := Lib.hid hn
    have HSG := Lib.hid hSg
    clear hrow hcell hx hr2 hX hg5 hod hn hlen HCR HO hcap hcm hXl hSg
    go_wp2_with fail
    go_upto_region 4 with fail
    go_still_tail 14, (by kernel_rfl)
    change wpList _ _ _ _ _ w5.drew
    have c0 : w5.drew.cell? ⟨b, 0, none⟩ = some (.slice (some ⟨g, k, none⟩) (n + 1) cap) := c0
    have cx : w5.drew.cell? ⟨g, k + n, none⟩ = some (.int .u8 (x.toNat : Int)) := cx
    go_wp2
    go_end0
    have hk6 : Blk 85 (w5.setCell ⟨g, k + n, none⟩ (.int .u8 ((x.toNat ^^^ 255 : Nat) : Int))) b (.slice (some ⟨g, k, none⟩) (n + 1) cap) (.int .i64 (f.dur : Int)) := by
      have := HB5.out.tr (S := fun k => k = g) ((Tr.refl (fun k => k = g) w5).setCell (i := k + n) (.inl rfl) (.int .u8 ((x.toNat ^^^ 255 : Nat) : Int))) (fun e => hgb e.symm)
      rw [HYL.out] at this
      exact this
    have hk7 := hk6.set1 (.int .i64 ((n : Int) + 1))
    have hsw := HC5.out
    have far : ∀ j, (¬ S j ∧ j < w.heap.size) → ¬ (j = g ∨ j = b) := fun j hj e => by
      rcases e with rfl | rfl
      · exact HSG.out.elim hj.1 (fun e => by have := hj.2; omega)
      · exact HOWN.out.elim hj.1 (fun e => by have := hj.2; omega)
    refine ⟨⟨_, rfl⟩, ⟨_, ?_, (HR2.out.tr (S := fun k => k = b) ((Tr.refl (fun k => k = b) _).setCell (.inl rfl) _) (fun j hj e => hgb (by simp [Value.ownBlock] at hj; rw [hj, e]))).tr (S := fun _ => False) (Tr.refl _ _).drew (fun _ _ h => h), fun j hj => by simp [Value.ownBlock] at hj; rw [← hj]; exact HSG.out, HOWN.out, Nat.le_refl _⟩, Q5.out.tr (S := fun k => k = g ∨ k = b) (((Tr.refl (fun k => k = g ∨ k = b) w5).setCell (.inl (.inl rfl)) _).setCell (.inl (.inr rfl)) _).drew (far C HCC.out) (fun j _ ht => far j (HTT.out j ht)), ((T5.out.setCell (HSG.out.imp .inl id) _).setCell (HOWN.out.imp .inl id) _).drew⟩
    rw [HXL.out]
    exact hk7
  · have hX : X = Y := by rw [HCR.out, if_neg (by simpa using hc)]
    subst hX
    obtain ⟨a, cap, rfl, _, _⟩ := F5.out.row.shape
    have hne := F5.out.row.not_blk F5.out.blk (by decide)
    have HNE := Lib.hid hne
    obtain ⟨n, hn⟩ : ∃ n, n = X.length := ⟨_, rfl⟩
    have HXL := Lib.hid hn
    rw [← hn] at c0
    have HQ : Hid (Blk 85 (w5.setCell ⟨b, 1, none⟩ (.int .i64 (n : Int))) b (.slice a X.length cap) (.int .i64 (n : Int))) := Lib.hid (HB5.out.set1 _)
    have hfin : (∃ v, Ending.returned (Value.tuple #[]) = Ending.returned v) ∧ Fd (andNew S w.heap.size) b X n (w5.setCell ⟨b, 1, none⟩ (.int .i64 (n : Int))) ∧ Pk T C ps.tail.tail (w5.setCell ⟨b, 1, none⟩ (.int .i64 (n : Int))) ∧ Tr (fun k => S k ∨ k = C) w (w5.setCell ⟨b, 1, none⟩ (.int .i64 (n : Int))) := by
      have hsw := HC5.out
      have far : ∀ j, (¬ S j ∧ j < w.heap.size) → j ≠ b := fun j hj e => by
        subst e
        exact HOWN.out.elim hj.1 (fun e => by have := hj.2; omega)
      have h1 := (Tr.refl (fun k => k = b) w5).setCell (b := b) (i := 1) (.inl rfl) (.int .i64 (n : Int))
      exact ⟨⟨_, rfl⟩, ⟨_, HQ.out, F5.out.row.tr h1 (fun j hj e => HNE.out (by rw [hj, e])), F5.out.rowS, HOWN.out, Nat.le_of_eq HXL.out⟩, Q5.out.tr h1 (far C HCC.out) (fun j _ ht => far j (HTT.out j ht)), T5.out.setCell (HOWN.out.imp .inl id) _⟩
    have HFIN := Lib.hid hfin
    clear hfin hne hlen HCR hn
    by_cases hK0 : 0 < K
    · have hod : (p2.tmod 2 != 0) = false := by
        rw [← HO.out]
        cases h : odd p2
        · rfl
        · exact absurd ⟨hK0, h⟩ hc
      have q1 : (0 : Int) < (K : Int) := by omega
      clear HO hc
      go_wp2
      go_end0
      rw [← HXL.out]
      exact HFIN.out
    · have q1 : decide ((0 : Int) < (K : Int)) = false := by simp; omega
      clear HO hc
      go_wp2
      go_end0
      rw [← HXL.out]
      exact HFIN.out
end Go.Proofs.Ytpiiknbjllgaoaa

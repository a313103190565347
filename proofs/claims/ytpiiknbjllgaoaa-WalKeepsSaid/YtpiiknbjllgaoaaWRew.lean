/-
  What a log's Rewrite leaves and answers.
-/
import Derived.Test.YtpiiknbjllgaoaaWTurn
namespace Go.Proofs.Ytpiiknbjllgaoaa
open Go.RowKit
section
variable {S : Nat → Prop} {b B : Nat} {x : Ld} {c f z : Nat} {w : World} {v : Value} {L : List Bs}
theorem fin_cell {w7 w8 : World} {D B : Nat} {v u : Value} (h : w8.cell? ⟨D, 0, none⟩ = w7.cell? ⟨D, 0, none⟩) (h2 : w7.cell? ⟨D, 0, none⟩ = some v) (hD : D ≠ B) : w8.cell? ⟨D, 0, none⟩ = some v ∧ (w8.setCell ⟨B, 0, none⟩ u).cell? ⟨D, 0, none⟩ = some v := by
  have h3 := h.trans h2
  exact ⟨h3, (World.cell?_setCell_other _ _ _ _ (fun e => hD (congrArg Addr.block e).symm)).trans h3⟩
theorem rew_chg (h : PD S b x.dk w) (hS : ∀ k, S k → k < w.heap.size) (hw : WB B (ptr b) c f z w) (hB : ¬ S B) (R : Bs) (hR : R.length ≤ 1000000) (ok : x.Okn 4 R.length) {w7 : World} (hb : Below w.heap.size w w7) (g A B1 B2 B3 C1 C2 D : Nat)
    (hg : w.heap.size ≤ g) (hA : w.heap.size ≤ A) (hB1 : w.heap.size ≤ B1) (hB2 : w.heap.size ≤ B2) (hB3 : w.heap.size ≤ B3) (hC1 : w.heap.size ≤ C1) (hC2 : w.heap.size ≤ C2) (hD : w.heap.size ≤ D)
    (cA : w7.cell? ⟨A, 0, none⟩ = some (ptr b)) (cB1 : w7.cell? ⟨B1, 0, none⟩ = some (ptr b)) (cB2 : w7.cell? ⟨B2, 0, none⟩ = some (.string (nmOf true))) (cB3 : w7.cell? ⟨B3, 0, none⟩ = some (str R))
    (cC1 : w7.cell? ⟨C1, 0, none⟩ = some (ptr b)) (cC2 : w7.cell? ⟨C2, 0, none⟩ = some (.string (nmOf true))) (cD : w7.cell? ⟨D, 0, none⟩ = some (ptr b))
    (g0 : w7.cell? ⟨g, 0, none⟩ = some (Tst.val ⟨63, #[], #[ptr A]⟩)) (g1 : w7.cell? ⟨g, 1, none⟩ = some (Tst.val ⟨68, #[], #[ptr B1, ptr B2, ptr B3]⟩)) (g2 : w7.cell? ⟨g, 2, none⟩ = some (Tst.val ⟨65, #[], #[ptr C1, ptr C2]⟩)) (g3 : w7.cell? ⟨g, 3, none⟩ = some (Tst.val ⟨44, #[], #[ptr D]⟩)) :
    Calls Try.prog 43 #[ptr B, .slice (some ⟨g, 0, none⟩) 4 4] w7 fun e w' => e = .returned (.int .i64 (rwE x R)) ∧ ∃ w5, (Lft S b (rwX x R).dk w w5 ∧ WB B (ptr b) c f z w5 ∧ Tr S w7 w5) ∧ w' = if brkE (rwE x R) then w5.setCell ⟨B, 0, none⟩ nop else w5 := by
  have nS : ∀ {k : Nat}, w.heap.size ≤ k → ¬ S k := fun hk hs => by have := hS _ hs; omega
  have hturn := turn4 (h.below hb) R hR ok g A B1 B2 B3 C1 C2 D (nS hg) (nS hA) (nS hB1) (nS hB2) (nS hB3) (nS hC1) (nS hC2) (nS hD) cA cB1 cB2 cB3 cC1 cC2 cD g0 g1 g2 g3
  have hchg := change_any (B := B) (b := b) (c := c) (f := f) (z := z) _ _ hturn (fun w5 hl => (hw.below hb).tr hl.2 hB)
  refine hchg.mono ?_
  rintro e w6 ⟨rfl, w5, hl5, rfl⟩
  exact ⟨rfl, w5, ⟨hl5.behind hb, (hw.below hb).tr hl5.2 hB, hl5.2⟩, rfl⟩
set_option maxRecDepth 100000 in
set_option maxHeartbeats 6400000 in
theorem rewrite_bro (hw : WB B nop c f z w) (hv : ∃ a n cap, v = .slice a n cap) : Calls Try.prog 21 #[ptr B, v] w fun e w' => e = .returned (.int .i64 13) ∧ Below w.heap.size w w' := by
  have HR := Lib.hid (ready_any hw (.inl rfl))
  obtain ⟨a, n, cap, rfl⟩ := hv
  clear hw
  go_enter Try.func21, Try.ntmps21
  go_wp2_with fail
  refine HR.out.mono ?_
  rintro e w1 ⟨rfl, hb⟩
  have HB := Lib.hid hb
  clear hb
  simp only [brk]
  go_wp2
  go_ret
  exact ⟨rfl, HB.out⟩
set_option maxRecDepth 100000 in
set_option maxHeartbeats 6400000 in
theorem rewrite_none (hv : ∃ a n cap, v = .slice a n cap) : Calls Try.prog 21 #[nop, v] w fun e w' => e = .returned (.int .i64 1) ∧ w = w' := by
  obtain ⟨a, n, cap, rfl⟩ := hv
  go_enter Try.func21, Try.ntmps21
  go_wp2_with fail
  refine (ready_none _).mono ?_
  rintro e w1 ⟨rfl, rfl⟩
  go_wp2
  go_ret
  exact ⟨rfl, rfl⟩
set_option maxRecDepth 100000 in
set_option maxHeartbeats 12800000 in
theorem rewrite_log (h : PD S b x.dk w) (hS : ∀ k, S k → k < w.heap.size) (hw : WB B (ptr b) c f z w) (hB : ¬ S B) (ok : x.Okn 4 (rcsB L).length) (hv : RdB w v L) (hf : Fit L) (hl : L.length ≤ 16) (hr : (rcsB L).length ≤ 1000000) :
    Calls Try.prog 21 #[ptr B, v] w fun e w' => e = .returned (.int .i64 (rwE x (rcsB L))) ∧ Chg S b B (rwX x (rcsB L)) (dvE b (rwE x (rcsB L))) (if rwE x (rcsB L) = 0 then L.length else c) (if rwE x (rcsB L) = 0 then L.length else f) (if rwE x (rcsB L) = 0 then (rcsB L).length else z) w w' := by
  have hmf : ∀ (fn : Fn) (first cap : Array Value) (w : World), (Instr.makeFunc fn first cap).run Try.prog w = .ok (.func fn first cap) w := fun _ _ _ _ => rfl
  have HRD := Lib.hid (ready_any hw (.inr ⟨b, rfl⟩))
  have HALL := Lib.hid (fun w' (hb : Below w.heap.size w w') => all_any (hv.below hb) (by omega) (fun s hs => by have := hf s hs; omega))
  rw [(all_fit hf).1, (all_fit hf).2] at HALL
  obtain ⟨a, cap, rfl, _, _⟩ := hv
  rw [ab_length] at HALL ⊢
  have HW := Lib.hid hw
  have HP := Lib.hid h
  have HSS := Lib.hid hS
  have HSB := Lib.hid hB
  have OK := Lib.hid ok
  obtain ⟨R, hR⟩ : ∃ R, R = rcsB L := ⟨_, rfl⟩
  rw [← hR] at HALL OK hr ⊢
  obtain ⟨E, hE⟩ : ∃ E, E = rwE x R := ⟨_, rfl⟩
  have HE := Lib.hid hE
  rw [← hE]
  obtain ⟨X, hX⟩ : ∃ X, X = rwX x R := ⟨_, rfl⟩
  have HX := Lib.hid hX
  rw [← hX]
  have hRs : (⟨R.toArray⟩ : ByteArray).size = R.length := ba_size R
  obtain ⟨n, hn⟩ : ∃ n, n = L.length := ⟨_, rfl⟩
  rw [← hn] at hl HALL ⊢
  have HNM : Hid (nmOf true = ⟨#[119, 97, 108, 46, 110, 101, 119]⟩) := Lib.hid rfl
  clear hw h hS hB hf ok hE hX hR hn
  go_enter Try.func21, Try.ntmps21
  go_wp2_with fail
  refine HRD.out.mono ?_
  rintro e w1 ⟨rfl, hb1⟩
  have HB1 := Lib.hid hb1
  clear hb1
  simp only [brk]
  go_wp2_with fail
  refine (HALL.out w1 HB1.out).mono ?_
  rintro e w2 ⟨rfl, hb2⟩
  have HB2 := Lib.hid (HB1.out.trans (hb2.mono HB1.out.size))
  clear hb2
  have c0 : w2.cell? ⟨B, 0, none⟩ = some (ptr b) := (HW.out.below HB2.out).cell 0 _ rfl
  go_upto_region 1 with fail
  obtain ⟨w3, hw3⟩ : ∃ w3, w3 = w2.alloc (.cells #[ptr b] 34) := ⟨_, rfl⟩
  have HB3 : Hid (Below w.heap.size w w3) := Lib.hid (by rw [hw3]; exact HB2.out.alloc HB2.out.size _)
  have d0 : w3.cell? ⟨w2.heap.size, 0, none⟩ = some (ptr b) := by rw [hw3]; simp
  have hD3 : w2.heap.size < w3.heap.size := by rw [hw3]; simp
  change Code.wp _ _ _ _ (w2.alloc (.cells #[ptr b] 34))
  rw [← hw3]
  have hD2 : w.heap.size ≤ w2.heap.size := HB2.out.size
  obtain ⟨D, hD⟩ : ∃ D, D = w2.heap.size := ⟨_, rfl⟩
  rw [← hD] at d0 hD3 hD2 ⊢
  have HK := Lib.hid (fun w' (hb : Below w3.heap.size w3 w') => (hb.cell (p := ⟨D, 0, none⟩) hD3).trans d0)
  have H0 : Hid (Below w3.heap.size w3 w3.drew) := Lib.hid (Below.refl _ w3).drew
  clear hw3 hD c0
  have hDB : D ≠ B := by have := HW.out.lt; omega
  have HDB := Lib.hid hDB
  clear hDB
  cases hbk : brkE E
  all_goals
    have HBK := Lib.hid hbk
    clear hbk
    go_region_held3 (fun w' => w'.cell? ⟨D, 0, none⟩ = some (ptr b))
      (first | with_reducible exact HD9.out | with_reducible exact HK.out _ HB7.out | with_reducible exact HK.out _ HB6.out | with_reducible exact HK.out _ HB5.out | with_reducible exact HK.out _ HB4.out | with_reducible exact HK.out _ H0.out | fail)
      (first
        | (go_at_call 38; refine (dis_wk b _).mono ?_; rintro e w4 ⟨rfl, a0, az, hb4⟩; have HB4 : Hid (Below w3.heap.size w3 w4) := Lib.hid (H0.out.trans (hb4.mono H0.out.size)); have A0 := Lib.hid a0; clear a0 az hb4)
        | (go_at_call 46; refine (wri_wk b _ _ _).mono ?_; rintro e w5 ⟨rfl, b0, b1, b2, bz, hb5⟩; have HB5 : Hid (Below w3.heap.size w3 w5) := Lib.hid (HB4.out.trans (hb5.mono HB4.out.size)); have BB0 := Lib.hid b0; have BB1 := Lib.hid b1; have BB2 := Lib.hid b2; have AZ5 := Lib.hid ((hb5.cell (w4.block_lt_of_cell? _ A0.out)).trans A0.out); clear b0 b1 b2 bz hb5)
        | (go_at_call 40; refine (syn_wk b _ _).mono ?_; rintro e w6 ⟨rfl, e0, e1, ez, hb6⟩; have HB6 : Hid (Below w3.heap.size w3 w6) := Lib.hid (HB5.out.trans (hb6.mono HB5.out.size)); have EE0 := Lib.hid e0; have EE1 := Lib.hid e1
           have AZ6 := Lib.hid ((hb6.cell (w5.block_lt_of_cell? _ AZ5.out)).trans AZ5.out); have B06 := Lib.hid ((hb6.cell (w5.block_lt_of_cell? _ BB0.out)).trans BB0.out); have B16 := Lib.hid ((hb6.cell (w5.block_lt_of_cell? _ BB1.out)).trans BB1.out); have B26 := Lib.hid ((hb6.cell (w5.block_lt_of_cell? _ BB2.out)).trans BB2.out)
           have HB7 : Hid (Below w3.heap.size w3 (w6.alloc (.cells #[.func (.func 63) #[] #[ptr w3.heap.size], .func (.func 68) #[] #[ptr w4.heap.size, ptr (w4.heap.size + 1), ptr (w4.heap.size + 2)], .func (.func 65) #[] #[ptr w5.heap.size, ptr (w5.heap.size + 1)], .func (.func 44) #[] #[ptr D]] 44))) := Lib.hid (HB6.out.alloc HB6.out.size _)
           have A7 : Hid (∀ {p : Addr} {u : Value}, w6.cell? p = some u → (w6.alloc (.cells #[.func (.func 63) #[] #[ptr w3.heap.size], .func (.func 68) #[] #[ptr w4.heap.size, ptr (w4.heap.size + 1), ptr (w4.heap.size + 2)], .func (.func 65) #[] #[ptr w5.heap.size, ptr (w5.heap.size + 1)], .func (.func 44) #[] #[ptr D]] 44)).cell? p = some u) := Lib.hid (fun hp => (((Below.refl _ w6).alloc (Nat.le_refl _) _).cell (w6.block_lt_of_cell? _ hp)).trans hp)
           clear e0 e1 ez hb6)
        | (go_at_call 43
           have h3 := HB3.out.size
           have h4 := HB4.out.size
           have h5 := HB5.out.size
           have h6 := HB6.out.size
           refine (rew_chg HP.out HSS.out HW.out HSB.out R hr OK.out (HB3.out.trans (HB7.out.mono h3)) w6.heap.size w3.heap.size w4.heap.size (w4.heap.size + 1) (w4.heap.size + 2) w5.heap.size (w5.heap.size + 1) D (by omega) (by omega) (by omega) (by omega) (by omega) (by omega) (by omega) (by omega) (A7.out AZ6.out) (A7.out B06.out) (by rw [HNM.out]; exact A7.out B16.out) (A7.out B26.out) (A7.out EE0.out) (by rw [HNM.out]; exact A7.out EE1.out) (HK.out _ HB7.out) (by simp) (by simp) (by simp) (by simp)).mono ?_
           rw [← HE.out, ← HX.out, HBK.out]
           rintro e w9 ⟨rfl, w8, ⟨hl8, hw8, ht8⟩, hw9⟩
           have HL8 := Lib.hid hl8
           have HW8 := Lib.hid hw8
           have hd9 := fin_cell (ht8.cell (p := ⟨D, 0, none⟩) (by show D < _; simp; omega) (show ¬ S D from fun hs => by have := HSS.out _ hs; omega)) (HK.out _ HB7.out) HDB.out (u := nop)
           have HD9 : Hid (w9.cell? ⟨D, 0, none⟩ = some (ptr b)) := Lib.hid (by rw [hw9]; first | exact hd9.1 | exact hd9.2)
           have HW9 := Lib.hid hw9
           clear hw9 hd9
           clear h3 h4 h5 h6 hl8 hw8 ht8)
        | fail)
    have HT8 := Lib.hid (HL8.out.2.mono (S' := fun k => S k ∨ k = B) fun _ => .inl)
    have HFIN : Hid (∀ w' : World, Tr (fun k => k = B) w8 w' → PD (andNew S w.heap.size) b X.dk w') := Lib.hid (fun w' ht => HL8.out.1.tr ht (fun k _ hk e => by
      have e : k = B := e
      subst e
      rcases hk with hk | hk
      · exact HSB.out hk
      · have := HW.out.lt; omega))
    clear d0 hD2 hD3
  · obtain rfl : w9 = w8 := HW9.out
    by_cases h0 : E = 0
    · subst h0
      have c1 := HW8.out.cell 1 _ rfl
      have c2 := HW8.out.cell 2 _ rfl
      have c3 := HW8.out.cell 3 _ rfl
      have f1 := HW8.out.fz 1
      have f2 := HW8.out.fz 2
      have f3 := HW8.out.fz 3
      go_wp2
      go_ret
      have ht := (((Tr.refl (fun k => k = B) w9).setCell (b := B) (i := 1) (.inl rfl) (.int .i64 (n : Int))).setCell (b := B) (i := 2) (.inl rfl) (.int .i64 (n : Int))).setCell (b := B) (i := 3) (.inl rfl) (.int .i64 (R.length : Int))
      exact ⟨rfl, HFIN.out _ ht, ((HW8.out.set1 n).set2 n).set3 R.length, HT8.out.then (ht.mono fun _ => .inr)⟩
    · have q1 : (E == 0) = false := by simpa using h0
      have q2 : (E != 0) = true := by simpa using h0
      go_wp2
      go_ret
      refine ⟨rfl, HL8.out.1, ?_, HT8.out⟩
      unfold dvE
      rw [HBK.out]
      exact HW8.out
  · obtain rfl : w9 = w8.setCell ⟨B, 0, none⟩ nop := HW9.out
    have h0 : E ≠ 0 := fun e => by have := HBK.out; rw [e] at this; simp [brkE] at this
    have q1 : (E == 0) = false := by simpa using h0
    have q2 : (E != 0) = true := by simpa using h0
    go_wp2
    go_ret
    have ht := (Tr.refl (fun k => k = B) w8).setCell (b := B) (i := 0) (.inl rfl) nop
    refine ⟨rfl, HFIN.out _ ht, ?_, HT8.out.then (ht.mono fun _ => .inr)⟩
    unfold dvE
    rw [HBK.out]
    exact HW8.out.set0 _
end
end Go.Proofs.Ytpiiknbjllgaoaa

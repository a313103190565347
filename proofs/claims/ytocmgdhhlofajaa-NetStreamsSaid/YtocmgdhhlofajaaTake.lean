/-
  What pull, Take, Drop and Double of the program leave and answer.
-/
import Derived.Test.YtocmgdhhlofajaaPick
import Derived.Test.YtocmgdhhlofajaaLose
namespace Go.Proofs.Ytocmgdhhlofajaa
open Go.RowKit
set_option maxRecDepth 100000 in
set_option maxHeartbeats 8000000 in
theorem pull_any (L : List It) (p : Int) (hp : I64 p) (v : Value) (S : Nat → Prop) (b : Nat) (s : St) (w : World) (h : Pn S b s w) (hr : w.ownsRow 0 52 6 v L.length (cs ic L)) (hL : L.length ≤ 1000000) (hB : s.its.length ≤ 1000000) :
    Calls Try.prog 52 #[ptr b, v, .int .i64 p] w fun e w' => e = .returned (.tuple #[ia ((pick L p).getD zi), .bool (pick L p).isSome]) ∧ Pl S b (takeS s (pick L p)) w w' := by
  have H0 := Lib.hid h.now
  have hb0 : Below w.heap.size w (w.alloc (.cells (ic zi).toArray 52)) := (Below.refl _ w).alloc (Nat.le_refl _) _
  have hce0 := ce_new w (ic zi).toArray 52
  obtain ⟨w1, hw1⟩ : ∃ w1, w1 = w.alloc (.cells (ic zi).toArray 52) := ⟨_, rfl⟩
  rw [← hw1] at hb0 hce0
  have HB0 := Lib.hid hb0
  have HW1 := Lib.hid hw1
  have HP := Lib.hid (picked_any L p hp 0 v w1 (own_tr hr (Tr.of_below (S := fun _ => False) hb0) (fun _ _ h => h)) hL)
  have HE0 := Lib.hid hce0
  have hBI := Lib.hid hB
  generalize pick L p = o at *
  clear h hb0 hce0 hr hw1 hp hL hB
  cases o with
  | none =>
    go_enter Try.func52, Try.ntmps52
    go_upto_region 1 with fail
    rw [show w.alloc (.cells #[.int .i64 0, .int .i64 0, .int .i64 0, .int .i64 0, .int .i64 0, .string ⟨#[]⟩] 52) = w1 from HW1.out.symm]
    obtain ⟨B0, hB0⟩ : ∃ B0, B0 = w.heap.size := ⟨_, rfl⟩
    rw [← hB0] at HE0 ⊢
    have HBE := Lib.hid hB0
    clear hB0
    go_wp2_with fail
    refine HP.out.mono ?_
    rintro e w2 ⟨rfl, hb2⟩
    have HB2 := Lib.hid (HB0.out.trans (hb2.mono HB0.out.size))
    have HE2 := Lib.hid (HE0.out.below hb2 HE0.out.lt)
    have hal := Lib.hid ((Below.refl _ w2).alloc (Nat.le_refl _) (.cells (ic zi).toArray 52))
    obtain ⟨y0, y1, y2, y3, y4, y5⟩ := f6 HE2.out
    obtain ⟨z0, z1, z2, z3, z4, z5⟩ := c6 HE2.out
    have hBl := HE2.out.lt
    have hBn : B0 ≠ w2.heap.size := by omega
    clear hb2
    go_wp2
    refine bodyPost_ret (res6t rfl rfl ((set6_ce HE2.out).alloc _)) rfl ?_
    have hsb := set6_below HB2.out (Nat.le_of_eq HBE.out.symm) (.int .i64 0) (.int .i64 0) (.int .i64 0) (.int .i64 0) (.int .i64 0) (.string ⟨#[]⟩)
    exact ⟨rfl, (Lft.refl (H0.out.mono fun k hk => hk.1)).post (hsb.alloc hsb.size _)⟩
  | some x =>
    go_enter Try.func52, Try.ntmps52
    go_upto_region 1 with fail
    rw [show w.alloc (.cells #[.int .i64 0, .int .i64 0, .int .i64 0, .int .i64 0, .int .i64 0, .string ⟨#[]⟩] 52) = w1 from HW1.out.symm]
    obtain ⟨B0, hB0⟩ : ∃ B0, B0 = w.heap.size := ⟨_, rfl⟩
    rw [← hB0] at HE0 ⊢
    have HBE := Lib.hid hB0
    clear hB0
    go_wp2_with fail
    refine HP.out.mono ?_
    rintro e w2 ⟨rfl, hb2⟩
    have HB2 := Lib.hid (HB0.out.trans (hb2.mono HB0.out.size))
    have HE2 := Lib.hid (HE0.out.below hb2 HE0.out.lt)
    clear hb2
    go_upto_region 2 with fail
    obtain ⟨w3, hw3⟩ : ∃ w3, w3 = w2.alloc (.cells (ic x).toArray 52) := ⟨_, rfl⟩
    have hce3 := ce_new w2 (ic x).toArray 52
    have hb3 := HB2.out.alloc HB2.out.size (.cells (ic x).toArray 52)
    have he3 := HE2.out.alloc (.cells (ic x).toArray 52)
    rw [← hw3] at hce3 hb3 he3
    rw [show w2.alloc (.cells #[.int .i64 x.num, .int .i64 x.kind, .int .i64 x.frm, .int .i64 x.dst, .int .i64 x.conn, .string x.body] 52) = w3 from hw3.symm]
    have hszC := HB2.out.size
    obtain ⟨C, hC⟩ : ∃ C, C = w2.heap.size := ⟨_, rfl⟩
    rw [← hC] at hce3 hszC ⊢
    have HC3 := Lib.hid hce3
    have HB3 := Lib.hid hb3
    have HE3 := Lib.hid he3
    clear hw3 hC hce3 hb3 he3 HE2
    have R := remove_any 60 ent60 #[ptr C] (fun y => y.num == x.num) (fun k => S k ∧ k < w.heap.size) b s w3 (H0.out.below HB3.out) hBI.out (fun y w4 ht => num_any y x.num C w4 (by
      have := HC3.out.tr ht (fun h => by have := h.2; omega)
      rw [this.cell]; rfl))
    have HR := Lib.hid R
    clear R
    go_wp2_with fail
    refine HR.out.mono ?_
    rintro e w4 ⟨rfl, hl4⟩
    have HL4 := Lib.hid hl4
    have hc4 := HC3.out.tr hl4.2 (fun h => by have := h.2; omega)
    have he4 := HE3.out.tr hl4.2 (fun h => by have := h.2; have := HBE.out; omega)
    have HE4 := Lib.hid he4
    obtain ⟨c0, c1, c2, c3, c4, c5⟩ := c6 hc4
    obtain ⟨y0, y1, y2, y3, y4, y5⟩ := f6 he4
    obtain ⟨z0, z1, z2, z3, z4, z5⟩ := c6 he4
    clear hl4 hc4 he4
    go_wp2
    refine bodyPost_ret (res6t rfl rfl (set6_ce HE4.out)) rfl ?_
    refine ⟨rfl, ?_⟩
    have hsw := HB3.out.size
    have hpn := HL4.out.1.tr (S2 := (· = B0)) (w' := set6 w4 B0 (.int .i64 x.num) (.int .i64 x.kind) (.int .i64 x.frm) (.int .i64 x.dst) (.int .i64 x.conn) (.string x.body)) (set6_tr (Tr.refl _ _) (.inl rfl)) (fun k _ hk e => by
      have h1 := HE3.out.lt
      have h2 := HBE.out
      subst e
      rcases hk with hk | hk
      · have := hk.2; omega
      · omega)
    refine ⟨hpn.mono fun k hk => ?_, set6_tr ((HL4.out.mono fun k hk => hk.1).pre HB3.out).2 (.inr (Nat.le_of_eq HBE.out.symm))⟩
    rcases hk with hk | hk
    · exact .inl hk.1
    · exact .inr (by omega)
set_option maxRecDepth 100000 in
set_option maxHeartbeats 8000000 in
theorem take_any (p : Int) (hp : I64 p) (S : Nat → Prop) (b : Nat) (s : St) (w : World) (h : Pn S b s w) (hg : Good s) (hB : s.its.length ≤ 900000) (hO : s.opens ≤ 900000) :
    Calls Try.prog 25 #[ptr b, .int .i64 p] w fun e w' => e = .returned (.tuple #[ia ((pick (ready s) p).getD zi), .bool (pick (ready s) p).isSome]) ∧ Pl S b (takeS s (pick (ready s) p)) w w' := by
  have H0 := Lib.hid h.now
  have hlr : (ready s).length ≤ s.its.length := cho_len free [] s.its
  have hb0 : Below w.heap.size w (w.alloc (.cells (ic zi).toArray 52)) := (Below.refl _ w).alloc (Nat.le_refl _) _
  have hce0 := ce_new w (ic zi).toArray 52
  obtain ⟨w1, hw1⟩ : ∃ w1, w1 = w.alloc (.cells (ic zi).toArray 52) := ⟨_, rfl⟩
  rw [← hw1] at hb0 hce0
  have HB0 := Lib.hid hb0
  have HW1 := Lib.hid hw1
  have HR := Lib.hid (ready_any S b s w1 (h.below hb0) hg hB hO)
  have HE0 := Lib.hid hce0
  have HBI := Lib.hid hB
  have HLR := Lib.hid hlr
  have HPI := Lib.hid hp
  clear h hb0 hce0 hw1 hp hB hO hg hlr
  go_enter Try.func25, Try.ntmps25
  go_upto_region 1 with fail
  rw [show w.alloc (.cells #[.int .i64 0, .int .i64 0, .int .i64 0, .int .i64 0, .int .i64 0, .string ⟨#[]⟩] 52) = w1 from HW1.out.symm]
  obtain ⟨B0, hB0⟩ : ∃ B0, B0 = w.heap.size := ⟨_, rfl⟩
  rw [← hB0] at HE0 ⊢
  have HBE := Lib.hid hB0
  clear hB0
  go_wp2_with fail
  refine HR.out.mono ?_
  rintro e w2 ⟨⟨v, rfl, hown⟩, hb2⟩
  have HB2 := Lib.hid (HB0.out.trans (hb2.mono HB0.out.size))
  have HE2 := Lib.hid (HE0.out.below hb2 HE0.out.lt)
  have HP := Lib.hid (pull_any (ready s) p HPI.out v (fun k => S k ∧ k < w.heap.size) b s w2 (H0.out.below HB2.out) (own_mono hown (Nat.zero_le _)) (by have := HLR.out; have := HBI.out; omega) (by have := HBI.out; omega))
  clear hown hb2
  go_wp2_with fail
  refine HP.out.mono ?_
  rintro e w4 ⟨rfl, hl4⟩
  have HL4 := Lib.hid hl4
  have he4 := HE2.out.tr hl4.2 (fun h => by have := h.2; have := HBE.out; omega)
  have HE4 := Lib.hid he4
  have HE2l := Lib.hid HE2.out.lt
  obtain ⟨y0, y1, y2, y3, y4, y5⟩ := f6 he4
  obtain ⟨z0, z1, z2, z3, z4, z5⟩ := c6 he4
  obtain ⟨x, hx⟩ : ∃ x, x = (pick (ready s) p).getD zi := ⟨_, rfl⟩
  rw [← hx]
  have HX := Lib.hid hx
  clear hl4 he4 hx
  go_wp2
  refine bodyPost_ret (res6t rfl rfl (set6_ce HE4.out)) rfl ?_
  have hsw := HB2.out.size
  have hpn := HL4.out.1.tr (S2 := (· = B0)) (w' := set6 w4 B0 (.int .i64 x.num) (.int .i64 x.kind) (.int .i64 x.frm) (.int .i64 x.dst) (.int .i64 x.conn) (.string x.body)) (set6_tr (Tr.refl _ _) (.inl rfl)) (fun k _ hk e => by
    have h1 := HE2l.out
    have h2 := HBE.out
    subst e
    rcases hk with hk | hk
    · have := hk.2; omega
    · omega)
  refine ⟨by rw [← HX.out]; rfl, hpn.mono fun k hk => ?_, set6_tr ((HL4.out.mono fun k hk => hk.1).pre HB2.out).2 (.inr (Nat.le_of_eq HBE.out.symm))⟩
  rcases hk with hk | hk
  · exact .inl hk.1
  · exact .inr (by omega)
set_option maxRecDepth 100000 in
set_option maxHeartbeats 8000000 in
theorem drop_any (p : Int) (hp : I64 p) (S : Nat → Prop) (b : Nat) (s : St) (w : World) (h : Pn S b s w) (hB : s.its.length ≤ 900000) :
    Calls Try.prog 26 #[ptr b, .int .i64 p] w fun e w' => e = .returned (.bool (pick (dgs s) p).isSome) ∧ Pl S b (takeS s (pick (dgs s) p)) w w' := by
  have hlr : (dgs s).length ≤ s.its.length := List.length_filter_le _ _
  have HR := Lib.hid (dgs_any S b s w h hB)
  have HPK := Lib.hid (fun v w2 (hb : Below w.heap.size w w2) (hw : w2.ownsRow 0 52 6 v (dgs s).length (cs ic (dgs s))) => pull_any (dgs s) p hp v S b s w2 (h.below hb) hw (by omega) (by omega))
  generalize pick (dgs s) p = o at *
  obtain ⟨x, hx⟩ : ∃ x, x = o.getD zi := ⟨_, rfl⟩
  rw [← hx] at HPK
  clear h hp hB hlr hx
  go_enter Try.func26, Try.ntmps26
  go_wp2_with fail
  refine HR.out.mono ?_
  rintro e w2 ⟨⟨v, rfl, hown⟩, hb2⟩
  have HB2 := Lib.hid hb2
  have HP := Lib.hid (HPK.out v w2 hb2 (own_mono hown (Nat.zero_le _)))
  clear hown hb2
  go_wp2_with fail
  refine HP.out.mono ?_
  rintro e w4 ⟨rfl, hl4⟩
  have HL4 := Lib.hid (hl4.pre HB2.out)
  clear hl4
  go_wp2
  go_ret
  exact ⟨rfl, HL4.out.post ((Below.refl _ w4).alloc (Nat.le_refl _) _)⟩
set_option maxRecDepth 100000 in
set_option maxHeartbeats 8000000 in
theorem double_any (p : Int) (hp : I64 p) (S : Nat → Prop) (b : Nat) (s : St) (w : World) (h : Pn S b s w) (hB : s.its.length ≤ 900000) (hPt : s.puts ≤ 900000) :
    Calls Try.prog 24 #[ptr b, .int .i64 p] w fun e w' => e = .returned (.bool (dblB s p)) ∧ Pl S b (dblS s p) w w' := by
  have hlr : (dgs s).length ≤ s.its.length := List.length_filter_le _ _
  have H0 := Lib.hid h
  have HR := Lib.hid (dgs_any S b s w h hB)
  have HBI := Lib.hid hB
  have HPT := Lib.hid hPt
  have HLR := Lib.hid hlr
  have HPI := Lib.hid hp
  have HPK := Lib.hid (fun v w2 (h : w2.ownsRow 0 52 6 v (dgs s).length (cs ic (dgs s))) => picked_any (dgs s) p hp 0 v w2 h (by omega))
  unfold dblB dblS
  generalize pick (dgs s) p = o at *
  clear h hp hB hlr hPt
  cases o with
  | none =>
    go_enter Try.func24, Try.ntmps24
    go_wp2_with fail
    refine HR.out.mono ?_
    rintro e w2 ⟨⟨v, rfl, hown⟩, hb2⟩
    have HB2 := Lib.hid hb2
    have HP := Lib.hid (HPK.out v w2 (own_mono hown (Nat.zero_le _)))
    clear hown hb2
    go_wp2_with fail
    refine HP.out.mono ?_
    rintro e w4 ⟨rfl, hb4⟩
    have HB4 := Lib.hid (HB2.out.trans (hb4.mono HB2.out.size))
    clear hb4
    go_wp2
    go_ret
    exact ⟨rfl, (Lft.refl H0.out).post (HB4.out.alloc HB4.out.size _)⟩
  | some x =>
    cases hf : full s with
    | true =>
      go_enter Try.func24, Try.ntmps24
      go_wp2_with fail
      refine HR.out.mono ?_
      rintro e w2 ⟨⟨v, rfl, hown⟩, hb2⟩
      have HB2 := Lib.hid hb2
      have HP := Lib.hid (HPK.out v w2 (own_mono hown (Nat.zero_le _)))
      clear hown hb2
      go_wp2_with fail
      refine HP.out.mono ?_
      rintro e w4 ⟨rfl, hb4⟩
      have hb5 := HB2.out.trans (hb4.mono HB2.out.size)
      have HB5 := Lib.hid (hb5.alloc hb5.size (.cells (ic x).toArray 52))
      have F := full_any S b s (w4.alloc (.cells (ic x).toArray 52)) (H0.out.below HB5.out)
      rw [hf] at F
      have HF := Lib.hid F
      clear hb4 hb5 F
      go_wp2_with fail
      refine HF.out.mono ?_
      rintro e w5 ⟨rfl, rfl⟩
      go_wp2
      go_ret
      exact ⟨rfl, (Lft.refl H0.out).post HB5.out⟩
    | false =>
      go_enter Try.func24, Try.ntmps24
      go_wp2_with fail
      refine HR.out.mono ?_
      rintro e w2 ⟨⟨v, rfl, hown⟩, hb2⟩
      have HB2 := Lib.hid hb2
      have HP := Lib.hid (HPK.out v w2 (own_mono hown (Nat.zero_le _)))
      clear hown hb2
      go_wp2_with fail
      refine HP.out.mono ?_
      rintro e w4 ⟨rfl, hb4⟩
      have hb5 := HB2.out.trans (hb4.mono HB2.out.size)
      have HB5 := Lib.hid (hb5.alloc hb5.size (.cells (ic x).toArray 52))
      have F := full_any S b s (w4.alloc (.cells (ic x).toArray 52)) (H0.out.below HB5.out)
      rw [hf] at F
      have HF := Lib.hid F
      have HU := Lib.hid (put_any x S b s (w4.alloc (.cells (ic x).toArray 52)) (H0.out.below HB5.out) (by have := HBI.out; omega) (by have := HPT.out; omega))
      clear hb4 hb5 F
      go_wp2_with fail
      refine HF.out.mono ?_
      rintro e w5 ⟨rfl, rfl⟩
      go_wp2_with fail
      refine HU.out.mono ?_
      rintro e w6 ⟨⟨v6, rfl⟩, hl6⟩
      have HL6 := Lib.hid hl6
      clear hl6
      go_wp2
      go_ret
      exact ⟨rfl, HL6.out.pre HB5.out⟩
end Go.Proofs.Ytocmgdhhlofajaa

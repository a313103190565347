/-
  What the document's Take, Drop and Double leave and answer.
-/
import Derived.Test.YtocmgdhhlofajaaRReady
import Derived.Test.YtocmgdhhlofajaaLawFull
namespace Go.Proofs.Ytocmgdhhlofajaa
open Go.RowKit
/-- What is picked of a list that is not empty. -/
theorem pick_at {L : List It} (h : L ≠ []) (p : Int) : ∃ x, pick L p = some x ∧ L[pk p L.length]? = some x ∧ pk p L.length < L.length :=
  let ⟨x, hx, _⟩ := pick_some h p
  ⟨x, hx, hx, pk_lt (List.length_pos_iff.2 h)⟩
set_option maxRecDepth 100000 in
set_option maxHeartbeats 8000000 in
theorem rTake_any (p : Int) (hp : I64 p) (S : Nat → Prop) (b : Nat) (s : St) (w : World) (h : Rn S b s w) (hB : s.its.length ≤ 900000) :
    Calls Try.prog 31 #[ptr b, .int .i64 p] w fun e w' => e = .returned (.tuple #[ia ((pick (ready s) p).getD zi), .bool (pick (ready s) p).isSome]) ∧ Rl S b (takeS s (pick (ready s) p)) w w' := by
  have H0 := Lib.hid h.now
  have hlr : (ready s).length ≤ s.its.length := cho_len free [] s.its
  have hb0 : Below w.heap.size w (w.alloc (.cells (ic zi).toArray 52)) := (Below.refl _ w).alloc (Nat.le_refl _) _
  have hce0 := ce_new w (ic zi).toArray 52
  obtain ⟨w1, hw1⟩ : ∃ w1, w1 = w.alloc (.cells (ic zi).toArray 52) := ⟨_, rfl⟩
  rw [← hw1] at hb0 hce0
  have HB0 := Lib.hid hb0
  have HW1 := Lib.hid hw1
  have HR := Lib.hid (rready_any S b s w1 (h.below hb0) (by omega))
  have HE0 := Lib.hid hce0
  have HBI := Lib.hid hB
  have HPI := Lib.hid hp
  have hPK := fun h => pick_at (L := ready s) h p
  obtain ⟨L, hL⟩ : ∃ L, L = ready s := ⟨_, rfl⟩
  rw [← hL] at hlr HR hPK ⊢
  have hLb : L.length ≤ 900000 := by omega
  clear h hb0 hce0 hw1 hp hB hlr hL
  by_cases hnil : L = []
  · subst hnil
    rw [pick_nil]
    clear hPK
    go_enter Try.func31, Try.ntmps31
    go_upto_region 1 with fail
    rw [show w.alloc (.cells #[.int .i64 0, .int .i64 0, .int .i64 0, .int .i64 0, .int .i64 0, .string ⟨#[]⟩] 52) = w1 from HW1.out.symm]
    obtain ⟨B0, hB0⟩ : ∃ B0, B0 = w.heap.size := ⟨_, rfl⟩
    rw [← hB0] at HE0 ⊢
    have HBE := Lib.hid hB0
    clear hB0
    go_wp2_with fail
    refine HR.out.mono ?_
    rintro e w2 ⟨⟨v, rfl, hown⟩, hb2⟩
    obtain ⟨a2, c2, rfl⟩ := row_slice hown
    have HB2 := Lib.hid (HB0.out.trans (hb2.mono HB0.out.size))
    have HE2 := Lib.hid (HE0.out.below hb2 HE0.out.lt)
    obtain ⟨y0, y1, y2, y3, y4, y5⟩ := f6 HE2.out
    obtain ⟨z0, z1, z2, z3, z4, z5⟩ := c6 HE2.out
    clear hown hb2
    go_wp2
    refine bodyPost_ret (res6t rfl rfl (set6_ce HE2.out)) rfl ?_
    have hsb := set6_below HB2.out (Nat.le_of_eq HBE.out.symm) (.int .i64 0) (.int .i64 0) (.int .i64 0) (.int .i64 0) (.int .i64 0) (.string ⟨#[]⟩)
    exact ⟨rfl, (Lft.refl (H0.out.mono fun k hk => hk.1)).post hsb⟩
  · obtain ⟨x, hx, hxk, hkl⟩ := hPK hnil
    have hn0 : 0 < L.length := List.length_pos_iff.2 hnil
    rw [hx]
    have hnp := num_pick p HPI.out L.length hn0 (by omega)
    obtain ⟨k, hk⟩ : ∃ k, k = pk p L.length := ⟨_, rfl⟩
    rw [← hk] at hxk hkl hnp
    have HNP := Lib.hid hnp
    have HXK := Lib.hid hxk
    obtain ⟨n, hn⟩ : ∃ n, n = L.length := ⟨_, rfl⟩
    rw [← hn] at hn0 hkl HNP HR hLb
    have HN := Lib.hid hn
    clear hx hxk hk hnp hPK hnil hn
    have qn : ((n : Int) == 0) = false := by simp; omega
    have hnz : ¬ n = 0 := by omega
    go_enter Try.func31, Try.ntmps31
    go_upto_region 1 with fail
    rw [show w.alloc (.cells #[.int .i64 0, .int .i64 0, .int .i64 0, .int .i64 0, .int .i64 0, .string ⟨#[]⟩] 52) = w1 from HW1.out.symm]
    obtain ⟨B0, hB0⟩ : ∃ B0, B0 = w.heap.size := ⟨_, rfl⟩
    rw [← hB0] at HE0 ⊢
    have HBE := Lib.hid hB0
    clear hB0
    go_wp2_with fail
    refine HR.out.mono ?_
    rintro e w2 ⟨⟨v, rfl, hown⟩, hb2⟩
    obtain ⟨g, cap, hv, _, hgl, hcell⟩ := own_at (L := L) (by rw [← HN.out]; exact hown) (by rw [← HN.out]; exact hn0)
    rw [← HN.out] at hv
    subst hv
    have HB2 := Lib.hid (HB0.out.trans (hb2.mono HB0.out.size))
    have HE2 := Lib.hid (HE0.out.below hb2 HE0.out.lt)
    have d0 : w2.cell? ⟨g, k * 6, none⟩ = some (.int .i64 x.num) := hcell k x HXK.out 0 _ rfl
    have d1 : w2.cell? ⟨g, k * 6 + 1, none⟩ = some (.int .i64 x.kind) := hcell k x HXK.out 1 _ rfl
    have d2 : w2.cell? ⟨g, k * 6 + 2, none⟩ = some (.int .i64 x.frm) := hcell k x HXK.out 2 _ rfl
    have d3 : w2.cell? ⟨g, k * 6 + 3, none⟩ = some (.int .i64 x.dst) := hcell k x HXK.out 3 _ rfl
    have d4 : w2.cell? ⟨g, k * 6 + 4, none⟩ = some (.int .i64 x.conn) := hcell k x HXK.out 4 _ rfl
    have d5 : w2.cell? ⟨g, k * 6 + 5, none⟩ = some (.string x.body) := hcell k x HXK.out 5 _ rfl
    have hki : (k : Int) < (n : Int) := by omega
    clear hown hb2 hcell
    go_wp2_with fail
    refine (HNP.out w2).mono ?_
    rintro e w3 ⟨rfl, rfl⟩
    go_upto_region 5 with fail
    obtain ⟨w3, hw3⟩ : ∃ w3, w3 = w2.alloc (.cells (ic x).toArray 52) := ⟨_, rfl⟩
    have hce3 := ce_new w2 (ic x).toArray 52
    have hb3 := HB2.out.alloc HB2.out.size (.cells (ic x).toArray 52)
    have he3 := HE2.out.alloc (.cells (ic x).toArray 52)
    rw [← hw3] at hce3 hb3 he3
    rw [show w2.alloc (.cells #[.int .i64 x.num, .int .i64 x.kind, .int .i64 x.frm, .int .i64 x.dst, .int .i64 x.conn, .string x.body] 52) = w3 from hw3.symm]
    have hszC := HB2.out.size
    obtain ⟨C, hC⟩ : ∃ C, C = w2.heap.size := ⟨_, rfl⟩
    rw [← hC] at hce3 hszC ⊢
    have HC3 := Lib.hid hce3
    have HB3 := Lib.hid hb3
    have HE3 := Lib.hid he3
    obtain ⟨c0, c1, c2, c3, c4, c5⟩ := c6 hce3
    have HT := Lib.hid (rtake_any x (fun k => S k ∧ k < w.heap.size) b s w3 (H0.out.below HB3.out) (by have := HBI.out; omega))
    clear hw3 hC hce3 hb3 he3 HE2 d0 d1 d2 d3 d4 d5
    go_wp2_with fail
    refine HT.out.mono ?_
    rintro e w4 ⟨⟨v4, rfl⟩, hl4⟩
    have HL4 := Lib.hid hl4
    have hc4 := HC3.out.tr hl4.2 (fun h => by have := h.2; omega)
    have he4 := HE3.out.tr hl4.2 (fun h => by have := h.2; have := HBE.out; omega)
    have HE4 := Lib.hid he4
    clear c0 c1 c2 c3 c4 c5
    obtain ⟨c0, c1, c2, c3, c4, c5⟩ := c6 hc4
    obtain ⟨y0, y1, y2, y3, y4, y5⟩ := f6 he4
    obtain ⟨z0, z1, z2, z3, z4, z5⟩ := c6 he4
    clear hl4 hc4 he4
    go_wp2
    refine bodyPost_ret (res6t rfl rfl (set6_ce HE4.out)) rfl ?_
    refine ⟨rfl, ?_⟩
    have hsw := HB3.out.size
    have hpn := HL4.out.1.tr (S2 := (· = B0)) (w' := set6 w4 B0 (.int .i64 x.num) (.int .i64 x.kind) (.int .i64 x.frm) (.int .i64 x.dst) (.int .i64 x.conn) (.string x.body)) (set6_tr (Tr.refl _ _) (.inl rfl)) (fun k _ hk e => by
      have h1 := HE3.out.lt
      have h2 := HBE.out
      subst e
      rcases hk with hk | hk
      · have := hk.2; omega
      · omega)
    refine ⟨hpn.mono fun k hk => ?_, set6_tr ((HL4.out.mono fun k hk => hk.1).pre HB3.out).2 (.inr (Nat.le_of_eq HBE.out.symm))⟩
    rcases hk with hk | hk
    · exact .inl hk.1
    · exact .inr (by omega)
--DROP
set_option maxRecDepth 100000 in
set_option maxHeartbeats 8000000 in
theorem rDrop_any (p : Int) (hp : I64 p) (S : Nat → Prop) (b : Nat) (s : St) (w : World) (h : Rn S b s w) (hB : s.its.length ≤ 900000) :
    Calls Try.prog 32 #[ptr b, .int .i64 p] w fun e w' => e = .returned (.bool (pick (dgs s) p).isSome) ∧ Rl S b (takeS s (pick (dgs s) p)) w w' := by
  have H0 := Lib.hid h
  have hlr : (dgs s).length ≤ s.its.length := List.length_filter_le _ _
  have HR := Lib.hid (rdgs_any S b s w h (by omega))
  have HBI := Lib.hid hB
  have HPI := Lib.hid hp
  have hPK := fun h => pick_at (L := dgs s) h p
  obtain ⟨L, hL⟩ : ∃ L, L = dgs s := ⟨_, rfl⟩
  rw [← hL] at hlr HR hPK ⊢
  have hLb : L.length ≤ 900000 := by omega
  clear h hp hB hlr hL
  by_cases hnil : L = []
  · subst hnil
    rw [pick_nil]
    clear hPK
    go_enter Try.func32, Try.ntmps32
    go_wp2_with fail
    refine HR.out.mono ?_
    rintro e w2 ⟨⟨v, rfl, hown⟩, hb2⟩
    obtain ⟨a2, c2, rfl⟩ := row_slice hown
    have HB2 := Lib.hid hb2
    clear hown hb2
    go_wp2
    go_ret
    exact ⟨rfl, (Lft.refl H0.out).post HB2.out⟩
  · obtain ⟨x, hx, hxk, hkl⟩ := hPK hnil
    have hn0 : 0 < L.length := List.length_pos_iff.2 hnil
    rw [hx]
    have hnp := num_pick p HPI.out L.length hn0 (by omega)
    obtain ⟨k, hk⟩ : ∃ k, k = pk p L.length := ⟨_, rfl⟩
    rw [← hk] at hxk hkl hnp
    have HNP := Lib.hid hnp
    have HXK := Lib.hid hxk
    obtain ⟨n, hn⟩ : ∃ n, n = L.length := ⟨_, rfl⟩
    rw [← hn] at hn0 hkl HNP HR hLb
    have HN := Lib.hid hn
    clear hx hxk hk hnp hPK hnil hn
    have qn : ((n : Int) == 0) = false := by simp; omega
    have hnz : ¬ n = 0 := by omega
    go_enter Try.func32, Try.ntmps32
    go_wp2_with fail
    refine HR.out.mono ?_
    rintro e w2 ⟨⟨v, rfl, hown⟩, hb2⟩
    obtain ⟨g, cap, hv, _, hgl, hcell⟩ := own_at (L := L) (by rw [← HN.out]; exact hown) (by rw [← HN.out]; exact hn0)
    rw [← HN.out] at hv
    subst hv
    have HB2 := Lib.hid hb2
    have d0 : w2.cell? ⟨g, k * 6, none⟩ = some (.int .i64 x.num) := hcell k x HXK.out 0 _ rfl
    have d1 : w2.cell? ⟨g, k * 6 + 1, none⟩ = some (.int .i64 x.kind) := hcell k x HXK.out 1 _ rfl
    have d2 : w2.cell? ⟨g, k * 6 + 2, none⟩ = some (.int .i64 x.frm) := hcell k x HXK.out 2 _ rfl
    have d3 : w2.cell? ⟨g, k * 6 + 3, none⟩ = some (.int .i64 x.dst) := hcell k x HXK.out 3 _ rfl
    have d4 : w2.cell? ⟨g, k * 6 + 4, none⟩ = some (.int .i64 x.conn) := hcell k x HXK.out 4 _ rfl
    have d5 : w2.cell? ⟨g, k * 6 + 5, none⟩ = some (.string x.body) := hcell k x HXK.out 5 _ rfl
    have hki : (k : Int) < (n : Int) := by omega
    clear hown hb2 hcell
    go_wp2_with fail
    refine (HNP.out w2).mono ?_
    rintro e w3 ⟨rfl, rfl⟩
    have HT := Lib.hid (rtake_any x S b s w2 (H0.out.below HB2.out) (by have := HBI.out; omega))
    go_wp2_with fail
    refine HT.out.mono ?_
    rintro e w4 ⟨⟨v4, rfl⟩, hl4⟩
    have HL4 := Lib.hid (hl4.pre HB2.out)
    clear hl4 d0 d1 d2 d3 d4 d5
    go_wp2
    go_ret
    exact ⟨rfl, HL4.out⟩
set_option maxRecDepth 100000 in
set_option maxHeartbeats 8000000 in
theorem rDouble_any (p : Int) (hp : I64 p) (S : Nat → Prop) (b : Nat) (s : St) (w : World) (h : Rn S b s w) (hB : s.its.length ≤ 900000) (hPt : s.puts ≤ 900000) :
    Calls Try.prog 33 #[ptr b, .int .i64 p] w fun e w' => e = .returned (.bool (dblB s p)) ∧ Rl S b (dblS s p) w w' := by
  have H0 := Lib.hid h
  have HC0 := Lib.hid (show ∃ a c, w.cell? ⟨b, 0, none⟩ = some (.slice a s.its.length c) from by
    obtain ⟨vi, vl, hp⟩ := h
    obtain ⟨a, c, e, _⟩ := hp.ri.shape
    exact ⟨a, c, by rw [← e]; exact hp.c0⟩)
  have hbl := h.lt
  have HPT := Lib.hid hPt
  unfold dblB dblS
  have hfl : full s = decide ((1024 : Int) ≤ (s.its.length : Int)) := by unfold full; congr 1; simp only [eq_iff_iff]; omega
  obtain ⟨mi, hmi⟩ : ∃ mi, mi = s.its.length := ⟨_, rfl⟩
  rw [← hmi] at HC0 hfl
  have HFL := Lib.hid hfl
  clear hfl hPt
  have hlr : (dgs s).length ≤ s.its.length := List.length_filter_le _ _
  have HR := Lib.hid (rdgs_any S b s w h (by omega))
  have HBI := Lib.hid hB
  have HPI := Lib.hid hp
  have hPK := fun h => pick_at (L := dgs s) h p
  obtain ⟨L, hL⟩ : ∃ L, L = dgs s := ⟨_, rfl⟩
  rw [← hL] at hlr HR hPK ⊢
  have hLb : L.length ≤ 900000 := by omega
  clear h hp hB hlr hL hmi
  by_cases hnil : L = []
  · subst hnil
    rw [pick_nil]
    clear hPK
    go_enter Try.func33, Try.ntmps33
    go_wp2_with fail
    refine HR.out.mono ?_
    rintro e w2 ⟨⟨v, rfl, hown⟩, hb2⟩
    obtain ⟨a2, c2, rfl⟩ := row_slice hown
    have HB2 := Lib.hid hb2
    clear hown hb2
    go_wp2
    go_ret
    exact ⟨rfl, (Lft.refl H0.out).post HB2.out⟩
  · obtain ⟨x, hx, hxk, hkl⟩ := hPK hnil
    have hn0 : 0 < L.length := List.length_pos_iff.2 hnil
    rw [hx]
    have hnp := num_pick p HPI.out L.length hn0 (by omega)
    obtain ⟨k, hk⟩ : ∃ k, k = pk p L.length := ⟨_, rfl⟩
    rw [← hk] at hxk hkl hnp
    have HNP := Lib.hid hnp
    have HXK := Lib.hid hxk
    obtain ⟨n, hn⟩ : ∃ n, n = L.length := ⟨_, rfl⟩
    rw [← hn] at hn0 hkl HNP HR hLb
    have HN := Lib.hid hn
    clear hx hxk hk hnp hPK hnil hn
    by_cases g : (1024 : Int) ≤ (mi : Int)
    · have hq : full s = true := by rw [HFL.out]; simpa using g
      have q : decide ((1024 : Int) ≤ (mi : Int)) = true := by simpa using g
      rw [hq]
      clear hq
      have qn : ((n : Int) == 0) = false := by simp; omega
      have hnz : ¬ n = 0 := by omega
      go_enter Try.func33, Try.ntmps33
      go_wp2_with fail
      refine HR.out.mono ?_
      rintro e w2 ⟨⟨v, rfl, hown⟩, hb2⟩
      obtain ⟨g, cap, hv, _, hgl, hcell⟩ := own_at (L := L) (by rw [← HN.out]; exact hown) (by rw [← HN.out]; exact hn0)
      rw [← HN.out] at hv
      subst hv
      have HB2 := Lib.hid hb2
      obtain ⟨ai, ci, hc0⟩ := HC0.out
      have c0 := (hb2.cell (p := ⟨b, 0, none⟩) hbl).trans hc0
      clear hc0
      have d0 : w2.cell? ⟨g, k * 6, none⟩ = some (.int .i64 x.num) := hcell k x HXK.out 0 _ rfl
      have d1 : w2.cell? ⟨g, k * 6 + 1, none⟩ = some (.int .i64 x.kind) := hcell k x HXK.out 1 _ rfl
      have d2 : w2.cell? ⟨g, k * 6 + 2, none⟩ = some (.int .i64 x.frm) := hcell k x HXK.out 2 _ rfl
      have d3 : w2.cell? ⟨g, k * 6 + 3, none⟩ = some (.int .i64 x.dst) := hcell k x HXK.out 3 _ rfl
      have d4 : w2.cell? ⟨g, k * 6 + 4, none⟩ = some (.int .i64 x.conn) := hcell k x HXK.out 4 _ rfl
      have d5 : w2.cell? ⟨g, k * 6 + 5, none⟩ = some (.string x.body) := hcell k x HXK.out 5 _ rfl
      have hki : (k : Int) < (n : Int) := by omega
      clear hown hb2 hcell
      go_wp2
      go_ret
      exact ⟨rfl, (Lft.refl H0.out).post HB2.out⟩
    · have hq : full s = false := by rw [HFL.out]; simpa using g
      have q : decide ((1024 : Int) ≤ (mi : Int)) = false := by simpa using g
      rw [hq]
      clear hq
      have qn : ((n : Int) == 0) = false := by simp; omega
      have hnz : ¬ n = 0 := by omega
      go_enter Try.func33, Try.ntmps33
      go_wp2_with fail
      refine HR.out.mono ?_
      rintro e w2 ⟨⟨v, rfl, hown⟩, hb2⟩
      obtain ⟨g, cap, hv, _, hgl, hcell⟩ := own_at (L := L) (by rw [← HN.out]; exact hown) (by rw [← HN.out]; exact hn0)
      rw [← HN.out] at hv
      subst hv
      have HB2 := Lib.hid hb2
      obtain ⟨ai, ci, hc0⟩ := HC0.out
      have c0 := (hb2.cell (p := ⟨b, 0, none⟩) hbl).trans hc0
      clear hc0
      have d0 : w2.cell? ⟨g, k * 6, none⟩ = some (.int .i64 x.num) := hcell k x HXK.out 0 _ rfl
      have d1 : w2.cell? ⟨g, k * 6 + 1, none⟩ = some (.int .i64 x.kind) := hcell k x HXK.out 1 _ rfl
      have d2 : w2.cell? ⟨g, k * 6 + 2, none⟩ = some (.int .i64 x.frm) := hcell k x HXK.out 2 _ rfl
      have d3 : w2.cell? ⟨g, k * 6 + 3, none⟩ = some (.int .i64 x.dst) := hcell k x HXK.out 3 _ rfl
      have d4 : w2.cell? ⟨g, k * 6 + 4, none⟩ = some (.int .i64 x.conn) := hcell k x HXK.out 4 _ rfl
      have d5 : w2.cell? ⟨g, k * 6 + 5, none⟩ = some (.string x.body) := hcell k x HXK.out 5 _ rfl
      have hki : (k : Int) < (n : Int) := by omega
      clear hown hb2 hcell
      go_wp2_with fail
      refine (HNP.out w2).mono ?_
      rintro e w3 ⟨rfl, rfl⟩
      have HT := Lib.hid (radd_any x S b s w2 (H0.out.below HB2.out) (by have := HBI.out; omega) (by have := HPT.out; omega))
      go_wp2_with fail
      refine HT.out.mono ?_
      rintro e w4 ⟨⟨v4, rfl⟩, hl4⟩
      have HL4 := Lib.hid (hl4.pre HB2.out)
      clear hl4 d0 d1 d2 d3 d4 d5 c0
      go_wp2
      go_ret
      exact ⟨rfl, HL4.out⟩
end Go.Proofs.Ytocmgdhhlofajaa

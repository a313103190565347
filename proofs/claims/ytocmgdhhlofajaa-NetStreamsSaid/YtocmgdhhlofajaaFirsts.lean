/-
  The function that firsts hands back; Ready and datagrams.
-/
import Derived.Test.YtocmgdhhlofajaaFirst
namespace Go.Proofs.Ytocmgdhhlofajaa
open Go.RowKit Go.Maps
set_option maxRecDepth 100000 in
set_option maxHeartbeats 4000000 in
theorem first_any (x : It) (P M : Nat) (pre : List It) (w : World) (hP : w.cell? ⟨P, 0, none⟩ = some (.map (some M))) (hM : Cnt w M pre) (hPM : P ≠ M) (hc : I64 x.conn) (hd : I64 x.dst) (hn : pre.length < 1000000) :
    Calls Try.prog 57 #[ia x, ptr P] w fun e w' => e = .returned (.bool (free pre x)) ∧ Cnt w' M (pre ++ [x]) ∧ Tr (· = M) w w' := by
  have hPl : P < w.heap.size := w.block_lt_of_cell? _ hP
  have hMl := hM.lt
  have hb0 : Below w.heap.size w (w.alloc (.cells (ic x).toArray 74)) := (Below.refl _ w).alloc (Nat.le_refl _) _
  have HB0 := Lib.hid hb0
  have hD := datagram_any x (w.alloc (.cells (ic x).toArray 74))
  have HM := Lib.hid hM
  have hce0 := ce_new w (ic x).toArray 74
  have HCE := Lib.hid hce0
  cases hx : isD x with
  | true =>
    rw [hx] at hD
    have HD := Lib.hid hD
    have HF := Lib.hid (free_d (pre := pre) hx)
    have HXX := Lib.hid hx
    rw [HF.out]
    clear hM hb0 hD hx hce0
    go_enter Try.func57, Try.ntmps57
    go_wp2_with fail
    refine HD.out.mono ?_
    rintro e w1 ⟨rfl, hb1⟩
    have HB1 := Lib.hid (HB0.out.trans (hb1.mono HB0.out.size))
    clear hb1
    go_wp2
    go_ret
    exact ⟨rfl, (HM.out.tr (S := fun _ => False) (Tr.of_below HB1.out) (fun h => h)).skip HXX.out, Tr.of_below HB1.out⟩
  | false =>
    rw [hx] at hD
    have HD := Lib.hid hD
    have HXX := Lib.hid hx
    rw [free_w hx]
    clear hM hb0 hD hx hce0
    go_enter Try.func57, Try.ntmps57
    go_wp2_with fail
    refine HD.out.mono ?_
    rintro e w1 ⟨rfl, hb1⟩
    have HB1 := Lib.hid (HB0.out.trans (hb1.mono HB0.out.size))
    have hce1 := HCE.out.below hb1 HCE.out.lt
    obtain ⟨B, hB⟩ : ∃ B, B = w.heap.size := ⟨_, rfl⟩
    rw [← hB] at hce1 ⊢
    have hBl := hce1.lt
    obtain ⟨c0, c1, c2, c3, c4, c5⟩ := c6 hce1
    have hP1 := (HB1.out.cell (p := ⟨P, 0, none⟩) hPl).trans hP
    clear hb1 hB hce1 hP
    go_upto_region 4 with fail
    obtain ⟨w2, hw2⟩ : ∃ w2, w2 = w1.alloc (.cells #[.int .i64 x.conn, .int .i64 x.dst] 85) := ⟨_, rfl⟩
    have hb2 : Below w1.heap.size w1 (w1.alloc (.cells #[.int .i64 x.conn, .int .i64 x.dst] 85)) := (Below.refl _ w1).alloc (Nat.le_refl _) _
    have hce2 := ce_new w1 #[.int .i64 x.conn, .int .i64 x.dst] 85
    rw [← hw2] at hb2 hce2 ⊢
    have hQ1 := HB1.out.size
    obtain ⟨Q, hQ⟩ : ∃ Q, Q = w1.heap.size := ⟨_, rfl⟩
    rw [← hQ] at hce2 hQ1 ⊢
    have HB2 := Lib.hid (HB1.out.trans (hb2.mono HB1.out.size))
    have hP2 : w2.drew.cell? ⟨P, 0, none⟩ = some (.map (some M)) := (HB2.out.cell (p := ⟨P, 0, none⟩) hPl).trans ((HB1.out.cell (p := ⟨P, 0, none⟩) hPl).symm.trans hP1)
    have hq0 : w2.drew.cell? ⟨Q, 0, none⟩ = some (.int .i64 x.conn) := by show w2.cell? _ = _; rw [hce2.cell]; rfl
    have hq1 : w2.drew.cell? ⟨Q, 1, none⟩ = some (.int .i64 x.dst) := by show w2.cell? _ = _; rw [hce2.cell]; rfl
    have hM2 : Cnt w2.drew M pre := HM.out.tr (S := fun _ => False) (Tr.of_below HB2.out.drew) (fun h => h)
    obtain ⟨st, u1, u2, l1, m1, l2, s1, l3, t1, t2, hcn⟩ := hM2.put HXX.out hc hd hn
    have hPs : P < w2.drew.heap.size := Nat.lt_of_lt_of_le hPl HB2.out.size
    have hQs : Q < w2.drew.heap.size := hce2.lt
    have hQM : Q ≠ M := by omega
    have hP4 := (t2.cell (p := ⟨P, 0, none⟩) hPs hPM).trans hP2
    have hq04 := (t2.cell (p := ⟨Q, 0, none⟩) hQs hQM).trans hq0
    have hq14 := (t2.cell (p := ⟨Q, 1, none⟩) hQs hQM).trans hq1
    have HC4 := Lib.hid hcn
    have HT4 := Lib.hid ((Tr.of_below (S := (· = M)) HB2.out.drew).then t2)
    have hcb := cnt_le pre x.conn x.dst
    obtain ⟨c, hcc⟩ : ∃ c, c = cnt pre x.conn x.dst := ⟨_, rfl⟩
    rw [← hcc] at l1 m1 l2 s1 l3 hcb
    have HCC := Lib.hid hcc
    have hcb2 : c < 1000000 := by omega
    clear hb2 hce2 hw2 hQ hM2 t1 t2 hcn hP1 hcc c0 c1 c2 c3 c4 c5 hcb hPs hQs
    go_region
    all_goals
      go_wp2
      go_ret
      exact ⟨by rw [← HCC.out]; rfl, HC4.out, HT4.out⟩
set_option maxRecDepth 100000 in
set_option maxHeartbeats 4000000 in
theorem firsts_any (w : World) :
    Calls Try.prog 39 #[] w fun e w' => e = .returned (.func (.func 57) #[] #[ptr (w.heap.size + 1)]) ∧ w'.cell? ⟨w.heap.size + 1, 0, none⟩ = some (.map (some w.heap.size)) ∧ Cnt w' w.heap.size [] ∧ Below w.heap.size w w' := by
  have hmm := @run_makeMap Try.prog
  have hmf : ∀ (fn : Fn) (first cap : Array Value) (w : World), (Instr.makeFunc fn first cap).run Try.prog w = .ok (.func fn first cap) w := fun _ _ _ _ => rfl
  have hc := cnt_new w
  have hb : Below w.heap.size w (w.alloc (.map #[] 0)) := (Below.refl _ w).alloc (Nat.le_refl _) _
  have hb2 := hb.alloc hb.size (.cells #[.map (some w.heap.size)] 83)
  have hce := ce_new (w.alloc (.map #[] 0)) #[.map (some w.heap.size)] 83
  rw [World.size_alloc] at hce
  have hc2 := hc.tr (S := fun _ => False) (Tr.of_below ((Below.refl _ (w.alloc (.map #[] 0))).alloc (Nat.le_refl _) (.cells #[.map (some w.heap.size)] 83))) (fun h => h)
  have HC := Lib.hid hc2
  have HB := Lib.hid hb2
  have HE := Lib.hid hce
  clear hc hb hb2 hce hc2
  go_enter Try.func39, Try.ntmps39
  go_wp2
  go_ret
  exact ⟨rfl, by rw [HE.out.cell]; rfl, HC.out, HB.out⟩
theorem own_mono {w : World} {B B' e size n : Nat} {v : Value} {xs : List Value} (h : w.ownsRow B e size v n xs) (hB : B' ≤ B) : w.ownsRow B' e size v n xs := by
  refine ⟨h.1, ?_⟩
  rcases h.2 with h | ⟨g, cap, cur, rfl, h0, r⟩
  · exact .inl h
  · exact .inr ⟨g, cap, cur, rfl, Nat.le_trans hB h0, r⟩
set_option maxRecDepth 100000 in
set_option maxHeartbeats 4000000 in
theorem ready_any (S : Nat → Prop) (b : Nat) (s : St) (w : World) (h : Pn S b s w) (hg : Good s) (hB : s.its.length ≤ 900000) (hO : s.opens ≤ 900000) :
    Calls Try.prog 16 #[ptr b] w fun e w' => (∃ v, e = .returned v ∧ w'.ownsRow w.heap.size 52 6 v (ready s).length (cs ic (ready s))) ∧ Below w.heap.size w w' := by
  have H := Lib.hid h.now
  have HG := Lib.hid hg
  clear h hg
  go_enter Try.func16, Try.ntmps16
  go_wp2_with fail
  refine (firsts_any w).mono ?_
  rintro e w1 ⟨rfl, hP, hM, hb1⟩
  have hMl := hM.lt
  have hPl := w1.block_lt_of_cell? _ hP
  have C := chosen_any 57 ent57 #[ptr (w.heap.size + 1)] free (fun k => S k ∧ k < w.heap.size) (· = w.heap.size) b s w1 (H.out.below hb1) (by omega)
    (fun k hk => by subst hk; exact ⟨hMl, fun h => Nat.lt_irrefl _ h.2⟩)
    (fun k w2 => w2.cell? ⟨w.heap.size + 1, 0, none⟩ = some (.map (some w.heap.size)) ∧ Cnt w2 w.heap.size (s.its.take k))
    (fun k x w2 hx hk hs => (first_any x (w.heap.size + 1) w.heap.size (s.its.take k) w2 hk.1 hk.2 (by omega) (by
        have := (HG.out.way x (List.mem_of_getElem? hx)).2
        unfold I64
        omega) (HG.out.way x (List.mem_of_getElem? hx)).1 (by rw [List.length_take]; omega)).mono (by
      rintro e w3 ⟨rfl, hc, ht⟩
      refine ⟨rfl, ⟨(ht.cell (p := ⟨w.heap.size + 1, 0, none⟩) (w2.block_lt_of_cell? _ hk.1) (by show ¬ w.heap.size + 1 = w.heap.size; omega)).trans hk.1, ?_⟩, ht⟩
      rw [List.take_add_one, hx]
      exact hc))
    (fun k w2 w3 hk hs hb => ⟨(hb.cell (p := ⟨w.heap.size + 1, 0, none⟩) hPl).trans hk.1, hk.2.tr (S := fun i => w1.heap.size ≤ i) ⟨hb.os, hb.tape, hb.output, hb.size, fun i _ hi => hb.block i (by omega)⟩ (by omega)⟩)
    ⟨hP, hM⟩
  have HC := Lib.hid C
  have HB1 := Lib.hid hb1
  clear hP hM hMl hPl C hb1
  go_wp2_with fail
  refine HC.out.mono ?_
  rintro e w2 ⟨v, rfl, hown, ht⟩
  have HO := Lib.hid (own_mono hown HB1.out.size)
  have HB2 : Hid (Below w.heap.size w w2) := Lib.hid (HB1.out.trans (ht.below HB1.out.size (fun k hk => by omega)))
  clear hown ht
  go_wp2
  go_ret
  exact ⟨⟨_, rfl, HO.out⟩, HB2.out⟩
set_option maxRecDepth 100000 in
set_option maxHeartbeats 4000000 in
theorem dgs_any (S : Nat → Prop) (b : Nat) (s : St) (w : World) (h : Pn S b s w) (hB : s.its.length ≤ 900000) :
    Calls Try.prog 51 #[ptr b] w fun e w' => (∃ v, e = .returned v ∧ w'.ownsRow w.heap.size 52 6 v (dgs s).length (cs ic (dgs s))) ∧ Below w.heap.size w w' := by
  have C := chosen_any 58 ent58 #[] (fun _ x => isD x) S (fun _ => False) b s w h (by omega) (fun k hk => hk.elim) (fun _ w2 => Below w.heap.size w w2)
    (fun k x w2 hx hk hs => (datagram_any x w2).mono (by
      rintro e w3 ⟨rfl, hb⟩
      exact ⟨rfl, hk.trans (hb.mono hs), Tr.of_below hb⟩))
    (fun k w2 w3 hk hs hb => hk.trans hb) (Below.refl _ _)
  have e : cho (fun (_ : List It) x => isD x) [] s.its = dgs s := cho_filter isD [] s.its
  rw [e] at C
  have HC := Lib.hid C
  clear C e h
  go_enter Try.func51, Try.ntmps51
  go_wp2_with fail
  refine HC.out.mono ?_
  rintro e w2 ⟨v, rfl, hown, ht⟩
  have HO := Lib.hid hown
  have HB2 : Hid (Below w.heap.size w w2) := Lib.hid (ht.below (Nat.le_refl _) (fun k hk => hk.elim))
  clear hown ht
  go_wp2
  go_ret
  exact ⟨⟨_, rfl, HO.out⟩, HB2.out⟩
end Go.Proofs.Ytocmgdhhlofajaa

/-
  What Copy makes: another disk in the same state, beside the first one.
-/
import Derived.Test.YtpihlamhpmmeeaaSync
namespace Go.Proofs.Ytpihlamhpmmeeaa
open Go.RowKit Go.Maps
theorem ranges_tr {S : Nat → Prop} {w w' : World} {b r n : Nat} {D : DataW Unit} {left : Lit → Bool} {cnt : Nat} (h : w.ranges Try.prog 9 pR b r n D left cnt) (ht : Tr S w w') (hb : ¬ S b) (hr : ¬ S r) : w'.ranges Try.prog 9 pR b r n D left cnt := by
  have h1 := h.owns.lt
  have h2 := h.lt
  obtain ⟨es, clock, since, seen, c0, hbb, F, hs, hD, hrr, rest⟩ := h
  exact ⟨es, clock, since, seen, c0, (ht.block b h1 hb).trans hbb, F, hs, hD, (ht.block r h2 hr).trans hrr, rest⟩
theorem delF_none {l : List Fl} {k : ByteArray} (h : ∀ f ∈ l, f.name ≠ k) : delF l k = l := List.filter_eq_self.2 fun f hf => by simpa using h f hf
theorem come_not {G : List Ge} {left : Lit → Bool} {k : ByteArray} (hl : left (ky k) = true) : ∀ f ∈ (come G left).map (fun g => g.f), f.name ≠ k := by
  intro f hf e
  obtain ⟨g, hg, rfl⟩ := List.mem_map.1 hf
  have := (List.mem_filter.1 hg).2
  rw [e, hl] at this
  cases this
/-- A copy of a file, where it is laid, gets its name. -/
theorem laid_put {B : Nat} {d : Dk} {So : Nat → Prop} {w3 w4 : World} {nm : ByteArray} {R : Bs} {t : Nat} {v4 : Value} (hp : PD So B d w3) (hfl : d.fs.length ≤ 1000000) (hSo : ∀ j, So j → j < w3.heap.size) (hk : nm.size ≤ 40) (hb : Below w3.heap.size w3 w4)
    (hr : Row w4 v4 R) (hv : ∀ j, v4.ownBlock = some j → w3.heap.size ≤ j) (hle : t ≤ R.length) :
    Calls Try.prog 30 #[ptr B, .string nm, ptr w4.heap.size] (w4.alloc (.cells #[v4, .int .i64 (t : Int)] 56)) fun e w' => (∃ u, e = .returned u) ∧ PD (fun j => So j ∨ w3.heap.size ≤ j) B { d with fs := ⟨nm, R, t⟩ :: delF d.fs nm } w' ∧ Tr So w3 w' := by
  have hba : Below w3.heap.size w3 (w4.alloc (.cells #[v4, .int .i64 (t : Int)] 56)) := hb.alloc hb.size _
  have hnb : Below w4.heap.size w4 (w4.alloc (.cells #[v4, .int .i64 (t : Int)] 56)) := (Below.refl _ _).alloc (Nat.le_refl _) _
  have hFV : FV (its w4.heap.size v4) w4.heap.size R v4 t (w4.alloc (.cells #[v4, .int .i64 (t : Int)] 56)) := ⟨heap_alloc_new w4 _, hr.tr (S := fun _ => False) (Tr.of_below hnb) (fun _ _ h => h), fun _ h => .inr h, .inl rfl, hle⟩
  have hsz := hb.size
  refine (put_any (hp.below hba) hfl ⟨⟨nm, R, t⟩, w4.heap.size, v4⟩ hk (S2 := its w4.heap.size v4) hFV (fun _ h => h) (fun j hj hs => by
    have := hSo j hs
    rcases hj with rfl | hj
    · omega
    · have := hv j hj; omega)).mono ?_
  rintro e w' ⟨he, hpd, ht⟩
  refine ⟨he, hpd.mono fun j hj => ?_, (Tr.of_below hba).trans ht fun j hj => ?_⟩
  · rcases hj with (hj | hj | hj) | hj
    · exact .inl hj
    · exact .inr (by omega)
    · exact .inr (hv j hj)
    · exact .inr (Nat.le_trans hba.size hj)
  · rcases hj with hj | hj | hj
    · exact .inl hj
    · exact .inr (by omega)
    · exact .inr (hv j hj)
section
variable {S : Nat → Prop} {b : Nat} {d : Dk} {w : World}
theorem pd_copied (d : Dk) (w : World) : PD (fun j => j = w.heap.size) w.heap.size { d with fs := [] } (w.alloc (.cells #[.map none, .int .i64 (d.room : Int), .int .i64 (d.steps : Int), .int .i64 (d.left : Int), .bool d.off, .bool d.sch] 41)) :=
  ⟨[], none, heap_alloc_new w _, List.Perm.refl _, List.nodup_nil, (fun _ h => by cases h), (fun _ h => by cases h), .inl ⟨rfl, rfl⟩, rfl⟩
set_option maxRecDepth 100000 in
set_option maxHeartbeats 6400000 in
theorem copy_any (h : PD S b d w) (hU : ∀ f ∈ d.fs, f.data.length ≤ 1000000000) (hL : d.fs.length ≤ 1000000) :
    Calls Try.prog 24 #[ptr b] w fun e w' => e = .returned (ptr w.heap.size) ∧ PD (w.heap.size ≤ ·) w.heap.size d w' ∧ Below w.heap.size w w' := by
  obtain ⟨G, mv, h⟩ := h
  have c0 : w.cell? ⟨b, 0, none⟩ = some (.map mv) := h.cell 0 _ rfl
  have c1 : w.cell? ⟨b, 1, none⟩ = some (.int .i64 (d.room : Int)) := h.cell 1 _ rfl
  have c2 : w.cell? ⟨b, 2, none⟩ = some (.int .i64 (d.steps : Int)) := h.cell 2 _ rfl
  have c3 : w.cell? ⟨b, 3, none⟩ = some (.int .i64 (d.left : Int)) := h.cell 3 _ rfl
  have c4 : w.cell? ⟨b, 4, none⟩ = some (.bool d.off) := h.cell 4 _ rfl
  have c5 : w.cell? ⟨b, 5, none⟩ = some (.bool d.sch) := h.cell 5 _ rfl
  have hbl := h.lt
  have HC := Lib.hid (pd_copied d w)
  have HBA : Hid (Below w.heap.size w (w.alloc (.cells #[.map none, .int .i64 (d.room : Int), .int .i64 (d.steps : Int), .int .i64 (d.left : Int), .bool d.off, .bool d.sch] 41))) := Lib.hid ((Below.refl _ _).alloc (Nat.le_refl _) _)
  rcases h.mp with ⟨rfl, rfl⟩ | ⟨m, D, rfl, hs, ho, ht⟩
  · have hfs : d.fs = [] := by have := h.perm; simpa using this.symm.eq_nil
    have HFS := Lib.hid hfs
    clear h hfs
    obtain ⟨w1, hw1⟩ : ∃ w1, w1 = w.alloc (.cells #[.map none, .int .i64 (d.room : Int), .int .i64 (d.steps : Int), .int .i64 (d.left : Int), .bool d.off, .bool d.sch] 41) := ⟨_, rfl⟩
    rw [← hw1] at HC HBA
    have HW := Lib.hid hw1
    clear hw1
    go_enter Try.func24, Try.ntmps24
    go_upto_region 5 with fail
    rw [← HW.out]
    have d0 : w1.cell? ⟨b, 0, none⟩ = some (.map none) := (HBA.out.cell hbl).trans c0
    have hrg := run_range_nilMap (P := Try.prog) w1 39 9 53 Try.underlying39
    have hnx : ∀ ty, (Instr.next (.pointer (some ⟨w1.heap.size, 0, none⟩)) false ty).run Try.prog (w1.alloc (.mapIter none 0 #[] 0)) = _ := fun ty => run_next_nilMap w1 ty 0 0 #[]
    have HB : Hid (Below w.heap.size w (w1.alloc (.mapIter none 0 #[] 0)) ∧ PD (fun j => w.heap.size ≤ j) w.heap.size d (w1.alloc (.mapIter none 0 #[] 0))) := Lib.hid ⟨HBA.out.alloc HBA.out.size _, by
      have h1 := (HC.out.mono (S' := fun j => w.heap.size ≤ j) (fun j e => Nat.le_of_eq e.symm)).below ((Below.refl _ w1).alloc (Nat.le_refl _) (.mapIter none 0 #[] 0))
      exact h1.perm (by rw [HFS.out]) ⟨rfl, rfl, rfl, rfl, rfl⟩⟩
    clear c0 c1 c2 c3 c4 c5
    go_wp2
    refine wp_loop_rounds 1 ?_
    rw [rounds_succ]
    go_wp2
    go_ret
    exact ⟨rfl, HB.out.2, HB.out.1⟩
  · have hfsU : ∀ g ∈ G, g.f.data.length ≤ 1000000000 := fun g hg => hU g.f (h.perm.mem_iff.1 (List.mem_map.2 ⟨g, hg, rfl⟩))
    have hGl : G.length ≤ 1000000 := by have := h.perm.length_eq; rw [List.length_map] at this; omega
    have HS := Lib.hid (come_start ht h.nd)
    have HT := Lib.hid ht
    have HP := Lib.hid h
    have HUU := Lib.hid hfsU
    obtain ⟨w1, hw1⟩ : ∃ w1, w1 = w.alloc (.cells #[.map none, .int .i64 (d.room : Int), .int .i64 (d.steps : Int), .int .i64 (d.left : Int), .bool d.off, .bool d.sch] 41) := ⟨_, rfl⟩
    have hsz1 : w1.heap.size = w.heap.size + 1 := by rw [hw1]; simp
    rw [← hw1] at HC HBA
    have HW := Lib.hid hw1
    have HO := Lib.hid (own_tr ho (Tr.of_below (S := fun _ => False) (HBA.out.mono (Nat.le_refl _))) (fun h => h))
    have hml := ho.lt
    clear h hs ht ho hw1 hfsU
    go_enter Try.func24, Try.ntmps24
    go_upto_region 5 with fail
    rw [← HW.out]
    have d0 : w1.cell? ⟨b, 0, none⟩ = some (.map (some m)) := (HBA.out.cell hbl).trans c0
    clear c0 c1 c2 c3 c4 c5
    go_wp2_with (first
      | (at_range; refine wpList_range_own _ rfl _ 39 rfl 9 53 law9 Try.underlying39 pR m G.length D rfl HO.out ?_; intro w0 hrg0 hg0 hs0)
      | go_in)
    go_frame
    have HRG := Lib.hid hrg0
    have hb01 : Below w1.heap.size w1 w0 := (Below.refl w1.heap.size w1).grown hg0 (Nat.le_refl _) (fun j hj => by cases hj)
    have HB0 : Hid (Below w.heap.size w w0) := Lib.hid (HBA.out.trans (hb01.mono HBA.out.size))
    have HP0 := Lib.hid (HC.out.below hb01)
    have hs0' : w0.heap.size = w.heap.size + 2 := by rw [hs0, hsz1]
    clear hrg0 hg0 hs0 hb01 d0
    rw [hsz1] at HRG ⊢
    go_loopw [4, 5] (fun _ _ wr => ∃ (left : Lit → Bool) (cnt : Nat) (So : Nat → Prop) (fo : List Fl), wr.ranges Try.prog 9 pR m (w.heap.size + 1) G.length D left cnt ∧ PD So w.heap.size { d with fs := fo } wr ∧ fo.Perm ((come G left).map fun g => g.f) ∧ (∀ j, So j → w.heap.size ≤ j ∧ j ≠ w.heap.size + 1 ∧ j < wr.heap.size) ∧ Below w.heap.size w wr) (fun _ _ wr => wr.rangeLeft m (w.heap.size + 1))
    case atStart => exact ⟨_, _, _, [], HRG.out, HP0.out, by rw [HS.out]; exact List.Perm.refl _, fun j e => by omega, HB0.out⟩
    case round =>
      obtain ⟨left, cnt, So, fo, hrg, hpo, hfo, hSo, hbe⟩ := hrel
      have HR := Lib.hid hrg
      have HPO := Lib.hid hpo
      have HFO := Lib.hid hfo
      have HSO := Lib.hid hSo
      have HBE := Lib.hid hbe
      have hfl : fo.length ≤ 1000000 := by
        have := hfo.length_eq
        rw [List.length_map] at this
        have h2 : (come G left).length ≤ G.length := List.length_filter_le _ _
        omega
      have hrlt := hrg.lt
      clear hrg hpo hfo hSo hbe
      go_wp2_with (first
        | (at_next; refine wpList_next_ranges (α := ByteArray) (β := Value) _ rfl _ rfl 9 law9 pR Value.string id invK (fun v y _ => ⟨v, rfl⟩) m (w.heap.size + 1) G.length _ _ _ rfl HR.out ?_ ?_)
        | go_in)
      · intro _ hl0
        have HE : Hid (PD (w.heap.size ≤ ·) w.heap.size d wr) := Lib.hid ((HPO.out.mono fun j hj => (HSO.out j hj).1).perm (by have := HFO.out; rw [come_end hl0] at this; exact this.trans HP.out.perm) ⟨rfl, rfl, rfl, rfl, rfl⟩)
        clear hl0
        go_wp2
        go_ret
        exact ⟨rfl, HE.out, HBE.out⟩
      · intro x v kl y ps w3 cnt1 hkey hlk hv hat hrg1 hlt hg1 hs1 hen
        obtain ⟨g, hg, rfl, rfl, e⟩ := came (y := (y, ps)) HT.out HP.out.nd hkey hv hat
        have e : v = ptr g.b := e
        subst e
        have hf := HP.out.file g hg
        have hk40 := hf.2
        have hst := come_step HP.out.nd hg (by have := hf.2; unfold maxLen; omega) hlk
        have hnot := come_not (G := G) hlk
        have hgU := HUU.out g hg
        have hfb := hf.1.blk.lt
        have htr1 : Tr (fun j => j = w.heap.size + 1) wr w3 := ⟨hg1.os, hg1.tape, hg1.output, hg1.size, fun k hk hs => hg1.block k hk (fun e => hs (by cases e; rfl))⟩
        have hb1 : Below w.heap.size wr w3 := (Below.refl _ wr).grown hg1 HBE.out.size (fun j hj => by cases hj; omega)
        have hB3 := HBE.out.trans hb1
        have hfv := hf.1.below hB3
        have hPO3 := HPO.out.tr htr1 (fun j _ hj e => (HSO.out j hj).2.1 e)
        obtain ⟨⟨nm, R, t⟩, fb, v⟩ := g
        have hfv : FV S fb R v t w3 := hfv
        have hgU : R.length ≤ 1000000000 := hgU
        have hfb : fb < w.heap.size := hfb
        have hen : (Instr.entry (.pointer (some ⟨w.heap.size + 1, 0, none⟩))).run Try.prog w3 = .ok (.tuple #[.string nm, ptr fb]) w3 := hen
        have hk40 : nm.size ≤ 40 := hk40
        have e0 := hfv.blk.cell0
        have e1 := hfv.blk.cell1
        have HR3 := Lib.hid hrg1
        have HST := Lib.hid hst
        have HNOT := Lib.hid hnot
        have HLT := Lib.hid hlt
        have HP3 := Lib.hid hPO3
        have HB3 := Lib.hid hB3
        have HF3 := Lib.hid hfv
        have hs3 : w3.heap.size = wr.heap.size := hs1
        have HTW := Lib.hid (twin_any (hfv.row.tr (S := fun _ => False) (Tr.of_below (Below.refl _ w3).drew) (fun _ _ h => h)) hgU)
        obtain ⟨a, cap, rfl, _, _⟩ := hfv.row.shape
        have HD3 := Lib.hid (Below.refl w3.heap.size w3).drew
        have HKP := Lib.hid (fun (w' : World) (hb : Below w3.heap.size w3 w') => (⟨(hb.cell (w3.block_lt_of_cell? _ e0)).trans e0, (hb.cell (w3.block_lt_of_cell? _ e1)).trans e1⟩ : w'.cell? ⟨fb, 0, none⟩ = some (.slice a R.length cap) ∧ w'.cell? ⟨fb, 1, none⟩ = some (.int .i64 (t : Int))))
        have HFB : Hid (fb < w3.heap.size ∧ ¬ So fb) := Lib.hid ⟨hfv.blk.lt, fun h => by have := (HSO.out fb h).1; omega⟩
        clear hf hst hnot hb1 hrg1 hlt hg1 hs1 hv hat hkey hlk htr1 hPO3 hB3 hfv hg e0 e1
        go_upto_region 8 with fail
        have HLP := Lib.hid (fun w4 (v4 : Value) (hb : Below w3.heap.size w3 w4) (hr : Row w4 v4 R) hv => laid_put (nm := nm) (t := t) HP3.out hfl (fun j hj => by rw [hs3]; exact (HSO.out j hj).2.2) hk40 hb hr hv HF3.out.le)
        go_region_held3 (fun w' => w'.cell? ⟨fb, 0, none⟩ = some (.slice a R.length cap) ∧ w'.cell? ⟨fb, 1, none⟩ = some (.int .i64 (t : Int)))
          (first | with_reducible exact HK5.out | with_reducible exact HKP.out _ HB4.out | with_reducible exact HKP.out _ HD3.out | (have HB5 := Lib.hid (HB4.out.alloc HB4.out.size (.cells #[.slice a4 R.length c4, .int .i64 (t : Int)] 56)); with_reducible exact HKP.out _ HB5.out) | fail)
          (first
            | (go_at_call 37; refine HTW.out.mono ?_; rintro e w4 ⟨v4, rfl, hr4, hn4, hb4⟩; have HB4 : Hid (Below w3.heap.size w3 w4) := Lib.hid (HD3.out.trans (hb4.mono HD3.out.size)); have HL4 := Lib.hid (HLP.out w4 v4 HB4.out hr4 hn4); obtain ⟨a4, c4, rfl, _, _⟩ := hr4.shape; clear hr4 hn4 hb4)
            | (go_at_call 30; refine HL4.out.mono ?_; rintro e w5 ⟨⟨u, rfl⟩, hp5, ht5⟩; have HP5 := Lib.hid hp5; have HT5 := Lib.hid ht5; have HK5 : Hid (w5.cell? ⟨fb, 0, none⟩ = some (.slice a R.length cap) ∧ w5.cell? ⟨fb, 1, none⟩ = some (.int .i64 (t : Int))) := Lib.hid ⟨(ht5.cell (p := ⟨fb, 0, none⟩) HFB.out.1 HFB.out.2).trans (HKP.out w3 (Below.refl _ _)).1, (ht5.cell (p := ⟨fb, 1, none⟩) HFB.out.1 HFB.out.2).trans (HKP.out w3 (Below.refl _ _)).2⟩; clear hp5 ht5)
            | fail)
        have hsw := HB3.out.size
        have hdel : delF fo nm = fo := delF_none fun f hf => HNOT.out f (HFO.out.mem_iff.1 hf)
        have hp7 := HP5.out
        rw [show delF ({ d with fs := fo } : Dk).fs nm = fo from hdel] at hp7
        have HP7 : Hid (PD (fun j => (So j ∨ w3.heap.size ≤ j) ∧ j < w5.heap.size) w.heap.size { d with fs := ⟨nm, R, t⟩ :: fo } w5) := Lib.hid hp7.now
        have HR5 := Lib.hid (ranges_tr HR3.out HT5.out (fun e => by have := (HSO.out m e).1; omega) (fun e => (HSO.out _ e).2.1 rfl))
        have HFP : Hid ((⟨nm, R, t⟩ :: fo : List Fl).Perm ((come G fun z => left z && !z.sameKey (ky nm)).map fun g => g.f)) := Lib.hid (by
          have h := (HST.out.map fun g : Ge => g.f).symm
          rw [List.map_cons] at h
          exact (HFO.out.cons (⟨nm, R, t⟩ : Fl)).trans h)
        have HB7 : Hid (Below w.heap.size w w5) := Lib.hid (HB3.out.trans (HT5.out.below hsw fun j hj => (HSO.out j hj).1))
        have HS7 : Hid (∀ j, ((So j ∨ w3.heap.size ≤ j) ∧ j < w5.heap.size) → w.heap.size ≤ j ∧ j ≠ w.heap.size + 1 ∧ j < w5.heap.size) := Lib.hid (fun j hj => hj.1.elim (fun h => ⟨(HSO.out j h).1, (HSO.out j h).2.1, hj.2⟩) fun h => ⟨by omega, by omega, hj.2⟩)
        clear hdel hp7 HP5 HKP HLP HL4 HB4 HTW
        go_roundw
        case rel =>
          refine ⟨_, _, _, _, _, _, _, _, _, _, _, _, _, _, _, _, _, _, _, _, ?_, rfl⟩
          exact ⟨_, cnt1, _, _, HR5.out, HP7.out, HFP.out, HS7.out, HB7.out⟩
        case measure => rw [HR5.out.left_eq, HR.out.left_eq]; exact HLT.out
end
end Go.Proofs.Ytpihlamhpmmeeaa

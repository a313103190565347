/-
  The names of all files, put in order.
-/
import Derived.Test.YtpiiknbjllgaoaaSorted
namespace Go.Proofs.Ytpiiknbjllgaoaa
open Go.RowKit Go.Maps
section
variable {S : Nat → Prop} {b : Nat} {d : Dk} {w : World}
set_option maxRecDepth 100000 in
set_option maxHeartbeats 1600000 in
theorem names_none (h : ∃ G, DV S b d G none w) : Calls Try.prog 48 #[ptr b] w fun e w' => ∃ v, e = .returned v ∧ RdS w' v [] ∧ (∀ j, v.ownBlock = some j → w.heap.size ≤ j) ∧ Below w.heap.size w w' := by
  obtain ⟨G, h⟩ := h
  have c0 : w.cell? ⟨b, 0, none⟩ = some (.map none) := h.cell 0 _ rfl
  clear h
  have hrg := run_range_nilMap (P := Try.prog) w 62 9 74 Try.underlying62
  have hnx : ∀ ty, (Instr.next (.pointer (some ⟨w.heap.size, 0, none⟩)) false ty).run Try.prog (w.alloc (.mapIter none 0 #[] 0)) = _ := fun ty => run_next_nilMap w ty 0 0 #[]
  have HB : Hid (Below w.heap.size w (w.alloc (.mapIter none 0 #[] 0))) := Lib.hid ((Below.refl _ w).alloc (Nat.le_refl _) _)
  have HS := Lib.hid (sorted_any 0 [] (.slice none 0 0) (w.alloc (.mapIter none 0 #[] 0)) (Nat.le_refl _) ⟨none, 0, rfl, Nat.le_refl _, Nat.zero_le _, .inl rfl⟩ (Nat.zero_le _))
  go_enter Try.func48, Try.ntmps48
  go_wp2
  refine wp_loop_rounds 1 ?_
  rw [rounds_succ]
  go_wp2_with fail
  refine HS.out.mono ?_
  rintro e w2 ⟨v, rfl, hr, hv, hb⟩
  have HV : Hid (∀ j, v.ownBlock = some j → w.heap.size ≤ j) := Lib.hid (fun j hj => by
    rcases hv with rfl | hv
    · simp [Value.ownBlock] at hj
    · have := hv j hj; simp at this; omega)
  have HR : Hid (RdS w2 v []) := Lib.hid hr
  have HB2 := Lib.hid (HB.out.trans (hb.mono HB.out.size))
  clear hr hb hv
  go_wp2
  go_ret
  exact ⟨_, rfl, HR.out, HV.out, HB2.out⟩
set_option maxRecDepth 100000 in
set_option maxHeartbeats 3200000 in
theorem names_any (h : PD S b d w) (hB : d.fs.length ≤ 1000000) : Calls Try.prog 48 #[ptr b] w fun e w' => ∃ v l, e = .returned v ∧ RdS w' v l ∧ l.Perm (d.fs.map Fl.name) ∧ (∀ j, v.ownBlock = some j → w.heap.size ≤ j) ∧ Below w.heap.size w w' := by
  obtain ⟨G, mv, h⟩ := h
  have hN : (G.map fun g => g.f.name).Perm (d.fs.map Fl.name) := by
    have := h.perm.map Fl.name
    rw [List.map_map] at this
    exact this
  have hGl : G.length ≤ 1000000 := by have := h.perm.length_eq; rw [List.length_map] at this; omega
  rcases h.mp with ⟨rfl, rfl⟩ | ⟨m, D, rfl, hs, ho, ht⟩
  · refine (names_none ⟨_, h⟩).mono ?_
    rintro e w' ⟨v, rfl, hr, hv, hb⟩
    exact ⟨v, [], rfl, hr, hN, hv, hb⟩
  · have c0 : w.cell? ⟨b, 0, none⟩ = some (.map (some m)) := h.cell 0 _ rfl
    obtain ⟨i0, hi, hz0, hz1, hz2⟩ := info_parts info9
    have HS := Lib.hid (come_start ht h.nd)
    have HT := Lib.hid ht
    have HP := Lib.hid h
    have HN := Lib.hid hN
    have HO := Lib.hid ho
    clear h hs ht ho hN
    go_enter Try.func48, Try.ntmps48
    go_wp2_with (first
      | (at_range; refine wpList_range_own _ rfl _ 62 rfl 9 74 law9 Try.underlying62 pR m G.length D rfl HO.out ?_; intro w0 hrg0 hg0 hs0)
      | go_in)
    go_frame
    have HRG := Lib.hid hrg0
    have HB0 := Lib.hid ((Below.refl w.heap.size w).grown hg0 (Nat.le_refl _) (fun j hj => by cases hj))
    have HS0 := Lib.hid hs0
    clear hrg0 hg0 hs0
    go_loopw [3, 4] (fun u _ wr => ∃ (left : Lit → Bool) (cnt : Nat) (l : List ByteArray), wr.ranges Try.prog 9 pR m w.heap.size G.length D left cnt ∧ wr.ownsRow (w.heap.size + 1) 9 1 u l.length (sv l) ∧ l.Perm ((come G left).map fun g => g.f.name) ∧ Below w.heap.size w wr) (fun _ _ wr => wr.rangeLeft m w.heap.size)
    case atStart => exact ⟨_, _, [], HRG.out, World.ownsRow_nil _ _ _ _, by rw [HS.out]; exact List.Perm.refl _, HB0.out⟩
    case round =>
      obtain ⟨left, cnt, l, hrg, hown, hp, hbe⟩ := hrel
      have HR := Lib.hid hrg
      have HW := Lib.hid hown
      have HPM := Lib.hid hp
      have HBE := Lib.hid hbe
      have hll : l.length ≤ 1000000 := by
        have := hp.length_eq
        rw [List.length_map] at this
        have h2 : (come G left).length ≤ G.length := List.length_filter_le _ _
        omega
      have hrlt := hrg.lt
      clear hrg hbe hown hp
      go_wp2_with (first
        | (at_next; refine wpList_next_ranges (α := ByteArray) (β := Value) _ rfl _ rfl 9 law9 pR Value.string id invK (fun v y _ => ⟨v, rfl⟩) m w.heap.size G.length _ _ _ rfl HR.out ?_ ?_)
        | go_in)
      · intro _ hl0
        have HE : Hid (l.Perm (G.map fun g => g.f.name)) := Lib.hid (by have := HPM.out; rw [come_end hl0] at this; exact this)
        have HSO := Lib.hid (sorted_any l.length l _ wr (Nat.le_refl _) (rds_of_own HW.out) hll)
        clear hl0
        go_wp2_with fail
        refine HSO.out.mono ?_
        rintro e w2 ⟨v, rfl, hr, hv, hb⟩
        have HV : Hid (∀ j, v.ownBlock = some j → w.heap.size ≤ j) := Lib.hid (fun j hj => by
          rcases hv with rfl | hv
          · have := (World.ownsRow.lt HW.out j hj).1; omega
          · exact Nat.le_trans HBE.out.size (hv j hj))
        have HR2 := Lib.hid hr
        have HB2 := Lib.hid (HBE.out.trans (hb.mono HBE.out.size))
        clear hr hb hv
        go_wp2
        go_ret
        exact ⟨_, _, rfl, HR2.out, ((srt_perm _ _ (Nat.le_refl _)).trans HE.out).trans HN.out, HV.out, HB2.out⟩
      · intro x v kl y ps w1 cnt1 hkey hlk hv hat hrg1 hlt hg1 hs1 hen
        obtain ⟨g, hg, rfl, rfl, e⟩ := came (y := (y, ps)) HT.out HP.out.nd hkey hv hat
        have e : v = ptr g.b := e
        subst e
        have hf := HP.out.file g hg
        have hst := come_step HP.out.nd hg (by have := hf.2; unfold maxLen; omega) hlk
        have hb1 : Below w.heap.size wr w1 := (Below.refl _ wr).grown hg1 HBE.out.size (fun j hj => by cases hj; exact Nat.le_refl _)
        have HB1 := Lib.hid (HBE.out.trans hb1)
        have hW1 : w1.ownsRow (w.heap.size + 1) 9 1 u3 l.length (sv l) := by
          refine ⟨HW.out.1, ?_⟩
          rcases HW.out.2 with h | ⟨g', cap, cur, rfl, h0, hg', r⟩
          · exact .inl h
          · exact .inr ⟨g', cap, cur, rfl, h0, (hg1.block g' (Array.getElem?_eq_some_iff.1 hg').1 (fun e => by cases e; omega)).trans hg', r⟩
        have HW1 := Lib.hid hW1
        have HR1 := Lib.hid hrg1
        have HST : Hid ((come G fun z => left z && !z.sameKey (ky g.f.name)).Perm (g :: come G left)) := Lib.hid hst
        have HLT := Lib.hid hlt
        have hsz1 : w.heap.size + 1 ≤ w1.heap.size := by have := hrg1.lt; omega
        obtain ⟨nm, hnm⟩ : ∃ nm, nm = g.f.name := ⟨_, rfl⟩
        have HNM := Lib.hid hnm
        rw [← hnm] at hen ⊢
        clear hf hst hb1 hrg1 hlt hg1 hs1 hv hat hkey hlk hnm hW1
        go_wp2_with (at_builtin; refine wpList_append_own_at _ rfl (.tmp 16) (.tmp 18) 27 rfl (w.heap.size + 1) 9 i0 _ 1 16 Try.underlying27 hi hz0 hz1 hz2 rfl (by decide) _ l.length (sv l) rfl (HW1.out.alloc _) ⟨w1.heap.size, 0, none⟩ 1 1 [.string nm] rfl rfl (cell_one_new _ _ _) (by simp [Value.oneCell']) (by unfold maxLen; omega) (by omega) (by simp; omega) ?_)
        intro v4 w4 hown4 hg4 _ hat4
        have hgr : (w1.alloc (.cells #[.string nm] 9)).grownBy w4 _ := hg4
        have hb4 : Below w.heap.size w1 w4 := ((Below.refl _ w1).alloc (by omega) (.cells #[.string nm] 9)).grown hg4 (by simp; omega) (fun j hj => by have := (World.ownsRow.lt HW1.out j hj).1; omega)
        have HR4 := Lib.hid ((HR1.out.alloc (.cells #[.string nm] 9)).kept hg4 (fun e => by
          have h2 := (World.ownsRow.lt HW1.out m e.symm)
          have h3 := HO.out.lt
          omega) (fun e => by have := (World.ownsRow.lt HW1.out w.heap.size e.symm).1; omega))
        have HO4 : Hid (w4.ownsRow (w.heap.size + 1) 9 1 v4 (l ++ [nm]).length (sv (l ++ [nm]))) := Lib.hid (by simpa [sv] using hown4)
        have HB4 := Lib.hid (HB1.out.trans hb4)
        clear hown4 hg4 hb4 hgr hat4
        go_wp2
        go_roundw
        case rel =>
          refine ⟨_, cnt1, l ++ [nm], HR4.out, HO4.out, ?_, HB4.out⟩
          refine (HPM.out.append_right [nm]).trans ?_
          refine List.Perm.trans ?_ (HST.out.map _).symm
          rw [HNM.out]
          exact List.perm_append_comm
        case measure => rw [HR4.out.left_eq, HR.out.left_eq]; exact HLT.out
end
end Go.Proofs.Ytpiiknbjllgaoaa

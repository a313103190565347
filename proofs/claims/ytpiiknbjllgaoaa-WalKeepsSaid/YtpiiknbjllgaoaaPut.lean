/-
  A file gets its name in a disk's map, which is made where there is none.
-/
import Derived.Test.YtpiiknbjllgaoaaNames
namespace Go.Proofs.Ytpiiknbjllgaoaa
open Go.RowKit Go.Maps
theorem eqlSome (mb : Nat) (w : World) : (binOp .eql 62 (.map (some mb)) (.map none)).run Try.prog w = .ok (.bool false) w := by kernel_rfl
theorem eqlNil (w : World) : (binOp .eql 62 (.map none) (.map none)).run Try.prog w = .ok (.bool true) w := by kernel_rfl
/-- A string as bytes, and back. -/
theorem twice (k : ByteArray) (w : World) : ∃ c W, (convert 9 31 (.string k)).run Try.prog w = .ok (.slice (some ⟨w.heap.size, 0, none⟩) k.size c) W ∧ (convert 31 9 (.slice (some ⟨w.heap.size, 0, none⟩) k.size c)).run Try.prog W = .ok (.string k) W ∧ Below w.heap.size w W := by
  refine ⟨_, _, run_bytes_of_string (P := Try.prog) w 9 31 5 k Try.underlying9 Try.underlying31 Try.underlying5, ?_, ((Below.refl _ w).drew).alloc (Nat.le_refl _) _⟩
  have hl : k.data.toList.length = k.size := (size_list k).symm
  have := run_convert_bytes_back (P := Try.prog) (w.drew.alloc (.cells (bytesRow k (grownCap w k.size 0 5)) 5 ((bytesRow k (grownCap w k.size 0 5)).size, (bytesRow k (grownCap w k.size 0 5)).size + 1))) 31 9 5 ⟨w.heap.size, 0, none⟩ (grownCap w k.size 0 5) k.data.toList Try.underlying31 Try.underlying5 Try.underlying9 (fun j hj => by
    have hj2 : j < k.data.size := by simpa using hj
    rw [Addr.add_lit, Nat.zero_add]
    have h1 : (w.drew.alloc (.cells (bytesRow k (grownCap w k.size 0 5)) 5 ((bytesRow k (grownCap w k.size 0 5)).size, (bytesRow k (grownCap w k.size 0 5)).size + 1))).heap[w.heap.size]? = some (.cells (bytesRow k (grownCap w k.size 0 5)) 5 ((bytesRow k (grownCap w k.size 0 5)).size, (bytesRow k (grownCap w k.size 0 5)).size + 1)) := heap_alloc_new w.drew _
    rw [cell_of_row _ _ _ _ _ _ h1, bytesRow_at k _ j hj2]
    simp)
  rw [hl] at this
  exact this
section
variable {S : Nat → Prop} {b : Nat} {d : Dk} {G : List Ge} {w : World}
set_option maxRecDepth 100000 in
set_option maxHeartbeats 1600000 in
theorem put_some {m : Nat} (h : DV S b d G (some m) w) (hn : G.length ≤ 1000000) (g : Ge) (hk : g.f.name.size ≤ 40) (hf : FV S g.b g.f.data g.v g.f.dur w)
    (hA : ∀ x ∈ G, x.f.name ≠ g.f.name → ∀ k, its g.b g.v k → ¬ its x.b x.v k) :
    Calls Try.prog 67 #[ptr b, .string g.f.name, ptr g.b] w fun e w' => (∃ v, e = .returned v) ∧ Lft S b { d with fs := g.f :: delF d.fs g.f.name } w w' := by
  have c0 : w.cell? ⟨b, 0, none⟩ = some (.map (some m)) := h.cell 0 _ rfl
  have he := eqlSome m
  obtain ⟨c, W, hc1, hc2, hbW⟩ := twice g.f.name w.drew
  rcases h.mp with ⟨e, _⟩ | ⟨m', D, e, hs, ho, ht⟩
  · cases e
  · cases e
    have hbw : Below w.heap.size w W := (Below.refl _ w).drew.trans hbW
    have hW := h.below hbw
    have hmi : ¬ its g.b g.v m := by
      obtain ⟨es, clock, hb, _⟩ := ho
      rintro (e | e)
      · have := hf.blk; rw [← e] at this; rw [show w.heap[m]? = _ from this] at hb; simp at hb
      · rcases hf.row with ⟨e', _⟩ | ⟨g', k, cap, cur, e', hg', _⟩
        · rw [e'] at e; simp [Value.ownBlock] at e
        · rw [e'] at e
          obtain rfl : g' = m := by simpa [Value.ownBlock] using e
          rw [hg'] at hb; simp at hb
    have HPUT := Lib.hid (fun w1 ho1 hg1 => hW.put rfl hs ht (ho.tidy law9) (w1 := w1) (g := g) hk (hf.below hbw) hA hmi ho1 hg1)
    have HOW := Lib.hid (own_tr ho (Tr.of_below (S := fun _ => False) hbw) (fun h => h))
    have HBW := Lib.hid hbw
    have hkl : g.f.name.size ≤ maxLen := by unfold maxLen; omega
    have HK := Lib.hid (ky_of hkl)
    obtain ⟨nm, hnm⟩ : ∃ nm, nm = g.f.name := ⟨_, rfl⟩
    rw [← hnm] at hc1 hc2 HPUT HK ⊢
    have hHS : w.drew.heap.size = w.heap.size := rfl
    rw [hHS] at hc1 hc2
    clear h hf hW hbw hbW ho ht hs hmi hnm hk hHS hA
    obtain ⟨w1, hup, hown1, hgrow1⟩ := HOW.out.update law9 Try.underlying62 (by unfold maxLen; omega) HK.out (pR_ptr g.b)
    have A := Lib.hid (HPUT.out w1 hown1 hgrow1)
    have cW : W.cell? ⟨b, 0, none⟩ = some (.map (some m)) := (HBW.out.cell (w.block_lt_of_cell? _ c0)).trans c0
    clear hown1 hgrow1 HK HPUT
    go_enter Try.func67, Try.ntmps67
    go_upto_region 2 with fail
    go_region
    go_end0
    exact ⟨⟨_, rfl⟩, ⟨_, _, A.out.1.mono fun _ => .inl⟩, (Tr.of_below HBW.out).then A.out.2⟩
/-- The disk behind its first map. -/
theorem DV.mapped (h : DV S b d G none w) : DV (andNew S w.heap.size) b d [] (some w.heap.size) ((w.setCell ⟨b, 0, none⟩ (.map (some w.heap.size))).alloc (.map #[] 0)) ∧ Tr S w ((w.setCell ⟨b, 0, none⟩ (.map (some w.heap.size))).alloc (.map #[] 0)) := by
  have hm := World.ownsMap_made (w.setCell ⟨b, 0, none⟩ (.map (some w.heap.size))) Try.prog 9 pR
  rw [World.size_setCell] at hm
  have hG : G = [] := by
    rcases h.mp with ⟨_, e⟩ | ⟨m, D, e, _⟩
    · exact e
    · cases e
  subst hG
  refine ⟨⟨(heap_alloc_old _ _ (by rw [World.size_setCell]; exact h.lt)).trans (heap_setCell_same w b 0 _ _ _ h.blk), h.perm, h.nd, (fun _ hg => by cases hg), (fun _ hg => by cases hg), .inr ⟨_, .map [], rfl, .inr (Nat.le_refl _), hm, tied_nil⟩, .inl h.own⟩, ((Tr.refl S w).setCell (.inl h.own) _).alloc _⟩
set_option maxRecDepth 100000 in
set_option maxHeartbeats 1600000 in
theorem put_none (h : DV S b d G none w) (g : Ge) (hk : g.f.name.size ≤ 40) {S2 : Nat → Prop} (hf : FV S2 g.b g.f.data g.v g.f.dur w) (hS2 : ∀ k, its g.b g.v k → S2 k) (hd : ∀ k, S2 k → ¬ S k) :
    Calls Try.prog 67 #[ptr b, .string g.f.name, ptr g.b] w fun e w' => (∃ v, e = .returned v) ∧ PD (fun k => (S k ∨ S2 k) ∨ w.heap.size ≤ k) b { d with fs := g.f :: delF d.fs g.f.name } w' ∧ Tr S w w' := by
  have c0 : w.cell? ⟨b, 0, none⟩ = some (.map none) := h.cell 0 _ rfl
  have f0 := h.fz 0
  have he := eqlNil
  have hbl := h.lt
  have hmm := @run_makeMap Try.prog
  have HM := Lib.hid h.mapped
  have HF := Lib.hid hf
  have HS2 := Lib.hid hS2
  have HD := Lib.hid hd
  clear h hf hS2 hd
  go_enter Try.func67, Try.ntmps67
  go_upto_region 2 with fail
  change Code.wp _ _ _ _ ((w.setCell ⟨b, 0, none⟩ (.map (some w.heap.size))).alloc (.map #[] 0))
  obtain ⟨w2, hw2⟩ : ∃ w2, w2 = (w.setCell ⟨b, 0, none⟩ (.map (some w.heap.size))).alloc (.map #[] 0) := ⟨_, rfl⟩
  rw [← hw2] at HM ⊢
  obtain ⟨m, hm⟩ : ∃ m, m = w.heap.size := ⟨_, rfl⟩
  rw [← hm] at HM
  have h2 := HM.out.1
  have e0 : w2.cell? ⟨b, 0, none⟩ = some (.map (some m)) := h2.cell 0 _ rfl
  have hfl : ∀ k, its g.b g.v k → k < w.heap.size := HF.out.lt
  have hf2 : FV S2 g.b g.f.data g.v g.f.dur w2 := HF.out.tr HM.out.2 (fun k _ hk => HD.out k hk)
  obtain ⟨c, W, hc1, hc2, hbW⟩ := twice g.f.name w2.drew
  rcases h2.mp with ⟨e, _⟩ | ⟨m', D, e, hs, ho, ht⟩
  · cases e
  · cases e
    have hbw : Below w2.heap.size w2 W := (Below.refl _ w2).drew.trans hbW
    have hW : DV (fun k => (S k ∨ S2 k) ∨ w.heap.size ≤ k) b d [] (some m) W := (h2.below hbw).mono fun k hk => hk.elim (fun h => .inl (.inl h)) fun h => .inr (by rw [← hm]; exact h)
    have hfW : FV (fun k => (S k ∨ S2 k) ∨ w.heap.size ≤ k) g.b g.f.data g.v g.f.dur W := (hf2.below hbw).mono fun k hk => .inl (.inr hk)
    have hmi : ¬ its g.b g.v m := fun e => by have := hfl m e; omega
    have HPUT := Lib.hid (fun w1 ho1 hg1 => hW.put rfl (.inr (Nat.le_of_eq hm.symm)) ht (ho.tidy law9) (w1 := w1) (g := g) hk hfW (fun _ hx => by cases hx) hmi ho1 hg1)
    have HOW := Lib.hid (own_tr ho (Tr.of_below (S := fun _ => False) hbw) (fun h => h))
    have HBW := Lib.hid hbw
    have hkl : g.f.name.size ≤ maxLen := by unfold maxLen; omega
    have HK := Lib.hid (ky_of hkl)
    have HTR : Hid (Tr S w W) := Lib.hid (HM.out.2.then (Tr.of_below hbw))
    obtain ⟨w1, hup, hown1, hgrow1⟩ := HOW.out.update law9 Try.underlying62 (by unfold maxLen; decide) HK.out (pR_ptr g.b)
    have A := Lib.hid (HPUT.out w1 hown1 hgrow1)
    have HG : Hid (W.grownBy w1 (some m)) := Lib.hid hgrow1
    have cW : W.cell? ⟨b, 0, none⟩ = some (.map (some m)) := (HBW.out.cell (w2.block_lt_of_cell? _ e0)).trans e0
    obtain ⟨nm, hnm⟩ : ∃ nm, nm = g.f.name := ⟨_, rfl⟩
    rw [← hnm] at hc1 hc2 hup ⊢
    have hHS : w2.drew.heap.size = w2.heap.size := rfl
    rw [hHS] at hc1 hc2
    have HMM := Lib.hid hm
    have EM : (Value.map (some w.heap.size)) = .map (some m) := by rw [hm]
    rw [EM]
    clear HPUT HK hown1 hgrow1 hW hfW ho ht hs hbw hbW hf2 hfl h2 hw2 c0 f0 hmm he hnm hmi hHS hm EM HF HS2 HD HM
    go_region
    go_end0
    refine ⟨⟨_, rfl⟩, ⟨_, _, A.out.1⟩, HTR.out.grown HG.out (fun k e => by cases e; exact .inr (Nat.le_of_eq HMM.out.symm))⟩
end
end Go.Proofs.Ytpiiknbjllgaoaa

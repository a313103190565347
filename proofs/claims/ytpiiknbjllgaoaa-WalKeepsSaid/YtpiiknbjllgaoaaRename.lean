/-
  What Rename leaves and answers.
-/
import Derived.Test.YtpiiknbjllgaoaaSync
namespace Go.Proofs.Ytpiiknbjllgaoaa
open Go.RowKit Go.Maps
def renD (d : Dk) (k j : ByteArray) : Dk := if preE d (hasE d k) = 0 then (match findF d.fs k with | some f => { stepD d with fs := ⟨j, f.data, f.dur⟩ :: delF (delF d.fs k) j } | none => d) else preD d (hasE d k)
theorem nm_two {w w2 : World} {k j : ByteArray} (hk : Gn k) (hj : Gn j) {C cap : Nat} (hC : w2.cell? ⟨C, 0, none⟩ = some (.slice (some ⟨w.heap.size, 0, none⟩) 2 cap)) (hb : Below (w.heap.size + 1) (w.alloc (.cells #[.string k, .string j] 9)) w2) : Nm C w2 := by
  have h0 : (w.alloc (.cells #[.string k, .string j] 9)).cell? ⟨w.heap.size, 0, none⟩ = some (.string k) := by simp
  have h1 : (w.alloc (.cells #[.string k, .string j] 9)).cell? ⟨w.heap.size, 1, none⟩ = some (.string j) := by simp
  refine ⟨fun i => if i = 0 then k else j, w.heap.size, 2, cap, by decide, hC, fun i hi => ?_⟩
  rcases (by omega : i = 0 ∨ i = 1) with rfl | rfl
  · exact ⟨hk, (hb.cell (by show w.heap.size < _; omega)).trans h0⟩
  · exact ⟨hj, (hb.cell (by show w.heap.size < _; omega)).trans h1⟩
section
variable {S : Nat → Prop} {b : Nat} {d : Dk} {w : World}
set_option maxRecDepth 100000 in
set_option maxHeartbeats 6400000 in
theorem rename_any (h : PD S b d w) (k j : ByteArray) (hk : Gn k) (hj : Gn j) (h1 : d.steps ≤ 1000000000) (h2 : d.left ≤ mostL) (hL : d.fs.length ≤ 1000000) :
    Calls Try.prog 45 #[ptr b, .string k, .string j] w fun e w' => e = .returned (.int .i64 (preE d (hasE d k))) ∧ Lft S b (renD d k j) w w' := by
  have hmf : ∀ (fn : Fn) (first cap : Array Value) (w : World), (Instr.makeFunc fn first cap).run Try.prog w = .ok (.func fn first cap) w := fun _ _ _ _ => rfl
  have HP := Lib.hid h
  have HK := Lib.hid hk
  have HJ := Lib.hid hj
  have hk40 : k.size ≤ 40 := hk.2
  have HD : Hid (renD d k j = if preE d (hasE d k) = 0 then (match findF d.fs k with | some f => { stepD d with fs := ⟨j, f.data, f.dur⟩ :: delF (delF d.fs k) j } | none => d) else preD d (hasE d k)) := Lib.hid rfl
  obtain ⟨E, hEE⟩ : ∃ E, E = preE d (hasE d k) := ⟨_, rfl⟩
  have HE := Lib.hid hEE
  rw [← hEE] at HD ⊢
  obtain ⟨D', hDD⟩ : ∃ D', D' = renD d k j := ⟨_, rfl⟩
  rw [← hDD] at HD ⊢
  clear h hk hj hEE hDD
  go_enter Try.func45, Try.ntmps45
  go_wp2_with fail
  refine (named_wk _ _ ⟨_, _, _, rfl⟩).mono ?_
  rintro e w2 ⟨rfl, hc2, hb2⟩
  have hN2 : Hid (Nm (w.heap.size + 1) w2) := Lib.hid (nm_two (w := w) HK.out HJ.out (by simpa using hc2) (by simpa using hb2))
  have HB2 := Lib.hid (((Below.refl w.heap.size w).alloc (Nat.le_refl _) (.cells #[.string k, .string j] 9)).trans (hb2.mono (by simp)))
  clear hc2 hb2
  go_wp2_with fail
  refine (has_wk _ (.inr ⟨b, rfl⟩) k w2).mono ?_
  rintro e w3 ⟨rfl, hc3, hd3, hb3⟩
  have hN3 := Lib.hid (hN2.out.below hb3)
  have HB3 := Lib.hid (HB2.out.trans (hb3.mono HB2.out.size))
  have C3 := Lib.hid hc3
  have D3 := Lib.hid hd3
  clear hN2 hc3 hd3 hb3
  go_wp2_with fail
  have hpre := pre4_at (HP.out.below HB3.out) h1 h2 (w.heap.size + 1) hN3.out ⟨77, #[], #[ptr w2.heap.size, ptr (w2.heap.size + 1)]⟩ (hasE d k) ent40 (fun w1 hb => by
    have := hasf_any (HP.out.below (HB3.out.trans (hb.mono HB3.out.size))) k hk40 w2.heap.size (w2.heap.size + 1) ((hb.cell (w3.block_lt_of_cell? _ C3.out)).trans C3.out) ((hb.cell (w3.block_lt_of_cell? _ D3.out)).trans D3.out)
    exact this)
  rw [← HE.out] at hpre
  refine hpre.mono ?_
  rintro e w5 ⟨rfl, hp5, ht5⟩
  have P5 := Lib.hid hp5
  have T5 : Hid (Tr (fun j => j = b) w w5) := Lib.hid ((Tr.of_below HB3.out).then ht5)
  clear hpre hp5 ht5 hN3 HB3 HB2 C3 D3
  by_cases hE : E = 0
  · have hok := preD_ok (HE.out.symm.trans hE)
    rw [hok] at P5
    obtain ⟨f0, hf0⟩ := preE_ok (HE.out.symm.trans hE)
    have hD' : D' = { stepD d with fs := ⟨j, f0.data, f0.dur⟩ :: delF (delF d.fs k) j } := by rw [HD.out, if_pos hE, hf0]
    have HD' := Lib.hid hD'
    subst hE
    obtain ⟨G, mv, hv⟩ := P5.out
    obtain ⟨g, hg, hfg, rfl, hgn⟩ := hv.file_of (d := stepD d) hf0
    rcases hv.mp with ⟨_, rfl⟩ | ⟨m, D, rfl, hs, ho, ht⟩
    · cases hg
    have c0 : w5.cell? ⟨b, 0, none⟩ = some (.map (some m)) := hv.cell 0 _ rfl
    have hl := hv.look k hk40 (Below.refl _ w5)
    rw [hfg] at hl
    have hl : (Instr.lookup 62 (.map (some m)) (.string k) false).run Try.prog w5 = .ok (ptr g.b) w5 := hl
    have hfv := (hv.file g hg).1
    have hGl : G.length ≤ 1000000 := by have := hv.perm.length_eq; rw [List.length_map] at this; have e : (stepD d).fs = d.fs := rfl; rw [e] at this; omega
    have HDEL := Lib.hid (fun w1 (ho1 : OwnM w1 m G.length (D.del (ky k))) (hg1 : w5.grownBy w1 (some m)) => hv.del rfl hs ht ho k ho1 hg1)
    have hmi := hv.not_m hg ho
    have HAP : Hid (∀ x ∈ noG G k, ∀ i, its g.b g.v i → ¬ its x.b x.v i) := Lib.hid (fun x hx => by
      have hxm := List.mem_filter.1 hx
      exact hv.apart g hg x hxm.1 (by rw [hgn]; exact fun e => by simpa [e.symm] using hxm.2))
    have HFV := Lib.hid hfv
    have HMI := Lib.hid hmi
    have HOW := Lib.hid ho
    have HOB := Lib.hid hv.own
    have HSM := Lib.hid hs
    have hkl : k.size ≤ maxLen := by unfold maxLen; omega
    have HKY := Lib.hid (ky_of hkl)
    have hnl : (noG G k).length ≤ 1000000 := Nat.le_trans (List.length_filter_le _ _) hGl
    have hbl := hv.lt
    have hbm : b ≠ m := by
      rintro rfl
      obtain ⟨es, clock, hb, _⟩ := ho
      have := hv.blk; rw [hb] at this; simp at this
    clear hok hD' hv hfv ho ht hs hfg hg hgn hf0 hmi
    go_wp2_with (at_delete; refine wpList_delete_own _ rfl (.tmp 33) (.tmp 34) 62 9 rfl 74 law9 Try.underlying62 pR m G.length D rfl HOW.out _ (ky k) rfl HKY.out ?_)
    intro w6 hown6 hturn6
    have hdel := HDEL.out w6 hown6 hturn6.grown
    have T6 := Lib.hid hdel.2
    have V6 := Lib.hid hdel.1
    have hfv6 := HFV.out.least.tr hdel.2 (fun i _ hi e => HMI.out (e ▸ hi))
    have HPUT := Lib.hid (put_some hdel.1 hnl ⟨⟨j, g.f.data, g.f.dur⟩, g.b, g.v⟩ HJ.out.2 (hfv6.mono fun i hi => hi.elim (fun e => e ▸ HFV.out.own) (HFV.out.rowS i)) (fun x hx _ => HAP.out x hx))
    clear hown6 hturn6 hdel hfv6 c0 hl
    go_wp2_with fail
    refine HPUT.out.mono ?_
    rintro e w7 ⟨⟨u, rfl⟩, hl7⟩
    have HL7 := Lib.hid hl7
    clear hl7
    go_wp2
    go_ret
    rw [HD'.out]
    exact ⟨rfl, HL7.out.1.mono fun i hi => hi.imp id fun e => Nat.le_trans (Nat.le_trans T5.out.size T6.out.size) e, ((T5.out.mono fun i e => by rw [e]; exact HOB.out).then (T6.out.mono fun i e => by rw [e]; exact HSM.out)).then HL7.out.2⟩
  · have hD' : D' = preD d (hasE d k) := by rw [HD.out, if_neg hE]
    have q1 : (E == 0) = false := by simpa using hE
    have q2 : (E != 0) = true := by simpa using hE
    rw [← HE.out] at *
    have HF : Hid (Lft S b D' w w5) := Lib.hid ⟨by rw [hD']; exact P5.out.mono fun _ => .inl, T5.out.mono fun j e => by rw [e]; exact HP.out.own⟩
    clear hD' HE HD P5 T5
    go_wp2
    go_ret
    exact ⟨rfl, HF.out⟩
end
end Go.Proofs.Ytpiiknbjllgaoaa

/-
  What Sync and Read leave and answer.
-/
import Derived.Test.YtpiiknbjllgaoaaApp
namespace Go.Proofs.Ytpiiknbjllgaoaa
open Go.RowKit Go.Maps
def hasE (d : Dk) (k : ByteArray) : Int := if (findF d.fs k).isSome then 0 else 12
def synE (d : Dk) (k : ByteArray) : Int := preE d (hasE d k)
def synD (d : Dk) (k : ByteArray) : Dk := if synE d k = 0 then { stepD d with fs := withF d.fs k fun f => ⟨f.name, f.data, f.data.length⟩ } else preD d (hasE d k)
theorem preE_ok {d : Dk} {k : ByteArray} (h : preE d (hasE d k) = 0) : ∃ f, findF d.fs k = some f := by
  unfold preE hasE at h
  split at h
  · omega
  · cases hf : findF d.fs k with
    | none => rw [hf] at h; simp at h
    | some f => exact ⟨f, rfl⟩
section
variable {S : Nat → Prop} {b : Nat} {d : Dk} {w : World}
set_option maxRecDepth 100000 in
set_option maxHeartbeats 6400000 in
theorem sync_any (h : PD S b d w) (k : ByteArray) (hk : Gn k) (h1 : d.steps ≤ 1000000000) (h2 : d.left ≤ mostL) :
    Calls Try.prog 66 #[ptr b, .string k] w fun e w' => e = .returned (.int .i64 (synE d k)) ∧ Lft S b (synD d k) w w' := by
  have hmf : ∀ (fn : Fn) (first cap : Array Value) (w : World), (Instr.makeFunc fn first cap).run Try.prog w = .ok (.func fn first cap) w := fun _ _ _ _ => rfl
  have HP := Lib.hid h
  have HK := Lib.hid hk
  have hk40 : k.size ≤ 40 := hk.2
  have HE : Hid (synE d k = preE d (hasE d k)) := Lib.hid rfl
  have HD : Hid (synD d k = if synE d k = 0 then { stepD d with fs := withF d.fs k fun f => ⟨f.name, f.data, f.data.length⟩ } else preD d (hasE d k)) := Lib.hid rfl
  obtain ⟨E, hEE⟩ : ∃ E, E = synE d k := ⟨_, rfl⟩
  rw [← hEE] at HE HD ⊢
  obtain ⟨D', hDD⟩ : ∃ D', D' = synD d k := ⟨_, rfl⟩
  rw [← hDD] at HD ⊢
  clear h hk hEE hDD
  go_enter Try.func66, Try.ntmps66
  go_wp2_with fail
  refine (named_wk _ _ ⟨_, _, _, rfl⟩).mono ?_
  rintro e w2 ⟨rfl, hc2, hb2⟩
  have hN2 : Hid (Nm (w.heap.size + 1) w2) := Lib.hid (nm_one (w := w) HK.out (by simpa using hc2) (by simpa using hb2))
  have HB2 := Lib.hid (((Below.refl w.heap.size w).alloc (Nat.le_refl _) (.cells #[.string k] 9)).trans (hb2.mono (by simp)))
  clear hc2 hb2
  go_wp2_with fail
  refine (has_wk _ (.inr ⟨b, rfl⟩) k w2).mono ?_
  rintro e w3 ⟨rfl, hc3, hd3, hb3⟩
  have hN3 := Lib.hid (hN2.out.below hb3)
  have HB3 := Lib.hid (HB2.out.trans (hb3.mono HB2.out.size))
  have C3 := Lib.hid hc3
  have D3 := Lib.hid hd3
  clear hN2 hc3 hd3 hb3
  go_wp2_with fail
  have hpre := pre4_at (HP.out.below HB3.out) h1 h2 (w.heap.size + 1) hN3.out ⟨77, #[], #[ptr w2.heap.size, ptr (w2.heap.size + 1)]⟩ (hasE d k) ent40 (fun w1 hb => by
    have := hasf_any (HP.out.below (HB3.out.trans (hb.mono HB3.out.size))) k hk40 w2.heap.size (w2.heap.size + 1) ((hb.cell (w3.block_lt_of_cell? _ C3.out)).trans C3.out) ((hb.cell (w3.block_lt_of_cell? _ D3.out)).trans D3.out)
    exact this)
  rw [← HE.out] at hpre
  refine hpre.mono ?_
  rintro e w5 ⟨rfl, hp5, ht5⟩
  have P5 := Lib.hid hp5
  have T5 : Hid (Tr (fun j => j = b) w w5) := Lib.hid ((Tr.of_below HB3.out).then ht5)
  clear hpre hp5 ht5 hN3 HB3 HB2 C3 D3
  by_cases hE : E = 0
  · have hok := preD_ok (HE.out.symm.trans hE)
    rw [hok] at P5
    obtain ⟨f0, hf0⟩ := preE_ok (HE.out.symm.trans hE)
    have hD' : D' = { stepD d with fs := updF d.fs k fun f => ⟨f.name, f0.data, f0.data.length⟩ } := by rw [HD.out, if_pos hE]; unfold withF; rw [hf0]
    have HD' := Lib.hid hD'
    subst hE
    obtain ⟨G, mv, hv⟩ := P5.out
    obtain ⟨g, hg, hfg, rfl, hgn⟩ := hv.file_of (d := stepD d) hf0
    have c0 : w5.cell? ⟨b, 0, none⟩ = some (.map mv) := hv.cell 0 _ rfl
    have hl := hv.look k hk40 (Below.refl _ w5)
    rw [hfg] at hl
    have hfv0 := (hv.file g hg).1.least
    have hupd := fun R' t' w' (hf : Fd (andNew (its g.b g.v) w5.heap.size) g.b R' t' w') (ht : Tr (its g.b g.v) w5 w') => hv.upd hg (R := R') (t := t') hf ht
    rw [hgn] at hupd
    obtain ⟨⟨nm, R, t⟩, fb, v⟩ := g
    have hfv : FV (its fb v) fb R v t w5 := hfv0
    have hupd : ∀ R' t' w', Fd (andNew (its fb v) w5.heap.size) fb R' t' w' → Tr (its fb v) w5 w' → Lft S b { stepD d with fs := updF d.fs k fun f => ⟨f.name, R', t'⟩ } w5 w' := hupd
    have hl : (Instr.lookup 62 (.map mv) (.string k) false).run Try.prog w5 = .ok (ptr fb) w5 := hl
    have HD' : Hid (D' = { stepD d with fs := updF d.fs k fun f => ⟨f.name, R, R.length⟩ }) := HD'
    have HOWN := Lib.hid hv.own
    have d0 := hfv.blk.cell0
    have f1 := hfv.blk.frozen1
    have d1 := hfv.blk.cell1
    have HFV := Lib.hid hfv
    have HUP := Lib.hid hupd
    obtain ⟨a, cap, rfl, _, _⟩ := hfv.row.shape
    have HNE := Lib.hid (hfv.row.not_blk hfv.blk (by decide))
    obtain ⟨n, hn⟩ : ∃ n, n = R.length := ⟨_, rfl⟩
    have HN := Lib.hid hn
    rw [← hn] at d0
    clear hok hD' HE HD HP hv hfg hg hgn hfv hfv0 hupd hf0 hn
    go_wp2
    go_ret
    have h1 := (Tr.refl (fun k => k = fb) w5).setCell (b := fb) (i := 1) (.inl rfl) (.int .i64 (n : Int))
    have hfd : Fd (andNew (its fb (.slice a R.length cap)) w5.heap.size) fb R n (w5.setCell ⟨fb, 1, none⟩ (.int .i64 (n : Int))) :=
      ⟨_, HFV.out.blk.set1 _, HFV.out.row.tr h1 (fun j hj e => HNE.out (by rw [hj, e])), fun j hj => .inl (.inr hj), .inl (.inl rfl), Nat.le_of_eq HN.out⟩
    have L := HUP.out _ _ _ hfd (h1.mono fun j e => .inl e)
    rw [HD'.out, ← HN.out]
    exact ⟨rfl, L.1.mono fun j hj => hj.elim .inl fun h => .inr (Nat.le_trans T5.out.size h), (T5.out.mono fun j e => by rw [e]; exact HOWN.out).then L.2⟩
  · have hD' : D' = preD d (hasE d k) := by rw [HD.out, if_neg hE]
    have q1 : (E == 0) = false := by simpa using hE
    have q2 : (E != 0) = true := by simpa using hE
    have HF : Hid (Lft S b D' w w5) := Lib.hid ⟨by rw [hD']; exact P5.out.mono fun _ => .inl, T5.out.mono fun j e => by rw [e]; exact HP.out.own⟩
    clear hD' HE HD P5 T5
    go_wp2
    go_ret
    exact ⟨rfl, HF.out⟩
/-- What is read. -/
def redE (d : Dk) (k : ByteArray) : Int := if d.off then 14 else hasE d k
def redS (d : Dk) (k : ByteArray) : ByteArray := if redE d k = 0 then (match findF d.fs k with | some f => ⟨f.data.toArray⟩ | none => ⟨#[]⟩) else ⟨#[]⟩
theorem conv_row {v : Value} {R : Bs} (h : Row w v R) : (convert 31 9 v).run Try.prog w = .ok (.string ⟨R.toArray⟩) w := by
  by_cases hn : R = []
  · subst hn
    rcases h with ⟨rfl, _⟩ | ⟨g, k, cap, cur, rfl, hg, _⟩
    · have := run_convert_bytes_string (P := Try.prog) w 31 9 5 none 0 0 Try.underlying31 Try.underlying5 Try.underlying9
      rw [this]
      rfl
    · exact run_convert_bytes_back (P := Try.prog) w 31 9 5 ⟨g, k, none⟩ cap [] Try.underlying31 Try.underlying5 Try.underlying9 (fun j hj => by simp at hj)
  · obtain ⟨a, cap, rfl, _, _⟩ := h.shape
    obtain ⟨g, k, rfl, _, hc⟩ := h.cells hn
    exact run_convert_bytes_back (P := Try.prog) w 31 9 5 ⟨g, k, none⟩ cap R Try.underlying31 Try.underlying5 Try.underlying9 (fun j hj => by
      rw [Addr.add_lit]
      exact hc j _ (List.getElem?_eq_getElem hj))
set_option maxRecDepth 100000 in
set_option maxHeartbeats 6400000 in
theorem read_any (h : PD S b d w) (k : ByteArray) (hk : Gn k) :
    Calls Try.prog 35 #[ptr b, .string k] w fun e w' => e = .returned (.tuple #[.string (redS d k), .int .i64 (redE d k)]) ∧ Below w.heap.size w w' := by
  have hmf : ∀ (fn : Fn) (first cap : Array Value) (w : World), (Instr.makeFunc fn first cap).run Try.prog w = .ok (.func fn first cap) w := fun _ _ _ _ => rfl
  have HP := Lib.hid h
  have HK := Lib.hid hk
  have hk40 : k.size ≤ 40 := hk.2
  have HE : Hid (redE d k = if d.off then 14 else hasE d k) := Lib.hid rfl
  have HD : Hid (redS d k = if redE d k = 0 then (match findF d.fs k with | some f => ⟨f.data.toArray⟩ | none => ⟨#[]⟩) else ⟨#[]⟩) := Lib.hid rfl
  obtain ⟨E, hEE⟩ : ∃ E, E = redE d k := ⟨_, rfl⟩
  rw [← hEE] at HE HD ⊢
  obtain ⟨D', hDD⟩ : ∃ D', D' = redS d k := ⟨_, rfl⟩
  rw [← hDD] at HD ⊢
  clear h hk hEE hDD
  go_enter Try.func35, Try.ntmps35
  go_wp2_with fail
  refine (named_wk _ _ ⟨_, _, _, rfl⟩).mono ?_
  rintro e w2 ⟨rfl, hc2, hb2⟩
  have hN2 : Hid (Nm (w.heap.size + 1) w2) := Lib.hid (nm_one (w := w) HK.out (by simpa using hc2) (by simpa using hb2))
  have HB2 := Lib.hid (((Below.refl w.heap.size w).alloc (Nat.le_refl _) (.cells #[.string k] 9)).trans (hb2.mono (by simp)))
  clear hc2 hb2
  go_wp2_with fail
  refine (has_wk _ (.inr ⟨b, rfl⟩) k w2).mono ?_
  rintro e w3 ⟨rfl, hc3, hd3, hb3⟩
  have hN3 := Lib.hid (hN2.out.below hb3)
  have HB3 := Lib.hid (HB2.out.trans (hb3.mono HB2.out.size))
  have C3 := Lib.hid hc3
  have D3 := Lib.hid hd3
  clear hN2 hc3 hd3 hb3
  go_wp2_with fail
  have hpre := pre3_at (HP.out.below HB3.out) (w.heap.size + 1) hN3.out ⟨77, #[], #[ptr w2.heap.size, ptr (w2.heap.size + 1)]⟩ (hasE d k) ent40 (fun w1 hb => by
    have := hasf_any (HP.out.below (HB3.out.trans (hb.mono HB3.out.size))) k hk40 w2.heap.size (w2.heap.size + 1) ((hb.cell (w3.block_lt_of_cell? _ C3.out)).trans C3.out) ((hb.cell (w3.block_lt_of_cell? _ D3.out)).trans D3.out)
    exact this)
  rw [← HE.out] at hpre
  refine hpre.mono ?_
  rintro e w5 ⟨rfl, hb5⟩
  have B5 : Hid (Below w.heap.size w w5) := Lib.hid (HB3.out.trans (hb5.mono HB3.out.size))
  clear hpre hb5 hN3 HB3 HB2 C3 D3
  by_cases hE : E = 0
  · have hf : ∃ f, findF d.fs k = some f := by
      have := HE.out.symm.trans hE
      unfold hasE at this
      cases hf : findF d.fs k with
      | none => rw [hf] at this; split at this <;> simp at this
      | some f => exact ⟨f, rfl⟩
    obtain ⟨f0, hf0⟩ := hf
    have hD' : D' = ⟨f0.data.toArray⟩ := by rw [HD.out, if_pos hE, hf0]
    subst hE
    obtain ⟨G, mv, hv⟩ := HP.out.below B5.out
    obtain ⟨g, hg, hfg, rfl, hgn⟩ := hv.file_of hf0
    have c0 : w5.cell? ⟨b, 0, none⟩ = some (.map mv) := hv.cell 0 _ rfl
    have hl := hv.look k hk40 (Below.refl _ w5)
    rw [hfg] at hl
    have hfv0 := (hv.file g hg).1.least
    obtain ⟨⟨nm, R, t⟩, fb, v⟩ := g
    have hfv : FV (its fb v) fb R v t w5 := hfv0
    have hl : (Instr.lookup 62 (.map mv) (.string k) false).run Try.prog w5 = .ok (ptr fb) w5 := hl
    have hD' : D' = ⟨R.toArray⟩ := hD'
    have d0 := hfv.blk.cell0
    have hcv := conv_row hfv.row
    have HDD := Lib.hid hD'
    obtain ⟨a, cap, rfl, _, _⟩ := hfv.row.shape
    clear hD' HE HD HP hv hfg hg hgn hfv hfv0 hf0
    go_wp2
    go_ret2
    rw [HDD.out]
    exact ⟨rfl, B5.out⟩
  · have hD' : D' = ⟨#[]⟩ := by rw [HD.out, if_neg hE]
    have q1 : (E == 0) = false := by simpa using hE
    have q2 : (E != 0) = true := by simpa using hE
    have HDD := Lib.hid hD'
    clear hD' HE HD HP
    go_wp2
    go_ret2
    rw [HDD.out]
    exact ⟨rfl, B5.out⟩
end
end Go.Proofs.Ytpiiknbjllgaoaa

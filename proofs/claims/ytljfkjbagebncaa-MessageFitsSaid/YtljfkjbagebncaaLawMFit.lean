/-
  The walk of the law MessageFits. No older memory is changed.
-/
import Derived.Test.YtljfkjbagebncaaRFit
namespace Go.Proofs.Ytljfkjbagebncaa
open Go.RowKit
theorem fitW_len (lim : Int) (m : Ms) : ∀ k, (fitW lim m k).2 = 0 → ((fitW lim m k).1.length : Int) ≤ lim := by
  have hw : ∀ m, (wres lim m).2 = 0 → ((wres lim m).1.length : Int) ≤ lim := by
    intro m h
    unfold wres at h ⊢
    by_cases g : lim < ((mF m).1.length : Int)
    · rw [if_pos g] at h; cases h
    · rw [if_neg g]; simp only; omega
  intro k
  induction k with
  | zero => exact hw _
  | succ k ih =>
    intro h
    rw [fitW] at h ⊢
    by_cases g : (wres lim (cutM m (2 - k))).2 = 0
    · rw [if_pos g]; exact hw _ g
    · rw [if_neg g] at h ⊢; exact ih h
theorem mfit_len {m : Ms} {lim : Int} (h : (mfit m lim).2 = 0) : ((mfit m lim).1.length : Int) ≤ lim ∧ ((mfit m lim).1.length : Int) ≤ 4096 := by
  unfold mfit at h ⊢
  by_cases g : mck m = 0
  · rw [if_pos g] at h ⊢
    have := fitW_len _ m 3 h
    omega
  · rw [if_neg g] at h; exact absurd h g
set_option maxRecDepth 100000 in
set_option maxHeartbeats 12800000 in
theorem lfits_any (m : Ms) (hm : m.Num) (lim : Int) (hlim : -9223372036854775808 ≤ lim ∧ lim ≤ 9223372036854775807) (q x y z : Sl) (w : World) (h : Lay w m q x y z) :
    Calls Try.prog 5 #[.agg (m.cells q x y z), .int .i64 lim] w fun e w' => e = .returned (.bool true) ∧ Below w.heap.size w w' := by
  have hb0 := one_box w (.cells (m.cells q x y z) 26)
  have HK0 := Lib.hid (Ce.new w 26 (m.cells q x y z))
  have HL0 := Lib.hid (h.below hb0)
  have HB0 := Lib.hid hb0
  have HNUM := Lib.hid hm
  have HLIM := Lib.hid hlim
  clear h hm hb0 hlim
  obtain ⟨id, r, a, t, d, v, op, cd, qs0, an0, au0, ex0⟩ := m
  go_enter Try.func5, Try.ntmps5
  go_wp2_with fail
  refine (mawake_any _).mono ?_
  rintro e w1 ⟨rfl, hb1⟩
  have A1 := Lib.hid (HK0.out.below hb1)
  have U1 := Lib.hid (HB0.out.trans (hb1.mono HB0.out.size))
  have L1 := Lib.hid (HL0.out.below hb1)
  clear hb1 HK0 HB0 HL0
  go_wp2_with (first | (refine ld12 (.tmp 2) A1.out rfl rfl rfl rfl ?_))
  refine (small_any ⟨id, r, a, t, d, v, op, cd, qs0, an0, au0, ex0⟩ q x y z _ L1.out HNUM.out.qs HNUM.out.an HNUM.out.au HNUM.out.ex).mono ?_
  rintro e w2 ⟨qs, an, au, ex, q2, x2, y2, z2, rfl, hq2, hx2, hy2, hz2, lq, lx, ly, lz, hcap, hnil, hb2⟩
  have A2 := Lib.hid (A1.out.below hb2)
  have A3 := Lib.hid ((A1.out.below hb2).row (mc id r a t d v op cd q2 x2 y2 z2))
  have U3 := Lib.hid (below_row (U1.out.trans (hb2.mono U1.out.size)) (Nat.le_refl _) (mc id r a t d v op cd q2 x2 y2 z2))
  have L3 := Lib.hid ((show Lay w2 (⟨id, r, a, t, d, v, op, cd, qs, an, au, ex⟩ : Ms) q2 x2 y2 z2 from ⟨hq2, hx2, hy2, hz2⟩).other A2.out (mc_ns _ _ _ _ _ _ _ _ _ _ _ _) (row_others w2 w.heap.size (mc id r a t d v op cd q2 x2 y2 z2)).1 (row_others w2 w.heap.size (mc id r a t d v op cd q2 x2 y2 z2)).2)
  have HC : Hid (CutOk ⟨id, r, a, t, d, v, op, cd, qs, an, au, ex⟩ x2 y2 z2) := Lib.hid ⟨lim_mok HNUM.out.id HNUM.out.op HNUM.out.cd lq lx ly lz, lq, lx, ly, lz, hnil⟩
  have C1 := fun w h => fit_any ⟨id, r, a, t, d, v, op, cd, qs, an, au, ex⟩ HC.out.ok q2 x2 y2 z2 lim HLIM.out w h
  have C2 := fun w h => rfit_any ⟨id, r, a, t, d, v, op, cd, qs, an, au, ex⟩ q2 x2 y2 z2 HC.out lim w h
  have C3 := fun h => mfit_len (m := ⟨id, r, a, t, d, v, op, cd, qs, an, au, ex⟩) (lim := lim) h
  generalize mfit ⟨id, r, a, t, d, v, op, cd, qs, an, au, ex⟩ lim = R at C1 C2 C3
  have HC1 := Lib.hid C1
  have HC2 := Lib.hid C2
  obtain ⟨F, E⟩ := R
  have HC3 : Hid (E = 0 → (F.length : Int) ≤ lim ∧ (F.length : Int) ≤ 4096) := Lib.hid C3
  have qe : (E == E) = true := by simp
  clear hq2 hx2 hy2 hz2 lq lx ly lz hcap hnil hb2 C1 C2 C3 A1 U1 L1
  go_wp2_with (first | (refine st12 (.tmp 2) (.tmp 12) A2.out rfl rfl rfl rfl rfl ?_) | (refine ld12 (.tmp 2) A3.out rfl rfl rfl rfl ?_))
  generalize World.setRow w2 _ _ = w3 at A3 U3 L3 ⊢
  refine (HC1.out _ L3.out).mono ?_
  rintro e w4 ⟨rfl, hb4⟩
  have A4 := Lib.hid (A3.out.below hb4)
  have L4 := Lib.hid (L3.out.below hb4)
  have U4 := Lib.hid (U3.out.trans (hb4.mono U3.out.size))
  clear hb4 A3 L3 U3
  go_wp2_with (first | (refine ld12 (.tmp 2) A4.out rfl rfl rfl rfl ?_))
  refine (HC2.out _ L4.out).mono ?_
  rintro e w5 ⟨rfl, hb5⟩
  have U5 := Lib.hid (U4.out.trans (hb5.mono U4.out.size))
  clear hb5
  by_cases g : E = 0
  · subst g
    obtain ⟨g1, g2⟩ := HC3.out rfl
    go_wp2
    go_ret
    exact ⟨by simp, U5.out⟩
  · have g1 : (E != 0) = true := by simpa using g
    clear g
    go_wp2
    go_ret
    exact ⟨by simp, U5.out⟩
end Go.Proofs.Ytljfkjbagebncaa

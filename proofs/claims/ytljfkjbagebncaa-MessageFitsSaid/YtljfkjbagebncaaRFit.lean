/-
  The document's Fit. No older memory is changed.
-/
import Derived.Test.YtljfkjbagebncaaRBytes
namespace Go.Proofs.Ytljfkjbagebncaa
open Go.RowKit
theorem nl_ok : nl.a = none → nl.c = 0 := fun _ => rfl
/-- What is left of a message. -/
theorem CutOk.cut {m : Ms} {x y z : Sl} (h : CutOk m x y z) : CutOk (cutM m 1) x y nl ∧ CutOk (cutM m 2) x nl nl ∧ CutOk (cutM m 3) nl nl nl :=
  ⟨⟨cut_ok h.ok 1, h.lq, h.lx, h.ly, lim_none, h.n.1, h.n.2.1, nl_ok⟩, ⟨cut_ok h.ok 2, h.lq, h.lx, lim_none, lim_none, h.n.1, nl_ok, nl_ok⟩, ⟨cut_ok h.ok 3, h.lq, lim_none, lim_none, lim_none, nl_ok, nl_ok, nl_ok⟩⟩
theorem mbytes_good {m : Ms} (g : mck m = 0) : mbytes m = if 4096 < (((mF m).1.length : Nat) : Int) then ([], 11) else ((mF m).1, 0) := by unfold mbytes; rw [if_pos g]; rfl
theorem wres_bad {lim : Int} {m : Ms} : (wres lim m).2 ≠ 0 ↔ lim < ((mF m).1.length : Int) := by
  unfold wres
  by_cases g : lim < ((mF m).1.length : Int)
  · rw [if_pos g]; simp [g]
  · rw [if_neg g]; simp [g]
/-- One cell of a message's box is stored anew. -/
theorem set_keep {w wr : World} {g i : Nat} {cs cs' : Array Value} {v : Value} {m : Ms} {q x y z : Sl} (hb : Below w.heap.size w wr) (hg : w.heap.size ≤ g) (hc : Ce wr g 26 cs) (he : cs.setIfInBounds i v = cs') (hl : Lay wr m q x y z) (hn : NoS cs) :
    Below w.heap.size w (wr.setCell ⟨g, i, none⟩ v) ∧ Ce (wr.setCell ⟨g, i, none⟩ v) g 26 cs' ∧ Lay (wr.setCell ⟨g, i, none⟩ v) m q x y z :=
  ⟨hb.setCell (p := ⟨g, i, none⟩) hg _, he ▸ hc.set v, hl.other hc hn (set_others wr g i v).1 (set_others wr g i v).2⟩
set_option maxRecDepth 100000 in
set_option maxHeartbeats 25600000 in
theorem rfit_any (m : Ms) (q x y z : Sl) (h : CutOk m x y z) (lim : Int) (w : World) (hl : Lay w m q x y z) :
    Calls Try.prog 20 #[.agg (m.cells q x y z), .int .i64 lim] w fun e w' => e = .returned (.tuple #[str (mfit m lim).1, .int .i64 (mfit m lim).2]) ∧ Below w.heap.size w w' := by
  have hb0 := one_box w (.cells (m.cells q x y z) 26)
  have HK0 := Lib.hid (Ce.new w 26 (m.cells q x y z))
  have HL0 := Lib.hid (hl.below hb0)
  have HB0 := Lib.hid hb0
  have HH := Lib.hid h
  clear hb0 h hl
  by_cases g : mck m = 0
  · have hg := mck_good.1 g
    have hR : mfit m lim = fitW (min lim 4096) m 3 := if_pos g
    obtain ⟨F, hF⟩ : ∃ F : Nat → Bs, F = fun k => (mF (cutM m k)).1 := ⟨_, rfl⟩
    have HFA : Hid (∀ k, k ≤ 3 → (∀ j, j < k → min lim 4096 < ((F j).length : Int)) → ((F k).length : Int) ≤ lim → ((F k).length : Int) ≤ 4096 → mfit m lim = (F k, 0)) := Lib.hid fun k h1 h2 h3 h4 => by
      have hn : ¬ min lim 4096 < (((mF (cutM m k)).1.length : Nat) : Int) := by rw [hF] at h3 h4; simp only at h3 h4; omega
      rw [hR, fitW_at (k := k) (fun j hj => wres_bad.2 (by have := h2 j hj; rw [hF] at this; exact this)) h1 (.inl (by unfold wres; rw [if_neg hn])), hF]
      unfold wres
      rw [if_neg hn]
    have HEND : Hid ((∀ j, j < 4 → min lim 4096 < ((F j).length : Int)) → mfit m lim = ([], 11)) := Lib.hid fun h2 => by
      have hn : min lim 4096 < (((mF (cutM m 3)).1.length : Nat) : Int) := by have := h2 3 (by omega); rw [hF] at this; exact this
      rw [hR, fitW_at (k := 3) (fun j hj => wres_bad.2 (by have := h2 j (by omega); rw [hF] at this; exact this)) (by omega) (.inr rfl)]
      unfold wres
      rw [if_pos hn]
    generalize mfit m lim = R at HFA HEND ⊢
    have HBG0 : Hid (4096 < ((F 0).length : Int) → ∀ w, Lay w m q x y z → Calls Try.prog 12 #[.agg (mc m.id m.r m.a m.t m.d m.v m.op m.cd q x y z)] w fun e w' => e = .returned (.tuple #[.string ⟨#[]⟩, .int .i64 11]) ∧ Below w.heap.size w w') := Lib.hid fun g1 w hl => by
      rw [hF] at g1
      have := rbytes_any (cutM m 0) q x y z HH.out w hl
      rw [mbytes_good (mck_good.2 (cut_good hg 0)), if_pos g1] at this
      exact this
    have HBL0 : Hid (((F 0).length : Int) ≤ 4096 → ∀ w, Lay w m q x y z → Calls Try.prog 12 #[.agg (mc m.id m.r m.a m.t m.d m.v m.op m.cd q x y z)] w fun e w' => e = .returned (.tuple #[str (F 0), .int .i64 0]) ∧ Below w.heap.size w w') := Lib.hid fun g1 w hl => by
      rw [hF] at g1 ⊢
      have := rbytes_any (cutM m 0) q x y z HH.out w hl
      rw [mbytes_good (mck_good.2 (cut_good hg 0)), if_neg (by simp only at g1; omega)] at this
      exact this
    have HLG0 : Hid (∀ w, Lay w m q x y z → Calls Try.prog 46 #[.agg (mc m.id m.r m.a m.t m.d m.v m.op m.cd q x y z)] w fun e w' => e = .returned (.bool true) ∧ Below w.heap.size w w') := Lib.hid fun w hl => by
      have := rlong_any (cutM m 0) q x y z HH.out w hl
      rw [mck_good.2 (cut_good hg 0)] at this
      exact this
    have HBG1 : Hid (4096 < ((F 1).length : Int) → ∀ w, Lay w m q x y z → Calls Try.prog 12 #[.agg (mc m.id m.r m.a m.t m.d m.v m.op m.cd q x y nl)] w fun e w' => e = .returned (.tuple #[.string ⟨#[]⟩, .int .i64 11]) ∧ Below w.heap.size w w') := Lib.hid fun g1 w hl => by
      rw [hF] at g1
      have := rbytes_any (cutM m 1) q x y nl HH.out.cut.1 w (cut_lay hl).1
      rw [mbytes_good (mck_good.2 (cut_good hg 1)), if_pos g1] at this
      exact this
    have HBL1 : Hid (((F 1).length : Int) ≤ 4096 → ∀ w, Lay w m q x y z → Calls Try.prog 12 #[.agg (mc m.id m.r m.a m.t m.d m.v m.op m.cd q x y nl)] w fun e w' => e = .returned (.tuple #[str (F 1), .int .i64 0]) ∧ Below w.heap.size w w') := Lib.hid fun g1 w hl => by
      rw [hF] at g1 ⊢
      have := rbytes_any (cutM m 1) q x y nl HH.out.cut.1 w (cut_lay hl).1
      rw [mbytes_good (mck_good.2 (cut_good hg 1)), if_neg (by simp only at g1; omega)] at this
      exact this
    have HLG1 : Hid (∀ w, Lay w m q x y z → Calls Try.prog 46 #[.agg (mc m.id m.r m.a m.t m.d m.v m.op m.cd q x y nl)] w fun e w' => e = .returned (.bool true) ∧ Below w.heap.size w w') := Lib.hid fun w hl => by
      have := rlong_any (cutM m 1) q x y nl HH.out.cut.1 w (cut_lay hl).1
      rw [mck_good.2 (cut_good hg 1)] at this
      exact this
    have HBG2 : Hid (4096 < ((F 2).length : Int) → ∀ w, Lay w m q x y z → Calls Try.prog 12 #[.agg (mc m.id m.r m.a m.t m.d m.v m.op m.cd q x nl nl)] w fun e w' => e = .returned (.tuple #[.string ⟨#[]⟩, .int .i64 11]) ∧ Below w.heap.size w w') := Lib.hid fun g1 w hl => by
      rw [hF] at g1
      have := rbytes_any (cutM m 2) q x nl nl HH.out.cut.2.1 w (cut_lay hl).2.1
      rw [mbytes_good (mck_good.2 (cut_good hg 2)), if_pos g1] at this
      exact this
    have HBL2 : Hid (((F 2).length : Int) ≤ 4096 → ∀ w, Lay w m q x y z → Calls Try.prog 12 #[.agg (mc m.id m.r m.a m.t m.d m.v m.op m.cd q x nl nl)] w fun e w' => e = .returned (.tuple #[str (F 2), .int .i64 0]) ∧ Below w.heap.size w w') := Lib.hid fun g1 w hl => by
      rw [hF] at g1 ⊢
      have := rbytes_any (cutM m 2) q x nl nl HH.out.cut.2.1 w (cut_lay hl).2.1
      rw [mbytes_good (mck_good.2 (cut_good hg 2)), if_neg (by simp only at g1; omega)] at this
      exact this
    have HLG2 : Hid (∀ w, Lay w m q x y z → Calls Try.prog 46 #[.agg (mc m.id m.r m.a m.t m.d m.v m.op m.cd q x nl nl)] w fun e w' => e = .returned (.bool true) ∧ Below w.heap.size w w') := Lib.hid fun w hl => by
      have := rlong_any (cutM m 2) q x nl nl HH.out.cut.2.1 w (cut_lay hl).2.1
      rw [mck_good.2 (cut_good hg 2)] at this
      exact this
    have HBG3 : Hid (4096 < ((F 3).length : Int) → ∀ w, Lay w m q x y z → Calls Try.prog 12 #[.agg (mc m.id m.r m.a true m.d m.v m.op m.cd q nl nl nl)] w fun e w' => e = .returned (.tuple #[.string ⟨#[]⟩, .int .i64 11]) ∧ Below w.heap.size w w') := Lib.hid fun g1 w hl => by
      rw [hF] at g1
      have := rbytes_any (cutM m 3) q nl nl nl HH.out.cut.2.2 w (cut_lay hl).2.2
      rw [mbytes_good (mck_good.2 (cut_good hg 3)), if_pos g1] at this
      exact this
    have HBL3 : Hid (((F 3).length : Int) ≤ 4096 → ∀ w, Lay w m q x y z → Calls Try.prog 12 #[.agg (mc m.id m.r m.a true m.d m.v m.op m.cd q nl nl nl)] w fun e w' => e = .returned (.tuple #[str (F 3), .int .i64 0]) ∧ Below w.heap.size w w') := Lib.hid fun g1 w hl => by
      rw [hF] at g1 ⊢
      have := rbytes_any (cutM m 3) q nl nl nl HH.out.cut.2.2 w (cut_lay hl).2.2
      rw [mbytes_good (mck_good.2 (cut_good hg 3)), if_neg (by simp only at g1; omega)] at this
      exact this
    have HLG3 : Hid (∀ w, Lay w m q x y z → Calls Try.prog 46 #[.agg (mc m.id m.r m.a true m.d m.v m.op m.cd q nl nl nl)] w fun e w' => e = .returned (.bool true) ∧ Below w.heap.size w w') := Lib.hid fun w hl => by
      have := rlong_any (cutM m 3) q nl nl nl HH.out.cut.2.2 w (cut_lay hl).2.2
      rw [mck_good.2 (cut_good hg 3)] at this
      exact this
    obtain ⟨id, r, a, t, d, v, op, cd, qs, an, au, ex⟩ := m
    clear hR hg g hF HH
    go_enter Try.func20, Try.ntmps20
    go_wp2_with fail
    go_loopw [6] (fun i wr => ∃ (k : Nat) (n : Int), ((0 = k ∧ 0 = n ∧ Ce wr w.heap.size 26 (mc id r a t d v op cd q x y z)) ∨ (1 = k ∧ 1 = n ∧ Ce wr w.heap.size 26 (mc id r a t d v op cd q x y nl)) ∨ (2 = k ∧ 2 = n ∧ Ce wr w.heap.size 26 (mc id r a t d v op cd q x nl nl)) ∨ (3 = k ∧ 3 = n ∧ Ce wr w.heap.size 26 (mc id r a true d v op cd q nl nl nl)) ∨ (4 = k ∧ 4 = n ∧ True)) ∧ i = .int .i64 n ∧ Below w.heap.size w wr ∧ Lay wr ⟨id, r, a, t, d, v, op, cd, qs, an, au, ex⟩ q x y z ∧ (∀ j, j < k → min lim 4096 < ((F j).length : Int))) (fun i _ => 4 - (intOf i).toNat)
    case atStart => exact ⟨0, 0, .inl ⟨rfl, rfl, HK0.out⟩, rfl, HB0.out, HL0.out, by omega⟩
    case round =>
      clear HK0 HB0 HL0
      obtain ⟨k, n, hk, rfl, hb, hls, hall⟩ := hrel
      have HB := Lib.hid hb
      have HL := Lib.hid hls
      have HALL := Lib.hid hall
      clear hb hls hall
      rcases hk with ⟨rfl, rfl, hc⟩ | ⟨rfl, rfl, hc⟩ | ⟨rfl, rfl, hc⟩ | ⟨rfl, rfl, hc⟩ | ⟨rfl, rfl, _⟩
      · have HK := Lib.hid hc
        clear hc
        by_cases g1 : 4096 < ((F 0).length : Int)
        · have HC := Lib.hid (HBG0.out g1)
          have HALL2 : Hid (∀ j, j < 0 + 1 → min lim 4096 < ((F j).length : Int)) := Lib.hid fun j hj => by
            rcases Nat.lt_succ_iff_lt_or_eq.1 hj with h | rfl
            · exact HALL.out j h
            · omega
          clear g1
          go_wp2_with (first | (refine ld12 (.tmp 2) HK.out rfl rfl rfl rfl ?_))
          refine (HC.out _ HL.out).mono ?_
          rintro e w2 ⟨rfl, hb2⟩
          have HB2 := Lib.hid (HB.out.trans (hb2.mono HB.out.size))
          have HK2 := Lib.hid (HK.out.below hb2)
          have HL2 := Lib.hid (HL.out.below hb2)
          clear hb2 HB HK HL HC
          obtain ⟨k0, k1, k2, k3, k4, k5, k6, k7, k8, k9, k10, k11⟩ := c12 HK2.out
          go_wp2_with fail
          refine (HLG0.out _ HL2.out).mono ?_
          rintro e w3 ⟨rfl, hb3⟩
          clear k0 k1 k2 k3 k4 k5 k6 k7 k8 k9 k10 k11
          have HB3 := Lib.hid (HB2.out.trans (hb3.mono HB2.out.size))
          have HK3 := Lib.hid (HK2.out.below hb3)
          have HL3 := Lib.hid (HL2.out.below hb3)
          clear hb3 HB2 HK2 HL2
          have fz := HK3.out.frozen 11
          have cx := HK3.out.cell 11
          simp at cx
          have HS := Lib.hid (set_keep HB3.out (Nat.le_refl _) HK3.out (i := 11) (v := .slice none 0 0) (cs' := mc id r a t d v op cd q x y nl) rfl HL3.out (mc_ns _ _ _ _ _ _ _ _ _ _ _ _))
          go_wp2
          go_roundw
          case rel => exact ⟨1, 1, .inr (.inl ⟨rfl, rfl, HS.out.2.1⟩), by go_num, HS.out.1, HS.out.2.2, HALL2.out⟩
          case measure => simp [intOf]
        · have HC := Lib.hid (HBL0.out (by omega))
          by_cases g2 : ((F 0).length : Int) ≤ lim
          · have HR := Lib.hid (HFA.out 0 (by omega) HALL.out g2 (by omega))
            clear g1
            go_wp2_with (first | (refine ld12 (.tmp 2) HK.out rfl rfl rfl rfl ?_))
            refine (HC.out _ HL.out).mono ?_
            rintro e w2 ⟨rfl, hb2⟩
            have HB2 := Lib.hid (HB.out.trans (hb2.mono HB.out.size))
            clear hb2 HB HK HL HC
            go_wp2
            go_ret2
            exact ⟨by rw [HR.out]; rfl, HB2.out⟩
          · have HALL2 : Hid (∀ j, j < 0 + 1 → min lim 4096 < ((F j).length : Int)) := Lib.hid fun j hj => by
              rcases Nat.lt_succ_iff_lt_or_eq.1 hj with h | rfl
              · exact HALL.out j h
              · omega
            have g3 : decide (((F 0).length : Int) ≤ lim) = false := by simpa using g2
            clear g1 g2
            go_wp2_with (first | (refine ld12 (.tmp 2) HK.out rfl rfl rfl rfl ?_))
            refine (HC.out _ HL.out).mono ?_
            rintro e w2 ⟨rfl, hb2⟩
            have HB2 := Lib.hid (HB.out.trans (hb2.mono HB.out.size))
            have HK2 := Lib.hid (HK.out.below hb2)
            have HL2 := Lib.hid (HL.out.below hb2)
            clear hb2 HB HK HL HC
            have fz := HK2.out.frozen 11
            have cx := HK2.out.cell 11
            simp at cx
            have HS := Lib.hid (set_keep HB2.out (Nat.le_refl _) HK2.out (i := 11) (v := .slice none 0 0) (cs' := mc id r a t d v op cd q x y nl) rfl HL2.out (mc_ns _ _ _ _ _ _ _ _ _ _ _ _))
            go_wp2
            go_roundw
            case rel => exact ⟨1, 1, .inr (.inl ⟨rfl, rfl, HS.out.2.1⟩), by go_num, HS.out.1, HS.out.2.2, HALL2.out⟩
            case measure => simp [intOf]
      · have HK := Lib.hid hc
        clear hc
        by_cases g1 : 4096 < ((F 1).length : Int)
        · have HC := Lib.hid (HBG1.out g1)
          have HALL2 : Hid (∀ j, j < 1 + 1 → min lim 4096 < ((F j).length : Int)) := Lib.hid fun j hj => by
            rcases Nat.lt_succ_iff_lt_or_eq.1 hj with h | rfl
            · exact HALL.out j h
            · omega
          clear g1
          go_wp2_with (first | (refine ld12 (.tmp 2) HK.out rfl rfl rfl rfl ?_))
          refine (HC.out _ HL.out).mono ?_
          rintro e w2 ⟨rfl, hb2⟩
          have HB2 := Lib.hid (HB.out.trans (hb2.mono HB.out.size))
          have HK2 := Lib.hid (HK.out.below hb2)
          have HL2 := Lib.hid (HL.out.below hb2)
          clear hb2 HB HK HL HC
          obtain ⟨k0, k1, k2, k3, k4, k5, k6, k7, k8, k9, k10, k11⟩ := c12 HK2.out
          go_wp2_with fail
          refine (HLG1.out _ HL2.out).mono ?_
          rintro e w3 ⟨rfl, hb3⟩
          clear k0 k1 k2 k3 k4 k5 k6 k7 k8 k9 k10 k11
          have HB3 := Lib.hid (HB2.out.trans (hb3.mono HB2.out.size))
          have HK3 := Lib.hid (HK2.out.below hb3)
          have HL3 := Lib.hid (HL2.out.below hb3)
          clear hb3 HB2 HK2 HL2
          have fz := HK3.out.frozen 10
          have cx := HK3.out.cell 10
          simp at cx
          have HS := Lib.hid (set_keep HB3.out (Nat.le_refl _) HK3.out (i := 10) (v := .slice none 0 0) (cs' := mc id r a t d v op cd q x nl nl) rfl HL3.out (mc_ns _ _ _ _ _ _ _ _ _ _ _ _))
          go_wp2
          go_roundw
          case rel => exact ⟨2, 2, .inr (.inr (.inl ⟨rfl, rfl, HS.out.2.1⟩)), by go_num, HS.out.1, HS.out.2.2, HALL2.out⟩
          case measure => simp [intOf]
        · have HC := Lib.hid (HBL1.out (by omega))
          by_cases g2 : ((F 1).length : Int) ≤ lim
          · have HR := Lib.hid (HFA.out 1 (by omega) HALL.out g2 (by omega))
            clear g1
            go_wp2_with (first | (refine ld12 (.tmp 2) HK.out rfl rfl rfl rfl ?_))
            refine (HC.out _ HL.out).mono ?_
            rintro e w2 ⟨rfl, hb2⟩
            have HB2 := Lib.hid (HB.out.trans (hb2.mono HB.out.size))
            clear hb2 HB HK HL HC
            go_wp2
            go_ret2
            exact ⟨by rw [HR.out]; rfl, HB2.out⟩
          · have HALL2 : Hid (∀ j, j < 1 + 1 → min lim 4096 < ((F j).length : Int)) := Lib.hid fun j hj => by
              rcases Nat.lt_succ_iff_lt_or_eq.1 hj with h | rfl
              · exact HALL.out j h
              · omega
            have g3 : decide (((F 1).length : Int) ≤ lim) = false := by simpa using g2
            clear g1 g2
            go_wp2_with (first | (refine ld12 (.tmp 2) HK.out rfl rfl rfl rfl ?_))
            refine (HC.out _ HL.out).mono ?_
            rintro e w2 ⟨rfl, hb2⟩
            have HB2 := Lib.hid (HB.out.trans (hb2.mono HB.out.size))
            have HK2 := Lib.hid (HK.out.below hb2)
            have HL2 := Lib.hid (HL.out.below hb2)
            clear hb2 HB HK HL HC
            have fz := HK2.out.frozen 10
            have cx := HK2.out.cell 10
            simp at cx
            have HS := Lib.hid (set_keep HB2.out (Nat.le_refl _) HK2.out (i := 10) (v := .slice none 0 0) (cs' := mc id r a t d v op cd q x nl nl) rfl HL2.out (mc_ns _ _ _ _ _ _ _ _ _ _ _ _))
            go_wp2
            go_roundw
            case rel => exact ⟨2, 2, .inr (.inr (.inl ⟨rfl, rfl, HS.out.2.1⟩)), by go_num, HS.out.1, HS.out.2.2, HALL2.out⟩
            case measure => simp [intOf]
      · have HK := Lib.hid hc
        clear hc
        by_cases g1 : 4096 < ((F 2).length : Int)
        · have HC := Lib.hid (HBG2.out g1)
          have HALL2 : Hid (∀ j, j < 2 + 1 → min lim 4096 < ((F j).length : Int)) := Lib.hid fun j hj => by
            rcases Nat.lt_succ_iff_lt_or_eq.1 hj with h | rfl
            · exact HALL.out j h
            · omega
          clear g1
          go_wp2_with (first | (refine ld12 (.tmp 2) HK.out rfl rfl rfl rfl ?_))
          refine (HC.out _ HL.out).mono ?_
          rintro e w2 ⟨rfl, hb2⟩
          have HB2 := Lib.hid (HB.out.trans (hb2.mono HB.out.size))
          have HK2 := Lib.hid (HK.out.below hb2)
          have HL2 := Lib.hid (HL.out.below hb2)
          clear hb2 HB HK HL HC
          obtain ⟨k0, k1, k2, k3, k4, k5, k6, k7, k8, k9, k10, k11⟩ := c12 HK2.out
          go_wp2_with fail
          refine (HLG2.out _ HL2.out).mono ?_
          rintro e w3 ⟨rfl, hb3⟩
          clear k0 k1 k2 k3 k4 k5 k6 k7 k8 k9 k10 k11
          have HB3 := Lib.hid (HB2.out.trans (hb3.mono HB2.out.size))
          have HK3 := Lib.hid (HK2.out.below hb3)
          have HL3 := Lib.hid (HL2.out.below hb3)
          clear hb3 HB2 HK2 HL2
          have fz := HK3.out.frozen 9
          have fz2 := HK3.out.frozen 3
          have cx := HK3.out.cell 9
          have cx2 := HK3.out.cell 3
          simp at cx cx2
          have HS0 := Lib.hid (set_keep HB3.out (Nat.le_refl _) HK3.out (i := 9) (v := .slice none 0 0) (cs' := mc id r a t d v op cd q nl nl nl) rfl HL3.out (mc_ns _ _ _ _ _ _ _ _ _ _ _ _))
          have HS := Lib.hid (set_keep HS0.out.1 (Nat.le_refl _) HS0.out.2.1 (i := 3) (v := .bool true) (cs' := mc id r a true d v op cd q nl nl nl) rfl HS0.out.2.2 (mc_ns _ _ _ _ _ _ _ _ _ _ _ _))
          go_wp2
          go_roundw
          case rel => exact ⟨3, 3, .inr (.inr (.inr (.inl ⟨rfl, rfl, HS.out.2.1⟩))), by go_num, HS.out.1, HS.out.2.2, HALL2.out⟩
          case measure => simp [intOf]
        · have HC := Lib.hid (HBL2.out (by omega))
          by_cases g2 : ((F 2).length : Int) ≤ lim
          · have HR := Lib.hid (HFA.out 2 (by omega) HALL.out g2 (by omega))
            clear g1
            go_wp2_with (first | (refine ld12 (.tmp 2) HK.out rfl rfl rfl rfl ?_))
            refine (HC.out _ HL.out).mono ?_
            rintro e w2 ⟨rfl, hb2⟩
            have HB2 := Lib.hid (HB.out.trans (hb2.mono HB.out.size))
            clear hb2 HB HK HL HC
            go_wp2
            go_ret2
            exact ⟨by rw [HR.out]; rfl, HB2.out⟩
          · have HALL2 : Hid (∀ j, j < 2 + 1 → min lim 4096 < ((F j).length : Int)) := Lib.hid fun j hj => by
              rcases Nat.lt_succ_iff_lt_or_eq.1 hj with h | rfl
              · exact HALL.out j h
              · omega
            have g3 : decide (((F 2).length : Int) ≤ lim) = false := by simpa using g2
            clear g1 g2
            go_wp2_with (first | (refine ld12 (.tmp 2) HK.out rfl rfl rfl rfl ?_))
            refine (HC.out _ HL.out).mono ?_
            rintro e w2 ⟨rfl, hb2⟩
            have HB2 := Lib.hid (HB.out.trans (hb2.mono HB.out.size))
            have HK2 := Lib.hid (HK.out.below hb2)
            have HL2 := Lib.hid (HL.out.below hb2)
            clear hb2 HB HK HL HC
            have fz := HK2.out.frozen 9
            have fz2 := HK2.out.frozen 3
            have cx := HK2.out.cell 9
            have cx2 := HK2.out.cell 3
            simp at cx cx2
            have HS0 := Lib.hid (set_keep HB2.out (Nat.le_refl _) HK2.out (i := 9) (v := .slice none 0 0) (cs' := mc id r a t d v op cd q nl nl nl) rfl HL2.out (mc_ns _ _ _ _ _ _ _ _ _ _ _ _))
            have HS := Lib.hid (set_keep HS0.out.1 (Nat.le_refl _) HS0.out.2.1 (i := 3) (v := .bool true) (cs' := mc id r a true d v op cd q nl nl nl) rfl HS0.out.2.2 (mc_ns _ _ _ _ _ _ _ _ _ _ _ _))
            go_wp2
            go_roundw
            case rel => exact ⟨3, 3, .inr (.inr (.inr (.inl ⟨rfl, rfl, HS.out.2.1⟩))), by go_num, HS.out.1, HS.out.2.2, HALL2.out⟩
            case measure => simp [intOf]
      · have HK := Lib.hid hc
        clear hc
        by_cases g1 : 4096 < ((F 3).length : Int)
        · have HC := Lib.hid (HBG3.out g1)
          have HALL2 : Hid (∀ j, j < 3 + 1 → min lim 4096 < ((F j).length : Int)) := Lib.hid fun j hj => by
            rcases Nat.lt_succ_iff_lt_or_eq.1 hj with h | rfl
            · exact HALL.out j h
            · omega
          clear g1
          go_wp2_with (first | (refine ld12 (.tmp 2) HK.out rfl rfl rfl rfl ?_))
          refine (HC.out _ HL.out).mono ?_
          rintro e w2 ⟨rfl, hb2⟩
          have HB2 := Lib.hid (HB.out.trans (hb2.mono HB.out.size))
          have HK2 := Lib.hid (HK.out.below hb2)
          have HL2 := Lib.hid (HL.out.below hb2)
          clear hb2 HB HK HL HC
          obtain ⟨k0, k1, k2, k3, k4, k5, k6, k7, k8, k9, k10, k11⟩ := c12 HK2.out
          go_wp2_with fail
          refine (HLG3.out _ HL2.out).mono ?_
          rintro e w3 ⟨rfl, hb3⟩
          clear k0 k1 k2 k3 k4 k5 k6 k7 k8 k9 k10 k11
          have HB3 := Lib.hid (HB2.out.trans (hb3.mono HB2.out.size))
          have HK3 := Lib.hid (HK2.out.below hb3)
          have HL3 := Lib.hid (HL2.out.below hb3)
          clear hb3 HB2 HK2 HL2
          go_wp2
          go_roundw
          case rel => exact ⟨4, 4, .inr (.inr (.inr (.inr ⟨rfl, rfl, trivial⟩))), by go_num, HB3.out, HL3.out, HALL2.out⟩
          case measure => simp [intOf]
        · have HC := Lib.hid (HBL3.out (by omega))
          by_cases g2 : ((F 3).length : Int) ≤ lim
          · have HR := Lib.hid (HFA.out 3 (by omega) HALL.out g2 (by omega))
            clear g1
            go_wp2_with (first | (refine ld12 (.tmp 2) HK.out rfl rfl rfl rfl ?_))
            refine (HC.out _ HL.out).mono ?_
            rintro e w2 ⟨rfl, hb2⟩
            have HB2 := Lib.hid (HB.out.trans (hb2.mono HB.out.size))
            clear hb2 HB HK HL HC
            go_wp2
            go_ret2
            exact ⟨by rw [HR.out]; rfl, HB2.out⟩
          · have HALL2 : Hid (∀ j, j < 3 + 1 → min lim 4096 < ((F j).length : Int)) := Lib.hid fun j hj => by
              rcases Nat.lt_succ_iff_lt_or_eq.1 hj with h | rfl
              · exact HALL.out j h
              · omega
            have g3 : decide (((F 3).length : Int) ≤ lim) = false := by simpa using g2
            clear g1 g2
            go_wp2_with (first | (refine ld12 (.tmp 2) HK.out rfl rfl rfl rfl ?_))
            refine (HC.out _ HL.out).mono ?_
            rintro e w2 ⟨rfl, hb2⟩
            have HB2 := Lib.hid (HB.out.trans (hb2.mono HB.out.size))
            have HK2 := Lib.hid (HK.out.below hb2)
            have HL2 := Lib.hid (HL.out.below hb2)
            clear hb2 HB HK HL HC
            go_wp2
            go_roundw
            case rel => exact ⟨4, 4, .inr (.inr (.inr (.inr ⟨rfl, rfl, trivial⟩))), by go_num, HB2.out, HL2.out, HALL2.out⟩
            case measure => simp [intOf]
      · have HR := Lib.hid (HEND.out HALL.out)
        go_wp2
        go_ret2
        exact ⟨by rw [HR.out]; rfl, HB.out⟩
  · have hR : mfit m lim = ([], mck m) := if_neg g
    have hb : mbytes m = ([], mck m) := if_neg g
    have C1 := fun w h => rbytes_any m q x y z HH.out w h
    have C2 := fun w h => rlong_any m q x y z HH.out w h
    rw [hb] at C1
    generalize mfit m lim = R at hR ⊢
    have HR := Lib.hid hR
    generalize mck m = E at C1 C2 HR g
    have g1 : (E == 0) = false := by simpa using g
    have g2 : (E != 0) = true := by simpa using g
    rw [g1] at C2
    have HC1 := Lib.hid C1
    have HC2 := Lib.hid C2
    clear C1 C2 hb hR g HH
    by_cases gE : E = 11
    · subst gE
      go_enter Try.func20, Try.ntmps20
      go_wp2_with fail
      go_loopw [6] (fun i wr => i = .int .i64 0 ∧ Below w.heap.size w wr ∧ Ce wr w.heap.size 26 (m.cells q x y z) ∧ Lay wr m q x y z) (fun _ _ => 0)
      case atStart => exact ⟨rfl, HB0.out, HK0.out, HL0.out⟩
      case round =>
        clear HB0 HK0 HL0
        obtain ⟨rfl, hb, hc, hl⟩ := hrel
        have HB := Lib.hid hb
        have HK := Lib.hid hc
        have HL := Lib.hid hl
        clear hb hc hl
        go_wp2_with (first | (refine ld12 (.tmp 2) HK.out rfl rfl rfl rfl ?_))
        refine (HC1.out _ HL.out).mono ?_
        rintro e w2 ⟨rfl, hb2⟩
        have HB2 := Lib.hid (HB.out.trans (hb2.mono HB.out.size))
        have HK2 := Lib.hid (HK.out.below hb2)
        have HL2 := Lib.hid (HL.out.below hb2)
        clear hb2 HB HK HL
        obtain ⟨k0, k1, k2, k3, k4, k5, k6, k7, k8, k9, k10, k11⟩ := c12 HK2.out
        go_wp2_with fail
        refine (HC2.out _ HL2.out).mono ?_
        rintro e w3 ⟨rfl, hb3⟩
        clear k0 k1 k2 k3 k4 k5 k6 k7 k8 k9 k10 k11
        have HB3 := Lib.hid (HB2.out.trans (hb3.mono HB2.out.size))
        clear hb3 HB2 HK2 HL2
        go_wp2
        go_ret2
        exact ⟨by rw [HR.out]; rfl, HB3.out⟩
    · have g3 : (E == 11) = false := by simpa using gE
      have g4 : (E != 11) = true := by simpa using gE
      clear gE
      go_enter Try.func20, Try.ntmps20
      go_wp2_with fail
      go_loopw [6] (fun i wr => i = .int .i64 0 ∧ Below w.heap.size w wr ∧ Ce wr w.heap.size 26 (m.cells q x y z) ∧ Lay wr m q x y z) (fun _ _ => 0)
      case atStart => exact ⟨rfl, HB0.out, HK0.out, HL0.out⟩
      case round =>
        clear HB0 HK0 HL0
        obtain ⟨rfl, hb, hc, hl⟩ := hrel
        have HB := Lib.hid hb
        have HK := Lib.hid hc
        have HL := Lib.hid hl
        clear hb hc hl
        go_wp2_with (first | (refine ld12 (.tmp 2) HK.out rfl rfl rfl rfl ?_))
        refine (HC1.out _ HL.out).mono ?_
        rintro e w2 ⟨rfl, hb2⟩
        have HB2 := Lib.hid (HB.out.trans (hb2.mono HB.out.size))
        clear hb2 HB HK HL
        go_wp2
        go_ret2
        exact ⟨by rw [HR.out]; rfl, HB2.out⟩
end Go.Proofs.Ytljfkjbagebncaa

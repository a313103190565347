/-
  Fit: What Bytes and Fit answer, for every message. No older memory is changed.
-/
import Derived.Test.YtljfkjbagebncaaG29

/- Fit -/
namespace Go.Proofs.Ytljfkjbagebncaa
open Go.RowKit
/-- What Bytes answers. -/
def mbytes (m : Ms) : Bs × Int := if mck m = 0 then wres 4096 m else ([], mck m)
set_option maxRecDepth 100000 in
set_option maxHeartbeats 3200000 in
theorem bytes_any (m : Ms) (hm : m.Ok) (q x y z : Sl) (w : World) (h : Lay w m q x y z) :
    Calls Try.prog 11 #[.agg (m.cells q x y z)] w fun e w' => e = .returned (.tuple #[str (mbytes m).1, .int .i64 (mbytes m).2]) ∧ Below w.heap.size w w' := by
  have hb0 := one_box w (.cells (m.cells q x y z) 26)
  have k0 := Ce.new w 26 (m.cells q x y z)
  have hl := h.below hb0
  have C := fun w h => mcheck_any m hm q x y z w h
  have HW : Hid (mck m = 0 → ∀ w, Lay w m q x y z → Calls Try.prog 29 #[.agg (m.cells q x y z), .int .i64 4096] w fun e w' => e = .returned (.tuple #[str (mbytes m).1, .int .i64 (mbytes m).2]) ∧ Below w.heap.size w w') := Lib.hid fun g w h => by
    have := write_any m hm (mck_good.1 g) q x y z 4096 (by omega) w h
    unfold mbytes
    rw [if_pos g]
    exact this
  have HE : Hid (mck m ≠ 0 → mbytes m = ([], mck m)) := Lib.hid fun g => if_neg g
  have HC := Lib.hid C
  have HL := Lib.hid hl
  have HB0 := Lib.hid hb0
  have HK0 := Lib.hid k0
  clear hb0 k0 hl C h
  generalize mck m = E at HC HW HE
  generalize mbytes m = R at HW HE ⊢
  go_enter Try.func11, Try.ntmps11
  go_wp2_with (first | (refine ld12 (.tmp 1) HK0.out rfl rfl rfl rfl ?_))
  refine (HC.out _ HL.out).mono ?_
  rintro e w1 ⟨rfl, hb1⟩
  have HB1 := Lib.hid (HB0.out.trans (hb1.mono HB0.out.size))
  have HK1 := Lib.hid (HK0.out.below hb1)
  have HL1 := Lib.hid (HL.out.below hb1)
  clear hb1
  by_cases g : E = 0
  · subst g
    have HW1 := Lib.hid (HW.out rfl)
    go_wp2_with (first | (refine ld12 (.tmp 1) HK1.out rfl rfl rfl rfl ?_))
    refine (HW1.out _ HL1.out).mono ?_
    rintro e w2 ⟨rfl, hb2⟩
    have HB2 := Lib.hid (HB1.out.trans (hb2.mono HB1.out.size))
    clear hb2
    go_wp2
    go_ret2
    exact ⟨rfl, HB2.out⟩
  · have g' : (E == 0) = false := by simpa using g
    have HE1 := Lib.hid (HE.out g)
    clear g HE HW
    go_wp2
    go_ret2
    exact ⟨by rw [HE1.out]; rfl, HB1.out⟩
/-- A message of which so many lists, from the last one on, were dropped. -/
def cutM (m : Ms) : Nat → Ms
  | 0 => m
  | 1 => { m with ex := [] }
  | 2 => { m with au := [], ex := [] }
  | _ => { m with an := [], au := [], ex := [], t := true }
theorem cut_ok {m : Ms} (h : m.Ok) (k : Nat) : (cutM m k).Ok := by
  match k with
  | 0 => exact h
  | 1 => exact ⟨h.id, h.op, h.cd, h.qs, h.an, h.au, by simp [cutM], h.nq, h.na, h.nu, by simp [cutM]⟩
  | 2 => exact ⟨h.id, h.op, h.cd, h.qs, h.an, by simp [cutM], by simp [cutM], h.nq, h.na, by simp [cutM], by simp [cutM]⟩
  | k + 3 => exact ⟨h.id, h.op, h.cd, h.qs, by simp [cutM], by simp [cutM], by simp [cutM], h.nq, by simp [cutM], by simp [cutM], by simp [cutM]⟩
theorem cut_good {m : Ms} (h : MGood m) (k : Nat) : MGood (cutM m k) := by
  match k with
  | 0 => exact h
  | 1 => exact ⟨h.op, h.cd, h.nq, h.nx, h.ny, by simp [cutM], h.qs, h.an, h.au, by simp [cutM]⟩
  | 2 => exact ⟨h.op, h.cd, h.nq, h.nx, by simp [cutM], by simp [cutM], h.qs, h.an, by simp [cutM], by simp [cutM]⟩
  | k + 3 => exact ⟨h.op, h.cd, h.nq, by simp [cutM], by simp [cutM], by simp [cutM], h.qs, by simp [cutM], by simp [cutM], by simp [cutM]⟩
abbrev nl : Sl := ⟨none, 0, 0⟩
theorem cut_lay {w : World} {m : Ms} {q x y z : Sl} (h : Lay w m q x y z) :
    Lay w (cutM m 1) q x y nl ∧ Lay w (cutM m 2) q x nl nl ∧ Lay w (cutM m 3) q nl nl nl :=
  ⟨⟨h.q, h.x, h.y, rdr_nil w⟩, ⟨h.q, h.x, rdr_nil w, rdr_nil w⟩, ⟨h.q, rdr_nil w, rdr_nil w, rdr_nil w⟩⟩
/-- What Fit answers of a message that was checked. -/
def fitW (lim : Int) (m : Ms) : Nat → Bs × Int
  | 0 => wres lim (cutM m 3)
  | k + 1 => if (wres lim (cutM m (2 - k))).2 = 0 then wres lim (cutM m (2 - k)) else fitW lim m k
def mfit (m : Ms) (lim : Int) : Bs × Int := if mck m = 0 then fitW (min lim 4096) m 3 else ([], mck m)
theorem fitW_at {lim : Int} {m : Ms} {k : Nat} (h : ∀ j, j < k → (wres lim (cutM m j)).2 ≠ 0) (hk : k ≤ 3) (h2 : (wres lim (cutM m k)).2 = 0 ∨ k = 3) : fitW lim m 3 = wres lim (cutM m k) := by
  obtain rfl | rfl | rfl | rfl : k = 0 ∨ k = 1 ∨ k = 2 ∨ k = 3 := by omega
  · have h0 := h2.resolve_right (by omega)
    simp [fitW, h0]
  · have h0 := h2.resolve_right (by omega)
    simp [fitW, h0, h 0 (by omega)]
  · have h0 := h2.resolve_right (by omega)
    simp [fitW, h0, h 0 (by omega), h 1 (by omega)]
  · simp [fitW, h 0 (by omega), h 1 (by omega), h 2 (by omega)]
set_option maxRecDepth 100000 in
set_option maxHeartbeats 25600000 in
theorem fit_any (m : Ms) (hm : m.Ok) (q x y z : Sl) (lim : Int) (hlim : -9223372036854775808 ≤ lim ∧ lim ≤ 9223372036854775807) (w : World) (h : Lay w m q x y z) :
    Calls Try.prog 19 #[.agg (m.cells q x y z), .int .i64 lim] w fun e w' => e = .returned (.tuple #[str (mfit m lim).1, .int .i64 (mfit m lim).2]) ∧ Below w.heap.size w w' := by
  have hb0 := one_box w (.cells (m.cells q x y z) 26)
  have k0 := Ce.new w 26 (m.cells q x y z)
  have hl := h.below hb0
  have C := fun w h => mcheck_any m hm q x y z w h
  have HE : Hid (mck m ≠ 0 → mfit m lim = ([], mck m)) := Lib.hid fun g => if_neg g
  have HW : Hid (mck m = 0 → MGood m ∧ mfit m lim = fitW (min lim 4096) m 3) := Lib.hid fun g => ⟨mck_good.1 g, if_pos g⟩
  have HO := Lib.hid (fun w => of_any m.id m.r m.a m.t m.d m.v m.op m.cd q x y z w)
  have HM := Lib.hid hm
  have HC := Lib.hid C
  have HL := Lib.hid hl
  have HLW := Lib.hid h
  have HB0 := Lib.hid hb0
  have HK0 := Lib.hid k0
  clear hb0 k0 hl C h
  generalize mck m = E at HC HW HE
  generalize mfit m lim = R at HW HE ⊢
  go_enter Try.func19, Try.ntmps19
  go_wp2_with (first | (refine ld12 (.tmp 2) HK0.out rfl rfl rfl rfl ?_))
  refine (HC.out _ HL.out).mono ?_
  rintro e w1 ⟨rfl, hb1⟩
  have HB1 := Lib.hid (HB0.out.trans (hb1.mono HB0.out.size))
  have HK1 := Lib.hid (HK0.out.below hb1)
  have HL1 := Lib.hid (HL.out.below hb1)
  clear hb1
  by_cases g : E = 0
  · subst g
    obtain ⟨hg, hR⟩ := HW.out rfl
    obtain ⟨lm, hlm⟩ : ∃ lm, lm = min lim 4096 := ⟨_, rfl⟩
    have HLM : Hid (-9223372036854775808 ≤ lm ∧ lm ≤ 4096) := Lib.hid (by omega)
    rw [← hlm] at hR
    have HG := Lib.hid hg
    have HR := Lib.hid hR
    obtain ⟨W, hWW⟩ : ∃ W : Nat → Bs × Int, W = fun k => wres lm (cutM m k) := ⟨_, rfl⟩
    obtain ⟨T, hT⟩ : ∃ T, T = m.t := ⟨_, rfl⟩
    have HW0 : Hid (∀ w, Lay w m q x y z → Calls Try.prog 29 #[.agg (mc m.id m.r m.a T m.d m.v m.op m.cd q x y z), .int .i64 lm] w fun e w' => e = .returned (.tuple #[str (W 0).1, .int .i64 (W 0).2]) ∧ Below w.heap.size w w') := Lib.hid fun w hl => by
      rw [hWW, hT]
      exact write_any (cutM m 0) (cut_ok HM.out 0) (cut_good HG.out 0) q x y z lm HLM.out w hl
    have HW1 : Hid (∀ w, Lay w m q x y z → Calls Try.prog 29 #[.agg (mc m.id m.r m.a T m.d m.v m.op m.cd q x y nl), .int .i64 lm] w fun e w' => e = .returned (.tuple #[str (W 1).1, .int .i64 (W 1).2]) ∧ Below w.heap.size w w') := Lib.hid fun w hl => by
      rw [hWW, hT]
      exact write_any (cutM m 1) (cut_ok HM.out 1) (cut_good HG.out 1) q x y nl lm HLM.out w (cut_lay hl).1
    have HW2 : Hid (∀ w, Lay w m q x y z → Calls Try.prog 29 #[.agg (mc m.id m.r m.a T m.d m.v m.op m.cd q x nl nl), .int .i64 lm] w fun e w' => e = .returned (.tuple #[str (W 2).1, .int .i64 (W 2).2]) ∧ Below w.heap.size w w') := Lib.hid fun w hl => by
      rw [hWW, hT]
      exact write_any (cutM m 2) (cut_ok HM.out 2) (cut_good HG.out 2) q x nl nl lm HLM.out w (cut_lay hl).2.1
    have HW3 : Hid (∀ w, Lay w m q x y z → Calls Try.prog 29 #[.agg (mc m.id m.r m.a true m.d m.v m.op m.cd q nl nl nl), .int .i64 lm] w fun e w' => e = .returned (.tuple #[str (W 3).1, .int .i64 (W 3).2]) ∧ Below w.heap.size w w') := Lib.hid fun w hl => by
      rw [hWW]
      exact write_any (cutM m 3) (cut_ok HM.out 3) (cut_good HG.out 3) q nl nl nl lm HLM.out w (cut_lay hl).2.2
    have HFA : Hid (∀ k, (∀ j, j < k → (W j).2 ≠ 0) → k ≤ 3 → ((W k).2 = 0 ∨ k = 3) → R = W k) := Lib.hid fun k h1 h2 h3 => by
      rw [hWW] at h1 h3 ⊢
      rw [HR.out]
      exact fitW_at h1 h2 h3
    have HK1' : Hid (Ce w1 w.heap.size 26 (mc m.id m.r m.a T m.d m.v m.op m.cd q x y z)) := Lib.hid (by rw [hT]; exact HK1.out)
    have HO' : Hid (∀ w, Calls Try.prog 45 #[.agg (mc m.id m.r m.a T m.d m.v m.op m.cd q x y z)] w fun e w' => e = .returned (.agg #[x.v, y.v, z.v]) ∧ Below w.heap.size w w') := Lib.hid (by rw [hT]; exact HO.out)
    clear hg HW HE hR hWW hT HR HK1 HO
    rcases (by omega : (lim ≤ 4096 ∧ lm = lim) ∨ (4096 < lim ∧ lm = 4096)) with ⟨hc, rfl⟩ | ⟨hc, rfl⟩
    all_goals
      clear hlm
      go_wp2_with (first | (refine ld12 (.tmp 2) HK1'.out rfl rfl rfl rfl ?_))
      refine (HW0.out w1 HL1.out).mono ?_
      rintro e w2 ⟨rfl, hb2⟩
      have HB2 := Lib.hid (HB1.out.trans (hb2.mono HB1.out.size))
      have HK2 := Lib.hid (HK1'.out.below hb2)
      clear hb2
      go_wp2_with (first | (refine ld12 (.tmp 2) HK2.out rfl rfl rfl rfl ?_))
      refine (HO'.out _).mono ?_
      rintro e w3 ⟨rfl, hb3⟩
      have HB3 := Lib.hid (HB2.out.trans (hb3.mono HB2.out.size))
      have HK3 := Lib.hid (HK2.out.below hb3)
      clear hb3 HB2 HK2 HB1 HK1'
      have hb4 := one_box w3 (.cells #[x.v, y.v, z.v] 56)
      have HB4 := Lib.hid (HB3.out.trans (hb4.mono HB3.out.size))
      have HK4 := Lib.hid (HK3.out.below hb4)
      have HG4 := Lib.hid (Ce.new w3 56 #[x.v, y.v, z.v])
      have HGE0 : Hid (w.heap.size < w3.heap.size) := Lib.hid HK3.out.lt
      clear hb4 HB3 HK3
      go_wp2
      obtain ⟨g0, hg0⟩ : ∃ g0, w3.heap.size = g0 := ⟨_, rfl⟩
      rw [hg0] at HG4 HGE0 ⊢
      have HGE : Hid (w.heap.size ≤ g0) := Lib.hid (by have := HGE0.out; omega)
      have HNE : Hid (w.heap.size ≠ g0) := Lib.hid (by have := HGE0.out; omega)
      clear hg0
      go_loopw [7, 8, 10] (fun s e i wr => ∃ (k : Nat) (t' : Bool) (x' y' z' : Sl), ((0 = k ∧ T = t' ∧ x = x' ∧ y = y' ∧ z = z') ∨ (1 = k ∧ T = t' ∧ x = x' ∧ y = y' ∧ nl = z') ∨ (2 = k ∧ T = t' ∧ x = x' ∧ nl = y' ∧ nl = z') ∨ (3 = k ∧ true = t' ∧ nl = x' ∧ nl = y' ∧ nl = z')) ∧
        s = str (W k).1 ∧ e = .int .i64 (W k).2 ∧ i = .int .i64 (2 - (k : Int)) ∧ Below w.heap.size w wr ∧ Ce wr w.heap.size 26 (mc m.id m.r m.a t' m.d m.v m.op m.cd q x y z) ∧ Ce wr g0 56 #[x'.v, y'.v, z'.v] ∧ ∀ j, j < k → (W j).2 ≠ 0) (fun _ _ i _ => ((intOf i) + 1).toNat)
      case atStart => exact ⟨0, T, x, y, z, .inl ⟨rfl, rfl, rfl, rfl, rfl⟩, rfl, rfl, rfl, HB4.out, HK4.out, HG4.out, by omega⟩
      case round =>
        clear HB4 HK4 HG4
        obtain ⟨k, t', x', y', z', hk, rfl, rfl, rfl, hb, hmb, hls, hall⟩ := hrel
        rcases hk with ⟨rfl, rfl, rfl, rfl, rfl⟩ | ⟨rfl, rfl, rfl, rfl, rfl⟩ | ⟨rfl, rfl, rfl, rfl, rfl⟩ | ⟨rfl, rfl, rfl, rfl, rfl⟩
        · by_cases ge : (W 0).2 = 0
          · have ge' : ((W 0).2 == 0) = true := by simpa using ge
            have HRE := Lib.hid (HFA.out 0 hall (by omega) (.inl ge))
            have HB := Lib.hid hb
            clear hmb hls hb hall ge
            go_wp2
            go_ret2
            refine ⟨?_, HB.out⟩
            show Ending.returned (.tuple #[str (W 0).1, .int .i64 (W 0).2]) = _
            rw [HRE.out]
          · have ge' : ((W 0).2 == 0) = false := by simpa using ge
            have HALL : Hid (∀ j, j < 1 → (W j).2 ≠ 0) := Lib.hid fun j hj => by
              by_cases e : j = 0
              · rw [e]; exact ge
              · exact hall j (by omega)
            have l0 := hls.cell 2
            have lf0 := hls.frozen 2
            simp at l0
            have HG1 := Lib.hid (show Ce (wr.setCell ⟨g0, 2, none⟩ nl.v) g0 56 #[x.v, y.v, nl.v] from hls.set (i := 2) nl.v)
            have hm1 := hmb.other (i := 2) HNE.out nl.v
            have t0 := hmb.cell 3
            have tf0 := hmb.frozen 3
            simp at t0
            have HMS := fun u => Lib.hid (show Ce ((wr.setCell ⟨g0, 2, none⟩ nl.v).setCell ⟨w.heap.size, 3, none⟩ (.bool u)) w.heap.size 26 (mc m.id m.r m.a u m.d m.v m.op m.cd q x y z) from hm1.set (i := 3) (.bool u))
            have HGS := fun u : Bool => Lib.hid (HG1.out.other (i := 3) (Ne.symm HNE.out) (.bool u))
            have HBS := fun u : Bool => Lib.hid ((hb.setCell (p := ⟨g0, 2, none⟩) HGE.out nl.v).setCell (p := ⟨w.heap.size, 3, none⟩) (Nat.le_refl _) (.bool u))
            have hms := HMS T
            have hgs := HGS T
            have hbs := HBS T
            clear hls hmb hb hall ge HMS HGS HBS hm1 HG1
            cases T
            all_goals
              go_wp2_with (first | (refine ld12 (.tmp 2) hms.out rfl rfl rfl rfl ?_) | (refine ld56 (.tmp 9) hgs.out rfl rfl rfl rfl ?_))
              refine (with_any m.id m.r m.a _ m.d m.v m.op m.cd q x y z x y nl _).mono ?_
              rintro e w5 ⟨rfl, hb5⟩
              have HB5 := Lib.hid (hbs.out.trans (hb5.mono hbs.out.size))
              have HM5 := Lib.hid (hms.out.below hb5)
              have HG5 := Lib.hid (hgs.out.below hb5)
              clear hb5 hms hgs hbs l0 lf0 t0 tf0
              go_wp2_with fail
              refine (HW1.out _ (HLW.out.below HB5.out)).mono ?_
              rintro e w6 ⟨rfl, hb6⟩
              have HB6 := Lib.hid (HB5.out.trans (hb6.mono HB5.out.size))
              have HM6 := Lib.hid (HM5.out.below hb6)
              have HG6 := Lib.hid (HG5.out.below hb6)
              clear hb6
              go_wp2
              go_roundw
              case rel => exact ⟨1, _, _, _, _, .inr (.inl ⟨rfl, rfl, rfl, rfl, rfl⟩), rfl, rfl, by first | trivial | rfl, HB6.out, HM6.out, HG6.out, HALL.out⟩
              case measure => simp [intOf]
        · by_cases ge : (W 1).2 = 0
          · have ge' : ((W 1).2 == 0) = true := by simpa using ge
            have HRE := Lib.hid (HFA.out 1 hall (by omega) (.inl ge))
            have HB := Lib.hid hb
            clear hmb hls hb hall ge
            go_wp2
            go_ret2
            refine ⟨?_, HB.out⟩
            show Ending.returned (.tuple #[str (W 1).1, .int .i64 (W 1).2]) = _
            rw [HRE.out]
          · have ge' : ((W 1).2 == 0) = false := by simpa using ge
            have HALL : Hid (∀ j, j < 2 → (W j).2 ≠ 0) := Lib.hid fun j hj => by
              by_cases e : j = 1
              · rw [e]; exact ge
              · exact hall j (by omega)
            have l0 := hls.cell 1
            have lf0 := hls.frozen 1
            simp at l0
            have HG1 := Lib.hid (show Ce (wr.setCell ⟨g0, 1, none⟩ nl.v) g0 56 #[x.v, nl.v, nl.v] from hls.set (i := 1) nl.v)
            have hm1 := hmb.other (i := 1) HNE.out nl.v
            have t0 := hmb.cell 3
            have tf0 := hmb.frozen 3
            simp at t0
            have HMS := fun u => Lib.hid (show Ce ((wr.setCell ⟨g0, 1, none⟩ nl.v).setCell ⟨w.heap.size, 3, none⟩ (.bool u)) w.heap.size 26 (mc m.id m.r m.a u m.d m.v m.op m.cd q x y z) from hm1.set (i := 3) (.bool u))
            have HGS := fun u : Bool => Lib.hid (HG1.out.other (i := 3) (Ne.symm HNE.out) (.bool u))
            have HBS := fun u : Bool => Lib.hid ((hb.setCell (p := ⟨g0, 1, none⟩) HGE.out nl.v).setCell (p := ⟨w.heap.size, 3, none⟩) (Nat.le_refl _) (.bool u))
            have hms := HMS T
            have hgs := HGS T
            have hbs := HBS T
            clear hls hmb hb hall ge HMS HGS HBS hm1 HG1
            cases T
            all_goals
              go_wp2_with (first | (refine ld12 (.tmp 2) hms.out rfl rfl rfl rfl ?_) | (refine ld56 (.tmp 9) hgs.out rfl rfl rfl rfl ?_))
              refine (with_any m.id m.r m.a _ m.d m.v m.op m.cd q x y z x nl nl _).mono ?_
              rintro e w5 ⟨rfl, hb5⟩
              have HB5 := Lib.hid (hbs.out.trans (hb5.mono hbs.out.size))
              have HM5 := Lib.hid (hms.out.below hb5)
              have HG5 := Lib.hid (hgs.out.below hb5)
              clear hb5 hms hgs hbs l0 lf0 t0 tf0
              go_wp2_with fail
              refine (HW2.out _ (HLW.out.below HB5.out)).mono ?_
              rintro e w6 ⟨rfl, hb6⟩
              have HB6 := Lib.hid (HB5.out.trans (hb6.mono HB5.out.size))
              have HM6 := Lib.hid (HM5.out.below hb6)
              have HG6 := Lib.hid (HG5.out.below hb6)
              clear hb6
              go_wp2
              go_roundw
              case rel => exact ⟨2, _, _, _, _, .inr (.inr (.inl ⟨rfl, rfl, rfl, rfl, rfl⟩)), rfl, rfl, by first | trivial | rfl, HB6.out, HM6.out, HG6.out, HALL.out⟩
              case measure => simp [intOf]
        · by_cases ge : (W 2).2 = 0
          · have ge' : ((W 2).2 == 0) = true := by simpa using ge
            have HRE := Lib.hid (HFA.out 2 hall (by omega) (.inl ge))
            have HB := Lib.hid hb
            clear hmb hls hb hall ge
            go_wp2
            go_ret2
            refine ⟨?_, HB.out⟩
            show Ending.returned (.tuple #[str (W 2).1, .int .i64 (W 2).2]) = _
            rw [HRE.out]
          · have ge' : ((W 2).2 == 0) = false := by simpa using ge
            have HALL : Hid (∀ j, j < 3 → (W j).2 ≠ 0) := Lib.hid fun j hj => by
              by_cases e : j = 2
              · rw [e]; exact ge
              · exact hall j (by omega)
            have l0 := hls.cell 0
            have lf0 := hls.frozen 0
            simp at l0
            have HG1 := Lib.hid (show Ce (wr.setCell ⟨g0, 0, none⟩ nl.v) g0 56 #[nl.v, nl.v, nl.v] from hls.set (i := 0) nl.v)
            have hm1 := hmb.other (i := 0) HNE.out nl.v
            have t0 := hmb.cell 3
            have tf0 := hmb.frozen 3
            simp at t0
            have HMS := fun u => Lib.hid (show Ce ((wr.setCell ⟨g0, 0, none⟩ nl.v).setCell ⟨w.heap.size, 3, none⟩ (.bool u)) w.heap.size 26 (mc m.id m.r m.a u m.d m.v m.op m.cd q x y z) from hm1.set (i := 3) (.bool u))
            have HGS := fun u : Bool => Lib.hid (HG1.out.other (i := 3) (Ne.symm HNE.out) (.bool u))
            have HBS := fun u : Bool => Lib.hid ((hb.setCell (p := ⟨g0, 0, none⟩) HGE.out nl.v).setCell (p := ⟨w.heap.size, 3, none⟩) (Nat.le_refl _) (.bool u))
            have hms := HMS true
            have hgs := HGS true
            have hbs := HBS true
            clear hls hmb hb hall ge HMS HGS HBS hm1 HG1
            cases T
            all_goals
              go_wp2_with (first | (refine ld12 (.tmp 2) hms.out rfl rfl rfl rfl ?_) | (refine ld56 (.tmp 9) hgs.out rfl rfl rfl rfl ?_))
              refine (with_any m.id m.r m.a _ m.d m.v m.op m.cd q x y z nl nl nl _).mono ?_
              rintro e w5 ⟨rfl, hb5⟩
              have HB5 := Lib.hid (hbs.out.trans (hb5.mono hbs.out.size))
              have HM5 := Lib.hid (hms.out.below hb5)
              have HG5 := Lib.hid (hgs.out.below hb5)
              clear hb5 hms hgs hbs l0 lf0 t0 tf0
              go_wp2_with fail
              refine (HW3.out _ (HLW.out.below HB5.out)).mono ?_
              rintro e w6 ⟨rfl, hb6⟩
              have HB6 := Lib.hid (HB5.out.trans (hb6.mono HB5.out.size))
              have HM6 := Lib.hid (HM5.out.below hb6)
              have HG6 := Lib.hid (HG5.out.below hb6)
              clear hb6
              go_wp2
              go_roundw
              case rel => exact ⟨3, _, _, _, _, .inr (.inr (.inr ⟨rfl, rfl, rfl, rfl, rfl⟩)), rfl, rfl, by first | trivial | rfl, HB6.out, HM6.out, HG6.out, HALL.out⟩
              case measure => simp [intOf]
        · have HRE := Lib.hid (HFA.out 3 hall (by omega) (.inr rfl))
          have HB := Lib.hid hb
          clear hmb hls hb hall
          go_wp2
          go_ret2
          refine ⟨?_, HB.out⟩
          show Ending.returned (.tuple #[str (W 3).1, .int .i64 (W 3).2]) = _
          rw [HRE.out]
  · have g' : (E == 0) = false := by simpa using g
    have HE1 := Lib.hid (HE.out g)
    clear g HE HW
    go_wp2
    go_ret2
    exact ⟨by rw [HE1.out]; rfl, HB1.out⟩
end Go.Proofs.Ytljfkjbagebncaa

/-
  The walk of the law RecordChecks: for every record and number it returns true; no older memory is changed.
-/
import Derived.Test.YtflpceaaelampaaSoa
import Derived.Test.YtflpceaaelampaaTarget
import Derived.Test.YtflpceaaelampaaLawNil
import Derived.Test.YtflpceaaelampaaGetWalk
import Derived.Laws.StructEq
import Derived.Deep.RegionHeld3
import Derived.WalkSpells
namespace Go.Proofs.Ytflpceaaelampaa
open Go.RowKit
theorem tgV_two (T : Option Bs) : ∃ s b, tgV T = .tuple #[.string s, .bool b] := by
  cases T with
  | none => exact ⟨_, _, rfl⟩
  | some n => exact ⟨_, _, rfl⟩
theorem small_ok {r q : Rc} (hr : r.Num) (hn : q.n.size ≤ 300) (hd : q.d.size ≤ 2100) (ht : q.t = r.t) (hc : q.c = r.c) (hl : q.l = r.l) : q.Ok :=
  ⟨by omega, by omega, ht ▸ hr.t, hc ▸ hr.c, hl ▸ hr.l⟩
theorem f5 {w : World} {n : Nat} {T : TypeId} {cs : Array Value} (h : Ce w n T cs) : w.frozen? ⟨n, 0, none⟩ = false ∧ w.frozen? ⟨n, 1, none⟩ = false ∧ w.frozen? ⟨n, 2, none⟩ = false ∧ w.frozen? ⟨n, 3, none⟩ = false ∧ w.frozen? ⟨n, 4, none⟩ = false :=
  ⟨h.frozen 0, h.frozen 1, h.frozen 2, h.frozen 3, h.frozen 4⟩
set_option maxRecDepth 100000 in
set_option maxHeartbeats 12800000 in
theorem lawChecks_any (r : Rc) (hr : r.Num) (ttl : Int) (ht : 0 ≤ ttl ∧ ttl < 4294967296) (w : World) :
    Calls Try.prog 3 #[r.v, .int .u32 ttl] w fun e w' => e = .returned (.bool true) ∧ Below w.heap.size w w' := by
  obtain ⟨q, k1, k2, k3, k4, k5, hs⟩ := small_any r
  have hq := small_ok hr k1 k2 k3 k4 k5
  have C1 := fun w => rcheckrec_any q hq w
  have C2 := fun w => rrcheck_any q hq (by omega) w
  have T1 := fun w => target_any q hq w
  have T2 := fun w => rtarget_any q hq (by omega) (by omega) w
  have S1 := fun w => soa_any q hq w
  have S2 := fun w => rsoa_any q hq (by omega) (by omega) w
  obtain ⟨l, hl⟩ : ∃ l : Nat, ttl = (l : Int) := ⟨ttl.toNat, by omega⟩
  subst hl
  have L := fun w => life_any l (by omega) w
  have hb := one_box w (.cells r.cells 25)
  have bk := Ce.new w 25 r.cells
  obtain ⟨ts, tb, hte⟩ := tgV_two (tg q)
  rw [hte] at T1 T2
  unfold SoPost at S1 S2
  generalize so q = x at S1 S2
  obtain ⟨⟨ss, sm, sa, sb, sc, sd, se⟩, sx⟩ := x
  generalize rck q = ck at C1 C2
  have hlf : ∃ lv : Nat, lf l = lv ∧ ((2147483648 ≤ l ∧ lv = 0) ∨ (¬ 2147483648 ≤ l ∧ lv = l)) := by
    refine ⟨_, rfl, ?_⟩
    unfold lf; split
    · exact .inl ⟨by assumption, rfl⟩
    · exact .inr ⟨by assumption, rfl⟩
  obtain ⟨lv, hle, hlf⟩ := hlf
  rw [hle] at L
  have hlf2 : (decide ((2147483648 : Int) ≤ (l : Int)) = true ∧ (2147483648 : Int) ≤ (l : Int) ∧ (lv : Int) = 0) ∨ (decide ((2147483648 : Int) ≤ (l : Int)) = false ∧ True ∧ (lv : Int) = (l : Int)) := by
    rcases hlf with ⟨h1, h2⟩ | ⟨h1, h2⟩
    · exact .inl ⟨by simp; omega, by omega, by omega⟩
    · exact .inr ⟨by simp; omega, trivial, by omega⟩
  clear hlf hle
  obtain ⟨n, t, c, tt, d⟩ := r
  obtain ⟨qn, qt, qc, ql, qd⟩ := q
  have HS := Lib.hid hs
  have HC1 := Lib.hid C1
  have HC2 := Lib.hid C2
  have HT1 := Lib.hid T1
  have HT2 := Lib.hid T2
  have HS1 := Lib.hid S1
  have HS2 := Lib.hid S2
  have HL := Lib.hid L
  have HB := Lib.hid hb
  have HK := Lib.hid bk
  clear hs C1 C2 T1 T2 S1 S2 L hb bk hq k1 k2 k3 k4 k5 hte hr
  rcases hlf2 with ⟨ql1, ql3, ql2⟩ | ⟨ql1, ql3, ql2⟩
  all_goals
    rw [ql2] at HL
    clear ql2
    go_enter Try.func3, Try.ntmps3
    go_wp2_with fail
    refine (awake_any _).mono ?_
    rintro e w1 ⟨rfl, hb1⟩
    have h1 := HB.out.trans (hb1.mono HB.out.size)
    obtain ⟨x0, x1, x2, x3, x4⟩ := c5 (HK.out.below hb1)
    have HK1 := Lib.hid (HK.out.below hb1)
    clear hb1
    go_wp2_with fail
    refine (HS.out _).mono ?_
    rintro e w2 ⟨rfl, hb2⟩
    have B2 := HK1.out.below hb2
    have h2 := h1.trans (hb2.mono h1.size)
    clear h1 hb2 x0 x1 x2 x3 x4
    obtain ⟨x0, x1, x2, x3, x4⟩ := c5 B2
    obtain ⟨f0, f1, f2, f3, f4⟩ := f5 B2
    have B3 := set5_ce B2 (.string qn) (.int .u16 (qt : Int)) (.int .u16 (qc : Int)) (.int .u32 (ql : Int)) (.string qd)
    have h3 := set5_below h2 (Nat.le_refl _) (.string qn) (.int .u16 (qt : Int)) (.int .u16 (qc : Int)) (.int .u32 (ql : Int)) (.string qd)
    have HB3 := Lib.hid B3
    have HH3 := Lib.hid h3
    clear B2 h2 B3 h3
    go_wp2_with fail
    refine (HT1.out _).mono ?_
    rintro e w4 ⟨rfl, hb4⟩
    have B4 := HB3.out.below hb4
    have h4 := HH3.out.trans (hb4.mono HH3.out.size)
    clear hb4 x0 x1 x2 x3 x4 f0 f1 f2 f3 f4
    obtain ⟨x0, x1, x2, x3, x4⟩ := c5 B4
    have HB4 := Lib.hid B4
    have HH4 := Lib.hid h4
    clear B4 h4
    go_wp2_with fail
    refine (HT2.out _).mono ?_
    rintro e w5 ⟨rfl, hb5⟩
    have B5 := HB4.out.below hb5
    have h5 := HH4.out.trans (hb5.mono HH4.out.size)
    clear hb5 x0 x1 x2 x3 x4
    obtain ⟨x0, x1, x2, x3, x4⟩ := c5 B5
    have HB5 := Lib.hid B5
    have HH5 := Lib.hid h5
    clear B5 h5
    go_wp2_with fail
    refine (HS1.out _).mono ?_
    rintro e w6 ⟨rfl, hb6⟩
    have B6 := HB5.out.below hb6
    have h6 := HH5.out.trans (hb6.mono HH5.out.size)
    clear hb6 x0 x1 x2 x3 x4
    have HB6 := Lib.hid (B6.below (one_box w6 (.cells #[.string ss, .string sm, .int .u32 (sa : Int), .int .u32 (sb : Int), .int .u32 (sc : Int), .int .u32 (sd : Int), .int .u32 (se : Int)] 31)))
    have HH6 := Lib.hid (h6.alloc h6.size (.cells #[.string ss, .string sm, .int .u32 (sa : Int), .int .u32 (sb : Int), .int .u32 (sc : Int), .int .u32 (sd : Int), .int .u32 (se : Int)] 31))
    have HY6 := Lib.hid (Ce.new w6 31 #[.string ss, .string sm, .int .u32 (sa : Int), .int .u32 (sb : Int), .int .u32 (sc : Int), .int .u32 (sd : Int), .int .u32 (se : Int)])
    obtain ⟨x0, x1, x2, x3, x4⟩ := c5 B6
    have hlt6 := B6.lt
    clear B6 h6
    go_wp2_with fail
    refine (HS2.out _).mono ?_
    rintro e w7 ⟨rfl, hb7⟩
    have B7 := (HB6.out.below hb7).below (one_box w7 (.cells #[.string ss, .string sm, .int .u32 (sa : Int), .int .u32 (sb : Int), .int .u32 (sc : Int), .int .u32 (sd : Int), .int .u32 (se : Int)] 31))
    have h7 := HH6.out.trans (hb7.mono HH6.out.size)
    have h8 := h7.alloc h7.size (.cells #[.string ss, .string sm, .int .u32 (sa : Int), .int .u32 (sb : Int), .int .u32 (sc : Int), .int .u32 (sd : Int), .int .u32 (se : Int)] 31)
    have Y7 := (HY6.out.below hb7).below (one_box w7 (.cells #[.string ss, .string sm, .int .u32 (sa : Int), .int .u32 (sb : Int), .int .u32 (sc : Int), .int .u32 (sd : Int), .int .u32 (se : Int)] 31))
    have Z7 := Ce.new w7 31 #[.string ss, .string sm, .int .u32 (sa : Int), .int .u32 (sb : Int), .int .u32 (sc : Int), .int .u32 (sd : Int), .int .u32 (se : Int)]
    clear hb7 x0 x1 x2 x3 x4 h7
    go_wp2
    generalize World.alloc w7 _ = w8 at B7 h8 Y7 Z7 ⊢
    obtain ⟨x0, x1, x2, x3, x4⟩ := c5 B7
    obtain ⟨y0, y1, y2, y3, y4, y5, y6⟩ := c7 Y7
    obtain ⟨z0, z1, z2, z3, z4, z5, z6⟩ := c7 Z7
    have HH8 := Lib.hid h8
    clear B7 h8 Y7 Z7 hlt6
    go_region_held3 (fun w' => w'.cell? ⟨w.heap.size, 0, none⟩ = some (.string qn) ∧ w'.cell? ⟨w.heap.size, 1, none⟩ = some (.int .u16 (qt : Int)) ∧ w'.cell? ⟨w.heap.size, 2, none⟩ = some (.int .u16 (qc : Int)) ∧ w'.cell? ⟨w.heap.size, 3, none⟩ = some (.int .u32 (ql : Int)) ∧ w'.cell? ⟨w.heap.size, 4, none⟩ = some (.string qd) ∧
        w'.cell? ⟨w6.heap.size, 0, none⟩ = some (.string ss) ∧ w'.cell? ⟨w6.heap.size, 1, none⟩ = some (.string sm) ∧ w'.cell? ⟨w6.heap.size, 2, none⟩ = some (.int .u32 (sa : Int)) ∧ w'.cell? ⟨w6.heap.size, 3, none⟩ = some (.int .u32 (sb : Int)) ∧ w'.cell? ⟨w6.heap.size, 4, none⟩ = some (.int .u32 (sc : Int)) ∧ w'.cell? ⟨w6.heap.size, 5, none⟩ = some (.int .u32 (sd : Int)) ∧ w'.cell? ⟨w6.heap.size, 6, none⟩ = some (.int .u32 (se : Int)) ∧
        w'.cell? ⟨w7.heap.size, 0, none⟩ = some (.string ss) ∧ w'.cell? ⟨w7.heap.size, 1, none⟩ = some (.string sm) ∧ w'.cell? ⟨w7.heap.size, 2, none⟩ = some (.int .u32 (sa : Int)) ∧ w'.cell? ⟨w7.heap.size, 3, none⟩ = some (.int .u32 (sb : Int)) ∧ w'.cell? ⟨w7.heap.size, 4, none⟩ = some (.int .u32 (sc : Int)) ∧ w'.cell? ⟨w7.heap.size, 5, none⟩ = some (.int .u32 (sd : Int)) ∧ w'.cell? ⟨w7.heap.size, 6, none⟩ = some (.int .u32 (se : Int)))
      (first | exact ⟨cell_later hbB x0, cell_later hbB x1, cell_later hbB x2, cell_later hbB x3, cell_later hbB x4, cell_later hbB y0, cell_later hbB y1, cell_later hbB y2, cell_later hbB y3, cell_later hbB y4, cell_later hbB y5, cell_later hbB y6, cell_later hbB z0, cell_later hbB z1, cell_later hbB z2, cell_later hbB z3, cell_later hbB z4, cell_later hbB z5, cell_later hbB z6⟩ | exact ⟨cell_later hbA x0, cell_later hbA x1, cell_later hbA x2, cell_later hbA x3, cell_later hbA x4, cell_later hbA y0, cell_later hbA y1, cell_later hbA y2, cell_later hbA y3, cell_later hbA y4, cell_later hbA y5, cell_later hbA y6, cell_later hbA z0, cell_later hbA z1, cell_later hbA z2, cell_later hbA z3, cell_later hbA z4, cell_later hbA z5, cell_later hbA z6⟩ | exact ⟨x0, x1, x2, x3, x4, y0, y1, y2, y3, y4, y5, y6, z0, z1, z2, z3, z4, z5, z6⟩)
      (first | (go_at_call 16; refine (HC1.out _).mono ?_; rintro e v5 ⟨rfl, hv5⟩; (first | (have hbB : Below w8.heap.size w8 v5 := hbA.trans (hv5.mono hbA.size)) | (have hbA : Below w8.heap.size w8 v5 := ((Below.refl _ w8).drew).trans hv5)); clear hv5) | (go_at_call 17; refine (HC2.out _).mono ?_; rintro e v6 ⟨rfl, hv6⟩; (first | (have hbB : Below w8.heap.size w8 v6 := hbA.trans (hv6.mono hbA.size)) | (have hbA : Below w8.heap.size w8 v6 := ((Below.refl _ w8).drew).trans hv6)); clear hv6) | (go_at_call 18; refine (HL.out _).mono ?_; rintro e v7 ⟨rfl, rfl⟩))
    all_goals go_wp2
    all_goals go_ret
    all_goals exact ⟨rfl, HH8.out.trans (hbB.mono HH8.out.size)⟩
end Go.Proofs.Ytflpceaaelampaa

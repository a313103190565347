/-
  The walk of the law MessageBack. No older memory is changed.
-/
import Derived.Test.YtljfkjbagebncaaMBackMath
import Derived.Test.YtljfkjbagebncaaG35
import Derived.Deep.CutRange
namespace Go.Proofs.Ytljfkjbagebncaa
open Go.RowKit
theorem mbytes_len {m : Ms} : (mbytes m).1.length ≤ 4096 := by
  unfold mbytes
  split
  · unfold wres
    split
    · simp
    · simp only; omega
  · simp
theorem lim_mnum {id : Nat} {r a t d v : Bool} {op cd : Int} {qs : List Qn} {an au ex : List Rc} (hid : id < 65536) (lq : LimQ qs) (lx : Lim an) (ly : Lim au) (lz : Lim ex) : MNum ⟨id, r, a, t, d, v, op, cd, qs, an, au, ex⟩ :=
  ⟨hid, fun q hq => (lq.q q hq).1, fun r hr => (lx.r r hr).1, fun r hr => (ly.r r hr).1, fun r hr => (lz.r r hr).1⟩
/-- What Read answers of what Bytes wrote. -/
theorem read_bytes {m : Ms} (hm : MNum m) (h : (mbytes m).2 = 0) (w : World) : Calls Try.prog 14 #[str (mbytes m).1] w (RPost w (m, 0)) := by
  have := mread_any ⟨(mbytes m).1.toArray⟩ (by rw [size_list]; have := mbytes_len (m := m); simp only; omega) w
  rw [show (⟨(mbytes m).1.toArray⟩ : ByteArray).data.toList = (mbytes m).1 from rfl, bytes_read hm h] at this
  exact this
set_option maxRecDepth 100000 in
set_option maxHeartbeats 12800000 in
theorem lback_any (m : Ms) (hm : m.Num) (s : ByteArray) (q x y z : Sl) (w : World) (h : Lay w m q x y z) :
    Calls Try.prog 6 #[.agg (m.cells q x y z), .string s] w fun e w' => e = .returned (.bool true) ∧ Below w.heap.size w w' := by
  have hb0 := one_box w (.cells (m.cells q x y z) 26)
  have HK0 := Lib.hid (Ce.new w 26 (m.cells q x y z))
  have HL0 := Lib.hid (h.below hb0)
  have HB0 := Lib.hid hb0
  have HNUM := Lib.hid hm
  obtain ⟨ts, hts, S⟩ := short_any s 5000
  have HS : Hid (∀ w, Calls Try.prog 13 #[.string s, .int .i64 5000] w fun e w' => e = .returned (.string ts) ∧ w = w') := Lib.hid S
  have HM := Lib.hid (fun w => mread_any ts (by omega) w)
  have HG := Lib.hid (fun h => read_good (s := ts.data.toList) h)
  generalize mread ts.data.toList = M at HM HG
  obtain ⟨Y, er⟩ := M
  simp only at HG
  have HR2 : Hid (er = 0 → MNum Y ∧ MGood Y) := Lib.hid HG.out
  clear h hm hb0 S hts HG
  obtain ⟨id, r, a, t, d, v, op, cd, qs0, an0, au0, ex0⟩ := m
  go_enter Try.func6, Try.ntmps6
  go_wp2_with fail
  refine (mawake_any _).mono ?_
  rintro e w1 ⟨rfl, hb1⟩
  have A1 := Lib.hid (HK0.out.below hb1)
  have U1 := Lib.hid (HB0.out.trans (hb1.mono HB0.out.size))
  have L1 := Lib.hid (HL0.out.below hb1)
  clear hb1 HK0 HB0 HL0
  go_wp2_with (first | (refine ld12 (.tmp 2) A1.out rfl rfl rfl rfl ?_))
  refine (small_any ⟨id, r, a, t, d, v, op, cd, qs0, an0, au0, ex0⟩ q x y z _ L1.out HNUM.out.qs HNUM.out.an HNUM.out.au HNUM.out.ex).mono ?_
  rintro e w2 ⟨qs, an, au, ex, q2, x2, y2, z2, rfl, hq2, hx2, hy2, hz2, lq, lx, ly, lz, hcap, hnil, hb2⟩
  have A2 := Lib.hid (A1.out.below hb2)
  have A3 := Lib.hid ((A1.out.below hb2).row (mc id r a t d v op cd q2 x2 y2 z2))
  have U3 := Lib.hid (below_row (U1.out.trans (hb2.mono U1.out.size)) (Nat.le_refl _) (mc id r a t d v op cd q2 x2 y2 z2))
  have L3 := Lib.hid ((show Lay w2 (⟨id, r, a, t, d, v, op, cd, qs, an, au, ex⟩ : Ms) q2 x2 y2 z2 from ⟨hq2, hx2, hy2, hz2⟩).other A2.out (mc_ns _ _ _ _ _ _ _ _ _ _ _ _) (row_others w2 w.heap.size (mc id r a t d v op cd q2 x2 y2 z2)).1 (row_others w2 w.heap.size (mc id r a t d v op cd q2 x2 y2 z2)).2)
  have HOK := Lib.hid (lim_mok (r := r) (a := a) (t := t) (d := d) (v := v) HNUM.out.id HNUM.out.op HNUM.out.cd lq lx ly lz)
  have HMN := Lib.hid (lim_mnum (r := r) (a := a) (t := t) (d := d) (v := v) (op := op) (cd := cd) HNUM.out.id lq lx ly lz)
  have C1 := fun w h => bytes_any ⟨id, r, a, t, d, v, op, cd, qs, an, au, ex⟩ HOK.out q2 x2 y2 z2 w h
  have C2 := fun h w => read_bytes HMN.out h w
  generalize mbytes ⟨id, r, a, t, d, v, op, cd, qs, an, au, ex⟩ = R at C1 C2
  obtain ⟨F, E⟩ := R
  have HC1 := Lib.hid C1
  have HC2 : Hid (E = 0 → ∀ w, Calls Try.prog 14 #[str F] w (RPost w (⟨id, r, a, t, d, v, op, cd, qs, an, au, ex⟩, 0))) := Lib.hid C2
  clear hq2 hx2 hy2 hz2 lq lx ly lz hcap hnil hb2 C1 C2 A1 U1 L1 HNUM HMN
  go_wp2_with (first | (refine st12 (.tmp 2) (.tmp 20) A2.out rfl rfl rfl rfl rfl ?_))
  generalize World.setRow w2 _ _ = w3 at A3 U3 L3 ⊢
  clear A2
  refine (HS.out _).mono ?_
  rintro e w' ⟨rfl, rfl⟩
  go_wp2_with (first | (refine ld12 (.tmp 2) A3.out rfl rfl rfl rfl ?_))
  refine (HC1.out _ L3.out).mono ?_
  rintro e w4 ⟨rfl, hb4⟩
  have A4 := Lib.hid (A3.out.below hb4)
  have L4 := Lib.hid (L3.out.below hb4)
  have U4 := Lib.hid (U3.out.trans (hb4.mono U3.out.size))
  clear hb4 A3 L3 U3 HC1 HS
  go_upto_if 29 with fail
  go_cut [8, 9, 10] from 30 to 43 (fun _ _ _ wx => Below w.heap.size w wx)
  case first =>
    by_cases g : E = 0
    · subst g
      have HC := Lib.hid (HC2.out rfl)
      clear HC2
      go_wp2_with fail
      refine (HC.out _).mono ?_
      rintro e w5 ⟨q5, x5, y5, z5, rfl, hl5, hb5⟩
      have hbx := one_box w5 (.cells (mc id r a t d v op cd q5 x5 y5 z5) 26)
      have u5 := U4.out.trans (hb5.mono U4.out.size)
      have U5 := Lib.hid (u5.trans (hbx.mono u5.size))
      have A5 := Lib.hid ((A4.out.below hb5).below hbx)
      have L5 := Lib.hid ((L4.out.below hb5).below hbx)
      have C5 := Lib.hid (Ce.new w5 26 (mc id r a t d v op cd q5 x5 y5 z5))
      have M5 := Lib.hid (hl5.below hbx)
      clear hl5 hb5 hbx u5 U4 A4 L4
      go_wp2_with (first | (refine ld12 (.tmp 8) C5.out rfl rfl rfl rfl ?_) | (refine ld12 (.tmp 2) A5.out rfl rfl rfl rfl ?_))
      refine (rmsame_any ⟨id, r, a, t, d, v, op, cd, qs, an, au, ex⟩ HOK.out.nq HOK.out.na HOK.out.nu HOK.out.nx q5 x5 y5 z5 q2 x2 y2 z2 _ M5.out L5.out).mono ?_
      rintro e w6 ⟨rfl, hb6⟩
      have U6 := Lib.hid (U5.out.trans (hb6.mono U5.out.size))
      clear hb6
      go_wp2_with fail
      go_meet
      case rel => exact U6.out
    · have g' : (E == 0) = false := by simpa using g
      clear g
      go_wp2_with fail
      go_meet
      case rel => exact U4.out
  case rest =>
  have U7 := Lib.hid hcut
  clear hcut HC2 HOK A4 L4 U4
  obtain ⟨yi, yr, ya, yt, yd, yv, yo, yc, yq, yan, yau, yex⟩ := Y
  go_wp2_with fail
  refine (HM.out _).mono ?_
  rintro e w8 ⟨q8, x8, y8, z8, rfl, hl8, hb8⟩
  have hbx := one_box w8 (.cells (mc yi yr ya yt yd yv yo yc q8 x8 y8 z8) 26)
  have u8 := U7.out.trans (hb8.mono U7.out.size)
  have U8 := Lib.hid (u8.trans (hbx.mono u8.size))
  have C8 := Lib.hid (Ce.new w8 26 (mc yi yr ya yt yd yv yo yc q8 x8 y8 z8))
  have M8 := Lib.hid (hl8.below hbx)
  clear hl8 hb8 hbx u8 U7 HM
  by_cases g : er = 0
  · subst g
    obtain ⟨hn, hgd⟩ := HR2.out rfl
    have hok := good_ok hn hgd
    have C1 := fun w h => bytes_any ⟨yi, yr, ya, yt, yd, yv, yo, yc, yq, yan, yau, yex⟩ hok q8 x8 y8 z8 w h
    have C2 := fun h w => read_bytes hn h w
    have C3 := bytes_err hgd
    generalize mbytes ⟨yi, yr, ya, yt, yd, yv, yo, yc, yq, yan, yau, yex⟩ = R at C1 C2 C3
    obtain ⟨F2, G⟩ := R
    have HC1 := Lib.hid C1
    have HC2 : Hid (G = 0 → ∀ w, Calls Try.prog 14 #[str F2] w (RPost w (⟨yi, yr, ya, yt, yd, yv, yo, yc, yq, yan, yau, yex⟩, 0))) := Lib.hid C2
    have HC3 : Hid (G = 0 ∨ G = 11) := Lib.hid C3
    have HOK2 := Lib.hid hok
    clear hn hgd hok C1 C2 C3 HR2
    go_wp2_with (first | (refine ld12 (.tmp 11) C8.out rfl rfl rfl rfl ?_))
    refine (HC1.out _ M8.out).mono ?_
    rintro e w9 ⟨rfl, hb9⟩
    have U9 := Lib.hid (U8.out.trans (hb9.mono U8.out.size))
    have C9 := Lib.hid (C8.out.below hb9)
    have M9 := Lib.hid (M8.out.below hb9)
    clear hb9 U8 C8 M8 HC1
    rcases HC3.out with rfl | rfl
    · have HC := Lib.hid (HC2.out rfl)
      clear HC2 HC3
      go_wp2_with fail
      refine (HC.out _).mono ?_
      rintro e w10 ⟨q5, x5, y5, z5, rfl, hl5, hb5⟩
      have hbx := one_box w10 (.cells (mc yi yr ya yt yd yv yo yc q5 x5 y5 z5) 26)
      have u5 := U9.out.trans (hb5.mono U9.out.size)
      have U10 := Lib.hid (u5.trans (hbx.mono u5.size))
      have A10 := Lib.hid ((C9.out.below hb5).below hbx)
      have L10 := Lib.hid ((M9.out.below hb5).below hbx)
      have C10 := Lib.hid (Ce.new w10 26 (mc yi yr ya yt yd yv yo yc q5 x5 y5 z5))
      have M10 := Lib.hid (hl5.below hbx)
      clear hl5 hb5 hbx u5 U9 C9 M9
      go_wp2_with (first | (refine ld12 (.tmp 15) C10.out rfl rfl rfl rfl ?_) | (refine ld12 (.tmp 11) A10.out rfl rfl rfl rfl ?_))
      refine (rmsame_any ⟨yi, yr, ya, yt, yd, yv, yo, yc, yq, yan, yau, yex⟩ HOK2.out.nq HOK2.out.na HOK2.out.nu HOK2.out.nx q5 x5 y5 z5 q8 x8 y8 z8 _ M10.out L10.out).mono ?_
      rintro e w11 ⟨rfl, hb6⟩
      have U11 := Lib.hid (U10.out.trans (hb6.mono U10.out.size))
      clear hb6
      go_wp2
      go_ret
      exact ⟨rfl, U11.out⟩
    · clear HC2 HC3
      go_wp2
      go_ret
      exact ⟨rfl, U9.out⟩
  · have g' : (er != 0) = true := by simpa using g
    clear g
    go_wp2
    go_ret
    exact ⟨rfl, U8.out⟩
end Go.Proofs.Ytljfkjbagebncaa

/-
  The walk of the law MessageHeads. No older memory is changed.
-/
import Derived.Test.YtljfkjbagebncaaMHeadMath
import Derived.Test.YtljfkjbagebncaaG35
import Derived.Deep.CutRange
namespace Go.Proofs.Ytljfkjbagebncaa
open Go.RowKit
theorem mbytes_len2 {m : Ms} : (mbytes m).1.length ≤ 4096 := by
  unfold mbytes
  split
  · unfold wres
    split
    · simp
    · simp only; omega
  · simp
/-- The byte that is stored. -/
theorem or_byte (x : UInt8) (b : Int) : ∃ (k : Nat) (z : UInt8), k < 8 ∧ z.toNat = (x.toNat ||| (16 * k)) ∧ bits .or .u8 (x.toNat : Int) (bits .and .i64 b 7 % 256 * 16 % 256) = (z.toNat : Int) := by
  refine ⟨(b % 8).toNat, x ||| UInt8.ofNat (16 * (b % 8).toNat), by omega, ?_, ?_⟩
  · rw [UInt8.toNat_or, UInt8.toNat_ofNat', Nat.mod_eq_of_lt (by omega)]
  · rw [low3, show b % 8 % 256 * 16 % 256 = ((16 * (b % 8).toNat : Nat) : Int) by omega, u8_or_nat _ _ x.toNat_lt (by omega), UInt8.toNat_or, UInt8.toNat_ofNat', Nat.mod_eq_of_lt (by omega)]
/-- Bytes that stand in a block. -/
def Byc (w : World) (g : Nat) (l : Bs) : Prop := g < w.heap.size ∧ ∀ j (hj : j < l.length), w.cell? ⟨g, j, none⟩ = some (.int .u8 (l[j].toNat : Int))
theorem Byc.of {w : World} {g : Nat} {l : Bs} (h : Bys w g l) (hl : 0 < l.length) : Byc w g l :=
  ⟨w.block_lt_of_cell? _ (h 0 _ (List.getElem?_eq_getElem hl)).1, fun j hj => (h j _ (List.getElem?_eq_getElem hj)).1⟩
theorem Byc.below {w w' : World} {g : Nat} {l : Bs} (h : Byc w g l) (hb : Below w.heap.size w w') : Byc w' g l :=
  ⟨Nat.lt_of_lt_of_le h.1 hb.size, fun j hj => (hb.cell (p := ⟨g, j, none⟩) h.1).trans (h.2 j hj)⟩
theorem Byc.back {w : World} {g : Nat} {l : Bs} (h : Byc w g l) (c : Nat) : (convert 47 9 (.slice (some ⟨g, 0, none⟩) l.length c)).run Try.prog w = .ok (.string ⟨l.toArray⟩) w :=
  run_convert_bytes_back (P := Try.prog) w 47 9 5 ⟨g, 0, none⟩ c l Try.underlying47 Try.underlying5 Try.underlying9 (fun j hj => by
    rw [show (⟨g, 0, none⟩ : Addr).add j = ⟨g, j, none⟩ by unfold Addr.add; split <;> simp_all]
    exact h.2 j hj)
set_option maxRecDepth 100000 in
set_option maxHeartbeats 12800000 in
theorem lheads_any (m : Ms) (hm : m.Num) (b : Int) (_hb : -9223372036854775808 ≤ b ∧ b ≤ 9223372036854775807) (q x y z : Sl) (w : World) (h : Lay w m q x y z) :
    Calls Try.prog 8 #[.agg (m.cells q x y z), .int .i64 b] w fun e w' => e = .returned (.bool true) ∧ Below w.heap.size w w' := by
  have hb0 := one_box w (.cells (m.cells q x y z) 26)
  have HK0 := Lib.hid (Ce.new w 26 (m.cells q x y z))
  have HL0 := Lib.hid (h.below hb0)
  have HB0 := Lib.hid hb0
  have HNUM := Lib.hid hm
  clear h hm hb0 _hb
  obtain ⟨id, r, a, t, d, v, op, cd, qs0, an0, au0, ex0⟩ := m
  go_enter Try.func8, Try.ntmps8
  go_wp2_with fail
  refine (mawake_any _).mono ?_
  rintro e w1 ⟨rfl, hb1⟩
  have A1 := Lib.hid (HK0.out.below hb1)
  have U1 := Lib.hid (HB0.out.trans (hb1.mono HB0.out.size))
  have L1 := Lib.hid (HL0.out.below hb1)
  clear hb1 HK0 HB0 HL0
  go_wp2_with (first | (refine ld12 (.tmp 2) A1.out rfl rfl rfl rfl ?_))
  refine (small_any ⟨id, r, a, t, d, v, op, cd, qs0, an0, au0, ex0⟩ q x y z _ L1.out HNUM.out.qs HNUM.out.an HNUM.out.au HNUM.out.ex).mono ?_
  rintro e w2 ⟨qs, an, au, ex, q2, x2, y2, z2, rfl, hq2, hx2, hy2, hz2, lq, lx, ly, lz, hcap, hnil, hb2⟩
  have A2 := Lib.hid (A1.out.below hb2)
  have A3 := Lib.hid ((A1.out.below hb2).row (mc id r a t d v op cd q2 x2 y2 z2))
  have U3 := Lib.hid (below_row (U1.out.trans (hb2.mono U1.out.size)) (Nat.le_refl _) (mc id r a t d v op cd q2 x2 y2 z2))
  have L3 := Lib.hid ((show Lay w2 (⟨id, r, a, t, d, v, op, cd, qs, an, au, ex⟩ : Ms) q2 x2 y2 z2 from ⟨hq2, hx2, hy2, hz2⟩).other A2.out (mc_ns _ _ _ _ _ _ _ _ _ _ _ _) (row_others w2 w.heap.size (mc id r a t d v op cd q2 x2 y2 z2)).1 (row_others w2 w.heap.size (mc id r a t d v op cd q2 x2 y2 z2)).2)
  have HOK := Lib.hid (lim_mok (r := r) (a := a) (t := t) (d := d) (v := v) HNUM.out.id HNUM.out.op HNUM.out.cd lq lx ly lz)
  have HMN : MNum ⟨id, r, a, t, d, v, op, cd, qs, an, au, ex⟩ := ⟨HNUM.out.id, fun q hq => (lq.q q hq).1, fun r hr => (lx.r r hr).1, fun r hr => (ly.r r hr).1, fun r hr => (lz.r r hr).1⟩
  have C1 := fun w h => bytes_any ⟨id, r, a, t, d, v, op, cd, qs, an, au, ex⟩ HOK.out q2 x2 y2 z2 w h
  have C2 := fun h => heads_math HMN h
  have C3 := mbytes_len2 (m := ⟨id, r, a, t, d, v, op, cd, qs, an, au, ex⟩)
  generalize mbytes ⟨id, r, a, t, d, v, op, cd, qs, an, au, ex⟩ = R at C1 C2 C3
  obtain ⟨F, E⟩ := R
  simp only at C1 C2 C3
  obtain ⟨U, hU⟩ : ∃ U : ByteArray, U = ⟨F.toArray⟩ := ⟨_, rfl⟩
  have HC1 : Hid (∀ w, Lay w ⟨id, r, a, t, d, v, op, cd, qs, an, au, ex⟩ q2 x2 y2 z2 → Calls Try.prog 11 #[.agg (mc id r a t d v op cd q2 x2 y2 z2)] w fun e w' => e = .returned (.tuple #[.string U, .int .i64 E]) ∧ Below w.heap.size w w') := Lib.hid (by rw [hU]; exact C1)
  have HUF : Hid (U.data.toList = F) := Lib.hid (by rw [hU])
  have hus : U.size = F.length := by rw [size_list, HUF.out]
  have HUS := Lib.hid hus
  have HC2 := Lib.hid C2
  have HC3 := Lib.hid C3
  clear hq2 hx2 hy2 hz2 lq lx ly lz hcap hnil hb2 C1 C2 C3 A1 U1 L1 HNUM HMN hU hus
  go_wp2_with (first | (refine st12 (.tmp 2) (.tmp 18) A2.out rfl rfl rfl rfl rfl ?_) | (refine ld12 (.tmp 2) A3.out rfl rfl rfl rfl ?_))
  generalize World.setRow w2 _ _ = w3 at A3 U3 L3 ⊢
  clear A2
  refine (HC1.out _ L3.out).mono ?_
  rintro e w4 ⟨rfl, hb4⟩
  have A4 := Lib.hid (A3.out.below hb4)
  have L4 := Lib.hid (L3.out.below hb4)
  have U4 := Lib.hid (U3.out.trans (hb4.mono U3.out.size))
  clear hb4 A3 L3 U3 HC1
  by_cases g : E = 0
  · subst g
    obtain ⟨h12, hk⟩ := HC2.out rfl
    have HK := Lib.hid hk
    have n1 : decide ((U.size : Int) < 12) = false := by simp; have := HUS.out; omega
    have n1n : decide (U.size < 12) = false := by simp; have := HUS.out; omega
    have n3 : (3 : Int) < (U.size : Int) := by have := HUS.out; omega
    have n3n : 3 < U.size := by omega
    obtain ⟨C, w5, h1, h2, h3⟩ := conv_bys U w4
    rw [HUF.out] at h2
    obtain ⟨x3, hx3⟩ : ∃ x3, F[3]? = some x3 := ⟨_, List.getElem?_eq_getElem (by omega)⟩
    obtain ⟨cx, fx⟩ := h2 3 x3 hx3
    have HX3 := Lib.hid hx3
    have H2 := Lib.hid h2
    have H3 := Lib.hid h3
    have HGN : Hid (w.heap.size ≠ w4.heap.size ∧ w.heap.size ≤ w4.heap.size) := Lib.hid ⟨by have := A4.out.lt; omega, U4.out.size⟩
    clear h12 hk hx3 h2 h3 HC2
    go_upto_region 8 with fail
    obtain ⟨k, zb, hk8, hz, hbits⟩ := or_byte x3 b
    rw [hbits]
    have hgd : F.getD 3 0 = x3 := by rw [List.getD_eq_getElem?_getD, HX3.out]; rfl
    have hh := HK.out k hk8 zb (by rw [hgd]; exact hz)
    obtain ⟨G, hG⟩ : ∃ G, G = F.set 3 zb := ⟨_, rfl⟩
    rw [← hG] at hh
    have hGl : G.length = U.size := by rw [hG, List.length_set, HUS.out]
    have hl12 : 3 < F.length := by have := HUS.out; omega
    have hby := bys_set H2.out 3 hl12 zb
    rw [← hG] at hby
    obtain ⟨V, hV⟩ : ∃ V : ByteArray, V = ⟨G.toArray⟩ := ⟨_, rfl⟩
    have hVd : V.data.toList = G := by rw [hV]
    have hVs : V.size ≤ 1000000 := by rw [size_list, hVd, hGl]; have := HUS.out; have := HC3.out; omega
    have HMH : Hid (∀ w, Calls Try.prog 16 #[.string V] w (HPost w (⟨id, r, a, t, d, v, op, cd, [], [], [], []⟩, 0))) := Lib.hid fun w => by
      have := mhead_any V hVs w
      rw [hVd, hh.1] at this
      exact this
    have HMR : Hid (∀ w, Calls Try.prog 14 #[.string V] w (RPost w (⟨id, r, a, t, d, v, op, cd, qs, an, au, ex⟩, 0))) := Lib.hid fun w => by
      have := mread_any V hVs w
      rw [hVd, hh.2] at this
      exact this
    have hbc := Byc.of hby (by rw [hGl]; have := HUS.out; omega)
    have h6 := H3.out.setCell (p := ⟨w4.heap.size, 3, none⟩) (Nat.le_refl _) (.int .u8 (zb.toNat : Int))
    have A6 := Lib.hid (A4.out.below h6)
    have L6 := Lib.hid (L4.out.below h6)
    have U6 := Lib.hid (U4.out.trans (h6.mono U4.out.size))
    clear h6
    have HBC := Lib.hid hbc
    have HVG : Hid (∀ w, Byc w w4.heap.size G → (convert 47 9 (.slice (some ⟨w4.heap.size, 0, none⟩) U.size C)).run Try.prog w = .ok (.string V) w) := Lib.hid fun w h => by
      have := h.back C
      rw [hGl, ← hV] at this
      exact this
    generalize World.setCell w5 _ _ = w6 at A6 L6 U6 HBC ⊢
    generalize w4.heap.size = g at HBC HVG ⊢
    have hcv := HVG.out _ HBC.out
    clear A4 L4 U4 H3 hbc hby hV hVd hVs hh hGl hG hgd hbits hz hk8 hl12 HK HX3 H2 HGN cx fx h1 n1 n1n n3 n3n HUF HUS HC3
    go_wp2_with fail
    refine (HMH.out _).mono ?_
    rintro e w7 ⟨rfl, hb7⟩
    have hbx := one_box w7 (.cells (mc id r a t d v op cd nl nl nl nl) 26)
    have U7 := Lib.hid ((U6.out.trans (hb7.mono U6.out.size)).trans (hbx.mono (U6.out.trans (hb7.mono U6.out.size)).size))
    have A7 := Lib.hid ((A6.out.below hb7).below hbx)
    have L7 := Lib.hid ((L6.out.below hb7).below hbx)
    have B7 := Lib.hid ((HBC.out.below hb7).below hbx)
    have C7 := Lib.hid (Ce.new w7 26 (mc id r a t d v op cd nl nl nl nl))
    clear hb7 hbx U6 A6 L6 HBC hcv
    go_wp2_with (first | (refine ld12 (.tmp 2) A7.out rfl rfl rfl rfl ?_))
    have hb8 := one_box (w7.alloc (.cells (mc id r a t d v op cd nl nl nl nl) 26)) (.cells (mc id r a t d v op cd nl nl nl nl) 26)
    have U8 := Lib.hid (U7.out.trans (hb8.mono U7.out.size))
    have A8 := Lib.hid (A7.out.below hb8)
    have L8 := Lib.hid (L7.out.below hb8)
    have B8 := Lib.hid (B7.out.below hb8)
    have LN : Hid (∀ w, Lay w (⟨id, r, a, t, d, v, op, cd, [], [], [], []⟩ : Ms) nl nl nl nl) := Lib.hid fun w => ⟨rdq_nil _, rdr_nil _, rdr_nil _, rdr_nil _⟩
    clear hb8 U7 A7 L7 B7 C7
    refine (rmsame_any ⟨id, r, a, t, d, v, op, cd, [], [], [], []⟩ (by simp) (by simp) (by simp) (by simp) nl nl nl nl nl nl nl nl _ (LN.out _) (LN.out _)).mono ?_
    rintro e w9 ⟨rfl, hb9⟩
    have A9 := Lib.hid (A8.out.below hb9)
    have L9 := Lib.hid (L8.out.below hb9)
    have B9 := B8.out.below hb9
    have U9 := Lib.hid (U8.out.trans (hb9.mono U8.out.size))
    have hcv := HVG.out _ B9
    clear hb9 U8 A8 L8 B8 B9 LN
    go_wp2_with fail
    refine (HMR.out _).mono ?_
    rintro e w10 ⟨q5, x5, y5, z5, rfl, hl5, hb5⟩
    have hbx := one_box w10 (.cells (mc id r a t d v op cd q5 x5 y5 z5) 26)
    have u5 := U9.out.trans (hb5.mono U9.out.size)
    have U10 := Lib.hid (u5.trans (hbx.mono u5.size))
    have A10 := Lib.hid ((A9.out.below hb5).below hbx)
    have L10 := Lib.hid ((L9.out.below hb5).below hbx)
    have C10 := Lib.hid (Ce.new w10 26 (mc id r a t d v op cd q5 x5 y5 z5))
    have M10 := Lib.hid (hl5.below hbx)
    clear hl5 hb5 hbx u5 U9 A9 L9 hcv
    go_wp2_with (first | (refine ld12 (.tmp 13) C10.out rfl rfl rfl rfl ?_) | (refine ld12 (.tmp 2) A10.out rfl rfl rfl rfl ?_))
    refine (rmsame_any ⟨id, r, a, t, d, v, op, cd, qs, an, au, ex⟩ HOK.out.nq HOK.out.na HOK.out.nu HOK.out.nx q5 x5 y5 z5 q2 x2 y2 z2 _ M10.out L10.out).mono ?_
    rintro e w11 ⟨rfl, hb6⟩
    have U11 := Lib.hid (U10.out.trans (hb6.mono U10.out.size))
    clear hb6
    go_wp2
    go_ret
    exact ⟨rfl, U11.out⟩
  · have g1 : (E != 0) = true := by simpa using g
    clear g
    go_wp2
    go_ret
    exact ⟨rfl, U4.out⟩
end Go.Proofs.Ytljfkjbagebncaa

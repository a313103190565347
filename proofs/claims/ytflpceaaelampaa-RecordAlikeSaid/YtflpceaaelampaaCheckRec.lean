/-
  What Check and Life answer, for every record; no older memory is changed.
-/
import Derived.Test.YtflpceaaelampaaJoin
namespace Go.Proofs.Ytflpceaaelampaa
open Go.RowKit
/-- A record. -/
structure Rc where
  n : ByteArray
  t : Nat
  c : Nat
  l : Nat
  d : ByteArray
abbrev Rc.cells (r : Rc) : Array Value := #[.string r.n, .int .u16 (r.t : Int), .int .u16 (r.c : Int), .int .u32 (r.l : Int), .string r.d]
abbrev Rc.v (r : Rc) : Value := .agg r.cells
structure Rc.Ok (r : Rc) : Prop where
  n : r.n.size ≤ 140737488351232
  d : r.d.size ≤ 140737488351232
  t : r.t < 65536
  c : r.c < 65536
  l : r.l < 4294967296
def rck (r : Rc) : Int := if chk r.n.data.toList = 0 then (if 2000 < r.d.size then 11 else if vld r.t r.d.data.toList then 0 else 10) else chk r.n.data.toList
set_option maxRecDepth 100000 in
set_option maxHeartbeats 3200000 in
theorem rcheckrec_any (r : Rc) (hr : r.Ok) (w : World) :
    Calls Try.prog 16 #[r.v] w fun e w' => e = .returned (.int .i64 (rck r)) ∧ Below w.heap.size w w' := by
  obtain ⟨n, t, c, l, d⟩ := r
  obtain ⟨h1, h2, h3, h4, h5⟩ := hr
  simp only at h1 h2 h3 h4 h5
  have hb := one_box w (.cells #[.string n, .int .u16 (t : Int), .int .u16 (c : Int), .int .u32 (l : Int), .string d] 25)
  have bk := Ce.new w 25 #[.string n, .int .u16 (t : Int), .int .u16 (c : Int), .int .u32 (l : Int), .string d]
  have C := check_any n h1 (w.alloc (.cells #[.string n, .int .u16 (t : Int), .int .u16 (c : Int), .int .u32 (l : Int), .string d] 25))
  have HB := Lib.hid hb
  have HK := Lib.hid bk
  have HC := Lib.hid C
  have hdi : (d.size : Int) ≤ 140737488351232 := by omega
  clear hb bk C
  by_cases g1 : chk n.data.toList = 0
  · have q1 : (chk n.data.toList == 0) = true := by simpa using g1
    have q1' : (chk n.data.toList != 0) = false := by simpa using g1
    by_cases g2 : 2000 < d.size
    · have E : Hid (rck ⟨n, t, c, l, d⟩ = 11) := Lib.hid (by unfold rck; rw [if_pos g1, if_pos g2])
      have q2 : (2000 : Int) < (d.size : Int) := by omega
      rw [E.out]
      clear g1
      go_enter Try.func16, Try.ntmps16
      go_wp2_with fail
      refine HC.out.mono ?_
      rintro e w1 ⟨rfl, hb1⟩
      have k1 := (HK.out.below hb1).cell 4
      simp at k1
      have hbb := HB.out.trans (hb1.mono HB.out.size)
      clear hb1
      go_wp2
      go_ret
      exact ⟨rfl, hbb⟩
    · have q2 : decide ((2000 : Int) < (d.size : Int)) = false := by simp; omega
      have V := fun w => valid_any t h3 d (by omega) w
      have E : rck ⟨n, t, c, l, d⟩ = if vld t d.data.toList then 0 else 10 := by unfold rck; rw [if_pos g1, if_neg g2]
      generalize vld t d.data.toList = b at V E
      have HV := Lib.hid V
      have HE := Lib.hid E
      clear V E g1
      cases b with
      | true =>
        rw [HE.out]
        go_enter Try.func16, Try.ntmps16
        go_wp2_with fail
        refine HC.out.mono ?_
        rintro e w1 ⟨rfl, hb1⟩
        have k1 := (HK.out.below hb1).cell 4
        have k2 := (HK.out.below hb1).cell 1
        simp at k1 k2
        have hbb := HB.out.trans (hb1.mono HB.out.size)
        clear hb1
        go_wp2_with fail
        refine (HV.out _).mono ?_
        rintro e w2 ⟨rfl, hb2⟩
        go_wp2
        go_ret
        exact ⟨rfl, hbb.trans (hb2.mono hbb.size)⟩
      | false =>
        rw [HE.out]
        go_enter Try.func16, Try.ntmps16
        go_wp2_with fail
        refine HC.out.mono ?_
        rintro e w1 ⟨rfl, hb1⟩
        have k1 := (HK.out.below hb1).cell 4
        have k2 := (HK.out.below hb1).cell 1
        simp at k1 k2
        have hbb := HB.out.trans (hb1.mono HB.out.size)
        clear hb1
        go_wp2_with fail
        refine (HV.out _).mono ?_
        rintro e w2 ⟨rfl, hb2⟩
        go_wp2
        go_ret
        exact ⟨rfl, hbb.trans (hb2.mono hbb.size)⟩
  · have q1 : (chk n.data.toList == 0) = false := by simpa using g1
    have q1' : (chk n.data.toList != 0) = true := by simpa using g1
    have E : Hid (rck ⟨n, t, c, l, d⟩ = chk n.data.toList) := Lib.hid (by unfold rck; rw [if_neg g1])
    rw [E.out]
    clear g1
    go_enter Try.func16, Try.ntmps16
    go_wp2_with fail
    refine HC.out.mono ?_
    rintro e w1 ⟨rfl, hb1⟩
    have hbb := HB.out.trans (hb1.mono HB.out.size)
    clear hb1
    go_wp2
    go_ret
    exact ⟨rfl, hbb⟩
def lf (n : Nat) : Nat := if 2147483648 ≤ n then 0 else n
set_option maxHeartbeats 800000 in
theorem life_any (n : Nat) (hn : n < 4294967296) (w : World) :
    Calls Try.prog 18 #[.int .u32 (n : Int)] w fun e w' => e = .returned (.int .u32 (lf n : Int)) ∧ w = w' := by
  have hni : (n : Int) < 4294967296 := by omega
  by_cases g : 2147483648 ≤ n
  · have E : Hid (lf n = 0) := Lib.hid (by unfold lf; rw [if_pos g])
    have q : ((n : Int) / 2147483648 == 1) = true := by simp; omega
    rw [E.out]
    go_enter Try.func18, Try.ntmps18
    go_wp2
    go_ret
    exact ⟨rfl, rfl⟩
  · have E : Hid (lf n = n) := Lib.hid (by unfold lf; rw [if_neg g])
    have q : ((n : Int) / 2147483648 == 1) = false := by simp; omega
    rw [E.out]
    go_enter Try.func18, Try.ntmps18
    go_wp2
    go_ret
    exact ⟨rfl, rfl⟩
end Go.Proofs.Ytflpceaaelampaa

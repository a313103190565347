/-
  The walk of the law RecordNil: for every record it returns true; no older memory is changed.
-/
import Derived.Test.YtflpceaaelampaaAwakeRec
namespace Go.Proofs.Ytflpceaaelampaa
open Go.RowKit
set_option maxRecDepth 100000 in
set_option maxHeartbeats 1600000 in
theorem lawNil_any (r : Rc) (w : World) : Calls Try.prog 9 #[r.v] w fun e w' => e = .returned (.bool true) ∧ Below w.heap.size w w' := by
  have hb := one_box w (.cells r.cells 25)
  have bk := Ce.new w 25 r.cells
  have C := fun w => put_none r w
  obtain ⟨n, t, c, l, d⟩ := r
  have HB := Lib.hid hb
  have HK := Lib.hid bk
  have HC := Lib.hid C
  clear hb bk C
  go_enter Try.func9, Try.ntmps9
  go_wp2_with fail
  refine (awake_any _).mono ?_
  rintro e w1 ⟨rfl, hb1⟩
  obtain ⟨x0, x1, x2, x3, x4⟩ := c5 (HK.out.below hb1)
  have h1 := HB.out.trans (hb1.mono HB.out.size)
  clear hb1
  go_wp2_with fail
  refine (HC.out _).mono ?_
  rintro e w2 ⟨rfl, hb2⟩
  go_wp2
  go_ret
  exact ⟨rfl, h1.trans (hb2.mono h1.size)⟩
set_option maxRecDepth 100000 in
set_option maxHeartbeats 1600000 in
/-- A record whose texts are cut. -/
theorem small_any (r : Rc) : ∃ q : Rc, q.n.size ≤ 300 ∧ q.d.size ≤ 2100 ∧ q.t = r.t ∧ q.c = r.c ∧ q.l = r.l ∧
    ∀ w : World, Calls Try.prog 11 #[r.v] w fun e w' => e = .returned q.v ∧ Below w.heap.size w w' := by
  obtain ⟨n, t, c, l, d⟩ := r
  obtain ⟨n', hn, HN⟩ := short_any n 300
  obtain ⟨d', hd, HD⟩ := short_any d 2100
  refine ⟨⟨n', t, c, l, d'⟩, hn, hd, rfl, rfl, rfl, fun w => ?_⟩
  have HT := Lib.hid (two_boxes w 25 25 #[.string n', .int .u16 (t : Int), .int .u16 (c : Int), .int .u32 (l : Int), .string d'] #[.string n', .int .u16 (t : Int), .int .u16 (c : Int), .int .u32 (l : Int), .string d'])
  have H1 := Lib.hid HN
  have H2 := Lib.hid HD
  clear HN HD
  go_enter Try.func11, Try.ntmps11
  go_wp2_with fail
  refine (H1.out _).mono ?_
  rintro e w' ⟨rfl, rfl⟩
  go_wp2_with fail
  refine (H2.out _).mono ?_
  rintro e w' ⟨rfl, rfl⟩
  go_wp2
  refine bodyPost_ret (res5 rfl rfl HT.out.2.1) rfl ?_
  exact ⟨rfl, HT.out.2.2⟩
end Go.Proofs.Ytflpceaaelampaa

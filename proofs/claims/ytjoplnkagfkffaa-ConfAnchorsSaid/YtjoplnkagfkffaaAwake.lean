/-
  The chapter's examples hold.
-/
import Derived.Test.YtjoplnkagfkffaaBytes1
namespace Go.Proofs.Ytjoplnkagfkffaa
open Go.RowKit
abbrev flO (z : ByteArray) : Value := .agg #[it 5, it 0, .string ⟨#[]⟩, .string ⟨#[]⟩, .string z, .slice none 0 0]
theorem apply_flush {w : World} {r h a fs : Value} {C : Cf} (hC : RdC w r h a fs C) (hok : C.Ok) (hep : 0 ≤ C.epoch ∧ C.epoch < 1099511627776) {z : ByteArray} (hz : chk (bl z) = 0) (hs : z.size ≤ 1000000) :
    Calls Try.prog 9 #[cv r h a C.epoch fs, flO z] w fun e w' => ∃ r' h' a' fs', e = .returned (.tuple #[cv r' h' a' (C.epoch + 1) fs', it 0]) ∧ OwnC w' w.heap.size r' h' a' fs' (flC C z) ∧ Below w.heap.size w w' :=
  apply_any hC hok (RdX.nil w) (by decide) (by decide) hs (flC C z) (flC C z) 0 (fun _ => rfl) (fun h => absurd rfl h)
    (fun W B base r h a fs h1 h2 h3 h4 _ => change_flush hep hok hs h1 h2 h3 h4 ⟨_, _, _, rfl⟩) (fit_flush hz)
theorem apply_flush_no {w : World} {r h a fs : Value} {C : Cf} (hC : RdC w r h a fs C) (hok : C.Ok) {z : ByteArray} (hz : ¬ chk (bl z) = 0) (hs : z.size ≤ 1000000) :
    Calls Try.prog 9 #[cv r h a C.epoch fs, flO z] w fun e w' => ∃ r' h' a' fs', e = .returned (.tuple #[cv r' h' a' C.epoch fs', it 1]) ∧ OwnC w' w.heap.size r' h' a' fs' C ∧ Below w.heap.size w w' :=
  apply_bad hC hok (RdX.nil w) (by decide) (by decide) hs (fit_flush_no hz)
def Cf.zero : Cf := ⟨[], [], [], 0, []⟩
theorem zero_ok : Cf.zero.Ok := ⟨by decide, by decide, by decide, by decide, (fun x hx => by cases hx), (fun x hx => by cases hx)⟩
theorem zero_rd (w : World) : RdC w (.slice none 0 0) (.slice none 0 0) (.slice none 0 0) (.slice none 0 0) Cf.zero := ⟨RdX.nil w, RdX.nil w, RdX.nil w, RdX.nil w⟩
def zA : ByteArray := ⟨#[1, 97, 0]⟩
def zR : ByteArray := ⟨#[0]⟩
def CA : Cf := flC Cf.zero zA
def CB : Cf := flC CA zR
theorem CA_f : CA.flushes = [⟨1, zA⟩] := by decide +kernel
theorem CB_f : CB.flushes = [⟨2, zR⟩] := by decide +kernel
theorem CA_flr : flr CA.flushes (bl ⟨#[1, 120, 1, 97, 0]⟩) = 1 ∧ flr CA.flushes (bl ⟨#[1, 98, 0]⟩) = 0 := by decide +kernel
theorem chk_zA : chk (bl zA) = 0 ∧ chk (bl zR) = 0 := by decide +kernel
theorem CA_ok : CA.Ok := ⟨by decide, by decide, by decide, by rw [CA_f]; decide, (fun x hx => by cases hx), (fun x hx => by rw [CA_f] at hx; rw [List.mem_singleton.1 hx]; decide)⟩
set_option maxRecDepth 100000 in
set_option maxHeartbeats 6400000 in
theorem awake_any (w : World) : Calls Try.prog 6 #[] w fun e w' => e = .returned (.bool true) ∧ Below w.heap.size w w' := by
  have B1 := Lib.hid (fun w' => bytes_join (n := 3) (by decide) w')
  have B2 := Lib.hid (fun w' => bytes_flush chk_zA.1 (by decide) w')
  obtain ⟨X1, hX1⟩ : ∃ X : ByteArray, X = (⟨#[UInt8.ofNat 1]⟩ ++ ⟨#[UInt8.ofNat 3]⟩ : ByteArray) := ⟨_, rfl⟩
  obtain ⟨X2, hX2⟩ : ∃ X : ByteArray, X = (⟨#[UInt8.ofNat 5]⟩ ++ zA : ByteArray) := ⟨_, rfl⟩
  have x1 : (X1.toList == [1, 3]) = true := by rw [hX1]; decide +kernel
  have x2 : (X2.toList == [5, 1, 97, 0]) = true := by rw [hX2]; decide +kernel
  rw [← hX1] at B1
  rw [← hX2] at B2
  clear hX1 hX2
  go_enter Try.func6, Try.ntmps6
  go_wp2_with fail
  refine (B1.out _).mono ?_
  rintro e w1 ⟨rfl, hb1⟩
  have HB1 := Lib.hid hb1
  clear hb1
  go_wp2_with fail
  refine (B2.out _).mono ?_
  rintro e w2 ⟨rfl, hb2⟩
  have HB2 := Lib.hid (HB1.out.trans (hb2.mono HB1.out.size))
  have HA := Lib.hid (apply_flush (zero_rd w2) zero_ok (by decide) chk_zA.1 (by decide))
  clear hb2
  go_wp2_with fail
  refine HA.out.mono ?_
  rintro e w3 ⟨r3, h3, a3, f3, rfl, ho3, hb3⟩
  have ho3 : OwnC w3 w2.heap.size r3 h3 a3 f3 CA := ho3
  have HC5 := Lib.hid (Ce.new w3 29 #[r3, h3, a3, it 1, f3])
  have hbn := one_new w3 (.cells #[r3, h3, a3, it 1, f3] 29)
  have HR3 := Lib.hid (ho3.rd.below hbn)
  have HB3 := Lib.hid ((HB2.out.trans (hb3.mono HB2.out.size)).trans (hbn.mono (HB2.out.trans (hb3.mono HB2.out.size)).size))
  have e1 : (it (Cf.zero.epoch + 1) : Value) = it 1 := rfl
  rw [show (cv r3 h3 a3 (Cf.zero.epoch + 1) f3) = cv r3 h3 a3 1 f3 from rfl]
  obtain ⟨⟨x1a, y1a, rfl⟩, ⟨x2a, y2a, rfl⟩, ⟨x3a, y3a, rfl⟩, ⟨x4a, y4a, rfl⟩⟩ := ho3.rd.shape
  rw [show CA.flushes.length = 1 by rw [CA_f]; rfl, show CA.ring.length = 0 from rfl, show CA.hints.length = 0 from rfl, show CA.anchors.length = 0 from rfl] at *
  clear ho3 hb3 hbn e1
  go_upto_region 4 with fail
  generalize w3.alloc _ = w4 at *
  obtain ⟨n5, hn5⟩ : ∃ n, n = w3.heap.size := ⟨_, rfl⟩
  rw [← hn5] at HC5 ⊢
  clear hn5
  obtain ⟨c0, c1, c2, c3, c4⟩ := c5 HC5.out
  have HAB := Lib.hid (apply_flush HR3.out CA_ok (by decide) chk_zA.2 (by decide))
  have HAB : Hid (Calls Try.prog 9 #[cv (.slice x1a 0 y1a) (.slice x2a 0 y2a) (.slice x3a 0 y3a) 1 (.slice x4a 1 y4a), flO zR] w4 fun e w' => ∃ r' h' a' fs', e = .returned (.tuple #[cv r' h' a' 2 fs', it 0]) ∧ OwnC w' w4.heap.size r' h' a' fs' CB ∧ Below w4.heap.size w4 w') := HAB
  go_wp2_with fail
  refine HAB.out.mono ?_
  rintro e w5 ⟨r5, h5, a5, f5, rfl, ho5, hb5⟩
  have HC7 := Lib.hid (Ce.new w5 29 #[r5, h5, a5, it 2, f5])
  have hbn := one_new w5 (.cells #[r5, h5, a5, it 2, f5] 29)
  have HB45 := Lib.hid (hb5.trans (hbn.mono hb5.size))
  have HB5 := Lib.hid (HB3.out.trans (HB45.out.mono HB3.out.size))
  have HR5 := Lib.hid (HR3.out.below HB45.out)
  have HC5' := Lib.hid (HC5.out.below HB45.out)
  obtain ⟨⟨x1b, y1b, rfl⟩, ⟨x2b, y2b, rfl⟩, ⟨x3b, y3b, rfl⟩, ⟨x4b, y4b, rfl⟩⟩ := ho5.rd.shape
  rw [show CB.flushes.length = 1 by rw [CB_f]; rfl, show CB.ring.length = 0 from rfl, show CB.hints.length = 0 from rfl, show CB.anchors.length = 0 from rfl] at *
  clear ho5 hb5 hbn c0 c1 c2 c3 c4 HAB HC5 HR3 HB45
  go_upto_region 5 with fail
  generalize w5.alloc _ = w6 at *
  obtain ⟨n7, hn7⟩ : ∃ n, n = w5.heap.size := ⟨_, rfl⟩
  rw [← hn7] at HC7 ⊢
  clear hn7
  obtain ⟨c0, c1, c2, c3, c4⟩ := c5 HC5'.out
  obtain ⟨d0, d1, d2, d3, d4⟩ := c5 HC7.out
  have HF1 := Lib.hid (floor_any (r := .slice x1a 0 y1a) (h := .slice x2a 0 y2a) (a := .slice x3a 0 y3a) (ep := 1) (n := ⟨#[1, 120, 1, 97, 0]⟩) HR5.out.f CA_ok.f (by decide) CA_ok.fz)
  rw [CA_flr.1] at HF1
  have HF2 := Lib.hid (fun W (hb : Below w6.heap.size w6 W) => floor_any (r := .slice x1a 0 y1a) (h := .slice x2a 0 y2a) (a := .slice x3a 0 y3a) (ep := 1) (n := ⟨#[1, 98, 0]⟩) (HR5.out.f.below hb) CA_ok.f (by decide) CA_ok.fz)
  rw [CA_flr.2] at HF2
  go_wp2_with fail
  refine HF1.out.mono ?_
  rintro e w7 ⟨rfl, hb7⟩
  obtain ⟨c0, c1, c2, c3, c4⟩ := c5 (HC5'.out.below hb7)
  have HB7 := Lib.hid (HB5.out.trans (hb7.mono HB5.out.size))
  have HF2 := Lib.hid (HF2.out _ hb7)
  clear hb7
  go_wp2_with fail
  refine HF2.out.mono ?_
  rintro e w8 ⟨rfl, hb8⟩
  have HB8 := Lib.hid (HB7.out.trans (hb8.mono HB7.out.size))
  clear hb8
  go_wp2
  go_ret
  exact ⟨rfl, HB8.out⟩
end Go.Proofs.Ytjoplnkagfkffaa

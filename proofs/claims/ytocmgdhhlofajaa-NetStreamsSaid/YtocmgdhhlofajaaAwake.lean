/-
  The chapter's examples come out true; no older memory is changed.
-/
import Derived.Test.YtocmgdhhlofajaaNA
namespace Go.Proofs.Ytocmgdhhlofajaa
open Go.RowKit
abbrev tA : ByteArray := ⟨#[97]⟩
abbrev tB : ByteArray := ⟨#[98]⟩
abbrev tX : ByteArray := ⟨#[120]⟩
abbrev tY : ByteArray := ⟨#[121]⟩
def q1 : St := sendS St.empty 1 2 tA
def q2 : St := sendS q1 2 1 tB
def q3 : St := takeS q2 (pick (ready q2) 1)
def q4 : St := takeS q3 (pick (ready q3) 0)
def q5 : St := takeS q4 (pick (ready q4) 0)
def q6 : St := openS q5 1 2
def q7 : St := writeS q6 1 1 tX
def q8 : St := writeS q7 1 1 tY
def q9 : St := closeS q8 1
theorem i1 : I64 1 := by unfold I64; omega
theorem i2 : I64 2 := by unfold I64; omega
theorem i0' : I64 0 := by unfold I64; omega
theorem g2 : Good q2 := good_send (good_send good_empty i2) i1
theorem g3 : Good q3 := good_take g2
theorem g4 : Good q4 := good_take g3
theorem g5 : Good q5 := good_take g4
theorem g6 : Good q6 := good_open g5 i1 i2
theorem g7 : Good q7 := good_write g6
theorem g8 : Good q8 := good_write g7
theorem g9 : Good q9 := good_close g8
theorem p1 : pick (ready q2) 1 = some ⟨2, 1, 2, 1, 0, tB⟩ := by kernel_rfl
theorem p2 : pick (ready q3) 0 = some ⟨1, 1, 1, 2, 0, tA⟩ := by kernel_rfl
theorem p3 : pick (ready q4) 0 = none := by kernel_rfl
theorem n6 : noOpen q5 1 2 = false := by kernel_rfl
theorem o6 : ((q5.opens + 1 : Nat) : Int) = 1 := by kernel_rfl
theorem r8 : ready q8 = [⟨3, 2, 1, 2, 1, ⟨#[]⟩⟩] := by kernel_rfl
theorem c8 : (findL q8.lks 1).isSome = true := by kernel_rfl
theorem r9 : ready q9 = [⟨6, 4, 2, 1, 1, ⟨#[]⟩⟩, ⟨7, 4, 1, 2, 1, ⟨#[]⟩⟩] := by kernel_rfl
/-- How small they are. -/
def Small (s : St) : Prop := s.its.length ≤ 10 ∧ s.puts ≤ 10 ∧ s.opens ≤ 10 ∧ s.lks.length ≤ 10
theorem small_of {s : St} (h : (decide (s.its.length ≤ 10) && decide (s.puts ≤ 10) && decide (s.opens ≤ 10) && decide (s.lks.length ≤ 10)) = true) : Small s := by simpa [Small, and_assoc] using h
theorem s0 : Small St.empty := small_of (by kernel_rfl)
theorem s1 : Small q1 := small_of (by kernel_rfl)
theorem s2 : Small q2 := small_of (by kernel_rfl)
theorem s3 : Small q3 := small_of (by kernel_rfl)
theorem s4 : Small q4 := small_of (by kernel_rfl)
theorem s5 : Small q5 := small_of (by kernel_rfl)
theorem s6 : Small q6 := small_of (by kernel_rfl)
theorem s7 : Small q7 := small_of (by kernel_rfl)
theorem s8 : Small q8 := small_of (by kernel_rfl)
theorem s9 : Small q9 := small_of (by kernel_rfl)
theorem b_take {s : St} (h : Small s) : s.its.length ≤ 900000 ∧ s.opens ≤ 900000 ∧ s.puts ≤ 900000 ∧ s.lks.length ≤ 900000 := by unfold Small at h; omega
theorem b_put {s : St} (h : Small s) : s.its.length ≤ 1000000 ∧ s.opens ≤ 1000000 ∧ s.puts ≤ 1000000 ∧ s.lks.length ≤ 1000000 := by unfold Small at h; omega
theorem take1 (S : Nat → Prop) (b : Nat) (w : World) (h : Pn S b q2 w) : Calls Try.prog 25 #[ptr b, .int .i64 1] w fun e w' => e = .returned (.tuple #[.agg #[.int .i64 2, .int .i64 1, .int .i64 2, .int .i64 1, .int .i64 0, .string tB], .bool true]) ∧ Pl S b q3 w w' := by
  have := take_any 1 i1 S b q2 w h g2 (b_take s2).1 (b_take s2).2.1
  rw [show takeS q2 (pick (ready q2) 1) = q3 from rfl, p1] at this
  exact this
theorem take2 (S : Nat → Prop) (b : Nat) (w : World) (h : Pn S b q3 w) : Calls Try.prog 25 #[ptr b, .int .i64 0] w fun e w' => e = .returned (.tuple #[.agg #[.int .i64 1, .int .i64 1, .int .i64 1, .int .i64 2, .int .i64 0, .string tA], .bool true]) ∧ Pl S b q4 w w' := by
  have := take_any 0 i0' S b q3 w h g3 (b_take s3).1 (b_take s3).2.1
  rw [show takeS q3 (pick (ready q3) 0) = q4 from rfl, p2] at this
  exact this
theorem take3 (S : Nat → Prop) (b : Nat) (w : World) (h : Pn S b q4 w) : Calls Try.prog 25 #[ptr b, .int .i64 0] w fun e w' => e = .returned (.tuple #[.agg #[.int .i64 0, .int .i64 0, .int .i64 0, .int .i64 0, .int .i64 0, .string ⟨#[]⟩], .bool false]) ∧ Pl S b q5 w w' := by
  have := take_any 0 i0' S b q4 w h g4 (b_take s4).1 (b_take s4).2.1
  rw [show takeS q4 (pick (ready q4) 0) = q5 from rfl, p3] at this
  exact this
theorem open6 (S : Nat → Prop) (b : Nat) (w : World) (h : Pn S b q5 w) : Calls Try.prog 19 #[ptr b, .int .i64 1, .int .i64 2] w fun e w' => e = .returned (.tuple #[.int .i64 1, .bool true]) ∧ Pl S b q6 w w' := by
  have := open_yes 1 2 S b q5 w h (b_put s5).1 (b_put s5).2.2.1 (b_put s5).2.1 n6
  rw [o6] at this
  exact this
theorem ready8 (S : Nat → Prop) (b : Nat) (w : World) (h : Pn S b q8 w) : Calls Try.prog 16 #[ptr b] w fun e w' => (∃ g cap, e = .returned (.slice (some ⟨g, 0, none⟩) 1 cap) ∧ w.heap.size ≤ g ∧ w'.cell? ⟨g, 1, none⟩ = some (.int .i64 2)) ∧ Below w.heap.size w w' := by
  refine (ready_any S b q8 w h g8 (b_take s8).1 (b_take s8).2.1).mono ?_
  rintro e w' ⟨⟨v, rfl, ho⟩, hb⟩
  rw [r8] at ho
  obtain ⟨g, cap, rfl, h1, _, hc⟩ := own_at ho (by decide)
  exact ⟨⟨g, cap, rfl, h1, hc 0 _ rfl 1 _ rfl⟩, hb⟩
theorem ready9 (S : Nat → Prop) (b : Nat) (w : World) (h : Pn S b q9 w) : Calls Try.prog 16 #[ptr b] w fun e w' => (∃ g cap, e = .returned (.slice (some ⟨g, 0, none⟩) 2 cap) ∧ w'.cell? ⟨g, 3, none⟩ = some (.int .i64 1) ∧ w'.cell? ⟨g, 9, none⟩ = some (.int .i64 2) ∧ w'.cell? ⟨g, 7, none⟩ = some (.int .i64 4)) ∧ Below w.heap.size w w' := by
  refine (ready_any S b q9 w h g9 (b_take s9).1 (b_take s9).2.1).mono ?_
  rintro e w' ⟨⟨v, rfl, ho⟩, hb⟩
  rw [r9] at ho
  obtain ⟨g, cap, rfl, h1, _, hc⟩ := own_at ho (by decide)
  exact ⟨⟨g, cap, rfl, hc 0 _ rfl 3 _ rfl, hc 1 _ rfl 3 _ rfl, hc 1 _ rfl 1 _ rfl⟩, hb⟩
theorem close9 (S : Nat → Prop) (b : Nat) (w : World) (h : Pn S b q8 w) : Calls Try.prog 23 #[ptr b, .int .i64 1] w fun e w' => e = .returned (.bool true) ∧ Pl S b q9 w w' := by
  have := close_any 1 S b q8 w h g8 (b_take s8).1 (b_take s8).2.2.1 (b_take s8).2.2.2
  rw [c8] at this
  exact this
set_option maxRecDepth 100000 in
set_option maxHeartbeats 16000000 in
theorem awake_any (w : World) : Calls Try.prog 9 #[] w fun e w' => e = .returned (.bool true) ∧ Below w.heap.size w w' := by
  go_enter Try.func9, Try.ntmps9
  go_wp2_with fail
  refine (new_any w).mono ?_
  rintro e w1 ⟨rfl, hp1, hb1⟩
  obtain ⟨S1, hn1, _⟩ := NA.new hp1 hb1 (Below.refl w.heap.size w) (Nat.le_refl _)
  obtain ⟨b, hb⟩ : ∃ b, b = w.heap.size := ⟨_, rfl⟩
  have H1 : Hid (NP w.heap.size S1 w b St.empty w1) := Lib.hid (by rw [hb]; exact hn1)
  rw [← hb]
  clear hp1 hb1 hn1 hb
  go_wp2_with fail
  refine (send_any 1 2 tA _ b _ w1 H1.out.p (b_put s0).1 (b_put s0).2.2.1).mono ?_
  rintro e w2 ⟨rfl, hl⟩
  obtain ⟨S2, hn2, _⟩ := H1.out.step hl
  have H2 : Hid (NP w.heap.size S2 w b q1 w2) := Lib.hid hn2
  clear hl hn2
  go_wp2_with fail
  refine (send_any 2 1 tB _ b _ w2 H2.out.p (b_put s1).1 (b_put s1).2.2.1).mono ?_
  rintro e w3 ⟨rfl, hl⟩
  obtain ⟨S3, hn3, _⟩ := H2.out.step hl
  have H3 : Hid (NP w.heap.size S3 w b q2 w3) := Lib.hid hn3
  clear hl hn3
  go_wp2_with fail
  refine (take1 _ b w3 H3.out.p).mono ?_
  rintro e w4 ⟨rfl, hl⟩
  obtain ⟨S4, hn4, _⟩ := H3.out.step hl
  have H4 : Hid (NP w.heap.size S4 w b q3 w4) := Lib.hid hn4
  clear hl hn4
  have H5 := Lib.hid (H4.out.mv (w' := w4.alloc (.cells #[.int .i64 2, .int .i64 1, .int .i64 2, .int .i64 1, .int .i64 0, .string tB] 52)) ((Below.refl _ _).alloc (Nat.le_refl _) _))
  have hA := ce_new w4 #[.int .i64 2, .int .i64 1, .int .i64 2, .int .i64 1, .int .i64 0, .string tB] 52
  have nA := H4.out.far (Nat.le_refl _)
  go_upto_region 7 with fail
  obtain ⟨A, hAe⟩ : ∃ A, A = w4.heap.size := ⟨_, rfl⟩
  obtain ⟨w5, hw5⟩ : ∃ w5, w5 = w4.alloc (.cells #[.int .i64 2, .int .i64 1, .int .i64 2, .int .i64 1, .int .i64 0, .string tB] 52) := ⟨_, rfl⟩
  rw [← hAe] at hA nA ⊢
  rw [← hw5] at hA H5 ⊢
  have cA := Lib.hid (show w5.cell? ⟨A, 5, none⟩ = some (.string tB) ∧ ¬ S4 A from ⟨by rw [hA.cell]; rfl, nA⟩)
  clear hA nA hAe hw5 H4
  go_wp2_with fail
  refine (take2 _ b w5 H5.out.p).mono ?_
  rintro e w6 ⟨rfl, hl⟩
  obtain ⟨S6, hn6, kp, _⟩ := H5.out.step hl
  have H6 : Hid (NP w.heap.size S6 w b q4 w6) := Lib.hid hn6
  have cA6 := Lib.hid (kp.cell cA.out.1 cA.out.2)
  clear hl hn6 kp cA
  have H7 := Lib.hid (H6.out.mv (w' := w6.alloc (.cells #[.int .i64 1, .int .i64 1, .int .i64 1, .int .i64 2, .int .i64 0, .string tA] 52)) ((Below.refl _ _).alloc (Nat.le_refl _) _))
  have hA := ce_new w6 #[.int .i64 1, .int .i64 1, .int .i64 1, .int .i64 2, .int .i64 0, .string tA] 52
  have nA := H6.out.far (Nat.le_refl _)
  have cA7 : Hid ((w6.alloc (.cells #[.int .i64 1, .int .i64 1, .int .i64 1, .int .i64 2, .int .i64 0, .string tA] 52)).cell? ⟨A, 5, none⟩ = some (.string tB) ∧ ¬ S6 A) := Lib.hid ⟨(((Below.refl _ w6).alloc (Nat.le_refl _) _).cell (p := ⟨A, 5, none⟩) (w6.block_lt_of_cell? _ cA6.out.1)).trans cA6.out.1, cA6.out.2⟩
  go_upto_region 8 with fail
  obtain ⟨B, hBe⟩ : ∃ B, B = w6.heap.size := ⟨_, rfl⟩
  obtain ⟨w7, hw7⟩ : ∃ w7, w7 = w6.alloc (.cells #[.int .i64 1, .int .i64 1, .int .i64 1, .int .i64 2, .int .i64 0, .string tA] 52) := ⟨_, rfl⟩
  rw [← hBe] at hA nA ⊢
  rw [← hw7] at hA H7 cA7 ⊢
  have cB := Lib.hid (show w7.cell? ⟨B, 5, none⟩ = some (.string tA) ∧ ¬ S6 B from ⟨by rw [hA.cell]; rfl, nA⟩)
  clear hA nA hBe hw7 H6 cA6
  go_wp2_with fail
  refine (take3 _ b w7 H7.out.p).mono ?_
  rintro e w8 ⟨rfl, hl⟩
  obtain ⟨S8, hn8, kp, _⟩ := H7.out.step hl
  have cA8 := Lib.hid (kp.cell cA7.out.1 cA7.out.2)
  have cB8 := Lib.hid (kp.cell cB.out.1 cB.out.2)
  have hal : Below w8.heap.size w8 (w8.alloc (.cells #[.int .i64 0, .int .i64 0, .int .i64 0, .int .i64 0, .int .i64 0, .string ⟨#[]⟩] 52)) := (Below.refl _ w8).alloc (Nat.le_refl _) _
  have H9 : Hid (NP w.heap.size S8 w b q5 (w8.alloc (.cells #[.int .i64 0, .int .i64 0, .int .i64 0, .int .i64 0, .int .i64 0, .string ⟨#[]⟩] 52))) := Lib.hid (hn8.mv hal)
  have cA9 := Lib.hid ((hal.cell (p := ⟨A, 5, none⟩) (w8.block_lt_of_cell? _ cA8.out.1)).trans cA8.out.1)
  have cB9 := Lib.hid ((hal.cell (p := ⟨B, 5, none⟩) (w8.block_lt_of_cell? _ cB8.out.1)).trans cB8.out.1)
  have nA9 := Lib.hid cA8.out.2
  have nB9 := Lib.hid cB8.out.2
  clear hl hn8 kp cA7 cB H7 hal cA8 cB8
  go_upto_region 9 with fail
  obtain ⟨w9, hw9⟩ : ∃ w9, w9 = w8.alloc (.cells #[.int .i64 0, .int .i64 0, .int .i64 0, .int .i64 0, .int .i64 0, .string ⟨#[]⟩] 52) := ⟨_, rfl⟩
  rw [← hw9] at H9 cA9 cB9 ⊢
  clear hw9
  go_wp2_with fail
  refine (open6 _ b w9 H9.out.p).mono ?_
  rintro e w10 ⟨rfl, hl⟩
  obtain ⟨S10, hn10, kp, _⟩ := H9.out.step hl
  have H10 : Hid (NP w.heap.size S10 w b q6 w10) := Lib.hid hn10
  have cA10 := Lib.hid (kp.cell cA9.out nA9.out)
  have cB10 := Lib.hid (kp.cell cB9.out nB9.out)
  clear hl hn10 kp cA9 cB9 nA9 nB9 H9
  go_wp2_with fail
  refine (write_any 1 1 tX _ b _ w10 H10.out.p (b_put s6).1 (b_put s6).2.2.1 (b_put s6).2.2.2).mono ?_
  rintro e w11 ⟨rfl, hl⟩
  obtain ⟨S11, hn11, kp, _⟩ := H10.out.step hl
  have H11 : Hid (NP w.heap.size S11 w b q7 w11) := Lib.hid hn11
  have cA11 := Lib.hid (kp.cell cA10.out.1 cA10.out.2)
  have cB11 := Lib.hid (kp.cell cB10.out.1 cB10.out.2)
  clear hl hn11 kp cA10 cB10 H10
  go_wp2_with fail
  refine (write_any 1 1 tY _ b _ w11 H11.out.p (b_put s7).1 (b_put s7).2.2.1 (b_put s7).2.2.2).mono ?_
  rintro e w12 ⟨rfl, hl⟩
  obtain ⟨S12, hn12, kp, _⟩ := H11.out.step hl
  have H12 : Hid (NP w.heap.size S12 w b q8 w12) := Lib.hid hn12
  have cA12 := Lib.hid (kp.cell cA11.out.1 cA11.out.2)
  have cB12 := Lib.hid (kp.cell cB11.out.1 cB11.out.2)
  clear hl hn12 kp cA11 cB11 H11
  go_wp2_with fail
  refine (ready8 _ b w12 H12.out.p).mono ?_
  rintro e w13 ⟨⟨gl, capl, rfl, hgl, cl⟩, hb13⟩
  have H13 := Lib.hid (H12.out.mv hb13)
  have cA13 := Lib.hid ((hb13.cell (p := ⟨A, 5, none⟩) (w12.block_lt_of_cell? _ cA12.out.1)).trans cA12.out.1)
  have cB13 := Lib.hid ((hb13.cell (p := ⟨B, 5, none⟩) (w12.block_lt_of_cell? _ cB12.out.1)).trans cB12.out.1)
  have cL13 := Lib.hid cl
  have nl := Lib.hid (H12.out.far hgl)
  clear hgl cl hb13 H12
  go_wp2_with fail
  refine (close9 _ b w13 H13.out.p).mono ?_
  rintro e w14 ⟨rfl, hl⟩
  obtain ⟨S14, hn14, kp, _⟩ := H13.out.step hl
  have H14 : Hid (NP w.heap.size S14 w b q9 w14) := Lib.hid hn14
  have cA14 := Lib.hid (kp.cell cA13.out cA12.out.2)
  have cB14 := Lib.hid (kp.cell cB13.out cB12.out.2)
  have cL14 := Lib.hid (kp.cell cL13.out nl.out)
  clear hl hn14 kp H13 cA13 cB13 cL13 nl cA12 cB12
  go_wp2_with fail
  refine (ready9 _ b w14 H14.out.p).mono ?_
  rintro e w15 ⟨⟨gm, capm, rfl, m3, m9, m7⟩, hb15⟩
  have cA15 := (hb15.cell (p := ⟨A, 5, none⟩) (w14.block_lt_of_cell? _ cA14.out.1)).trans cA14.out.1
  have cB15 := (hb15.cell (p := ⟨B, 5, none⟩) (w14.block_lt_of_cell? _ cB14.out.1)).trans cB14.out.1
  have cL15 := (hb15.cell (p := ⟨gl, 1, none⟩) (w14.block_lt_of_cell? _ cL14.out.1)).trans cL14.out.1
  have HB15 := Lib.hid (H14.out.mv hb15).bel
  clear hb15 H14 cA14 cB14 cL14
  go_wp2
  go_ret
  exact ⟨rfl, HB15.out⟩
end Go.Proofs.Ytocmgdhhlofajaa

/-
  The chapter's examples come out true; no older memory is changed.
-/
import Derived.Test.YtpihlamhpmmeeaaAwMath
namespace Go.Proofs.Ytpihlamhpmmeeaa
open Go.RowKit
/-- Two disks. -/
structure P2 (n : Nat) (Sd Sc : Nat → Prop) (w0 : World) (b c : Nat) (d e : Dk) (w : World) : Prop where
  d : NA n Sd w0 b d w
  c : NA n Sc w0 c e w
  dj : ∀ k, Sd k → ¬ Sc k
section
variable {n b c : Nat} {Sd Sc : Nat → Prop} {d e d1 : Dk} {w0 w w' : World}
theorem P2.left (h : P2 n Sd Sc w0 b c d e w) (l : Lft Sd b d1 w w') : ∃ S1, P2 n S1 Sc w0 b c d1 e w' := by
  obtain ⟨S1, h1, _, h2⟩ := h.d.step l
  exact ⟨S1, h1, h.c.tr l.2 (fun k hk hd => h.dj k hd hk) (fun k hk => (h.d.hS k hk).1), fun k hk hc => (h2 k hk).elim (fun hd => h.dj k hd hc) fun e => by have := (h.c.hS k hc).2; omega⟩
theorem P2.right (h : P2 n Sd Sc w0 b c d e w) (l : Lft Sc c d1 w w') : ∃ S1, P2 n Sd S1 w0 b c d d1 w' := by
  obtain ⟨S1, h1, _, h2⟩ := h.c.step l
  exact ⟨S1, h.d.tr l.2 (fun k hk hd => h.dj k hk hd) (fun k hk => (h.c.hS k hk).1), h1, fun k hk hc => (h2 k hc).elim (fun hd => h.dj k hk hd) fun e => by have := (h.d.hS k hk).2; omega⟩
theorem P2.mv (h : P2 n Sd Sc w0 b c d e w) (hb : Below w.heap.size w w') : P2 n Sd Sc w0 b c d e w' := ⟨h.d.mv hb, h.c.mv hb, h.dj⟩
end
theorem rdI_new (w : World) (ps : List Int) (hn : ∀ p ∈ ps, I64 p) (hl : ps.length ≤ 100) (h0 : 0 < ps.length) : RdI (fun g => g = w.heap.size) (w.alloc (.cells (ps.map (Value.int .i64)).toArray 3)) (.slice (some ⟨w.heap.size, 0, none⟩) ps.length ps.length) ps := by
  refine ⟨hn, by omega, _, ps.length, rfl, Nat.le_refl _, by unfold maxLen; omega, .inr ⟨_, 0, rfl, rfl, fun i p hp => ?_⟩⟩
  rw [cell_of_row _ _ _ _ 3 (0, 0) (heap_alloc_new w _), Nat.zero_add]
  simp [hp]
theorem gA : Gn nA := by unfold Gn; decide +kernel
theorem len_small (l : List UInt8) (h : l.length ≤ 400) : l.length ≤ 1000000000 := by omega
set_option maxRecDepth 100000 in
set_option maxHeartbeats 16000000 in
theorem awake_any (w : World) : Calls Try.prog 8 #[] w fun e w' => e = .returned (.bool true) ∧ Below w.heap.size w w' := by
  go_enter Try.func8, Try.ntmps8
  go_wp2_with fail
  refine (new_any 9 (by decide) w).mono ?_
  rintro e w1 ⟨rfl, hp1, hb1⟩
  obtain ⟨S1, hn1, _⟩ := NA.new hp1 hb1 (Below.refl w.heap.size w) (Nat.le_refl _)
  obtain ⟨b, hb⟩ : ∃ b, b = w.heap.size := ⟨_, rfl⟩
  have H1 : Hid (NA w.heap.size S1 w b q0 w1) := Lib.hid (by rw [hb]; exact hn1)
  rw [← hb]
  clear hp1 hb1 hn1 hb
  have A1 := append_any H1.out.p nA gA ⟨#[120, 121, 122]⟩ (by decide +kernel) (by decide +kernel) (by decide +kernel) (by decide +kernel) (by decide +kernel) (by decide +kernel)
  have A1 := Lib.hid A1
  go_wp2_with fail
  refine A1.out.mono ?_
  rintro e w2 ⟨rfl, hl⟩
  obtain ⟨S2, hn2, _⟩ := H1.out.step hl
  have H2 : Hid (NA w.heap.size S2 w b q1 w2) := Lib.hid hn2
  clear hl hn2 A1
  have A2 := Lib.hid (sync_any H2.out.p nA gA (by decide +kernel) (by decide +kernel))
  go_wp2_with fail
  refine A2.out.mono ?_
  rintro e w3 ⟨rfl, hl⟩
  obtain ⟨S3, hn3, _⟩ := H2.out.step hl
  have H3 : Hid (NA w.heap.size S3 w b q2 w3) := Lib.hid hn3
  clear hl hn3 A2
  have A3 := Lib.hid (append_any H3.out.p nA gA ⟨#[117, 118, 119]⟩ (by decide +kernel) (by decide +kernel) (by decide +kernel) (by decide +kernel) (by decide +kernel) (by decide +kernel))
  go_wp2_with fail
  refine A3.out.mono ?_
  rintro e w4 ⟨rfl, hl⟩
  obtain ⟨S4, hn4, _⟩ := H3.out.step hl
  have H4 : Hid (NA w.heap.size S4 w b q3 w4) := Lib.hid hn4
  clear hl hn4 A3
  have A4 := Lib.hid (copy_any H4.out.p (by rw [f3]; decide +kernel) (by rw [f3]; decide +kernel))
  go_wp2_with fail
  refine A4.out.mono ?_
  rintro e w5 ⟨rfl, hpc, hbc⟩
  obtain ⟨Sc, hnc, hSc⟩ := NA.new hpc hbc H4.out.bel H4.out.hn
  have hp2 : P2 w.heap.size S4 Sc w b w4.heap.size q3 q3 w5 := ⟨H4.out.mv hbc, hnc, fun k hk hc => by have := (H4.out.hS k hk).2; have := hSc k hc; omega⟩
  obtain ⟨c, hc⟩ : ∃ c, c = w4.heap.size := ⟨_, rfl⟩
  rw [← hc] at hp2 ⊢
  have H5 := Lib.hid hp2
  clear hpc hbc hnc hSc hp2 hc A4 H4
  have H6 := Lib.hid (H5.out.mv (w' := w5.alloc (.cells #[.int .i64 2] 3)) ((Below.refl _ _).alloc (Nat.le_refl _) _))
  have A6 := Lib.hid (crash_one H6.out.d (rdI_new w5 [2] (by intro p hp; simp at hp; subst hp; unfold I64; omega) (by decide) (by decide)) (fun g e => by rw [e]; exact H5.out.d.far (Nat.le_refl _)) f3 (by decide +kernel))
  go_wp2_with fail
  refine A6.out.mono ?_
  rintro e w6 ⟨⟨u6, rfl⟩, hl⟩
  obtain ⟨S6, hn6⟩ := H6.out.left hl
  have H7 : Hid (P2 w.heap.size S6 Sc w b c q4 q3 w6) := Lib.hid hn6
  clear hl hn6 A6 H6 H5
  have A7 := Lib.hid (read_any H7.out.d.p nA gA)
  rw [e4, s4] at A7
  go_wp2_with fail
  refine A7.out.mono ?_
  rintro e w7 ⟨rfl, hb⟩
  have H8 := Lib.hid (H7.out.mv hb)
  clear hb A7 H7
  have A8 := Lib.hid (append_any H8.out.d.p nA gA ⟨#[49, 50, 51, 52, 53, 54, 55]⟩ (by decide +kernel) (by decide +kernel) (by decide +kernel) (by decide +kernel) (by decide +kernel) (by decide +kernel))
  rw [show appE q4 (⟨#[49, 50, 51, 52, 53, 54, 55]⟩ : ByteArray).data.toList = 15 from e5] at A8
  go_wp2_with fail
  refine A8.out.mono ?_
  rintro e w8 ⟨rfl, hl⟩
  obtain ⟨S8, hn8⟩ := H8.out.left hl
  have H9 := Lib.hid hn8.c
  clear hl hn8 A8 H8
  have H10 := Lib.hid (H9.out.mv (w' := w8.alloc (.cells #[.int .i64 2, .int .i64 1] 3)) ((Below.refl _ _).alloc (Nat.le_refl _) _))
  have A10 := Lib.hid (crash_one H10.out (rdI_new w8 [2, 1] (by intro p hp; simp at hp; rcases hp with rfl | rfl <;> (unfold I64; omega)) (by decide) (by decide)) (fun g e => by rw [e]; exact H9.out.far (Nat.le_refl _)) f3 (by decide +kernel))
  go_wp2_with fail
  refine A10.out.mono ?_
  rintro e w10 ⟨⟨u10, rfl⟩, hl⟩
  obtain ⟨S10, hn10, _⟩ := H10.out.step hl
  have H11 : Hid (NA w.heap.size S10 w c q6 w10) := Lib.hid hn10
  clear hl hn10 A10 H10 H9
  have A11 := Lib.hid (read_any H11.out.p nA gA)
  rw [e6, s6] at A11
  go_wp2_with fail
  refine A11.out.mono ?_
  rintro e w11 ⟨rfl, hb⟩
  have H12 := Lib.hid (H11.out.mv hb)
  clear hb A11 H11
  have A12 := Lib.hid (arm_any 1 (by decide) H12.out.p)
  go_wp2_with fail
  refine A12.out.mono ?_
  rintro e w12 ⟨⟨u12, rfl⟩, hp, ht⟩
  obtain ⟨S12, hn12, _⟩ := H12.out.one hp ht
  have H13 : Hid (NA w.heap.size S12 w c q7 w12) := Lib.hid hn12
  clear hp ht hn12 A12 H12
  have A13 := Lib.hid (append_any H13.out.p nA gA ⟨#[120]⟩ (by decide +kernel) (by decide +kernel) (by decide +kernel) (by decide +kernel) (by decide +kernel) (by decide +kernel))
  rw [show appE q7 (⟨#[120]⟩ : ByteArray).data.toList = 0 from e7] at A13
  go_wp2_with fail
  refine A13.out.mono ?_
  rintro e w13 ⟨rfl, hl⟩
  obtain ⟨S13, hn13, _⟩ := H13.out.step hl
  have H14 : Hid (NA w.heap.size S13 w c q8 w13) := Lib.hid hn13
  clear hl hn13 A13 H13
  have A14 := Lib.hid (append_any H14.out.p nA gA ⟨#[120]⟩ (by decide +kernel) (by decide +kernel) (by decide +kernel) (by decide +kernel) (by decide +kernel) (by decide +kernel))
  rw [show appE q8 (⟨#[120]⟩ : ByteArray).data.toList = 14 from e8] at A14
  go_wp2_with fail
  refine A14.out.mono ?_
  rintro e w14 ⟨rfl, hl⟩
  obtain ⟨S14, hn14, _⟩ := H14.out.step hl
  have H15 : Hid (NA w.heap.size S14 w c (appD q8 nA [120]) w14) := Lib.hid hn14
  clear hl hn14 A14 H14
  have hcv : (convert 48 9 (.slice (some ⟨w14.heap.size, 0, none⟩) 1 1)).run Try.prog (w14.alloc (.cells #[.int .u8 137] 5)) = .ok (.string ⟨#[137]⟩) (w14.alloc (.cells #[.int .u8 137] 5)) :=
    run_convert_bytes_back (P := Try.prog) (w14.alloc (.cells #[.int .u8 137] 5)) 48 9 5 ⟨w14.heap.size, 0, none⟩ 1 [137] Try.underlying48 Try.underlying5 Try.underlying9 (fun j hj => by
      obtain rfl : j = 0 := by simpa using hj
      rw [Addr.add_lit, cell_of_row _ _ _ #[.int .u8 137] 5 (0, 0) (heap_alloc_new w14 _)]
      rfl)
  have hst : ((⟨#[120, 121, 122, 117]⟩ : ByteArray) ++ ⟨#[137]⟩) = ⟨#[120, 121, 122, 117, 137]⟩ := by decide +kernel
  have H16 := Lib.hid (H15.out.mv (w' := w14.alloc (.cells #[.int .u8 137] 5)) ((Below.refl _ _).alloc (Nat.le_refl _) _))
  have A16 := Lib.hid (on_any H16.out.p)
  rw [o9] at A16
  go_wp2_with fail
  refine A16.out.mono ?_
  rintro e w17 ⟨rfl, rfl⟩
  go_wp2
  go_ret
  exact ⟨rfl, H16.out.bel⟩
end Go.Proofs.Ytpihlamhpmmeeaa

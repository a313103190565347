/-
  The walk of the law NetStreams: for every list of calls it returns true; no older memory is changed.
-/
import Derived.Test.YtocmgdhhlofajaaSMem
namespace Go.Proofs.Ytocmgdhhlofajaa
open Go.RowKit
theorem zero45 : arrV (vS fun _ => ByteArray.empty) = #[.string ⟨#[]⟩, .string ⟨#[]⟩, .string ⟨#[]⟩, .string ⟨#[]⟩, .string ⟨#[]⟩, .string ⟨#[]⟩, .string ⟨#[]⟩, .string ⟨#[]⟩, .string ⟨#[]⟩, .string ⟨#[]⟩] := by rfl
theorem zero47 : arrV (vB fun _ => false) = #[.bool false, .bool false, .bool false, .bool false, .bool false, .bool false, .bool false, .bool false, .bool false, .bool false] := by rfl
theorem zero49 : arrV (vI fun _ => 0) = #[.int .i64 0, .int .i64 0, .int .i64 0, .int .i64 0, .int .i64 0, .int .i64 0, .int .i64 0, .int .i64 0, .int .i64 0, .int .i64 0] := by rfl
theorem eq48t (a b c d : Int) (w : World) : (Op.equalIn 10000 48 (.agg #[.int .i64 a, .int .i64 b]) (.agg #[.int .i64 c, .int .i64 d])).run Try.prog w = .ok (a == c && b == d) w := by
  obtain ⟨i0, hi, hz0, hz1, hz2⟩ := info_parts info3
  have e : ∀ (a b : Int) (w : World), (Op.equalIn 9999 3 (.int .i64 a) (.int .i64 b)).run Try.prog w = .ok (a == b) w := fun a b w => run_equalIn_int w 9998 3 .i64 .i64 a b Try.underlying3
  show (Op.equalIn (9999 + 1) 48 _ _).run _ _ = _
  unfold Op.equalIn
  have hr : List.range' 0 2 = [0, 1] := rfl
  cases h1 : (a == c) <;> cases h2 : (b == d) <;> simp [run_underlying Try.underlying48, run_underlying Try.underlying3, sizeOf, typeInfo, hi, hz1, part, e, hr, isAgg, h1, h2]
theorem close_puts (s : St) (c : Int) : (closeS s c).puts ≤ s.puts + 2 := by
  unfold closeS
  split
  · omega
  · show s.puts + 1 + 1 ≤ _; omega
theorem dbl_puts (s : St) (p : Int) : (dblS s p).puts ≤ s.puts + 1 := by
  unfold dblS
  split
  · omega
  · split
    · omega
    · show s.puts + 1 ≤ _; omega
abbrev z45 : Array Value := #[.string ⟨#[]⟩, .string ⟨#[]⟩, .string ⟨#[]⟩, .string ⟨#[]⟩, .string ⟨#[]⟩, .string ⟨#[]⟩, .string ⟨#[]⟩, .string ⟨#[]⟩, .string ⟨#[]⟩, .string ⟨#[]⟩]
abbrev z47 : Array Value := #[.bool false, .bool false, .bool false, .bool false, .bool false, .bool false, .bool false, .bool false, .bool false, .bool false]
abbrev z49 : Array Value := #[.int .i64 0, .int .i64 0, .int .i64 0, .int .i64 0, .int .i64 0, .int .i64 0, .int .i64 0, .int .i64 0, .int .i64 0, .int .i64 0]
theorem sj_start {n b : Nat} {S : Nat → Prop} {w w1 : World} (h : NP n S w b St.empty w1) :
    SJ ⟨n, b, w1.heap.size, w1.heap.size + 1, w1.heap.size + 1 + 1, w1.heap.size + 1 + 1 + 1⟩ w (fun _ => ByteArray.empty) (fun _ => ByteArray.empty) (fun _ => false) (fun _ => 0) S St.empty
      ((((w1.alloc (.cells z45 45)).alloc (.cells z45 45)).alloc (.cells z47 47)).alloc (.cells z49 49)) := by
  rw [show z45 = arrV (vS fun _ => ByteArray.empty) from zero45.symm, show z47 = arrV (vB fun _ => false) from zero47.symm, show z49 = arrV (vI fun _ => 0) from zero49.symm]
  have sz : ∀ (w : World) o, (w.alloc o).heap.size = w.heap.size + 1 := fun w o => by simp
  have hn := h.hn
  have far : ∀ j, ¬ S (w1.heap.size + j) := fun j => h.far (by omega)
  refine ⟨?_, ?_, ?_, ?_, ?_, far 0, far 1, far 2, far 3, hn, Nat.lt_succ_self w1.heap.size, Nat.lt_succ_self (w1.heap.size + 1), Nat.lt_succ_self (w1.heap.size + 1 + 1)⟩
  · refine h.mv ?_
    exact ((((Below.refl _ w1).alloc (Nat.le_refl _) _).alloc (by rw [sz]; omega) _).alloc (by rw [sz, sz]; omega) _).alloc (by rw [sz, sz, sz]; omega) _
  · exact (((ce_new w1 _ 45).alloc _).alloc _).alloc _
  · have := ((ce_new (w1.alloc (.cells (arrV (vS fun _ => ByteArray.empty)) 45)) (arrV (vS fun _ => ByteArray.empty)) 45).alloc (.cells (arrV (vB fun _ => false)) 47)).alloc (.cells (arrV (vI fun _ => 0)) 49)
    rw [sz] at this
    exact this
  · have := ((ce_new ((w1.alloc (.cells (arrV (vS fun _ => ByteArray.empty)) 45)).alloc (.cells (arrV (vS fun _ => ByteArray.empty)) 45)) (arrV (vB fun _ => false)) 47)).alloc (.cells (arrV (vI fun _ => 0)) 49)
    rw [sz, sz] at this
    exact this
  · have := ce_new (((w1.alloc (.cells (arrV (vS fun _ => ByteArray.empty)) 45)).alloc (.cells (arrV (vS fun _ => ByteArray.empty)) 45)).alloc (.cells (arrV (vB fun _ => false)) 47)) (arrV (vI fun _ => 0)) 49
    rw [sz, sz, sz] at this
    exact this
theorem left_of (a b : ByteArray) : (a ++ b).extract 0 a.size = a := ByteArray.extract_append_eq_left rfl
/-- No string that came in is longer. -/
def most : Nat := 140737488355328
/-- How long what was written may be. -/
structure Sz (k : Nat) (W : Nat → ByteArray) : Prop where
  le : ∀ i, (W i).size ≤ k * most
theorem sz_zero : Sz 0 (fun _ => ByteArray.empty) := ⟨fun _ => Nat.zero_le _⟩
theorem Sz.next {k : Nat} {W : Nat → ByteArray} (h : Sz k W) : Sz (k + 1) W := ⟨fun i => Nat.le_trans (h.le i) (Nat.mul_le_mul_right _ (Nat.le_succ k))⟩
theorem Sz.put {k : Nat} {W : Nat → ByteArray} (h : Sz k W) {x : ByteArray} (hx : x.size ≤ most) (q : Nat) : Sz (k + 1) (put W q (W q ++ x)) := ⟨fun i => by
  by_cases e : i = q
  · subst e
    rw [put_same, ByteArray.size_append, Nat.succ_mul]
    exact Nat.add_le_add (h.le _) hx
  · rw [put_ne _ _ e]
    exact h.next.le i⟩
theorem most_61 : 61 * most ≤ 9223372036854775807 := by decide
theorem Sz.sum {k : Nat} {W : Nat → ByteArray} (h : Sz k W) (hk : k ≤ 60) {x : ByteArray} (hx : x.size ≤ most) (q : Nat) : (W q).size + x.size ≤ 9223372036854775807 := by
  have h1 := Nat.add_le_add (h.le q) hx
  rw [← Nat.succ_mul] at h1
  exact Nat.le_trans h1 (Nat.le_trans (Nat.mul_le_mul_right _ (by omega)) most_61)
theorem Sz.one {k : Nat} {W : Nat → ByteArray} (h : Sz k W) (hk : k ≤ 60) (q : Nat) : (W q).size ≤ 9223372036854775807 :=
  Nat.le_trans (Nat.le_trans (h.le q) (Nat.mul_le_mul_right _ (by omega))) most_61
set_option maxRecDepth 100000 in
set_option maxHeartbeats 32000000 in
theorem lawStreams_all (a : Option Addr) (n cap : Nat) (os : Nat → OpC) (w : World) (hok : ∀ k, (os k).ok) (hc : ∀ k, k < n → ∃ b0 off, a = some ⟨b0, off, none⟩ ∧ b0 < w.heap.size ∧ OpAt w b0 (off + k * 5) (os k)) (ht : ∀ k, k < n → (os k).text.size ≤ most) :
    Calls Try.prog 5 #[.slice a n cap] w fun e w' => e = .returned (.bool true) ∧ Below w.heap.size w w' := by
  have HC := Lib.hid hc
  have HOK := Lib.hid hok
  have HT := Lib.hid ht
  clear hc hok ht
  go_enter Try.func5, Try.ntmps5
  go_wp2_with fail
  refine (awake_any w).mono ?_
  rintro e w0 ⟨rfl, hb0⟩
  go_wp2_with fail
  refine (new_any w0).mono ?_
  rintro e w1 ⟨rfl, hp1, hb1⟩
  obtain ⟨S1, hn1, _⟩ := NA.new hp1 hb1 hb0 hb0.size
  obtain ⟨b, hb'⟩ : ∃ b, b = w0.heap.size := ⟨_, rfl⟩
  have H1 : Hid (NP w.heap.size S1 w b St.empty w1) := Lib.hid (by rw [hb']; exact hn1)
  rw [← hb']
  clear hp1 hb1 hn1 hb' hb0
  go_upto_region 9 with fail
  have hj := sj_start H1.out
  obtain ⟨wz, hwz⟩ : ∃ wz, wz = (((w1.alloc (.cells z45 45)).alloc (.cells z45 45)).alloc (.cells z47 47)).alloc (.cells z49 49) := ⟨_, rfl⟩
  rw [← hwz] at hj
  rw [show (((w1.alloc (.cells #[.string ⟨#[]⟩, .string ⟨#[]⟩, .string ⟨#[]⟩, .string ⟨#[]⟩, .string ⟨#[]⟩, .string ⟨#[]⟩, .string ⟨#[]⟩, .string ⟨#[]⟩, .string ⟨#[]⟩, .string ⟨#[]⟩] 45)).alloc (.cells #[.string ⟨#[]⟩, .string ⟨#[]⟩, .string ⟨#[]⟩, .string ⟨#[]⟩, .string ⟨#[]⟩, .string ⟨#[]⟩, .string ⟨#[]⟩, .string ⟨#[]⟩, .string ⟨#[]⟩, .string ⟨#[]⟩] 45)).alloc (.cells #[.bool false, .bool false, .bool false, .bool false, .bool false, .bool false, .bool false, .bool false, .bool false, .bool false] 47)).alloc (.cells #[.int .i64 0, .int .i64 0, .int .i64 0, .int .i64 0, .int .i64 0, .int .i64 0, .int .i64 0, .int .i64 0, .int .i64 0, .int .i64 0] 49) = wz from hwz.symm]
  obtain ⟨gE, hgE⟩ : ∃ g, g = w1.heap.size + 1 + 1 + 1 := ⟨_, rfl⟩
  rw [← hgE] at hj ⊢
  obtain ⟨gO, hgO⟩ : ∃ g, g = w1.heap.size + 1 + 1 := ⟨_, rfl⟩
  rw [← hgO] at hj ⊢
  obtain ⟨gM, hgM⟩ : ∃ g, g = w1.heap.size + 1 := ⟨_, rfl⟩
  rw [← hgM] at hj ⊢
  obtain ⟨gW, hgW⟩ : ∃ g, g = w1.heap.size := ⟨_, rfl⟩
  rw [← hgW] at hj ⊢
  have HJ0 := Lib.hid hj
  clear hj hwz hgE hgO hgM hgW H1
  go_wp2
  go_loopw [9] (fun i wr => ∃ (k : Nat) (S : Nat → Prop) (s : St) (W M : Nat → ByteArray) (O : Nat → Bool) (E : Nat → Int), k ≤ n ∧ k ≤ 60 ∧ i = .int .i64 (k : Int) ∧ s.puts ≤ 2 * k ∧ Sz k W ∧ SI s W M O E ∧ SJ ⟨w.heap.size, b, gW, gM, gO, gE⟩ w W M O E S s wr) (fun i _ => n - (intOf i).toNat)
  case atStart => exact ⟨0, S1, _, _, _, _, _, by omega, by omega, rfl, Nat.zero_le _, sz_zero, si_zero, HJ0.out⟩
  case round =>
    clear HJ0
    obtain ⟨k, S, s, W, M, O, E, hk, hk2, rfl, hpu, hsz, hsi, hj⟩ := hrel
    have HZ := Lib.hid hsz
    have HI := Lib.hid hsi
    have HJ := Lib.hid hj
    have hbel := hj.p.bel
    have hiB : s.its.length ≤ 200 := by have := hsi.g.lenI; omega
    have hlB : s.lks.length ≤ 4 := by have := hsi.g.lenL; have := hsi.o4; omega
    have hoB := hsi.o4
    have HPU := Lib.hid hpu
    clear hsi hj hpu hsz
    by_cases hlt : k < n ∧ k < 60
    · obtain ⟨hlt, hlt2⟩ := hlt
      have q1 : (k : Int) < (n : Int) := by omega
      have q2 : (k : Int) < 60 := by omega
      obtain ⟨b0, off, rfl, hb, c0, c1, c2, c3, c4⟩ := HC.out k hlt
      have c0 := (hbel.cell (p := ⟨b0, off + k * 5, none⟩) hb).trans c0
      have c1 := (hbel.cell (p := ⟨b0, off + k * 5 + 1, none⟩) hb).trans c1
      have c2 := (hbel.cell (p := ⟨b0, off + k * 5 + 2, none⟩) hb).trans c2
      have c3 := (hbel.cell (p := ⟨b0, off + k * 5 + 3, none⟩) hb).trans c3
      have c4 := (hbel.cell (p := ⟨b0, off + k * 5 + 4, none⟩) hb).trans c4
      obtain ⟨a0, a1, a2, a3⟩ := HOK.out k
      generalize (os k).kind = x0 at c0 a0
      generalize (os k).a = x1 at c1 a1
      generalize (os k).b = x2 at c2 a2
      generalize (os k).n = x3 at c3 a3
      have HX4 := Lib.hid (HT.out k hlt)
      generalize (os k).text = x4 at c4 HX4
      have A0 := Lib.hid a0
      have A1 := Lib.hid a1
      have A2 := Lib.hid a2
      have A3 := Lib.hid a3
      clear a0 a1 a2 a3 hbel
      go_upto_region 13 with fail
      obtain ⟨wA, hwA⟩ : ∃ wA, wA = wr.alloc (.cells #[.int .i64 x0, .int .i64 x1, .int .i64 x2, .int .i64 x3, .string x4] 32) := ⟨_, rfl⟩
      rw [← hwA]
      have hbA : Below wr.heap.size wr wA := by rw [hwA]; exact (Below.refl _ _).alloc (Nat.le_refl _) _
      have hce : Ce wA wr.heap.size 32 #[.int .i64 x0, .int .i64 x1, .int .i64 x2, .int .i64 x3, .string x4] := by rw [hwA]; exact ce_new _ _ _
      have hfar := HJ.out.p.far (Nat.le_refl _)
      have HJA := Lib.hid (HJ.out.mv hbA)
      obtain ⟨B, hB⟩ : ∃ B, B = wr.heap.size := ⟨_, rfl⟩
      have hEB : gE < B := by rw [hB]; exact HJ.out.cE.lt
      rw [← hB] at hce hfar ⊢
      have HX : Hid (Bx ⟨w.heap.size, b, gW, gM, gO, gE⟩ S B #[.int .i64 x0, .int .i64 x1, .int .i64 x2, .int .i64 x3, .string x4] 32 wA) := Lib.hid ⟨hce, hfar, hEB⟩
      have d0 : wA.cell? ⟨B, 0, none⟩ = some (.int .i64 x0) := by rw [hce.cell]; rfl
      have d1 : wA.cell? ⟨B, 1, none⟩ = some (.int .i64 x1) := by rw [hce.cell]; rfl
      have d2 : wA.cell? ⟨B, 2, none⟩ = some (.int .i64 x2) := by rw [hce.cell]; rfl
      have d3 : wA.cell? ⟨B, 3, none⟩ = some (.int .i64 x3) := by rw [hce.cell]; rfl
      have d4 : wA.cell? ⟨B, 4, none⟩ = some (.string x4) := by rw [hce.cell]; rfl
      clear hwA hbA hce hfar hB HJ c0 c1 c2 c3 c4 hEB
      obtain ⟨y3, hy3⟩ : ∃ y3, y3 = pk x3 4 := ⟨_, rfl⟩
      have hb3 : y3 < 4 := by have := pk_lt (p := x3) (show 0 < 4 by omega); omega
      have P3 := num_pick x3 A3.out 4 (by omega) (by omega) wA
      rw [← hy3] at P3
      have HP3 := Lib.hid P3
      obtain ⟨e, he⟩ : ∃ e, e = pk x1 2 := ⟨_, rfl⟩
      have heb : e < 2 := by have := pk_lt (p := x1) (show 0 < 2 by omega); omega
      have P1 := num_pick x1 A1.out 2 (by omega) (by omega) wA
      rw [← he] at P1
      have HP1 := Lib.hid P1
      obtain ⟨r, hr⟩ : ∃ r, r = pk x0 8 := ⟨_, rfl⟩
      have hrb : r < 8 := by have := pk_lt (p := x0) (show 0 < 8 by omega); omega
      have P0 := num_pick x0 A0.out 8 (by omega) (by omega) wA
      rw [← hr] at P0
      have HP0 := Lib.hid P0
      obtain ⟨c, hcc⟩ : ∃ c, c = y3 + 1 := ⟨_, rfl⟩
      have hz1 : 1 + (y3 : Int) = (c : Int) := by omega
      have hz2 : (y3 : Int) + 1 = (c : Int) := by omega
      have hc1 : 1 ≤ c := by omega
      have hc4 : c ≤ 4 := by omega
      clear P3 P1 P0 hy3 he hr hcc
      go_wp2_with fail
      refine HP3.out.mono ?_
      rintro e9 w9 ⟨rfl, rfl⟩
      go_wp2_with fail
      refine HP1.out.mono ?_
      rintro e9 w9 ⟨rfl, rfl⟩
      go_wp2_with fail
      refine HP0.out.mono ?_
      rintro e9 w9 ⟨rfl, rfl⟩
      clear HP0 HP1 HP3 hz1 hz2 A0 A3
      rcases (by omega : r = 0 ∨ (1 ≤ r ∧ r ≤ 3) ∨ r = 4 ∨ r = 5 ∨ (6 ≤ r ∧ r ≤ 7)) with rfl | ⟨r1, r2⟩ | rfl | rfl | ⟨r1, r2⟩
      · as_aux_lemma =>
        obtain ⟨y1, hy1⟩ : ∃ y1, y1 = pk x1 4 := ⟨_, rfl⟩
        have hb1 : y1 < 4 := by have := pk_lt (p := x1) (show 0 < 4 by omega); omega
        have P1 := num_pick x1 A1.out 4 (by omega) (by omega) wA
        rw [← hy1] at P1
        have HP1 := Lib.hid P1
        clear P1 hy1
        obtain ⟨y2, hy2⟩ : ∃ y2, y2 = pk x2 4 := ⟨_, rfl⟩
        have hb2 : y2 < 4 := by have := pk_lt (p := x2) (show 0 < 4 by omega); omega
        have P2 := num_pick x2 A2.out 4 (by omega) (by omega) wA
        rw [← hy2] at P2
        have HP2 := Lib.hid P2
        clear P2 hy2
        obtain ⟨t8, ht8⟩ : ∃ t, t = E 8 := ⟨_, rfl⟩
        obtain ⟨t9, ht9⟩ : ∃ t, t = E 9 := ⟨_, rfl⟩
        have e8 : wA.cell? ⟨gE, 8, none⟩ = some (.int .i64 t8) := by rw [ht8]; exact HJA.out.atE (i := 8) (by omega)
        have e9 : wA.cell? ⟨gE, 9, none⟩ = some (.int .i64 t9) := by rw [ht9]; exact HJA.out.atE (i := 9) (by omega)
        clear d0 d3 d4
        rcases (by omega : s.opens = 4 ∨ s.opens ≤ 3) with h4 | h3
        · have hne : (t8 == 0 && t9 == 0) = false := by
            have hn := HI.out.neq 4 (by omega) (by omega)
            rw [ht8, ht9]
            cases h8 : (E 8 == 0)
            · rfl
            · cases h9 : (E 9 == 0)
              · rfl
              · exact absurd ((eq_of_beq h8).trans (eq_of_beq h9).symm) hn
          have heq : ∀ w, (Op.equalIn 10000 48 (.agg #[.int .i64 t8, .int .i64 t9]) (.agg #[.int .i64 0, .int .i64 0])).run Try.prog w = .ok false w := fun w => by rw [eq48t, hne]
          clear hne ht8 ht9
          go_wp2_with fail
          refine HP1.out.mono ?_
          rintro e5 w5 ⟨rfl, rfl⟩
          go_wp2_with fail
          refine HP2.out.mono ?_
          rintro e5 w5 ⟨rfl, rfl⟩
          go_wp2
          go_roundw
          case rel => exact ⟨k + 1, S, s, W, M, O, E, by omega, by omega, by go_num, by have := HPU.out; omega, HZ.out.next, HI.out, HJA.out⟩
          case measure => simp [intOf]; omega
        · obtain ⟨_, _, _, n8⟩ := HI.out.new 4 (by omega) 0 (by omega)
          obtain ⟨_, _, _, n9⟩ := HI.out.new 4 (by omega) 1 (by omega)
          have n8 : E 8 = 0 := n8
          have n9 : E 9 = 0 := n9
          rw [n8] at ht8
          rw [n9] at ht9
          subst ht8 ht9
          have heq : ∀ w, (Op.equalIn 10000 48 (.agg #[.int .i64 0, .int .i64 0]) (.agg #[.int .i64 0, .int .i64 0])).run Try.prog w = .ok true w := fun w => by rw [eq48t]; rfl
          clear n8 n9
          cases ho : noOpen s (y1 : Int) (y2 : Int) with
          | true =>
            have HOP := Lib.hid (open_no (y1 : Int) (y2 : Int) S b s wA HJA.out.p.p ho)
            clear ho
            go_wp2_with fail
            refine HP1.out.mono ?_
            rintro e5 w5 ⟨rfl, rfl⟩
            go_wp2_with fail
            refine HP2.out.mono ?_
            rintro e5 w5 ⟨rfl, rfl⟩
            go_wp2_with fail
            refine HOP.out.mono ?_
            rintro e5 w5 ⟨rfl, rfl⟩
            go_wp2
            go_roundw
            case rel => exact ⟨k + 1, S, s, W, M, O, E, by omega, by omega, by go_num, by have := HPU.out; omega, HZ.out.next, HI.out, HJA.out⟩
            case measure => simp [intOf]; omega
          | false =>
            have hop := open_yes (y1 : Int) (y2 : Int) S b s wA HJA.out.p.p (by omega) (by have := HPU.out; omega) (by omega) ho
            have hs5 := HI.out.open (y1 : Int) (y2 : Int) (by unfold I64; omega) (by unfold I64; omega) ho h3
            have hp5 := (open_len s (y1 : Int) (y2 : Int)).2.1
            obtain ⟨s5, es5⟩ : ∃ s5, s5 = openS s (y1 : Int) (y2 : Int) := ⟨_, rfl⟩
            obtain ⟨p, ep⟩ : ∃ p, p = s.opens + 1 := ⟨_, rfl⟩
            rw [← es5, ← ep] at hop hs5
            rw [← es5] at hp5
            have hp1 : 1 ≤ p := by omega
            have hp4 : p ≤ 4 := by omega
            have HS5 := Lib.hid hs5
            have HP5 := Lib.hid hp5
            have HOP := Lib.hid hop
            clear ho hop hs5 hp5 es5 ep
            go_wp2_with fail
            refine HP1.out.mono ?_
            rintro e5 w5 ⟨rfl, rfl⟩
            go_wp2_with fail
            refine HP2.out.mono ?_
            rintro e5 w5 ⟨rfl, rfl⟩
            go_wp2_with fail
            refine HOP.out.mono ?_
            rintro e5 w5 ⟨rfl, hl5⟩
            obtain ⟨S5, hj5, kp⟩ := HJA.out.step hl5
            obtain ⟨w6, ew6⟩ : ∃ w6, w6 = w5.setCell ⟨gE, p * 2, none⟩ (.int .i64 (y1 : Int)) := ⟨_, rfl⟩
            have hj6 := hj5.setE (p * 2) (y1 : Int)
            rw [← ew6] at hj6
            have g0 : w5.cell? ⟨gE, p * 2, none⟩ = some (.int .i64 (E (p * 2))) := hj5.atE (by omega)
            have g1 : w5.cell? ⟨gE, p * 2 + 1, none⟩ = some (.int .i64 (E (p * 2 + 1))) := hj5.atE (by omega)
            have f0 : w5.frozen? ⟨gE, p * 2, none⟩ = false := hj5.cE.fz _
            have f1 : w5.frozen? ⟨gE, p * 2 + 1, none⟩ = false := hj5.cE.fz _
            have HJ6 := Lib.hid (hj6.setE (p * 2 + 1) (y2 : Int))
            have HE6 := Lib.hid ew6
            clear hl5 hj5 kp hj6 ew6 e8 e9
            go_wp2
            go_roundw
            case rel => exact ⟨k + 1, S5, s5, W, M, O, _, by omega, by omega, by go_num, by have := HPU.out; have := HP5.out; omega, HZ.out.next, HS5.out, by have := HJ6.out; rw [HE6.out] at this; exact this⟩
            case measure => simp [intOf]; omega
      · as_aux_lemma =>
        have q5 : (((r : Nat) : Int) == 0) = false := by simp; omega
        obtain ⟨v1, hv1⟩ : ∃ v, ((r : Int) == 1) = v := ⟨_, rfl⟩
        obtain ⟨v2, hv2⟩ : ∃ v, ((r : Int) == 2) = v := ⟨_, rfl⟩
        obtain ⟨v3, hv3⟩ : ∃ v, ((r : Int) == 3) = v := ⟨_, rfl⟩
        have hor : v1 = true ∨ (v1 = false ∧ v2 = true) ∨ (v1 = false ∧ v2 = false ∧ v3 = true) := by
          rw [← hv1, ← hv2, ← hv3]
          rcases (by omega : r = 1 ∨ r = 2 ∨ r = 3) with rfl | rfl | rfl
          · exact .inl rfl
          · exact .inr (.inl ⟨rfl, rfl⟩)
          · exact .inr (.inr ⟨rfl, rfl, rfl⟩)
        have HOR := Lib.hid hor
        clear hor
        go_upto_if 186 with fail
        go_cut [186] from 25 to 235 (fun v wx => v = .bool true ∧ wA = wx)
        case first =>
          rcases HOR.out with h1 | ⟨h1, h2⟩ | ⟨h1, h2, h3⟩
          · subst h1
            go_wp2
            go_meet
            case rel => exact ⟨rfl, rfl⟩
          · subst h1 h2
            go_wp2
            go_meet
            case rel => exact ⟨rfl, rfl⟩
          · subst h1 h2 h3
            go_wp2
            go_meet
            case rel => exact ⟨rfl, rfl⟩
        case rest =>
          obtain ⟨rfl, rfl⟩ := hcut
          clear hv1 hv2 hv3 q5 HOR
          obtain ⟨f, hf⟩ : ∃ f, f = 1 - e := ⟨_, rfl⟩
          have hf1 : 1 - (e : Int) = (f : Int) := by omega
          have hf2 : f < 2 := by omega
          have hf5 : (f : Int) < 2 := by omega
          have hc5 : (c : Int) < 5 := by omega
          have he5 : (e : Int) < 2 := by omega
          have hf3 : IntKind.i64.wrap (f : Int) = (f : Int) := Go.IntWalk.i64_in _ (by omega)
          have hf4 : IntKind.i64.wrap (1 - (e : Int)) = (f : Int) := by rw [hf1, hf3]
          have HF := Lib.hid hf
          clear hf
          obtain ⟨t, ht⟩ : ∃ t, t = E (c * 2 + e) := ⟨_, rfl⟩
          obtain ⟨u0, hu0⟩ : ∃ t, t = E (c * 2) := ⟨_, rfl⟩
          obtain ⟨u1, hu1⟩ : ∃ t, t = E (c * 2 + 1) := ⟨_, rfl⟩
          have hbd : Below wA.heap.size wA wA.drew := (Below.refl _ wA).drew
          have HJD := Lib.hid (HJA.out.mv hbd)
          have HXD := Lib.hid (HX.out.mv hbd)
          have d4 : wA.drew.cell? ⟨B, 4, none⟩ = some (.string x4) := d4
          have et : wA.drew.cell? ⟨gE, c * 2 + e, none⟩ = some (.int .i64 t) := by rw [ht]; exact HJD.out.atE (i := c * 2 + e) (by omega)
          have e0 : wA.drew.cell? ⟨gE, c * 2, none⟩ = some (.int .i64 u0) := by rw [hu0]; exact HJD.out.atE (i := c * 2) (by omega)
          have e1 : wA.drew.cell? ⟨gE, c * 2 + 1, none⟩ = some (.int .i64 u1) := by rw [hu1]; exact HJD.out.atE (i := c * 2 + 1) (by omega)
          have hw := write_any (c : Int) t x4 S b s wA.drew HJD.out.p.p (by omega) (by have := HPU.out; omega) (by omega)
          have hwp := (write_len s (c : Int) t x4).2.1
          clear d0 d1 d2 d3 hbd
          cases hwb : writeB s (c : Int) t with
          | true =>
            rw [hwb] at hw
            rw [ht] at hwb
            obtain ⟨hs5, hne⟩ := HI.out.write c e hc1 heb x4 hwb
            rw [← ht, ← HF.out] at hs5
            rw [← hu0, ← hu1] at hne
            have HQ : Hid (∀ w, u0 ≠ u1 ∧ (Op.equalIn 10000 48 (.agg #[.int .i64 u0, .int .i64 u1]) (.agg #[.int .i64 0, .int .i64 0])).run Try.prog w = .ok false w) := Lib.hid fun w => ⟨hne, by
              rw [eq48t]
              cases h8 : (u0 == 0)
              · rfl
              · cases h9 : (u1 == 0)
                · rfl
                · exact absurd ((eq_of_beq h8).trans (eq_of_beq h9).symm) hne⟩
            have heq := fun w => (HQ.out w).2
            obtain ⟨s5, es5⟩ : ∃ s5, s5 = writeS s (c : Int) t x4 := ⟨_, rfl⟩
            rw [← es5] at hw hs5 hwp
            have HS5 := Lib.hid hs5
            have HP5 := Lib.hid hwp
            have HW := Lib.hid hw
            clear hwb ht hu0 hu1 hs5 hwp hw es5 hne HQ
            go_wp2
            go_region_held3 (fun w' => w'.cell? ⟨gE, c * 2 + e, none⟩ = some (.int .i64 t) ∧ w'.cell? ⟨gE, c * 2, none⟩ = some (.int .i64 u0) ∧ w'.cell? ⟨gE, c * 2 + 1, none⟩ = some (.int .i64 u1) ∧ w'.cell? ⟨B, 4, none⟩ = some (.string x4)) (first | with_reducible exact ⟨et, e0, e1, d4⟩ | with_reducible exact ⟨kt, k0, k1, k4⟩)
              (first
              | (go_at_call 22; (refine HW.out.mono ?_; rintro e9 w5 ⟨rfl, hl5⟩; obtain ⟨S5, hj5, kp⟩ := HJD.out.step hl5; have H5 := Lib.hid hj5; have HX5 := Lib.hid (HXD.out.step kp); have kt := (kp.cell et HJD.out.fE).1; have k0 := (kp.cell e0 HJD.out.fE).1; have k1 := (kp.cell e1 HJD.out.fE).1; have k4 := (kp.cell d4 HXD.out.2.1).1; clear hl5 hj5 kp))
              | fail)
            all_goals
              obtain ⟨wv, hwv⟩ : ∃ v, v = W (c * 2 + f) := ⟨_, rfl⟩
              have cW : w5.cell? ⟨gW, c * 2 + f, none⟩ = some (.string wv) := by rw [hwv]; exact H5.out.atW (i := c * 2 + f) (by omega)
              have fW : w5.frozen? ⟨gW, c * 2 + f, none⟩ = false := H5.out.cW.fz _
              have HJ7 := Lib.hid ((H5.out.mv ((Below.refl _ w5).drew)).setW (c * 2 + f) (wv ++ x4))
              have HZ7 := Lib.hid (HZ.out.put HX4.out (c * 2 + f))
              have hadd : ∀ w, (Op.stringOp .add wv x4).run Try.prog w = .ok (.string (wv ++ x4)) w := fun w => run_string_add_sum w _ _ (by rw [hwv]; exact HZ.out.sum hk2 HX4.out _)
              rw [← hwv] at HS5 HZ7
              clear kt k0 k1 et e0 e1 heq hwv
              go_wp2
              go_still_tail 14, (by as_aux_lemma => kernel_rfl)
              change wpList _ _ _ _ _ w5.drew
              go_wp2
              clear hadd cW fW k4 d4 hf1 hf3 hf4
              go_roundw
              case rel => exact ⟨k + 1, S5, s5, _, M, O, E, by omega, by omega, by go_num, by have := HPU.out; have := HP5.out; omega, HZ7.out, HS5.out, HJ7.out⟩
              case measure => simp [intOf]; omega
          | false =>
            rw [hwb] at hw
            rw [write_not hwb] at hw
            have HW := Lib.hid hw
            clear hwb ht hu0 hu1 hwp hw e0 e1
            go_wp2
            refine wp_region_held_drew (S := (fun w' => w'.cell? ⟨gE, c * 2 + e, none⟩ = some (.int .i64 t) ∧ w'.cell? ⟨B, 4, none⟩ = some (.string x4))) (by kernel_rfl) ⟨et, d4⟩ (fun hHeld => ?_)
            refine' wpAnyH_take (i := 0) (v := ?v0) rfl (by kernel_rfl) (by kernel_rfl) (by kernel_rfl) (fun _ _ _ h => h) (Or.inl ⟨by rfl, ?y0⟩) (by assumption) ?r0
            case y0 => (intro w hSw; (try dsimp only at hSw); go_simp; try with_reducible rfl)
            try simp only [Act.put, List.getElem_toArray, List.getElem_cons_zero, List.setIfInBounds_toArray, List.set_cons_zero, List.set_cons_succ]
            refine' wpAnyH_take (i := 1) (v := ?v1) rfl (by kernel_rfl) (by kernel_rfl) (by kernel_rfl) (fun _ _ _ h => h) (Or.inl ⟨by rfl, ?y1⟩) (by assumption) ?r1
            case y1 => (intro w hSw; (try dsimp only at hSw); go_simp; try with_reducible rfl)
            try simp only [Act.put, List.getElem_toArray, List.getElem_cons_succ, List.getElem_cons_zero, List.setIfInBounds_toArray, List.set_cons_zero, List.set_cons_succ]
            refine' wpAnyH_take (i := 2) (v := ?v2) rfl (by kernel_rfl) (by kernel_rfl) (by kernel_rfl) (fun _ _ _ h => h) (Or.inl ⟨by rfl, ?y2⟩) (by assumption) ?r2
            case y2 => (intro w hSw; (try dsimp only at hSw); go_simp; try with_reducible rfl)
            try simp only [Act.put, List.getElem_toArray, List.getElem_cons_succ, List.getElem_cons_zero, List.setIfInBounds_toArray, List.set_cons_zero, List.set_cons_succ]
            refine' wpAnyH_take (i := 3) (v := ?v3) rfl (by kernel_rfl) (by kernel_rfl) (by kernel_rfl) (fun _ _ _ h => h) (Or.inl ⟨by rfl, ?y3⟩) (by assumption) ?r3
            case y3 => (intro w hSw; (try dsimp only at hSw); go_simp; try with_reducible rfl)
            try simp only [Act.put, List.getElem_toArray, List.getElem_cons_succ, List.getElem_cons_zero, List.setIfInBounds_toArray, List.set_cons_zero, List.set_cons_succ]
            refine' wpAnyH_take (i := 4) (v := ?v4) rfl (by kernel_rfl) (by kernel_rfl) (by kernel_rfl) (fun _ _ _ h => h) (Or.inl ⟨by rfl, ?y4⟩) (by assumption) ?r4
            case y4 => (intro w hSw; (try dsimp only at hSw); go_simp; try with_reducible rfl)
            try simp only [Act.put, List.getElem_toArray, List.getElem_cons_succ, List.getElem_cons_zero, List.setIfInBounds_toArray, List.set_cons_zero, List.set_cons_succ]
            refine' wpAnyH_take (i := 5) (v := ?v5) rfl (by kernel_rfl) (by kernel_rfl) (by kernel_rfl) (fun _ _ _ h => h) (Or.inl ⟨by rfl, ?y5⟩) (by assumption) ?r5
            case y5 => (intro w hSw; (try dsimp only at hSw); go_simp; try with_reducible rfl)
            try simp only [Act.put, List.getElem_toArray, List.getElem_cons_succ, List.getElem_cons_zero, List.setIfInBounds_toArray, List.set_cons_zero, List.set_cons_succ]
            refine' wpAnyH_take (i := 6) (v := ?v6) rfl (by kernel_rfl) (by kernel_rfl) (by kernel_rfl) (fun _ _ _ h => h) (Or.inl ⟨by rfl, ?y6⟩) (by assumption) ?r6
            case y6 => (intro w hSw; (try dsimp only at hSw); go_simp; try with_reducible rfl)
            try simp only [Act.put, List.getElem_toArray, List.getElem_cons_succ, List.getElem_cons_zero, List.setIfInBounds_toArray, List.set_cons_zero, List.set_cons_succ]
            refine' wpAnyH_take (i := 7) (v := ?v7) rfl (by kernel_rfl) (by kernel_rfl) (by kernel_rfl) (fun _ _ _ h => h) (Or.inl ⟨by rfl, ?y7⟩) (by assumption) ?r7
            case y7 => (intro w hSw; (try dsimp only at hSw); go_simp; try with_reducible rfl)
            try simp only [Act.put, List.getElem_toArray, List.getElem_cons_succ, List.getElem_cons_zero, List.setIfInBounds_toArray, List.set_cons_zero, List.set_cons_succ]
            refine' wpAnyH_take (i := 8) (v := ?v8) rfl (by kernel_rfl) (by kernel_rfl) (by kernel_rfl) (fun _ _ _ h => h) (Or.inl ⟨by rfl, ?y8⟩) (by assumption) ?r8
            case y8 => (intro w hSw; (try dsimp only at hSw); go_simp; try with_reducible rfl)
            try simp only [Act.put, List.getElem_toArray, List.getElem_cons_succ, List.getElem_cons_zero, List.setIfInBounds_toArray, List.set_cons_zero, List.set_cons_succ]
            refine wpAnyH_ready (rs := [9]) (by kernel_rfl) (by simp) ?_
            refine AllReadyH.cons rfl (fun K hK => ?_) AllReadyH.nil
            go_simp
            refine HW.out.mono ?_
            rintro e9 w5 ⟨rfl, hl5⟩
            obtain ⟨S5, hj5, kp⟩ := HJD.out.step hl5
            have kt := (kp.cell et HJD.out.fE).1
            have k4 := (kp.cell d4 HXD.out.2.1).1
            have H5 := Lib.hid hj5
            clear hl5 hj5 kp hHeld
            go_wp2_with fail
            refine hK.out _ _ ⟨kt, k4⟩ (fun hHeld => ?_)
            clear hK K
            try simp only [Act.put, List.getElem_toArray, List.getElem_cons_succ, List.getElem_cons_zero, List.setIfInBounds_toArray, List.set_cons_zero, List.set_cons_succ]
            refine' wpAnyH_take (i := 10) (v := ?v10) rfl (by kernel_rfl) (by kernel_rfl) (by kernel_rfl) (fun _ _ _ h => h) (Or.inl ⟨by rfl, ?y10⟩) (by assumption) ?r10
            case y10 => (intro w hSw; (try dsimp only at hSw); go_simp; try with_reducible rfl)
            try simp only [Act.put, List.getElem_toArray, List.getElem_cons_succ, List.getElem_cons_zero, List.setIfInBounds_toArray, List.set_cons_zero, List.set_cons_succ]
            refine wpAnyH_take (i := 11) (v := undef) rfl (by kernel_rfl) (by kernel_rfl) (by kernel_rfl) (fun _ _ _ h => h) (Or.inr ⟨by kernel_rfl, rfl⟩) (by assumption) ?_
            try simp only [Act.put, List.getElem_toArray, List.getElem_cons_succ, List.getElem_cons_zero, List.setIfInBounds_toArray, List.set_cons_zero, List.set_cons_succ]
            refine wpAnyH_take (i := 12) (v := undef) rfl (by kernel_rfl) (by kernel_rfl) (by kernel_rfl) (fun _ _ _ h => h) (Or.inr ⟨by kernel_rfl, rfl⟩) (by assumption) ?_
            try simp only [Act.put, List.getElem_toArray, List.getElem_cons_succ, List.getElem_cons_zero, List.setIfInBounds_toArray, List.set_cons_zero, List.set_cons_succ]
            refine wpAnyH_take (i := 13) (v := undef) rfl (by kernel_rfl) (by kernel_rfl) (by kernel_rfl) (fun _ _ _ h => h) (Or.inr ⟨by kernel_rfl, rfl⟩) (by assumption) ?_
            try simp only [Act.put, List.getElem_toArray, List.getElem_cons_succ, List.getElem_cons_zero, List.setIfInBounds_toArray, List.set_cons_zero, List.set_cons_succ]
            refine wpAnyH_take (i := 14) (v := undef) rfl (by kernel_rfl) (by kernel_rfl) (by kernel_rfl) (fun _ _ _ h => h) (Or.inr ⟨by kernel_rfl, rfl⟩) (by assumption) ?_
            try simp only [Act.put, List.getElem_toArray, List.getElem_cons_succ, List.getElem_cons_zero, List.setIfInBounds_toArray, List.set_cons_zero, List.set_cons_succ]
            refine wpAnyH_take (i := 15) (v := undef) rfl (by kernel_rfl) (by kernel_rfl) (by kernel_rfl) (fun _ _ _ h => h) (Or.inr ⟨by kernel_rfl, rfl⟩) (by assumption) ?_
            try simp only [Act.put, List.getElem_toArray, List.getElem_cons_succ, List.getElem_cons_zero, List.setIfInBounds_toArray, List.set_cons_zero, List.set_cons_succ]
            refine' wpAnyH_take (i := 16) (v := ?v16) rfl (by kernel_rfl) (by kernel_rfl) (by kernel_rfl) (fun _ _ _ h => h) (Or.inl ⟨by rfl, ?y16⟩) (by assumption) ?r16
            case y16 => (intro w hSw; (try dsimp only at hSw); go_simp; try with_reducible rfl)
            try simp only [Act.put, List.getElem_toArray, List.getElem_cons_succ, List.getElem_cons_zero, List.setIfInBounds_toArray, List.set_cons_zero, List.set_cons_succ]
            refine wpAnyH_done (by kernel_rfl) ?_ _
            go_wp2
            go_roundw
            case rel => exact ⟨k + 1, S5, s, W, M, O, E, by omega, by omega, by go_num, by have := HPU.out; omega, HZ.out.next, HI.out, H5.out⟩
            case measure => simp [intOf]; omega
      · as_aux_lemma =>
        have hcl := close_any (c : Int) S b s wA HJA.out.p.p HI.out.g (by omega) (by have := HPU.out; omega) (by omega)
        have hs5 := HI.out.close c
        have hp5 := close_puts s (c : Int)
        obtain ⟨s5, es5⟩ : ∃ s5, s5 = closeS s (c : Int) := ⟨_, rfl⟩
        rw [← es5] at hcl hs5 hp5
        have HCL := Lib.hid hcl
        have HS5 := Lib.hid hs5
        have HP5 := Lib.hid hp5
        clear hcl hs5 hp5 es5 d0 d1 d2 d3 d4
        go_wp2_with fail
        refine HCL.out.mono ?_
        rintro e9 w5 ⟨rfl, hl5⟩
        obtain ⟨S5, hj5, _⟩ := HJA.out.step hl5
        have H5 := Lib.hid hj5
        clear hl5 hj5
        go_wp2
        go_roundw
        case rel => exact ⟨k + 1, S5, s5, W, M, O, E, by omega, by omega, by go_num, by have := HPU.out; have := HP5.out; omega, HZ.out.next, HS5.out, H5.out⟩
        case measure => simp [intOf]; omega
      · as_aux_lemma =>
        have hsn := send_any 0 1 x4 S b s wA HJA.out.p.p (by omega) (by have := HPU.out; omega)
        have hs5 := HI.out.send 0 1 x4 (by unfold I64; omega)
        obtain ⟨hp5i, hp5, _⟩ := send_len s 0 1 x4
        obtain ⟨s5, es5⟩ : ∃ s5, s5 = sendS s 0 1 x4 := ⟨_, rfl⟩
        rw [← es5] at hsn hs5 hp5 hp5i
        have HSN := Lib.hid hsn
        have HS5 := Lib.hid hs5
        have HP5 := Lib.hid hp5
        have HP5I := Lib.hid hp5i
        clear hsn hs5 hp5 hp5i es5 d0 d1 d3
        go_wp2_with fail
        refine HSN.out.mono ?_
        rintro e9 w5 ⟨rfl, hl5⟩
        obtain ⟨S5, hj5, kp⟩ := HJA.out.step hl5
        have k2 := (kp.cell d2 HX.out.2.1).1
        have hdb := double_any x2 A2.out S5 b s5 w5 hj5.p.p (by have := HP5I.out; omega) (by have := HPU.out; have := HP5.out; omega)
        have hs6 := HS5.out.dbl x2
        have hp6 := dbl_puts s5 x2
        obtain ⟨s6, es6⟩ : ∃ s6, s6 = dblS s5 x2 := ⟨_, rfl⟩
        rw [← es6] at hdb hs6 hp6
        have HDB := Lib.hid hdb
        have HS6 := Lib.hid hs6
        have HP6 := Lib.hid hp6
        have H5 := Lib.hid hj5
        clear hl5 hj5 kp hdb hs6 hp6 es6 d2 d4
        go_wp2_with fail
        refine HDB.out.mono ?_
        rintro e9 w6 ⟨rfl, hl6⟩
        obtain ⟨S6, hj6, _⟩ := H5.out.step hl6
        have H6 := Lib.hid hj6
        clear hl6 hj6
        go_wp2
        go_roundw
        case rel => exact ⟨k + 1, S6, s6, W, M, O, E, by omega, by omega, by go_num, by have := HPU.out; have := HP5.out; have := HP6.out; omega, HZ.out.next, HS6.out, H6.out⟩
        case measure => simp [intOf]; omega
      · as_aux_lemma =>
        have q0 : (((r : Nat) : Int) == 0) = false := by simp; omega
        have q5 : (((r : Nat) : Int) == 1) = false := by simp; omega
        have q6 : (((r : Nat) : Int) == 2) = false := by simp; omega
        have q7 : (((r : Nat) : Int) == 3) = false := by simp; omega
        have q8 : (((r : Nat) : Int) == 4) = false := by simp; omega
        have q9 : (((r : Nat) : Int) == 5) = false := by simp; omega
        have htk := take_any x2 A2.out S b s wA HJA.out.p.p HI.out.g (by omega) (by omega)
        clear d0 d1 d3 d4
        cases ho : pick (ready s) x2 with
        | none =>
          as_aux_lemma =>
          rw [ho] at htk
          have HTK := Lib.hid htk
          clear ho htk
          go_wp2_with fail
          refine HTK.out.mono ?_
          rintro e9 w5 ⟨rfl, hl5⟩
          obtain ⟨S5, hj5, _⟩ := HJA.out.step hl5
          have H5 := Lib.hid (hj5.mv (w' := w5.alloc (.cells (ic zi).toArray 52)) ((Below.refl _ _).alloc (Nat.le_refl _) _))
          clear hl5 hj5
          go_wp2
          go_roundw
          case rel => exact ⟨k + 1, S5, s, W, M, O, E, by omega, by omega, by go_num, by have := HPU.out; omega, HZ.out.next, HI.out, H5.out⟩
          case measure => simp [intOf]; omega
        | some x =>
          as_aux_lemma =>
          have hm := pick_mem ho
          have hgd := good_take HI.out.g (o := some x)
          rw [ho] at htk
          cases hxd : isD x with
          | true =>
            as_aux_lemma =>
            have hs5 := HI.out.tookD hm hxd
            obtain ⟨s5, es5⟩ : ∃ s5, s5 = takeS s (some x) := ⟨_, rfl⟩
            have hp5 : s5.puts ≤ s.puts := by rw [es5]; exact Nat.le_refl _
            rw [← es5] at htk hs5
            obtain ⟨num, kind, frm, dst, conn, body⟩ := x
            have hkd : kind = 1 := by simpa [isD] using hxd
            subst hkd
            have HS5 := Lib.hid hs5
            have HP5 := Lib.hid hp5
            have HTK : Hid (Calls Try.prog 25 #[ptr b, .int .i64 x2] wA fun e w' => e = .returned (.tuple #[.agg #[.int .i64 num, .int .i64 1, .int .i64 frm, .int .i64 dst, .int .i64 conn, .string body], .bool true]) ∧ Pl S b s5 wA w') := Lib.hid htk
            clear ho htk hm hgd hxd hs5 hp5 es5
            go_wp2_with fail
            refine HTK.out.mono ?_
            rintro e9 w5 ⟨rfl, hl5⟩
            obtain ⟨S5, hj5, _⟩ := HJA.out.step hl5
            have H5 := Lib.hid (hj5.mv (w' := w5.alloc (.cells #[.int .i64 num, .int .i64 1, .int .i64 frm, .int .i64 dst, .int .i64 conn, .string body] 52)) ((Below.refl _ _).alloc (Nat.le_refl _) _))
            clear hl5 hj5
            go_wp2
            go_roundw
            case rel => exact ⟨k + 1, S5, s5, W, M, O, E, by omega, by omega, by go_num, by have := HPU.out; have := HP5.out; omega, HZ.out.next, HS5.out, H5.out⟩
            case measure => simp [intOf]; omega
          | false =>
            obtain ⟨cc, ee, g1, g4, ge, gc, gd, gne, gO0, ⟨rr, gW0⟩, hs5⟩ := HI.out.taken hm hxd
            obtain ⟨s5, es5⟩ : ∃ s5, s5 = takeS s (some x) := ⟨_, rfl⟩
            have hp5 : s5.puts ≤ s.puts := by rw [es5]; exact Nat.le_refl _
            rw [← es5] at htk hs5
            obtain ⟨num, kind, frm, dst, conn, body⟩ := x
            have fc : conn = (cc : Int) := gc
            have fd : dst = E (cc * 2 + ee) := gd
            have fW : W (cc * 2 + ee) = M (cc * 2 + ee) ++ body ++ rr := gW0
            have hk1 : (kind == 1) = false := hxd
            clear gc gd gW0
            subst fc
            obtain ⟨t1, ht1⟩ : ∃ t, t = E (cc * 2 + 1) := ⟨_, rfl⟩
            obtain ⟨v, hv⟩ : ∃ v, (dst == t1) = v := ⟨_, rfl⟩
            have hve : (ee = 0 ∧ v = false) ∨ (ee = 1 ∧ v = true) := by
              rcases (by omega : ee = 0 ∨ ee = 1) with rfl | rfl
              · refine .inl ⟨rfl, ?_⟩
                rw [← hv, fd, ht1]
                exact beq_eq_false_iff_ne.2 gne
              · refine .inr ⟨rfl, ?_⟩
                rw [← hv, fd, ht1]
                exact beq_self_eq_true _
            have hlt1 : decide ((cc : Int) < 1) = false := by simp; omega
            have hlt4 : decide ((4 : Int) < (cc : Int)) = false := by simp; omega
            have hcc5 : (cc : Int) < 5 := by omega
            have HS5 := Lib.hid hs5
            have HP5 := Lib.hid hp5
            have HVE := Lib.hid hve
            have HGD := Lib.hid fd
            have HGO := Lib.hid gO0
            have HGW := Lib.hid fW
            have HT1 := Lib.hid ht1
            have HTK : Hid (Calls Try.prog 25 #[ptr b, .int .i64 x2] wA fun e w' => e = .returned (.tuple #[.agg #[.int .i64 num, .int .i64 kind, .int .i64 frm, .int .i64 dst, .int .i64 (cc : Int), .string body], .bool true]) ∧ Pl S b s5 wA w') := Lib.hid htk
            clear ho htk hm hgd hxd hs5 hp5 es5 hve fd gO0 fW gne ht1
            go_wp2_with fail
            refine HTK.out.mono ?_
            rintro e9 w5 ⟨rfl, hl5⟩
            obtain ⟨S5, hj5, _⟩ := HJA.out.step hl5
            have H5 := Lib.hid (hj5.mv (w' := w5.alloc (.cells #[.int .i64 num, .int .i64 kind, .int .i64 frm, .int .i64 dst, .int .i64 (cc : Int), .string body] 52)) ((Below.refl _ _).alloc (Nat.le_refl _) _))
            have hce := ce_new w5 #[.int .i64 num, .int .i64 kind, .int .i64 frm, .int .i64 dst, .int .i64 (cc : Int), .string body] 52
            have hfar := hj5.p.far (Nat.le_refl _)
            have hlt := hj5.cE.lt
            clear hl5 hj5
            go_upto_region 21 with fail
            obtain ⟨w6, hw6⟩ : ∃ w6, w6 = w5.alloc (.cells #[.int .i64 num, .int .i64 kind, .int .i64 frm, .int .i64 dst, .int .i64 (cc : Int), .string body] 52) := ⟨_, rfl⟩
            obtain ⟨X, hX⟩ : ∃ X, X = w5.heap.size := ⟨_, rfl⟩
            rw [← hw6, ← hX] at hce
            rw [← hX] at hfar hlt
            rw [← hw6] at H5
            rw [← hw6, ← hX]
            have HX6 : Hid (Bx ⟨w.heap.size, b, gW, gM, gO, gE⟩ S5 X #[.int .i64 num, .int .i64 kind, .int .i64 frm, .int .i64 dst, .int .i64 (cc : Int), .string body] 52 w6) := Lib.hid ⟨hce, hfar, hlt⟩
            clear hw6 hX hfar hlt
            have z3 : w6.cell? ⟨X, 3, none⟩ = some (.int .i64 dst) := by rw [hce.cell]; rfl
            have z4 : w6.cell? ⟨X, 4, none⟩ = some (.int .i64 (cc : Int)) := by rw [hce.cell]; rfl
            have zt : w6.cell? ⟨gE, cc * 2 + 1, none⟩ = some (.int .i64 t1) := by rw [HT1.out]; exact H5.out.atE (i := cc * 2 + 1) (by omega)
            clear hce
            go_quiet (fail)
            have hb7 := below_drewN w6 nq
            obtain ⟨w7, hw7⟩ : ∃ w7, w7 = w6.drewN nq := ⟨_, rfl⟩
            rw [← hw7] at hb7 ⊢
            have H7 := Lib.hid (H5.out.mv hb7)
            have HX7 := Lib.hid (HX6.out.mv hb7)
            clear hb7 hw7 z3 z4 zt H5 HX6
            as_aux_lemma =>
            go_upto_if 78 with fail
            go_cut [19] from 25 to 235 (fun v19 wx => v19 = .int .i64 (ee : Int) ∧ w7 = wx)
            case first =>
              rcases HVE.out with ⟨h1, h2⟩ | ⟨h1, h2⟩
              · subst h1 h2
                go_wp2
                go_meet
                case rel => exact ⟨rfl, rfl⟩
              · subst h1 h2
                go_wp2
                go_meet
                case rel => exact ⟨rfl, rfl⟩
            case rest =>
              obtain ⟨rfl, rfl⟩ := hcut
              as_aux_lemma =>
              obtain ⟨mv, hmv⟩ : ∃ v, v = M (cc * 2 + ee) := ⟨_, rfl⟩
              obtain ⟨wv, hwv⟩ : ∃ v, v = W (cc * 2 + ee) := ⟨_, rfl⟩
              have hce5 : (ee : Int) < 2 := by omega
              have z1 : w7.cell? ⟨X, 1, none⟩ = some (.int .i64 kind) := by rw [HX7.out.1.cell]; rfl
              have z3 : w7.cell? ⟨X, 3, none⟩ = some (.int .i64 dst) := by rw [HX7.out.1.cell]; rfl
              have z4 : w7.cell? ⟨X, 4, none⟩ = some (.int .i64 (cc : Int)) := by rw [HX7.out.1.cell]; rfl
              have z5 : w7.cell? ⟨X, 5, none⟩ = some (.string body) := by rw [HX7.out.1.cell]; rfl
              have zO : w7.cell? ⟨gO, cc * 2 + ee, none⟩ = some (.bool false) := by rw [← HGO.out]; exact H7.out.atO (i := cc * 2 + ee) (by omega)
              have zE : w7.cell? ⟨gE, cc * 2 + ee, none⟩ = some (.int .i64 dst) := by rw [HGD.out]; exact H7.out.atE (i := cc * 2 + ee) (by omega)
              have hne : (dst != dst) = false := by simp
              have HMV := Lib.hid hmv
              have HWV := Lib.hid hwv
              clear hmv hwv hv hk1 hlt1 hlt4
              go_wp2
              go_quiet (fail)
              have hb8 := below_drewN w7 nq
              obtain ⟨w8, hw8⟩ : ∃ w8, w8 = w7.drewN nq := ⟨_, rfl⟩
              rw [← hw8] at hb8 ⊢
              have H8 := Lib.hid (H7.out.mv hb8)
              have HX8 := Lib.hid (HX7.out.mv hb8)
              clear hb8 hw8 z1 z3 z4 z5 zE zO hne H7 HX7
              as_aux_lemma =>
              have z1 : w8.cell? ⟨X, 1, none⟩ = some (.int .i64 kind) := by rw [HX8.out.1.cell]; rfl
              have z4 : w8.cell? ⟨X, 4, none⟩ = some (.int .i64 (cc : Int)) := by rw [HX8.out.1.cell]; rfl
              have zO : w8.cell? ⟨gO, cc * 2 + ee, none⟩ = some (.bool false) := by rw [← HGO.out]; exact H8.out.atO (i := cc * 2 + ee) (by omega)
              have fO : w8.frozen? ⟨gO, cc * 2 + ee, none⟩ = false := H8.out.cO.fz _
              go_wp2
              go_still_tail 8, (by as_aux_lemma => kernel_rfl)
              change wpList _ _ _ _ _ w8.drew
              go_wp2
              obtain ⟨w9, hw9⟩ : ∃ w9, w9 = (w8.setCell ⟨gO, cc * 2 + ee, none⟩ (.bool (kind == 4))).drew := ⟨_, rfl⟩
              have hd8 : Below w8.heap.size w8 w8.drew := (Below.refl _ w8).drew
              have H9 : Hid (SJ ⟨w.heap.size, b, gW, gM, gO, gE⟩ w W M (put O (cc * 2 + ee) (kind == 4)) E S5 s5 w9) := Lib.hid (by rw [hw9]; exact (H8.out.mv hd8).setO (cc * 2 + ee) (kind == 4))
              have HX9 : Hid (Bx ⟨w.heap.size, b, gW, gM, gO, gE⟩ S5 X #[.int .i64 num, .int .i64 kind, .int .i64 frm, .int .i64 dst, .int .i64 (cc : Int), .string body] 52 w9) := Lib.hid (by rw [hw9]; exact (HX8.out.mv hd8).set (Nat.le_of_lt H8.out.hE))
              rw [← hw9]
              clear hw9 hd8 H8 HX8 z1 z4 zO fO
              as_aux_lemma =>
              have z4 : w9.cell? ⟨X, 4, none⟩ = some (.int .i64 (cc : Int)) := by rw [HX9.out.1.cell]; rfl
              have z5 : w9.cell? ⟨X, 5, none⟩ = some (.string body) := by rw [HX9.out.1.cell]; rfl
              have zM : w9.cell? ⟨gM, cc * 2 + ee, none⟩ = some (.string mv) := by rw [HMV.out]; exact H9.out.atM (i := cc * 2 + ee) (by omega)
              have fM : w9.frozen? ⟨gM, cc * 2 + ee, none⟩ = false := H9.out.cM.fz _
              have hsum := HZ.out.one hk2 (cc * 2 + ee)
              rw [HGW.out, ← HMV.out, ByteArray.size_append, ByteArray.size_append] at hsum
              have hadd : ∀ w, (Op.stringOp .add mv body).run Try.prog w = .ok (.string (mv ++ body)) w := fun w => run_string_add_sum w _ _ (by omega)
              clear hsum
              go_wp2
              go_still_tail 14, (by as_aux_lemma => kernel_rfl)
              change wpList _ _ _ _ _ w9.drew
              go_upto_region 27 with fail
              obtain ⟨m2, hm2⟩ : ∃ m2, m2 = mv ++ body := ⟨_, rfl⟩
              obtain ⟨w10, hw10⟩ : ∃ w10, w10 = (w9.setCell ⟨gM, cc * 2 + ee, none⟩ (.string (mv ++ body))).drew := ⟨_, rfl⟩
              have hd9 : Below w9.heap.size w9 w9.drew := (Below.refl _ w9).drew
              have H10 : Hid (SJ ⟨w.heap.size, b, gW, gM, gO, gE⟩ w W (put M (cc * 2 + ee) m2) (put O (cc * 2 + ee) (kind == 4)) E S5 s5 w10) := Lib.hid (by rw [hw10, hm2]; exact (H9.out.mv hd9).setM (cc * 2 + ee) (mv ++ body))
              have HX10 : Hid (Bx ⟨w.heap.size, b, gW, gM, gO, gE⟩ S5 X #[.int .i64 num, .int .i64 kind, .int .i64 frm, .int .i64 dst, .int .i64 (cc : Int), .string body] 52 w10) := Lib.hid (by rw [hw10]; exact (HX9.out.mv hd9).set (Nat.le_of_lt (Nat.lt_trans H9.out.hO H9.out.hE)))
              rw [← hw10, ← hm2]
              have HM2 := Lib.hid hm2
              clear hw10 hd9 H9 HX9 z4 z5 zM fM hadd hm2
              as_aux_lemma =>
              have z4 : w10.cell? ⟨X, 4, none⟩ = some (.int .i64 (cc : Int)) := by rw [HX10.out.1.cell]; rfl
              have zW : w10.cell? ⟨gW, cc * 2 + ee, none⟩ = some (.string wv) := by rw [HWV.out]; exact H10.out.atW (i := cc * 2 + ee) (by omega)
              have zM : w10.cell? ⟨gM, cc * 2 + ee, none⟩ = some (.string m2) := by have := H10.out.atM (i := cc * 2 + ee) (by omega); rw [put_same] at this; exact this
              have hwm : wv = m2 ++ rr := by rw [HWV.out, HGW.out, HM2.out, HMV.out]
              have hsz : m2.size ≤ wv.size := by rw [hwm, ByteArray.size_append]; omega
              have hle : decide ((wv.size : Int) < (m2.size : Int)) = false := by simp; omega
              have hle2 : decide (wv.size < m2.size) = false := by simp; omega
              have hsl : ∀ w, (Instr.slice 9 (.string wv) none (some (.int .i64 (m2.size : Int))) none).run Try.prog w = .ok (.string m2) w := fun w => by
                rw [run_slice_string_to_if w 9 wv .i64 _ Try.underlying9, if_pos ⟨by omega, by omega⟩, hwm, Int.toNat_natCast, left_of]
              have HS5' := HS5.out
              rw [← HMV.out, ← HM2.out] at HS5'
              have HS6 := Lib.hid HS5'
              clear hwm HS5'
              have hneq : ∀ w, (Op.stringOp .neq m2 m2).run Try.prog w = .ok (.bool false) w := fun w => by simp [Op.stringOp]
              have hne1 : (m2.toList == m2.toList) = true := by simp
              have hne2 : (m2.toList != m2.toList) = false := by simp
              go_wp2
              go_quiet (fail)
              have hb11 := below_drewN w10 nq
              have H11 := Lib.hid (H10.out.mv hb11)
              clear z4 zW zM hsz hle hle2 hsl hneq hne1 hne2 hb11
              go_wp2
              go_roundw
              case rel => exact ⟨k + 1, S5, s5, W, _, _, E, by omega, by omega, by go_num, by have := HPU.out; have := HP5.out; omega, HZ.out.next, HS6.out, H11.out⟩
              case measure => simp [intOf]; omega
    · have hBL := Lib.hid hbel
      have hstop : (¬ k < n) ∨ (k < n ∧ ¬ k < 60) := by omega
      clear hlt hbel
      rcases hstop with hs1 | ⟨hs1, hs2⟩
      · have q1 : decide ((k : Int) < (n : Int)) = false := by simp; omega
        go_wp2
        go_ret
        exact ⟨rfl, hBL.out⟩
      · have q1 : (k : Int) < (n : Int) := by omega
        have q2 : decide ((k : Int) < 60) = false := by simp; omega
        go_wp2
        go_ret
        exact ⟨rfl, hBL.out⟩
theorem lawStreams_any (a : Option Addr) (n cap : Nat) (w : World) (h : Calld w a n) (ht : ∀ b off, a = some ⟨b, off, none⟩ → ∀ k, k < n → ∀ s, w.cell? ⟨b, off + k * 5 + 4, none⟩ = some (.string s) → s.size ≤ most) :
    Calls Try.prog 5 #[.slice a n cap] w fun e w' => e = .returned (.bool true) ∧ Below w.heap.size w w' := by
  rcases h with rfl | ⟨b, off, os, rfl, hb, hok, hc⟩
  · exact lawStreams_all a 0 cap (fun _ => ⟨0, 0, 0, 0, ⟨#[]⟩⟩) w (fun _ => by simp [OpC.ok, I64]) (fun k hk => absurd hk (by omega)) (fun k hk => absurd hk (by omega))
  · exact lawStreams_all _ n cap os w hok (fun k hk => ⟨b, off, rfl, hb, hc k hk⟩) (fun k hk => ht b off rfl k hk _ (hc k hk).2.2.2.2)
end Go.Proofs.Ytocmgdhhlofajaa

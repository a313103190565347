/-
  The walk of the law NetLost: for every list of calls and every number it returns true; no older memory is changed.
-/
import Derived.Test.YtocmgdhhlofajaaLawFull
import Derived.Test.YtocmgdhhlofajaaLostMath
import Derived.Test.YtocmgdhhlofajaaOps
namespace Go.Proofs.Ytocmgdhhlofajaa
open Go.RowKit
theorem pk64 {p : Int} {m : Nat} (hm : 0 < m) (hb : m ≤ 1000000) : I64 (pk p m : Int) := by
  have := pk_lt (p := p) hm
  unfold I64
  omega
/-- What the first loop knows. -/
structure L1 (k : Nat) (s : St) : Prop where
  g : Good s
  k3 : K3 s
  its : s.its.length ≤ k
  puts : s.puts ≤ k
  opens : s.opens ≤ k
theorem l1_zero : L1 0 St.empty := ⟨good_empty, fun x hx => absurd hx (by simp [St.empty]), Nat.le_refl _, Nat.le_refl _, Nat.le_refl _⟩
theorem L1.lks {k : Nat} {s : St} (h : L1 k s) : s.lks.length ≤ k := Nat.le_trans h.g.lenL h.opens
theorem L1.send {k : Nat} {s : St} (h : L1 k s) (f t : Int) (b : ByteArray) (ht : I64 t) : L1 (k + 1) (sendS s f t b) := by
  obtain ⟨h1, h2, h3, _⟩ := send_len s f t b
  have := h.its; have := h.puts; have := h.opens
  exact ⟨good_send h.g ht, k3_send h.k3, by omega, by omega, by omega⟩
theorem L1.open {k : Nat} {s : St} (h : L1 k s) (f t : Int) (hf : I64 f) (ht : I64 t) : L1 (k + 1) (openS s f t) := by
  obtain ⟨h1, h2, h3⟩ := open_len s f t
  have := h.its; have := h.puts; have := h.opens
  exact ⟨good_open h.g hf ht, k3_open h.k3, by omega, by omega, by omega⟩
theorem L1.write {k : Nat} {s : St} (h : L1 k s) (c f : Int) (b : ByteArray) : L1 (k + 1) (writeS s c f b) := by
  obtain ⟨h1, h2, h3⟩ := write_len s c f b
  have := h.its; have := h.puts; have := h.opens
  exact ⟨good_write h.g, k3_write h.k3, by omega, by omega, by omega⟩
theorem open_both (x y : Int) (S : Nat → Prop) (b : Nat) (s : St) (w : World) (h : Pn S b s w) (hB : s.its.length ≤ 1000000) (hP : s.puts ≤ 1000000) (hO : s.opens ≤ 1000000) :
    Calls Try.prog 19 #[ptr b, .int .i64 x, .int .i64 y] w fun e w' => e = .returned (.tuple #[.int .i64 (if noOpen s x y then 0 else ((s.opens + 1 : Nat) : Int)), .bool (!noOpen s x y)]) ∧ Pl S b (openS s x y) w w' := by
  cases g : noOpen s x y with
  | true =>
    refine (open_no x y S b s w h g).mono ?_
    rintro e w' ⟨rfl, rfl⟩
    exact ⟨rfl, by unfold openS; rw [g]; exact Lft.refl h⟩
  | false =>
    refine (open_yes x y S b s w h hB hP hO g).mono ?_
    rintro e w' ⟨rfl, hl⟩
    exact ⟨rfl, hl⟩
theorem clo_dgs {n : Int} : ∀ {ls : List Lk} {s : St}, (clo n s ls).its.filter isD = s.its.filter isD
  | [], _ => rfl
  | l :: ls, s => by
    unfold clo
    rw [List.foldl_cons]
    cases ho : otherL l n with
    | none => exact clo_dgs (ls := ls) (s := s)
    | some t =>
      refine Eq.trans (clo_dgs (ls := ls) (s := add s (closedI n t l.num))) ?_
      show (s.its ++ [_]).filter isD = _
      rw [List.filter_append]
      simp [isD, closedI, It.no]
theorem lose_dgs (s : St) (n : Int) : (dgs (loseS s n)).length ≤ s.its.length := by
  have e : dgs (loseS s n) = (s.its.filter (fun x => !touch n x)).filter isD := clo_dgs (n := n) (ls := s.lks)
  rw [e]
  exact Nat.le_trans (List.length_filter_le _ _) (List.length_filter_le _ _)
theorem open_two (x y : Int) (S : Nat → Prop) (b : Nat) (s : St) (w : World) (h : Pn S b s w) (hB : s.its.length ≤ 1000000) (hP : s.puts ≤ 1000000) (hO : s.opens ≤ 1000000) :
    ∃ (c : Int) (o : Bool), Calls Try.prog 19 #[ptr b, .int .i64 x, .int .i64 y] w fun e w' => e = .returned (.tuple #[.int .i64 c, .bool o]) ∧ Pl S b (openS s x y) w w' := ⟨_, _, open_both x y S b s w h hB hP hO⟩
/-- What the second loop knows. -/
structure L2 (k : Int) (j : Nat) (s : St) : Prop where
  g : Good s
  ok : ∀ x ∈ s.its, Ok k x
  its : s.its.length ≤ 120
  puts : s.puts ≤ 120
  opens : s.opens ≤ 120
  d : (dgs s).length + j ≤ 60
/-- What the third loop knows. -/
structure L3 (k : Int) (j : Nat) (s : St) : Prop where
  g : Good s
  ok : ∀ x ∈ s.its, Ok k x
  its : s.its.length + j ≤ 120
  puts : s.puts ≤ 120
  opens : s.opens ≤ 120
  nod : ∀ x ∈ s.its, x.kind ≠ 1
theorem L2.dropped {k : Int} {j : Nat} {s : St} (h : L2 k j s) {x : It} (hx : x ∈ dgs s) : L2 k (j + 1) (takeS s (some x)) := by
  have h1 := take_dgs h.g hx
  have h2 := take_its h.g (dgs_mem hx).1
  have h3 := h.its
  have h4 := h.d
  exact ⟨good_take h.g, fun y hy => h.ok y ((List.mem_filter.1 hy).1), by omega, h.puts, h.opens, by omega⟩
theorem L2.none {k : Int} {j : Nat} {s : St} (h : L2 k j s) (hd : dgs s = []) : L3 k 0 s :=
  ⟨h.g, h.ok, h.its, h.puts, h.opens, fun x hx e => by
    have : x ∈ dgs s := List.mem_filter.2 ⟨hx, by simp [isD, e]⟩
    rw [hd] at this
    cases this⟩
theorem L3.taken {k : Int} {j : Nat} {s : St} (h : L3 k j s) {x : It} (hx : x ∈ s.its) : L3 k (j + 1) (takeS s (some x)) := by
  have h2 := take_its h.g hx
  have h3 := h.its
  exact ⟨good_take h.g, fun y hy => h.ok y ((List.mem_filter.1 hy).1), by omega, h.puts, h.opens, fun y hy => h.nod y ((List.mem_filter.1 hy).1)⟩
set_option maxRecDepth 100000 in
set_option maxHeartbeats 32000000 in
theorem lawLost_some (b0 off n cap : Nat) (os : Nat → OpC) (node : Int) (hnode : I64 node) (w : World) (hb : b0 < w.heap.size) (hok : ∀ k, (os k).ok) (hc : ∀ k, k < n → OpAt w b0 (off + k * 5) (os k)) :
    Calls Try.prog 8 #[.slice (some ⟨b0, off, none⟩) n cap, .int .i64 node] w fun e w' => e = .returned (.bool true) ∧ Below w.heap.size w w' := by
  have HC := Lib.hid hc
  have HOK := Lib.hid hok
  have HNO := Lib.hid hnode
  clear hc hok hnode
  go_enter Try.func8, Try.ntmps8
  go_wp2_with fail
  refine (awake_any w).mono ?_
  rintro e w0 ⟨rfl, hb0⟩
  go_wp2_with fail
  refine (new_any w0).mono ?_
  rintro e w1 ⟨rfl, hp1, hb1⟩
  obtain ⟨S1, hn1, _⟩ := NA.new hp1 hb1 hb0 hb0.size
  obtain ⟨b, hb'⟩ : ∃ b, b = w0.heap.size := ⟨_, rfl⟩
  have H1 : Hid (NP w.heap.size S1 w b St.empty w1) := Lib.hid (by rw [hb']; exact hn1)
  rw [← hb']
  clear hp1 hb1 hn1 hb' hb0
  go_wp2
  go_loopw [7] (fun i wr => ∃ (k : Nat) (S : Nat → Prop) (s : St), k ≤ n ∧ k ≤ 60 ∧ i = .int .i64 (k : Int) ∧ L1 k s ∧ NP w.heap.size S w b s wr) (fun i _ => n - (intOf i).toNat)
  case atStart => exact ⟨0, S1, _, by omega, by omega, rfl, l1_zero, H1.out⟩
  case round =>
    clear H1
    obtain ⟨k, S, s, hk, hk2, rfl, hl1, hn⟩ := hrel
    have HL := Lib.hid hl1
    have HN := Lib.hid hn
    have hbel := hn.bel
    have hws := hn.hn
    clear hl1 hn
    by_cases hlt : k < n ∧ k < 60
    · obtain ⟨hlt, hlt2⟩ := hlt
      have q1 : (k : Int) < (n : Int) := by omega
      have q2 : (k : Int) < 60 := by omega
      obtain ⟨c0, c1, c2, c3, c4⟩ := HC.out k hlt
      have c0 := (hbel.cell (p := ⟨b0, off + k * 5, none⟩) hb).trans c0
      have c1 := (hbel.cell (p := ⟨b0, off + k * 5 + 1, none⟩) hb).trans c1
      have c2 := (hbel.cell (p := ⟨b0, off + k * 5 + 2, none⟩) hb).trans c2
      have c3 := (hbel.cell (p := ⟨b0, off + k * 5 + 3, none⟩) hb).trans c3
      have c4 := (hbel.cell (p := ⟨b0, off + k * 5 + 4, none⟩) hb).trans c4
      obtain ⟨a0, a1, a2, a3⟩ := HOK.out k
      generalize (os k).kind = x0 at c0 a0
      generalize (os k).a = x1 at c1 a1
      generalize (os k).b = x2 at c2 a2
      generalize (os k).n = x3 at c3 a3
      generalize (os k).text = x4 at c4
      have A0 := Lib.hid a0
      have A1 := Lib.hid a1
      have A2 := Lib.hid a2
      have A3 := Lib.hid a3
      clear a0 a1 a2 a3 hbel
      go_upto_region 9 with fail
      obtain ⟨wA, hwA⟩ : ∃ wA, wA = wr.alloc (.cells #[.int .i64 x0, .int .i64 x1, .int .i64 x2, .int .i64 x3, .string x4] 32) := ⟨_, rfl⟩
      rw [← hwA]
      have hbA : Below wr.heap.size wr wA := by rw [hwA]; exact (Below.refl _ _).alloc (Nat.le_refl _) _
      have hce : Ce wA wr.heap.size 32 #[.int .i64 x0, .int .i64 x1, .int .i64 x2, .int .i64 x3, .string x4] := by rw [hwA]; exact ce_new _ _ _
      have hfar := HN.out.far (Nat.le_refl _)
      have HNA := Lib.hid (HN.out.mv hbA)
      obtain ⟨B, hB⟩ : ∃ B, B = wr.heap.size := ⟨_, rfl⟩
      rw [← hB] at hce hfar ⊢
      have d0 : wA.cell? ⟨B, 0, none⟩ = some (.int .i64 x0) := by rw [hce.cell]; rfl
      have d1 : wA.drew.cell? ⟨B, 1, none⟩ = some (.int .i64 x1) := by show wA.cell? _ = _; rw [hce.cell]; rfl
      have d2 : wA.drew.cell? ⟨B, 2, none⟩ = some (.int .i64 x2) := by show wA.cell? _ = _; rw [hce.cell]; rfl
      have d3 : wA.drew.cell? ⟨B, 3, none⟩ = some (.int .i64 x3) := by show wA.cell? _ = _; rw [hce.cell]; rfl
      have d4 : wA.drew.cell? ⟨B, 4, none⟩ = some (.string x4) := by show wA.cell? _ = _; rw [hce.cell]; rfl
      have HF := Lib.hid hfar
      have HND := Lib.hid (HNA.out.mv ((Below.refl _ wA).drew))
      obtain ⟨r, hr⟩ : ∃ r, r = pk x0 5 := ⟨_, rfl⟩
      have hrb : r < 5 := by have := pk_lt (p := x0) (show 0 < 5 by omega); omega
      have P := num_pick x0 A0.out 5 (by omega) (by omega) wA
      rw [← hr] at P
      have HP := Lib.hid P
      clear hwA hbA hce hfar hB P hr c0 c1 c2 c3 c4
      go_wp2_with fail
      refine HP.out.mono ?_
      rintro e w2 ⟨rfl, rfl⟩
      rcases (by omega : r = 0 ∨ r = 1 ∨ r = 2 ∨ r = 3 ∨ r = 4) with rfl | rfl | rfl | rfl | rfl
      · clear d0
        obtain ⟨y1, hy1⟩ : ∃ y1, y1 = pk x1 4 := ⟨_, rfl⟩
        have hb1 : y1 < 4 := by have := pk_lt (p := x1) (show 0 < 4 by omega); omega
        have P1 := num_pick x1 A1.out 4 (by omega) (by omega) wA.drew
        rw [← hy1] at P1
        have HP1 := Lib.hid P1
        clear P1 hy1
        obtain ⟨y2, hy2⟩ : ∃ y2, y2 = pk x2 4 := ⟨_, rfl⟩
        have hb2 : y2 < 4 := by have := pk_lt (p := x2) (show 0 < 4 by omega); omega
        have P2 := num_pick x2 A2.out 4 (by omega) (by omega) wA.drew
        rw [← hy2] at P2
        have HP2 := Lib.hid P2
        clear P2 hy2
        have HX := Lib.hid (send_any (y1 : Int) (y2 : Int) x4 S b s wA.drew HND.out.p (by have := HL.out.its; omega) (by have := HL.out.puts; omega))
        go_wp2
        go_region_held3 (fun w' => w'.cell? ⟨B, 1, none⟩ = some (.int .i64 x1) ∧ w'.cell? ⟨B, 2, none⟩ = some (.int .i64 x2) ∧ w'.cell? ⟨B, 4, none⟩ = some (.string x4)) (first | with_reducible exact ⟨d1, d2, d4⟩ | with_reducible exact ⟨e1, e2, e4⟩)
          (first
          | (go_at_call_of 18 (#[.int .i64 x1, .int .i64 4] : Array Value); (refine HP1.out.mono ?_; rintro e w9 ⟨rfl, rfl⟩))
          | (go_at_call_of 18 (#[.int .i64 x2, .int .i64 4] : Array Value); (refine HP2.out.mono ?_; rintro e w9 ⟨rfl, rfl⟩))
          | (go_at_call 20; (refine HX.out.mono ?_; rintro e w5 ⟨rfl, hl5⟩; obtain ⟨S5, hn5, kp, _⟩ := HND.out.step hl5; have H5 := Lib.hid hn5; have e1 := (kp.cell d1 HF.out).1; have e2 := (kp.cell d2 HF.out).1; have e4 := (kp.cell d4 HF.out).1; clear hn5 hl5 kp))
          | fail)
        all_goals
          go_wp2
          go_roundw
          case rel => exact ⟨k + 1, S5, _, by omega, by omega, by go_num, HL.out.send (y1 : Int) (y2 : Int) x4 (by unfold I64; omega), H5.out⟩
          case measure => simp [intOf]; omega
      · clear d0
        obtain ⟨y1, hy1⟩ : ∃ y1, y1 = pk x1 4 := ⟨_, rfl⟩
        have hb1 : y1 < 4 := by have := pk_lt (p := x1) (show 0 < 4 by omega); omega
        have P1 := num_pick x1 A1.out 4 (by omega) (by omega) wA.drew
        rw [← hy1] at P1
        have HP1 := Lib.hid P1
        clear P1 hy1
        obtain ⟨y2, hy2⟩ : ∃ y2, y2 = pk x2 4 := ⟨_, rfl⟩
        have hb2 : y2 < 4 := by have := pk_lt (p := x2) (show 0 < 4 by omega); omega
        have P2 := num_pick x2 A2.out 4 (by omega) (by omega) wA.drew
        rw [← hy2] at P2
        have HP2 := Lib.hid P2
        clear P2 hy2
        have HX := Lib.hid (send_any (y1 : Int) (y2 : Int) x4 S b s wA.drew HND.out.p (by have := HL.out.its; omega) (by have := HL.out.puts; omega))
        go_wp2
        go_region_held3 (fun w' => w'.cell? ⟨B, 1, none⟩ = some (.int .i64 x1) ∧ w'.cell? ⟨B, 2, none⟩ = some (.int .i64 x2) ∧ w'.cell? ⟨B, 4, none⟩ = some (.string x4)) (first | with_reducible exact ⟨d1, d2, d4⟩ | with_reducible exact ⟨e1, e2, e4⟩)
          (first
          | (go_at_call_of 18 (#[.int .i64 x1, .int .i64 4] : Array Value); (refine HP1.out.mono ?_; rintro e w9 ⟨rfl, rfl⟩))
          | (go_at_call_of 18 (#[.int .i64 x2, .int .i64 4] : Array Value); (refine HP2.out.mono ?_; rintro e w9 ⟨rfl, rfl⟩))
          | (go_at_call 20; (refine HX.out.mono ?_; rintro e w5 ⟨rfl, hl5⟩; obtain ⟨S5, hn5, kp, _⟩ := HND.out.step hl5; have H5 := Lib.hid hn5; have e1 := (kp.cell d1 HF.out).1; have e2 := (kp.cell d2 HF.out).1; have e4 := (kp.cell d4 HF.out).1; clear hn5 hl5 kp))
          | fail)
        all_goals
          go_wp2
          go_roundw
          case rel => exact ⟨k + 1, S5, _, by omega, by omega, by go_num, HL.out.send (y1 : Int) (y2 : Int) x4 (by unfold I64; omega), H5.out⟩
          case measure => simp [intOf]; omega
      · clear d0
        obtain ⟨y1, hy1⟩ : ∃ y1, y1 = pk x1 4 := ⟨_, rfl⟩
        have hb1 : y1 < 4 := by have := pk_lt (p := x1) (show 0 < 4 by omega); omega
        have P1 := num_pick x1 A1.out 4 (by omega) (by omega) wA.drew
        rw [← hy1] at P1
        have HP1 := Lib.hid P1
        clear P1 hy1
        obtain ⟨y2, hy2⟩ : ∃ y2, y2 = pk x2 4 := ⟨_, rfl⟩
        have hb2 : y2 < 4 := by have := pk_lt (p := x2) (show 0 < 4 by omega); omega
        have P2 := num_pick x2 A2.out 4 (by omega) (by omega) wA.drew
        rw [← hy2] at P2
        have HP2 := Lib.hid P2
        clear P2 hy2
        obtain ⟨v1, v2, hx⟩ := open_two (y1 : Int) (y2 : Int) S b s wA.drew HND.out.p (by have := HL.out.its; omega) (by have := HL.out.puts; omega) (by have := HL.out.opens; omega)
        have HX := Lib.hid hx
        clear hx
        go_wp2
        go_region_held3 (fun w' => w'.cell? ⟨B, 1, none⟩ = some (.int .i64 x1) ∧ w'.cell? ⟨B, 2, none⟩ = some (.int .i64 x2)) (first | with_reducible exact ⟨d1, d2⟩ | with_reducible exact ⟨e1, e2⟩)
          (first
          | (go_at_call_of 18 (#[.int .i64 x1, .int .i64 4] : Array Value); (refine HP1.out.mono ?_; rintro e w9 ⟨rfl, rfl⟩))
          | (go_at_call_of 18 (#[.int .i64 x2, .int .i64 4] : Array Value); (refine HP2.out.mono ?_; rintro e w9 ⟨rfl, rfl⟩))
          | (go_at_call 19; (refine HX.out.mono ?_; rintro e w5 ⟨rfl, hl5⟩; obtain ⟨S5, hn5, kp, _⟩ := HND.out.step hl5; have H5 := Lib.hid hn5; have e1 := (kp.cell d1 HF.out).1; have e2 := (kp.cell d2 HF.out).1; clear hn5 hl5 kp))
          | fail)
        all_goals
          go_wp2
          go_roundw
          case rel => exact ⟨k + 1, S5, _, by omega, by omega, by go_num, HL.out.open (y1 : Int) (y2 : Int) (by unfold I64; omega) (by unfold I64; omega), H5.out⟩
          case measure => simp [intOf]; omega
      · clear d0
        obtain ⟨y3, hy3⟩ : ∃ y3, y3 = pk x3 6 := ⟨_, rfl⟩
        have hb3 : y3 < 6 := by have := pk_lt (p := x3) (show 0 < 6 by omega); omega
        have P3 := num_pick x3 A3.out 6 (by omega) (by omega) wA.drew
        rw [← hy3] at P3
        have HP3 := Lib.hid P3
        clear P3 hy3
        obtain ⟨y1, hy1⟩ : ∃ y1, y1 = pk x1 4 := ⟨_, rfl⟩
        have hb1 : y1 < 4 := by have := pk_lt (p := x1) (show 0 < 4 by omega); omega
        have P1 := num_pick x1 A1.out 4 (by omega) (by omega) wA.drew
        rw [← hy1] at P1
        have HP1 := Lib.hid P1
        clear P1 hy1
        obtain ⟨z, hz⟩ : ∃ z, z = 1 + (y3 : Int) := ⟨_, rfl⟩
        have hz1 : 1 + (y3 : Int) = z := hz.symm
        have hz2 : (y3 : Int) + 1 = z := by omega
        have hz3 : 1 ≤ z := by omega
        have hz4 : z ≤ 6 := by omega
        have hz5 : IntKind.i64.wrap z = z := by simp [IntKind.wrap, IntKind.bits, IntKind.signed]; omega
        clear hz
        have HX := Lib.hid (write_any z (y1 : Int) x4 S b s wA.drew HND.out.p (by have := HL.out.its; omega) (by have := HL.out.puts; omega) (by have := HL.out.lks; omega))
        go_wp2
        go_region_held3 (fun w' => w'.cell? ⟨B, 1, none⟩ = some (.int .i64 x1) ∧ w'.cell? ⟨B, 3, none⟩ = some (.int .i64 x3) ∧ w'.cell? ⟨B, 4, none⟩ = some (.string x4)) (first | with_reducible exact ⟨d1, d3, d4⟩ | with_reducible exact ⟨e1, e3, e4⟩)
          (first
          | (go_at_call_of 18 (#[.int .i64 x3, .int .i64 6] : Array Value); (refine HP3.out.mono ?_; rintro e w9 ⟨rfl, rfl⟩))
          | (go_at_call_of 18 (#[.int .i64 x1, .int .i64 4] : Array Value); (refine HP1.out.mono ?_; rintro e w9 ⟨rfl, rfl⟩))
          | (go_at_call 22; (refine HX.out.mono ?_; rintro e w5 ⟨rfl, hl5⟩; obtain ⟨S5, hn5, kp, _⟩ := HND.out.step hl5; have H5 := Lib.hid hn5; have e1 := (kp.cell d1 HF.out).1; have e3 := (kp.cell d3 HF.out).1; have e4 := (kp.cell d4 HF.out).1; clear hn5 hl5 kp))
          | fail)
        all_goals
          go_wp2
          go_roundw
          case rel => exact ⟨k + 1, S5, _, by omega, by omega, by go_num, HL.out.write z (y1 : Int) x4, H5.out⟩
          case measure => simp [intOf]; omega
      · clear d0
        obtain ⟨y3, hy3⟩ : ∃ y3, y3 = pk x3 6 := ⟨_, rfl⟩
        have hb3 : y3 < 6 := by have := pk_lt (p := x3) (show 0 < 6 by omega); omega
        have P3 := num_pick x3 A3.out 6 (by omega) (by omega) wA.drew
        rw [← hy3] at P3
        have HP3 := Lib.hid P3
        clear P3 hy3
        obtain ⟨y1, hy1⟩ : ∃ y1, y1 = pk x1 4 := ⟨_, rfl⟩
        have hb1 : y1 < 4 := by have := pk_lt (p := x1) (show 0 < 4 by omega); omega
        have P1 := num_pick x1 A1.out 4 (by omega) (by omega) wA.drew
        rw [← hy1] at P1
        have HP1 := Lib.hid P1
        clear P1 hy1
        obtain ⟨z, hz⟩ : ∃ z, z = 1 + (y3 : Int) := ⟨_, rfl⟩
        have hz1 : 1 + (y3 : Int) = z := hz.symm
        have hz2 : (y3 : Int) + 1 = z := by omega
        have hz3 : 1 ≤ z := by omega
        have hz4 : z ≤ 6 := by omega
        have hz5 : IntKind.i64.wrap z = z := by simp [IntKind.wrap, IntKind.bits, IntKind.signed]; omega
        clear hz
        have HX := Lib.hid (write_any z (y1 : Int) x4 S b s wA.drew HND.out.p (by have := HL.out.its; omega) (by have := HL.out.puts; omega) (by have := HL.out.lks; omega))
        go_wp2
        go_region_held3 (fun w' => w'.cell? ⟨B, 1, none⟩ = some (.int .i64 x1) ∧ w'.cell? ⟨B, 3, none⟩ = some (.int .i64 x3) ∧ w'.cell? ⟨B, 4, none⟩ = some (.string x4)) (first | with_reducible exact ⟨d1, d3, d4⟩ | with_reducible exact ⟨e1, e3, e4⟩)
          (first
          | (go_at_call_of 18 (#[.int .i64 x3, .int .i64 6] : Array Value); (refine HP3.out.mono ?_; rintro e w9 ⟨rfl, rfl⟩))
          | (go_at_call_of 18 (#[.int .i64 x1, .int .i64 4] : Array Value); (refine HP1.out.mono ?_; rintro e w9 ⟨rfl, rfl⟩))
          | (go_at_call 22; (refine HX.out.mono ?_; rintro e w5 ⟨rfl, hl5⟩; obtain ⟨S5, hn5, kp, _⟩ := HND.out.step hl5; have H5 := Lib.hid hn5; have e1 := (kp.cell d1 HF.out).1; have e3 := (kp.cell d3 HF.out).1; have e4 := (kp.cell d4 HF.out).1; clear hn5 hl5 kp))
          | fail)
        all_goals
          go_wp2
          go_roundw
          case rel => exact ⟨k + 1, S5, _, by omega, by omega, by go_num, HL.out.write z (y1 : Int) x4, H5.out⟩
          case measure => simp [intOf]; omega
    · have hstop : (¬ k < n) ∨ (k < n ∧ ¬ k < 60) := by omega
      obtain ⟨K, hK⟩ : ∃ K, K = pk node 4 := ⟨_, rfl⟩
      have hKb : K < 4 := by have := pk_lt (p := node) (show 0 < 4 by omega); omega
      have P := num_pick node HNO.out 4 (by omega) (by omega) wr
      rw [← hK] at P
      have HP := Lib.hid P
      have hLk := HL.out.lks
      have LO := Lib.hid (lose_any (K : Int) S b s wr HN.out.p (by have := HL.out.its; omega) (by have := HL.out.puts; omega) (by omega))
      have hlen := lose_len s (K : Int)
      have hok2 := lost_ok HL.out.g HL.out.k3 (k := (K : Int))
      have HD : Hid (L2 (K : Int) 0 (loseS s (K : Int))) := Lib.hid ⟨good_lose HL.out.g, hok2, by have := HL.out.its; omega, by have := HL.out.puts; omega, by have := HL.out.opens; omega, by have := lose_dgs s (K : Int); have := HL.out.its; omega⟩
      clear P hK hlen hok2 hlt hbel
      rcases hstop with hstop | hstop
      · have q1 : decide ((k : Int) < (n : Int)) = false := by simp; omega
        go_wp2_with fail
        refine HP.out.mono ?_
        rintro e w2 ⟨rfl, rfl⟩
        go_wp2_with fail
        refine LO.out.mono ?_
        rintro e w3 ⟨rfl, hl3⟩
        obtain ⟨S3, hn3, _⟩ := HN.out.step hl3
        have H3 := Lib.hid hn3
        clear hl3 hn3 q1 hstop
        go_wp2
        go_loopw [10] (fun i wr => ∃ (j : Nat) (S : Nat → Prop) (s : St), i = .int .i64 (j : Int) ∧ L2 (K : Int) j s ∧ NP w.heap.size S w b s wr) (fun i _ => 100 - (intOf i).toNat)
        case atStart => exact ⟨0, S3, _, rfl, HD.out, H3.out⟩
        case round =>
          clear HN HL HD H3 LO HP
          obtain ⟨j, S, s, rfl, hl, hn⟩ := hrel
          obtain ⟨wo, hwo⟩ : ∃ wo, wo = wr := ⟨_, rfl⟩
          rw [← hwo] at hn ⊢
          have HL := Lib.hid hl
          have HN := Lib.hid hn
          have hj : j ≤ 60 := by have := hl.d; omega
          have q3 : (j : Int) < 100 := by omega
          have hDr := drop_any (j : Int) (by unfold I64; omega) S b s wo hn.p (by have := hl.its; omega)
          clear hl hn hwo
          cases ho : pick (dgs s) (j : Int) with
          | some x =>
            rw [ho] at hDr
            have HX := Lib.hid (HL.out.dropped (pick_mem ho))
            have HDr := Lib.hid hDr
            clear hDr ho
            go_wp2_with fail
            refine HDr.out.mono ?_
            rintro e w4 ⟨rfl, hl4⟩
            obtain ⟨S4, hn4, _⟩ := HN.out.step hl4
            have H4 := Lib.hid hn4
            clear hl4 hn4
            go_wp2
            go_roundw
            case rel => exact ⟨j + 1, S4, _, by go_num, HX.out, H4.out⟩
            case measure => simp [intOf]; omega
          | none =>
            rw [ho] at hDr
            have HZ := Lib.hid (HL.out.none (pick_none ho))
            have HDr := Lib.hid hDr
            clear hDr ho
            go_wp2_with fail
            refine HDr.out.mono ?_
            rintro e w4 ⟨rfl, hl4⟩
            obtain ⟨S4, hn4, _⟩ := HN.out.step hl4
            have H4 : Hid (NP w.heap.size S4 w b s w4) := Lib.hid hn4
            clear hl4 hn4 HN HL HDr
            go_wp2
            go_loopw [11] (fun i wr => ∃ (j : Nat) (S : Nat → Prop) (s : St), i = .int .i64 (j : Int) ∧ L3 (K : Int) j s ∧ NP w.heap.size S w b s wr) (fun i _ => 300 - (intOf i).toNat)
            case atStart => exact ⟨0, S4, _, rfl, HZ.out, H4.out⟩
            case round =>
              clear HZ H4
              obtain ⟨j, S, s, rfl, hl, hn⟩ := hrel
              obtain ⟨wu, hwu⟩ : ∃ wu, wu = wr := ⟨_, rfl⟩
              rw [← hwu] at hn ⊢
              have HL := Lib.hid hl
              have HN := Lib.hid hn
              have hj : j ≤ 120 := by have := hl.its; omega
              have q3 : (j : Int) < 300 := by omega
              have hTk := take_any (j : Int) (by unfold I64; omega) S b s wu hn.p hl.g (by have := hl.its; omega) (by have := hl.opens; omega)
              clear hl hn hwu
              cases ho : pick (ready s) (j : Int) with
              | none =>
                rw [ho] at hTk
                have HTk := Lib.hid hTk
                have hi0 := ready_nil_its (pick_none ho)
                have HI0 := Lib.hid hi0
                clear hTk ho hi0
                go_wp2_with fail
                refine HTk.out.mono ?_
                rintro e w5 ⟨rfl, hl5⟩
                obtain ⟨S5, hn5, _⟩ := HN.out.step hl5
                have H5 := Lib.hid (hn5.mv (w' := w5.alloc (.cells (ic zi).toArray 52)) ((Below.refl _ _).alloc (Nat.le_refl _) _))
                have W := waits_any S5 b s _ H5.out.p
                rw [HI0.out] at W
                have HW := Lib.hid W
                clear hl5 hn5 W
                go_wp2_with fail
                refine HW.out.mono ?_
                rintro e w6 ⟨rfl, rfl⟩
                go_wp2
                go_ret
                exact ⟨rfl, H5.out.bel⟩
              | some x =>
                rw [ho] at hTk
                have HTk := Lib.hid hTk
                have hmx := ready_mem (pick_mem ho)
                have HX := Lib.hid (HL.out.taken hmx)
                have hok3 := HL.out.ok x hmx
                have hkd := HL.out.nod x hmx
                have r1 : (x.kind == 1) = false := by simpa using hkd
                have r2 : (x.dst == (K : Int)) = false := by simpa using hok3.1
                have r3 := hok3.2
                obtain ⟨bb, hbb⟩ : ∃ bb, bb = (x.kind == 4) := ⟨_, rfl⟩
                rw [← hbb] at r3
                have r4 : (x.kind == 4) = bb := hbb.symm
                clear hTk ho hmx hok3 hkd hbb
                go_wp2_with fail
                refine HTk.out.mono ?_
                rintro e w5 ⟨rfl, hl5⟩
                obtain ⟨S5, hn5, _⟩ := HN.out.step hl5
                have H5 := Lib.hid (hn5.mv (w' := w5.alloc (.cells (ic x).toArray 52)) ((Below.refl _ _).alloc (Nat.le_refl _) _))
                clear hl5 hn5
                cases bb with
                | true =>
                  have r5 : x.frm = (K : Int) := by simpa using r3
                  have r6 : x.kind = 4 := by simpa using r4
                  go_wp2
                  go_roundw
                  case rel => exact ⟨j + 1, S5, _, by go_num, HX.out, by have h := H5.out; rw [show (ic x).toArray = #[.int .i64 x.num, .int .i64 x.kind, .int .i64 x.frm, .int .i64 x.dst, .int .i64 x.conn, .string x.body] from rfl, r5, r6] at h; exact h⟩
                  case measure => simp [intOf]; omega
                | false =>
                  go_wp2
                  go_roundw
                  case rel => exact ⟨j + 1, S5, _, by go_num, HX.out, H5.out⟩
                  case measure => simp [intOf]; omega
      · have q1 : (k : Int) < (n : Int) := by omega
        have q2 : decide ((k : Int) < 60) = false := by simp; omega
        have hs1 := hstop.1
        have hs2 := hstop.2
        clear hstop
        go_wp2_with fail
        refine HP.out.mono ?_
        rintro e w2 ⟨rfl, rfl⟩
        go_wp2_with fail
        refine LO.out.mono ?_
        rintro e w3 ⟨rfl, hl3⟩
        obtain ⟨S3, hn3, _⟩ := HN.out.step hl3
        have H3 := Lib.hid hn3
        clear hl3 hn3 q1 q2 hs1 hs2
        go_wp2
        go_loopw [10] (fun i wr => ∃ (j : Nat) (S : Nat → Prop) (s : St), i = .int .i64 (j : Int) ∧ L2 (K : Int) j s ∧ NP w.heap.size S w b s wr) (fun i _ => 100 - (intOf i).toNat)
        case atStart => exact ⟨0, S3, _, rfl, HD.out, H3.out⟩
        case round =>
          clear HN HL HD H3 LO HP
          obtain ⟨j, S, s, rfl, hl, hn⟩ := hrel
          obtain ⟨wo, hwo⟩ : ∃ wo, wo = wr := ⟨_, rfl⟩
          rw [← hwo] at hn ⊢
          have HL := Lib.hid hl
          have HN := Lib.hid hn
          have hj : j ≤ 60 := by have := hl.d; omega
          have q3 : (j : Int) < 100 := by omega
          have hDr := drop_any (j : Int) (by unfold I64; omega) S b s wo hn.p (by have := hl.its; omega)
          clear hl hn hwo
          cases ho : pick (dgs s) (j : Int) with
          | some x =>
            rw [ho] at hDr
            have HX := Lib.hid (HL.out.dropped (pick_mem ho))
            have HDr := Lib.hid hDr
            clear hDr ho
            go_wp2_with fail
            refine HDr.out.mono ?_
            rintro e w4 ⟨rfl, hl4⟩
            obtain ⟨S4, hn4, _⟩ := HN.out.step hl4
            have H4 := Lib.hid hn4
            clear hl4 hn4
            go_wp2
            go_roundw
            case rel => exact ⟨j + 1, S4, _, by go_num, HX.out, H4.out⟩
            case measure => simp [intOf]; omega
          | none =>
            rw [ho] at hDr
            have HZ := Lib.hid (HL.out.none (pick_none ho))
            have HDr := Lib.hid hDr
            clear hDr ho
            go_wp2_with fail
            refine HDr.out.mono ?_
            rintro e w4 ⟨rfl, hl4⟩
            obtain ⟨S4, hn4, _⟩ := HN.out.step hl4
            have H4 : Hid (NP w.heap.size S4 w b s w4) := Lib.hid hn4
            clear hl4 hn4 HN HL HDr
            go_wp2
            go_loopw [11] (fun i wr => ∃ (j : Nat) (S : Nat → Prop) (s : St), i = .int .i64 (j : Int) ∧ L3 (K : Int) j s ∧ NP w.heap.size S w b s wr) (fun i _ => 300 - (intOf i).toNat)
            case atStart => exact ⟨0, S4, _, rfl, HZ.out, H4.out⟩
            case round =>
              clear HZ H4
              obtain ⟨j, S, s, rfl, hl, hn⟩ := hrel
              obtain ⟨wu, hwu⟩ : ∃ wu, wu = wr := ⟨_, rfl⟩
              rw [← hwu] at hn ⊢
              have HL := Lib.hid hl
              have HN := Lib.hid hn
              have hj : j ≤ 120 := by have := hl.its; omega
              have q3 : (j : Int) < 300 := by omega
              have hTk := take_any (j : Int) (by unfold I64; omega) S b s wu hn.p hl.g (by have := hl.its; omega) (by have := hl.opens; omega)
              clear hl hn hwu
              cases ho : pick (ready s) (j : Int) with
              | none =>
                rw [ho] at hTk
                have HTk := Lib.hid hTk
                have hi0 := ready_nil_its (pick_none ho)
                have HI0 := Lib.hid hi0
                clear hTk ho hi0
                go_wp2_with fail
                refine HTk.out.mono ?_
                rintro e w5 ⟨rfl, hl5⟩
                obtain ⟨S5, hn5, _⟩ := HN.out.step hl5
                have H5 := Lib.hid (hn5.mv (w' := w5.alloc (.cells (ic zi).toArray 52)) ((Below.refl _ _).alloc (Nat.le_refl _) _))
                have W := waits_any S5 b s _ H5.out.p
                rw [HI0.out] at W
                have HW := Lib.hid W
                clear hl5 hn5 W
                go_wp2_with fail
                refine HW.out.mono ?_
                rintro e w6 ⟨rfl, rfl⟩
                go_wp2
                go_ret
                exact ⟨rfl, H5.out.bel⟩
              | some x =>
                rw [ho] at hTk
                have HTk := Lib.hid hTk
                have hmx := ready_mem (pick_mem ho)
                have HX := Lib.hid (HL.out.taken hmx)
                have hok3 := HL.out.ok x hmx
                have hkd := HL.out.nod x hmx
                have r1 : (x.kind == 1) = false := by simpa using hkd
                have r2 : (x.dst == (K : Int)) = false := by simpa using hok3.1
                have r3 := hok3.2
                obtain ⟨bb, hbb⟩ : ∃ bb, bb = (x.kind == 4) := ⟨_, rfl⟩
                rw [← hbb] at r3
                have r4 : (x.kind == 4) = bb := hbb.symm
                clear hTk ho hmx hok3 hkd hbb
                go_wp2_with fail
                refine HTk.out.mono ?_
                rintro e w5 ⟨rfl, hl5⟩
                obtain ⟨S5, hn5, _⟩ := HN.out.step hl5
                have H5 := Lib.hid (hn5.mv (w' := w5.alloc (.cells (ic x).toArray 52)) ((Below.refl _ _).alloc (Nat.le_refl _) _))
                clear hl5 hn5
                cases bb with
                | true =>
                  have r5 : x.frm = (K : Int) := by simpa using r3
                  have r6 : x.kind = 4 := by simpa using r4
                  go_wp2
                  go_roundw
                  case rel => exact ⟨j + 1, S5, _, by go_num, HX.out, by have h := H5.out; rw [show (ic x).toArray = #[.int .i64 x.num, .int .i64 x.kind, .int .i64 x.frm, .int .i64 x.dst, .int .i64 x.conn, .string x.body] from rfl, r5, r6] at h; exact h⟩
                  case measure => simp [intOf]; omega
                | false =>
                  go_wp2
                  go_roundw
                  case rel => exact ⟨j + 1, S5, _, by go_num, HX.out, H5.out⟩
                  case measure => simp [intOf]; omega
set_option maxRecDepth 100000 in
set_option maxHeartbeats 16000000 in
theorem lawLost_none (a : Option Addr) (cap : Nat) (node : Int) (hnode : I64 node) (w : World) :
    Calls Try.prog 8 #[.slice a 0 cap, .int .i64 node] w fun e w' => e = .returned (.bool true) ∧ Below w.heap.size w w' := by
  have HNO := Lib.hid hnode
  clear hnode
  go_enter Try.func8, Try.ntmps8
  go_wp2_with fail
  refine (awake_any w).mono ?_
  rintro e w0 ⟨rfl, hb0⟩
  go_wp2_with fail
  refine (new_any w0).mono ?_
  rintro e w1 ⟨rfl, hp1, hb1⟩
  obtain ⟨S1, hn1, _⟩ := NA.new hp1 hb1 hb0 hb0.size
  obtain ⟨b, hb'⟩ : ∃ b, b = w0.heap.size := ⟨_, rfl⟩
  have H1 : Hid (NP w.heap.size S1 w b St.empty w1) := Lib.hid (by rw [hb']; exact hn1)
  rw [← hb']
  clear hp1 hb1 hn1 hb' hb0
  go_wp2
  go_loopw [7] (fun i wr => i = .int .i64 0 ∧ NP w.heap.size S1 w b St.empty wr) (fun _ _ => 0)
  case atStart => exact ⟨rfl, H1.out⟩
  case round =>
    clear H1
    obtain ⟨rfl, hn⟩ := hrel
    have HN := Lib.hid hn
    have HL := Lib.hid l1_zero
    clear hn
    obtain ⟨S, hS⟩ : ∃ S, S = S1 := ⟨_, rfl⟩
    rw [← hS] at HN
    obtain ⟨s, hs⟩ : ∃ s, s = St.empty := ⟨_, rfl⟩
    rw [← hs] at HN HL
    clear hS hs
    obtain ⟨K, hK⟩ : ∃ K, K = pk node 4 := ⟨_, rfl⟩
    have hKb : K < 4 := by have := pk_lt (p := node) (show 0 < 4 by omega); omega
    have P := num_pick node HNO.out 4 (by omega) (by omega) wr
    rw [← hK] at P
    have HP := Lib.hid P
    have hLk := HL.out.lks
    have LO := Lib.hid (lose_any (K : Int) S b s wr HN.out.p (by have := HL.out.its; omega) (by have := HL.out.puts; omega) (by omega))
    have hlen := lose_len s (K : Int)
    have hok2 := lost_ok HL.out.g HL.out.k3 (k := (K : Int))
    have HD : Hid (L2 (K : Int) 0 (loseS s (K : Int))) := Lib.hid ⟨good_lose HL.out.g, hok2, by have := HL.out.its; omega, by have := HL.out.puts; omega, by have := HL.out.opens; omega, by have := lose_dgs s (K : Int); have := HL.out.its; omega⟩
    clear P hK hlen hok2
    · have q1 : (0 : Nat) = 0 := rfl
      have hstop := q1
      go_wp2_with fail
      refine HP.out.mono ?_
      rintro e w2 ⟨rfl, rfl⟩
      go_wp2_with fail
      refine LO.out.mono ?_
      rintro e w3 ⟨rfl, hl3⟩
      obtain ⟨S3, hn3, _⟩ := HN.out.step hl3
      have H3 := Lib.hid hn3
      clear hl3 hn3 q1 hstop
      go_wp2
      go_loopw [10] (fun i wr => ∃ (j : Nat) (S : Nat → Prop) (s : St), i = .int .i64 (j : Int) ∧ L2 (K : Int) j s ∧ NP w.heap.size S w b s wr) (fun i _ => 100 - (intOf i).toNat)
      case atStart => exact ⟨0, S3, _, rfl, HD.out, H3.out⟩
      case round =>
        clear HN HL HD H3 LO HP
        obtain ⟨j, S, s, rfl, hl, hn⟩ := hrel
        obtain ⟨wo, hwo⟩ : ∃ wo, wo = wr := ⟨_, rfl⟩
        rw [← hwo] at hn ⊢
        have HL := Lib.hid hl
        have HN := Lib.hid hn
        have hj : j ≤ 60 := by have := hl.d; omega
        have q3 : (j : Int) < 100 := by omega
        have hDr := drop_any (j : Int) (by unfold I64; omega) S b s wo hn.p (by have := hl.its; omega)
        clear hl hn hwo
        cases ho : pick (dgs s) (j : Int) with
        | some x =>
          rw [ho] at hDr
          have HX := Lib.hid (HL.out.dropped (pick_mem ho))
          have HDr := Lib.hid hDr
          clear hDr ho
          go_wp2_with fail
          refine HDr.out.mono ?_
          rintro e w4 ⟨rfl, hl4⟩
          obtain ⟨S4, hn4, _⟩ := HN.out.step hl4
          have H4 := Lib.hid hn4
          clear hl4 hn4
          go_wp2
          go_roundw
          case rel => exact ⟨j + 1, S4, _, by go_num, HX.out, H4.out⟩
          case measure => simp [intOf]; omega
        | none =>
          rw [ho] at hDr
          have HZ := Lib.hid (HL.out.none (pick_none ho))
          have HDr := Lib.hid hDr
          clear hDr ho
          go_wp2_with fail
          refine HDr.out.mono ?_
          rintro e w4 ⟨rfl, hl4⟩
          obtain ⟨S4, hn4, _⟩ := HN.out.step hl4
          have H4 : Hid (NP w.heap.size S4 w b s w4) := Lib.hid hn4
          clear hl4 hn4 HN HL HDr
          go_wp2
          go_loopw [11] (fun i wr => ∃ (j : Nat) (S : Nat → Prop) (s : St), i = .int .i64 (j : Int) ∧ L3 (K : Int) j s ∧ NP w.heap.size S w b s wr) (fun i _ => 300 - (intOf i).toNat)
          case atStart => exact ⟨0, S4, _, rfl, HZ.out, H4.out⟩
          case round =>
            clear HZ H4
            obtain ⟨j, S, s, rfl, hl, hn⟩ := hrel
            obtain ⟨wu, hwu⟩ : ∃ wu, wu = wr := ⟨_, rfl⟩
            rw [← hwu] at hn ⊢
            have HL := Lib.hid hl
            have HN := Lib.hid hn
            have hj : j ≤ 120 := by have := hl.its; omega
            have q3 : (j : Int) < 300 := by omega
            have hTk := take_any (j : Int) (by unfold I64; omega) S b s wu hn.p hl.g (by have := hl.its; omega) (by have := hl.opens; omega)
            clear hl hn hwu
            cases ho : pick (ready s) (j : Int) with
            | none =>
              rw [ho] at hTk
              have HTk := Lib.hid hTk
              have hi0 := ready_nil_its (pick_none ho)
              have HI0 := Lib.hid hi0
              clear hTk ho hi0
              go_wp2_with fail
              refine HTk.out.mono ?_
              rintro e w5 ⟨rfl, hl5⟩
              obtain ⟨S5, hn5, _⟩ := HN.out.step hl5
              have H5 := Lib.hid (hn5.mv (w' := w5.alloc (.cells (ic zi).toArray 52)) ((Below.refl _ _).alloc (Nat.le_refl _) _))
              have W := waits_any S5 b s _ H5.out.p
              rw [HI0.out] at W
              have HW := Lib.hid W
              clear hl5 hn5 W
              go_wp2_with fail
              refine HW.out.mono ?_
              rintro e w6 ⟨rfl, rfl⟩
              go_wp2
              go_ret
              exact ⟨rfl, H5.out.bel⟩
            | some x =>
              rw [ho] at hTk
              have HTk := Lib.hid hTk
              have hmx := ready_mem (pick_mem ho)
              have HX := Lib.hid (HL.out.taken hmx)
              have hok3 := HL.out.ok x hmx
              have hkd := HL.out.nod x hmx
              have r1 : (x.kind == 1) = false := by simpa using hkd
              have r2 : (x.dst == (K : Int)) = false := by simpa using hok3.1
              have r3 := hok3.2
              obtain ⟨bb, hbb⟩ : ∃ bb, bb = (x.kind == 4) := ⟨_, rfl⟩
              rw [← hbb] at r3
              have r4 : (x.kind == 4) = bb := hbb.symm
              clear hTk ho hmx hok3 hkd hbb
              go_wp2_with fail
              refine HTk.out.mono ?_
              rintro e w5 ⟨rfl, hl5⟩
              obtain ⟨S5, hn5, _⟩ := HN.out.step hl5
              have H5 := Lib.hid (hn5.mv (w' := w5.alloc (.cells (ic x).toArray 52)) ((Below.refl _ _).alloc (Nat.le_refl _) _))
              clear hl5 hn5
              cases bb with
              | true =>
                have r5 : x.frm = (K : Int) := by simpa using r3
                have r6 : x.kind = 4 := by simpa using r4
                go_wp2
                go_roundw
                case rel => exact ⟨j + 1, S5, _, by go_num, HX.out, by have h := H5.out; rw [show (ic x).toArray = #[.int .i64 x.num, .int .i64 x.kind, .int .i64 x.frm, .int .i64 x.dst, .int .i64 x.conn, .string x.body] from rfl, r5, r6] at h; exact h⟩
                case measure => simp [intOf]; omega
              | false =>
                go_wp2
                go_roundw
                case rel => exact ⟨j + 1, S5, _, by go_num, HX.out, H5.out⟩
                case measure => simp [intOf]; omega
theorem lawLost_any (a : Option Addr) (n cap : Nat) (node : Int) (hnode : I64 node) (w : World) (h : Calld w a n) :
    Calls Try.prog 8 #[.slice a n cap, .int .i64 node] w fun e w' => e = .returned (.bool true) ∧ Below w.heap.size w w' := by
  rcases h with rfl | ⟨b, off, os, rfl, hb, hok, hc⟩
  · exact lawLost_none a cap node hnode w
  · exact lawLost_some b off n cap os node hnode w hb hok hc
end Go.Proofs.Ytocmgdhhlofajaa

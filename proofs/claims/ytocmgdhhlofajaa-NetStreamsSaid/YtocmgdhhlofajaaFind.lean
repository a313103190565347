/-
  What other, find and Peer answer, the program's and the document's; all else is as it was.
-/
import Derived.Test.YtocmgdhhlofajaaRes
namespace Go.Proofs.Ytocmgdhhlofajaa
open Go.RowKit
/-- A connection as an argument. -/
abbrev la (l : Lk) : Value := .agg #[.int .i64 l.num, .int .i64 l.a, .int .i64 l.b]
theorem info3 : (Try.prog.info? 3).map (fun i => (i.zero, i.size, i.bytes)) = some (some (.int .i64 0), 1, 8) := by kernel_rfl
theorem index48 (a b : Int) (w : World) : (Instr.index 48 (.agg #[.int .i64 a, .int .i64 b]) (.int .i64 0)).run Try.prog w = .ok (.int .i64 a) w ∧ (Instr.index 48 (.agg #[.int .i64 a, .int .i64 b]) (.int .i64 1)).run Try.prog w = .ok (.int .i64 b) w := by
  obtain ⟨i0, hi, hz0, hz1, hz2⟩ := info_parts info3
  constructor <;> simp [Instr.index, asIntOf, run_underlying Try.underlying48, sizeOf, typeInfo, hi, hz1, part]
set_option maxRecDepth 100000 in
set_option maxHeartbeats 1600000 in
theorem other_any (l : Lk) (n : Int) (w : World) :
    Calls Try.prog 36 #[la l, .int .i64 n] w fun e w' => e = .returned (.tuple #[.int .i64 ((otherL l n).getD 0), .bool (otherL l n).isSome]) ∧ Below w.heap.size w w' := by
  obtain ⟨x, a, b⟩ := l
  have hb : Below w.heap.size w (w.alloc (.cells #[.int .i64 x, .int .i64 a, .int .i64 b] 64)) := (Below.refl _ w).alloc (Nat.le_refl _) _
  have HB := Lib.hid hb
  have hx0 := fun w => (index48 a b w).1
  have hx1 := fun w => (index48 a b w).2
  clear hb
  unfold otherL
  by_cases h1 : a = n
  · subst h1
    simp only [if_true]
    go_enter Try.func36, Try.ntmps36
    go_wp2
    refine wp_loop_rounds 3 ?_
    rw [rounds_succ]
    go_wp2
    go_ret2
    exact ⟨rfl, HB.out⟩
  · have q1 : (a == n) = false := by simpa using h1
    by_cases h2 : b = n
    · subst h2
      simp only [if_neg h1, if_true]
      go_enter Try.func36, Try.ntmps36
      go_wp2
      refine wp_loop_rounds 3 ?_
      rw [rounds_succ]
      go_wp2
      rw [rounds_succ]
      go_wp2
      go_ret2
      exact ⟨rfl, HB.out⟩
    · have q2 : (b == n) = false := by simpa using h2
      simp only [if_neg h1, if_neg h2]
      go_enter Try.func36, Try.ntmps36
      go_wp2
      refine wp_loop_rounds 3 ?_
      rw [rounds_succ]
      go_wp2
      rw [rounds_succ]
      go_wp2
      rw [rounds_succ]
      go_wp2
      go_ret2
      exact ⟨rfl, HB.out⟩
theorem findL_nil (c : Int) : findL [] c = none := rfl
theorem findL_take {ls : List Lk} {c : Int} {k : Nat} {l : Lk} (h : findL (ls.take k) c = none) (hl : ls[k]? = some l) : (l.num = c → findL ls c = some l) ∧ (l.num ≠ c → findL (ls.take (k + 1)) c = none) := by
  unfold findL at *
  constructor
  · intro e
    rw [← List.take_append_drop k ls, List.find?_append, h, List.drop_eq_getElem_cons (List.getElem?_eq_some_iff.1 hl).1, (List.getElem?_eq_some_iff.1 hl).2]
    simp [e]
  · intro e
    rw [List.take_add_one, hl, List.find?_append, h]
    simp [e]
theorem findL_all {ls : List Lk} {c : Int} {k : Nat} (h : findL (ls.take k) c = none) (hk : ls.length ≤ k) : findL ls c = none := by rwa [List.take_of_length_le hk] at h
abbrev zl : Lk := ⟨0, 0, 0⟩
set_option maxRecDepth 100000 in
set_option maxHeartbeats 4000000 in
theorem find_any (c : Int) (S : Nat → Prop) (b : Nat) (s : St) (w : World) (h : Pn S b s w) (hB : s.lks.length ≤ 1000000) :
    Calls Try.prog 35 #[ptr b, .int .i64 c] w fun e w' => e = .returned (.tuple #[la ((findL s.lks c).getD zl), .bool (findL s.lks c).isSome]) ∧ Below w.heap.size w w' := by
  obtain ⟨vi, vl, hp⟩ := h
  have c1 := hp.c1
  have hbl := hp.lt
  obtain ⟨a, cap, rfl, hcap, _⟩ := hp.rl.shape
  have hcells := fun h => hp.rl.cells lc_len h
  clear hp
  generalize s.lks = ls at *
  obtain ⟨n, hn⟩ : ∃ n, n = ls.length := ⟨_, rfl⟩
  rw [← hn] at c1 hB hcap
  have HN := Lib.hid hn
  have HC := Lib.hid hcells
  rw [← hn] at HC
  have hb0 : Below w.heap.size w (w.alloc (.cells #[.int .i64 0, .int .i64 0, .int .i64 0] 64)) := (Below.refl _ w).alloc (Nat.le_refl _) _
  have hce0 := ce_new w #[.int .i64 0, .int .i64 0, .int .i64 0] 64
  obtain ⟨w1, hw1⟩ : ∃ w1, w1 = w.alloc (.cells #[.int .i64 0, .int .i64 0, .int .i64 0] 64) := ⟨_, rfl⟩
  rw [← hw1] at hb0 hce0
  have hc1' : w1.cell? ⟨b, 1, none⟩ = some (.slice a n cap) := (hb0.cell (p := ⟨b, 1, none⟩) hbl).trans c1
  have HB0 := Lib.hid hb0
  have HE0 := Lib.hid hce0
  clear hn hcells hb0 hce0 c1
  go_enter Try.func35, Try.ntmps35
  go_upto_region 1 with fail
  rw [← hw1]
  obtain ⟨B0, hB0⟩ : ∃ B0, B0 = w.heap.size := ⟨_, rfl⟩
  rw [← hB0] at HE0 ⊢
  have HBE := Lib.hid hB0
  have hb01 : B0 < w1.heap.size := HE0.out.lt
  clear hw1 hB0
  go_wp2
  go_loopw [16] (fun i wr => ∃ k : Nat, k ≤ n ∧ i = .int .i64 k ∧ findL (ls.take k) c = none ∧ Below w.heap.size w wr ∧ Ce wr B0 64 #[.int .i64 0, .int .i64 0, .int .i64 0]) (fun i _ => n - (intOf i).toNat)
  case atStart => exact ⟨0, by omega, rfl, rfl, HB0.out, HE0.out⟩
  case round =>
    obtain ⟨k, hk, rfl, hf, hbel, hce⟩ := hrel
    have HF := Lib.hid hf
    have HBL := Lib.hid hbel
    have HCE := Lib.hid hce
    have hBr := hce.lt
    clear hf hbel hce
    by_cases hlt : k < n
    · have q1 : (k : Int) < (n : Int) := by omega
      obtain ⟨g, cap', e, _, hg, hcell⟩ := HC.out (by omega)
      injection e with e1 e2 e3
      subst e1
      obtain ⟨l, hl⟩ : ∃ l, ls[k]? = some l := ⟨_, List.getElem?_eq_getElem (by rw [← HN.out]; exact hlt)⟩
      have hgr := Nat.lt_of_lt_of_le hg HBL.out.size
      have c0 : wr.cell? ⟨g, k * 3, none⟩ = some (.int .i64 l.num) := (HBL.out.cell (p := ⟨g, k * 3, none⟩) hg).trans (hcell k l hl 0 _ rfl)
      have c1 : wr.cell? ⟨g, k * 3 + 1, none⟩ = some (.int .i64 l.a) := (HBL.out.cell (p := ⟨g, k * 3 + 1, none⟩) hg).trans (hcell k l hl 1 _ rfl)
      have c2 : wr.cell? ⟨g, k * 3 + 2, none⟩ = some (.int .i64 l.b) := (HBL.out.cell (p := ⟨g, k * 3 + 2, none⟩) hg).trans (hcell k l hl 2 _ rfl)
      have FT := Lib.hid (findL_take HF.out hl)
      obtain ⟨z0, z1, z2⟩ := c3 HCE.out
      obtain ⟨y0, y1, y2⟩ := f3 HCE.out
      have hbn : B0 ≠ wr.heap.size := by omega
      clear hcell hl e2 e3
      by_cases hc : l.num = c
      · have FE := Lib.hid (FT.out.1 hc)
        subst hc
        go_wp2
        have HZ : Hid (Ce ((set3 wr B0 (.int .i64 l.num) (.int .i64 l.a) (.int .i64 l.b)).alloc (.cells #[.int .i64 l.num, .int .i64 l.a, .int .i64 l.b] 64)) B0 64 #[.int .i64 l.num, .int .i64 l.a, .int .i64 l.b]) := Lib.hid ((set3_ce HCE.out).alloc _)
        have hzb := set3_below HBL.out (Nat.le_of_eq HBE.out.symm) (.int .i64 l.num) (.int .i64 l.a) (.int .i64 l.b)
        have HZB := Lib.hid (hzb.alloc hzb.size (.cells #[.int .i64 l.num, .int .i64 l.a, .int .i64 l.b] 64))
        refine bodyPost_ret (res3t rfl rfl HZ.out) rfl ?_
        exact ⟨by rw [FE.out]; rfl, HZB.out⟩
      · have FE := Lib.hid (FT.out.2 hc)
        have q2 : (l.num == c) = false := by simpa using hc
        go_wp2
        go_roundw
        case rel => exact ⟨k + 1, by omega, by go_num, FE.out, HBL.out.alloc HBL.out.size _, HCE.out.alloc _⟩
        case measure => simp [intOf]; omega
    · have q1 : decide ((k : Int) < (n : Int)) = false := by simp; omega
      have FE := Lib.hid (findL_all HF.out (by rw [← HN.out]; omega))
      obtain ⟨z0, z1, z2⟩ := c3 HCE.out
      obtain ⟨y0, y1, y2⟩ := f3 HCE.out
      go_wp2
      have HZ : Hid (Ce (set3 wr B0 (.int .i64 0) (.int .i64 0) (.int .i64 0)) B0 64 #[.int .i64 0, .int .i64 0, .int .i64 0]) := Lib.hid (set3_ce HCE.out)
      have HZB := Lib.hid (set3_below HBL.out (Nat.le_of_eq HBE.out.symm) (.int .i64 0) (.int .i64 0) (.int .i64 0))
      refine bodyPost_ret (res3t rfl rfl HZ.out) rfl ?_
      exact ⟨by rw [FE.out]; rfl, HZB.out⟩
set_option maxRecDepth 100000 in
set_option maxHeartbeats 4000000 in
theorem peer_any (c n : Int) (S : Nat → Prop) (b : Nat) (s : St) (w : World) (h : Pn S b s w) (hB : s.lks.length ≤ 1000000) :
    Calls Try.prog 12 #[ptr b, .int .i64 c, .int .i64 n] w fun e w' => e = .returned (.tuple #[.int .i64 ((peerS s c n).getD 0), .bool (peerS s c n).isSome]) ∧ Below w.heap.size w w' := by
  have F := find_any c S b s w h hB
  unfold peerS
  generalize findL s.lks c = o at *
  clear h hB
  have HF := Lib.hid F
  clear F
  cases o with
  | none =>
    go_enter Try.func12, Try.ntmps12
    go_wp2_with fail
    refine HF.out.mono ?_
    rintro e w1 ⟨rfl, hb1⟩
    have HB1 := Lib.hid hb1
    clear hb1
    go_wp2
    go_ret2
    exact ⟨rfl, HB1.out.alloc HB1.out.size _⟩
  | some l =>
    go_enter Try.func12, Try.ntmps12
    go_wp2_with fail
    refine HF.out.mono ?_
    rintro e w1 ⟨rfl, hb1⟩
    have HB1 := Lib.hid hb1
    clear hb1
    go_wp2_with fail
    refine (other_any l n _).mono ?_
    rintro e w2 ⟨rfl, hb2⟩
    have HB2 := Lib.hid hb2
    clear hb2
    go_wp2
    go_ret2
    exact ⟨rfl, (HB1.out.alloc HB1.out.size _).trans (HB2.out.mono (HB1.out.alloc HB1.out.size _).size)⟩
end Go.Proofs.Ytocmgdhhlofajaa

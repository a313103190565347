/-
  What the document's take leaves.
-/
import Derived.Test.YtocmgdhhlofajaaRList
namespace Go.Proofs.Ytocmgdhhlofajaa
open Go.RowKit
theorem drewN_cell (w : World) (p : Addr) : ∀ n, (w.drewN n).cell? p = w.cell? p
  | 0 => rfl
  | n + 1 => drewN_cell w p n
theorem row_slice {w : World} {base e size n : Nat} {v : Value} {xs : List Value} (h : w.ownsRow base e size v n xs) : ∃ a c, v = .slice a n c := by
  rcases h.2 with ⟨rfl, rfl⟩ | ⟨g, cap, cur, rfl, _⟩
  · exact ⟨none, 0, rfl⟩
  · exact ⟨_, cap, rfl⟩
set_option maxRecDepth 100000 in
set_option maxHeartbeats 4000000 in
theorem rtake_any (y : It) (S : Nat → Prop) (b : Nat) (s : St) (w : World) (h : Rn S b s w) (hB : s.its.length ≤ 1000000) :
    Calls Try.prog 55 #[ptr b, ia y] w fun e w' => (∃ v, e = .returned v) ∧ Rl S b (without s y) w w' := by
  obtain ⟨vi, vl, hp⟩ := h
  have c0 := hp.c0
  have f0 := hp.fz 0 (by omega)
  have hbl := hp.lt
  have hrow := hp.ri
  have hcells := fun h => hrow.cells ic_len h
  have hpv := hp
  obtain ⟨a, cap, rfl, _, _⟩ := hp.ri.shape
  unfold without
  have HPV : Hid (∀ X v' w1, Below w.heap.size w w1 → w1.ownsRow w.heap.size 52 6 v' X.length (cs ic X) → Rl S b ⟨X, s.lks, s.puts, s.opens⟩ w (w1.setCell ⟨b, 0, none⟩ v')) := Lib.hid (fun X v' w1 hb hr => ⟨⟨_, _, hp.cell_i ⟨hb.os, hb.tape, hb.output, hb.size, fun k hk _ => hb.block k hk⟩ (own_mono hr (Nat.zero_le _)) (fun k hk => .inr (World.ownsRow.lt hr k hk).1)⟩, (Tr.of_below hb).setCell (.inl hp.own) _⟩)
  clear hp hpv
  generalize s.its = X at *
  obtain ⟨n, hn⟩ : ∃ n, n = X.length := ⟨_, rfl⟩
  rw [← hn] at c0 hB hcells
  have HN := Lib.hid hn
  have HCE := Lib.hid hcells
  have HC0 := Lib.hid c0
  have HF0 := Lib.hid f0
  have hce := ce_new w (ic y).toArray 52
  have hbe : Below w.heap.size w (w.alloc (.cells (ic y).toArray 52)) := (Below.refl _ w).alloc (Nat.le_refl _) _
  obtain ⟨w1, hw1⟩ : ∃ w1, w1 = w.alloc (.cells (ic y).toArray 52) := ⟨_, rfl⟩
  rw [← hw1] at hce hbe
  have HB1 := Lib.hid hbe
  have HE1 := Lib.hid hce
  have HW1 := Lib.hid hw1
  obtain ⟨i0, hi, hz0, hz1, hz2⟩ := info_parts info52
  clear hrow hcells hn c0 f0 hce hbe hw1
  go_enter Try.func55, Try.ntmps55
  go_upto_region 1 with fail
  rw [show w.alloc (.cells #[.int .i64 y.num, .int .i64 y.kind, .int .i64 y.frm, .int .i64 y.dst, .int .i64 y.conn, .string y.body] 52) = w1 from HW1.out.symm]
  obtain ⟨B, hB'⟩ : ∃ B, B = w.heap.size := ⟨_, rfl⟩
  rw [← hB'] at HE1 ⊢
  have HBB := Lib.hid hB'
  clear hB'
  go_wp2
  go_loopw [4, 5] (fun v i wr => ∃ k : Nat, k ≤ n ∧ i = .int .i64 (k : Int) ∧ wr.ownsRow (B + 1) 52 6 v ((X.take k).filter (fun z => !(z.num == y.num))).length (cs ic ((X.take k).filter (fun z => !(z.num == y.num)))) ∧ Below w.heap.size w wr ∧ wr.cell? ⟨B, 0, none⟩ = some (.int .i64 y.num)) (fun _ i _ => n - (intOf i).toNat)
  case atStart => exact ⟨0, by omega, rfl, World.ownsRow_nil _ _ _ _, HB1.out, by rw [HE1.out.cell]; rfl⟩
  case round =>
    obtain ⟨k, hk, rfl, hown, hbw, hBy⟩ := hrel
    have HOW := Lib.hid hown
    have HBW := Lib.hid hbw
    have hsz := hbw.size
    have c0 := (hbw.cell (p := ⟨b, 0, none⟩) hbl).trans HC0.out
    have f0 : wr.frozen? ⟨b, 0, none⟩ = false := (World.frozen?_of_block (hbw.block b hbl)).trans HF0.out
    have hcl := List.length_filter_le (fun z : It => !(z.num == y.num)) (X.take k)
    rw [List.length_take] at hcl
    obtain ⟨m, hm⟩ : ∃ m, m = ((X.take k).filter (fun z : It => !(z.num == y.num))).length := ⟨_, rfl⟩
    rw [← hm] at HOW hcl
    have HM := Lib.hid hm
    have hmb : m ≤ 1000000 := by omega
    clear hown hbw hm hcl
    by_cases hlt : k < n
    · have q1 : (k : Int) < (n : Int) := by omega
      obtain ⟨g, cap', e, _, hg, hcell⟩ := HCE.out (by omega)
      injection e with e1 e2 e3
      subst e1
      obtain ⟨x, hx⟩ : ∃ x, X[k]? = some x := ⟨_, List.getElem?_eq_getElem (by rw [← HN.out]; exact hlt)⟩
      have HCR := Lib.hid (show ∀ j u, (ic x)[j]? = some u → wr.cell? ⟨g, k * 6 + j, none⟩ = some u from fun j u hu => (HBW.out.cell (p := ⟨g, k * 6 + j, none⟩) hg).trans (hcell k x hx j u hu))
      have d0 : wr.cell? ⟨g, k * 6, none⟩ = some (.int .i64 x.num) := HCR.out 0 _ rfl
      have CT := Lib.hid (filter_take (f := fun z : It => !(z.num == y.num)) hx)
      clear hcell hx e2 e3 f0
      have HBY := Lib.hid hBy
      go_upto_region 5 with fail
      go_quiet (fail)
      obtain ⟨wq, hwq⟩ : ∃ wq, wq = wr.drewN nq := ⟨_, rfl⟩
      rw [← hwq]
      have hbq : Below w.heap.size w wq := by rw [hwq]; exact HBW.out.trans ((below_drewN wr nq).mono hsz)
      have hqr : ∀ p, wq.cell? p = wr.cell? p := by rw [hwq]; exact fun p => drewN_cell wr p nq
      have HQB := Lib.hid hbq
      have HOQ : Hid (wq.ownsRow (B + 1) 52 6 u4 m (cs ic ((X.take k).filter (fun z : It => !(z.num == y.num))))) := Lib.hid (own_tr HOW.out (S := fun _ => False) (by rw [hwq]; exact Tr.of_below (below_drewN wr nq)) (fun _ _ h => h))
      have hszq := hbq.size
      have hBw : B < wr.heap.size := wr.block_lt_of_cell? _ HBY.out
      have hBq : B + 1 ≤ wq.heap.size := by have := (below_drewN wr nq).size; rw [← hwq] at this; omega
      have HBYQ := Lib.hid ((hqr _).trans HBY.out)
      have HHQ := Lib.hid hqr
      have c0q := (hqr _).trans c0
      clear c0 d0 hBy hbq hqr hwq
      by_cases hxd : x.num = y.num
      · have hq0 : (X.take (k + 1)).filter (fun z : It => !(z.num == y.num)) = (X.take k).filter (fun z : It => !(z.num == y.num)) := by rw [CT.out]; simp [hxd]
        have HQ0 := Lib.hid hq0
        have qx : (x.num != y.num) = false := by simpa using hxd
        clear hq0 hxd
        rw [qx]
        go_wp2
        go_roundw
        case rel => exact ⟨k + 1, by omega, by go_num, by rw [HQ0.out, ← HM.out]; exact HOQ.out, HQB.out, HBYQ.out⟩
        case measure => simp [intOf]; omega
      · have hq0 : (X.take (k + 1)).filter (fun z : It => !(z.num == y.num)) = (X.take k).filter (fun z : It => !(z.num == y.num)) ++ [x] := by rw [CT.out]; simp [hxd]
        have HQ0 := Lib.hid hq0
        have qx : (x.num != y.num) = true := by simpa using hxd
        have d0 : wq.cell? ⟨g, k * 6, none⟩ = some (.int .i64 x.num) := (HHQ.out _).trans (HCR.out 0 _ rfl)
        have d1 : wq.cell? ⟨g, k * 6 + 1, none⟩ = some (.int .i64 x.kind) := (HHQ.out _).trans (HCR.out 1 _ rfl)
        have d2 : wq.cell? ⟨g, k * 6 + 2, none⟩ = some (.int .i64 x.frm) := (HHQ.out _).trans (HCR.out 2 _ rfl)
        have d3 : wq.cell? ⟨g, k * 6 + 3, none⟩ = some (.int .i64 x.dst) := (HHQ.out _).trans (HCR.out 3 _ rfl)
        have d4 : wq.cell? ⟨g, k * 6 + 4, none⟩ = some (.int .i64 x.conn) := (HHQ.out _).trans (HCR.out 4 _ rfl)
        have d5 : wq.cell? ⟨g, k * 6 + 5, none⟩ = some (.string x.body) := (HHQ.out _).trans (HCR.out 5 _ rfl)
        clear hq0 hxd
        rw [qx]
        clear qx
        go_wp2_with (at_builtin; refine wpList_append_own _ rfl (.tmp 26) (.tmp 34) 27 rfl (B + 1) 52 i0 _ 6 56 Try.underlying27 hi hz0 hz1 hz2 rfl (by decide) _ m _ rfl (HOQ.out.alloc _) ⟨wq.heap.size, 0, none⟩ 1 1 (ic x) rfl rfl (fun j u hj => World.news_of_block (cs := (ic x).toArray) (t := 52) (fr := (0, 0)) (heap_alloc_new wq _) j u (by simpa using hj)) (by simp [Value.oneCell']) (by unfold maxLen; omega) (by omega) (by simp; omega) ?_)
        intro v4 w4 hown4 hg4 _
        have HB4 := Lib.hid (app_below HQB.out hg4 (own_mono HOQ.out (by have := HBB.out; omega)))
        have HO4 := Lib.hid (one_more HM.out hown4)
        have HY4 : Hid (w4.cell? ⟨B, 0, none⟩ = some (.int .i64 y.num)) := Lib.hid (by
          have hBl : B < wq.heap.size := wq.block_lt_of_cell? _ HBYQ.out
          have h1 : w4.heap[B]? = (wq.alloc (.cells (ic x).toArray 52)).heap[B]? := hg4.block B (by simp; omega) (fun e => by have := (World.ownsRow.lt HOQ.out B e.symm).1; omega)
          exact ((World.cell?_of_block (a := ⟨B, 0, none⟩) h1).trans (World.cell?_of_block (a := ⟨B, 0, none⟩) (((Below.refl _ wq).alloc (Nat.le_refl _) _).block B hBl))).trans HBYQ.out)
        clear hown4 hg4 d0 d1 d2 d3 d4 d5 c0q
        go_wp2
        go_roundw
        case rel => exact ⟨k + 1, by omega, by go_num, by rw [HQ0.out]; exact HO4.out, HB4.out, HY4.out⟩
        case measure => simp [intOf]; omega
    · have q1 : decide ((k : Int) < (n : Int)) = false := by simp; omega
      obtain rfl : k = n := by omega
      have e1 : X.take k = X := by rw [HN.out, List.take_length]
      rw [e1] at HOW HM
      obtain ⟨av, cv, rfl⟩ := row_slice HOW.out
      have HZ := Lib.hid (HPV.out _ _ _ HBW.out (by rw [← HM.out]; exact own_mono HOW.out (by have := HBB.out; omega)))
      clear hBy
      go_wp2
      go_end0
      exact ⟨⟨_, rfl⟩, HZ.out⟩
end Go.Proofs.Ytocmgdhhlofajaa

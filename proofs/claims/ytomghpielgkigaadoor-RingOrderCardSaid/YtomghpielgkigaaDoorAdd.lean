/-
  What the hasher's add does, for any part: the hasher has then taken the part too; no other older memory is changed.
-/
import Derived.Test.YtomghpielgkigaaDoorHashMath
import Derived.Test.YtomghpielgkigaaDoorCompress
import Derived.RegionTactic
namespace Go.Proofs.YtomghpielgkigaaDoor
open Go.RowKit

theorem extract_rest (r : ByteArray) (n : Nat) : (r.extract n r.size).data.toList = r.data.toList.drop n := by
  rw [Lib.extract_data, List.take_of_length_le]
  rw [List.length_drop, ← Lib.size_eq]
  exact Nat.le_refl _
theorem hl_set72 {w : World} {hb : Nat} {S B : List Int} {u v : Int} (hS : S.length = 8) (hB : B.length = 64) (h : w.heap[hb]? = some (.cells (hl S B u).toArray 82 (0, 0))) :
    (w.setCell ⟨hb, 72, none⟩ (.int .i64 v)).heap[hb]? = some (.cells (hl S B v).toArray 82 (0, 0)) := by
  rw [heap_setCell_same w hb 72 _ _ _ h, List.setIfInBounds_toArray, hl_set_u S B u v hS hB]
theorem load_S {w : World} {hb : Nat} {S B : List Int} {u : Int} (hS : S.length = 8) (h : w.heap[hb]? = some (.cells (hl S B u).toArray 82 (0, 0))) :
    (Instr.loadAt 79 (.pointer (some ⟨hb, 0, none⟩))).run Tryd.prog w = .ok (.agg (ua S)) w :=
  run_loadAt_mid w hb 0 79 (S.map (Value.int .u32)) (.array 8 78) (fun j v hj => by rw [cell_of_row w hb _ _ _ _ h, List.getElem?_toArray]; exact hl_range_S S B u j v hj) und28 rfl (by rw [info28, List.length_map, hS])
theorem load_B {w : World} {hb : Nat} {S B : List Int} {u : Int} (hS : S.length = 8) (hB : B.length = 64) (h : w.heap[hb]? = some (.cells (hl S B u).toArray 82 (0, 0))) :
    (Instr.loadAt 80 (.pointer (some ⟨hb, 8, none⟩))).run Tryd.prog w = .ok (.agg (ub B)) w :=
  run_loadAt_mid w hb 8 80 (B.map (Value.int .u8)) (.array 64 5) (fun j v hj => by rw [cell_of_row w hb _ _ _ _ h, List.getElem?_toArray]; exact hl_range_B S B u hS j v hj) und50 rfl (by rw [info50, List.length_map, hB])

theorem store_S {w : World} {hb : Nat} {S B C : List Int} {u : Int} (hS : S.length = 8) (hC : C.length = 8) (hB : B.length = 64) (h : w.heap[hb]? = some (.cells (hl S B u).toArray 82 (0, 0))) :
    (Instr.storeAt 79 (.pointer (some ⟨hb, 0, none⟩)) (.agg (ua C))).run Tryd.prog w = .ok () (w.setRow hb (hl C B u).toArray) := by
  have h1 := run_storeCells_at Tryd.prog hb 0 82 (ui C) 0 (hl S B u).toArray w h (by simp [ui, hC, hl_length S B u hS hB]) ui_one
  have hsp := splice_hl_S S C B u hS hC
  have e1 : ((hl S B u).toArray.toList.take (0 + 0) ++ ui C ++ (hl S B u).toArray.toList.drop (0 + 0 + (ui C).length)).toArray = (hl C B u).toArray := by
    rw [← hsp]; simp [splice, ui]
  rw [e1] at h1
  cases hq : Tryd.prog.info? 79 with
  | none => have := info28; simp [hq] at this
  | some i =>
    have hs : i.size = 8 := by have := info28; simpa [hq] using this
    simp only [Instr.storeAt, Instr.sureAddr, Sem.run_bind, Sem.run_pure, Result.andThen_ok]
    have hcells : (Value.agg (ua C)).cells = ua C := rfl
    simp [storeVar, sizeOf, typeInfo, hq, hcells, hs, ua_size, hC]
    simpa [ua] using h1

theorem step_load {ops : Array Oper} {o : Oper} {a : Act} {w : World} {K : Act → World → Prop} {Q : Exit → Act → World → Prop} {E : Prop} (hgd : o.guard = none) (ty : TypeId) (x : Operand)
    (ho : o.op = .load ty x) (p : Value) (hx : a.eval x = p) (v : Value) (hrun : (Instr.loadAt ty p).run Tryd.prog w = .ok v w) (h : K (a.put o.dst v) w) :
    if Region.wanted o (yielded ops a.tmps) = true then Oper.wp Tryd.prog o a w K Q else E := by
  have hw : Region.wanted o (yielded ops a.tmps) = true := by simp [Region.wanted, hgd]
  rw [if_pos hw]
  unfold Oper.wp execOp
  simp only [ho, hx, Sem.run_bind, hrun, Result.andThen_ok, Sem.run_pure]
  exact h
theorem step_store {ops : Array Oper} {o : Oper} {a : Act} {w w' : World} {K : Act → World → Prop} {Q : Exit → Act → World → Prop} {E : Prop} (hgd : o.guard = none) (ty : TypeId) (x y : Operand)
    (ho : o.op = .store ty x y) (p v : Value) (hx : a.eval x = p) (hy : a.eval y = v) (hrun : (Instr.storeAt ty p v).run Tryd.prog w = .ok () w') (h : K (a.put o.dst undef) w') :
    if Region.wanted o (yielded ops a.tmps) = true then Oper.wp Tryd.prog o a w K Q else E := by
  have hw : Region.wanted o (yielded ops a.tmps) = true := by simp [Region.wanted, hgd]
  rw [if_pos hw]
  unfold Oper.wp execOp
  simp only [ho, hx, hy, Sem.run_bind, hrun, Result.andThen_ok, Sem.run_pure]
  exact h

theorem inH_stay {w : World} {hb : Nat} {mm x : List UInt8} {B : List Int} (hlt : mm.length % 64 + x.length < 64) (hB : B.length = 64) (hy : IsBytes B) (ht : B.take (mm.length % 64 + x.length) = u8s (tailB mm ++ x))
    (h : w.heap[hb]? = some (.cells (hl (hstate mm) B (((mm.length % 64 : Nat) : Int) + (x.length : Int))).toArray 82 (0, 0))) : InH w hb (mm ++ x) := by
  obtain ⟨e1, e2⟩ := hstate_stay mm x hlt
  have e3 : (mm ++ x).length % 64 = mm.length % 64 + x.length := by simp; omega
  exact ⟨B, hB, hy, by rw [e3, e2]; exact ht, by rw [e3, e1, h]; simp⟩
theorem inH_full {w : World} {hb : Nat} {mm x : List UInt8} {B : List Int} (hlt : mm.length % 64 + x.length = 64) (hB : B.length = 64) (hy : IsBytes B) (ht : B.take (mm.length % 64 + x.length) = u8s (tailB mm ++ x))
    (h : w.heap[hb]? = some (.cells (hl (compI (hstate mm) (wds B 64)) B 0).toArray 82 (0, 0))) : InH w hb (mm ++ x) := by
  obtain ⟨e1, e2⟩ := hstate_full mm x hlt
  have e3 : (mm ++ x).length % 64 = 0 := by simp; omega
  have e4 : B = u8s (tailB mm ++ x) := by rw [← ht, hlt, List.take_of_length_le (by omega)]
  refine ⟨B, hB, hy, by rw [e3, e2]; rfl, ?_⟩
  rw [e3, e1, ← e4, h]
  rfl
theorem grown_setCell {w w1 : World} {hb i : Nat} {v : Value} (h : w.grownBy w1 (some hb)) : w.grownBy (w1.setCell ⟨hb, i, none⟩ v) (some hb) :=
  ⟨h.os, h.tape, h.output, by simpa using h.size, fun k hk hne => (heap_setCell_other _ _ _ _ (fun e => hne (by rw [e]))).trans (h.block k hk hne)⟩
theorem grown_setRow {w w1 : World} {hb : Nat} {cs : Array Value} (h : w.grownBy w1 (some hb)) : w.grownBy (w1.setRow hb cs) (some hb) :=
  ⟨h.os, h.tape, h.output, by simpa using h.size, fun k hk hne => (setRow_other _ _ _ _ (fun e => hne (by rw [e]))).trans (h.block k hk hne)⟩
theorem grown_below {w w1 w2 : World} {hb B : Nat} (h : w.grownBy w1 (some hb)) (hB : Below B w1 w2) (hle : w.heap.size ≤ B) : w.grownBy w2 (some hb) :=
  ⟨hB.os.trans h.os, hB.tape.trans h.tape, hB.output.trans h.output, Nat.le_trans h.size hB.size, fun k hk hne => (hB.block k (by omega)).trans (h.block k hk hne)⟩

def strOf : Value → ByteArray | .string s => s | _ => ⟨#[]⟩

set_option maxRecDepth 100000 in
set_option maxHeartbeats 1600000 in
theorem add_any (hb : Nat) (ms : List UInt8) (s : ByteArray) (w : World) (hK : KeysIn w) (hne : hb ≠ 1) (hin : InH w hb ms) (hsz : s.size ≤ 140737488355328) :
    Calls Tryd.prog 45 #[.pointer (some ⟨hb, 0, none⟩), .string s] w fun e w' => e = .returned (.tuple #[]) ∧ InH w' hb (ms ++ s.data.toList) ∧ w.grownBy w' (some hb) := by
  have hbl : hb < w.heap.size := by obtain ⟨B, _, _, _, h⟩ := hin; exact (Array.getElem?_eq_some_iff.1 h).1
  have hp := hK.pos
  have HK := Lib.hid hK
  have HIN := Lib.hid hin
  have HSZ := Lib.hid hsz
  clear hK hin
  go_enter Tryd.func45, Tryd.ntmps45
  go_wp2
  go_loopw [1] (fun v wr => ∃ (pre : List UInt8) (r : ByteArray), pre ++ r.data.toList = s.data.toList ∧ r.size ≤ 140737488355328 ∧ v = .string r ∧ InH wr hb (ms ++ pre) ∧ w.grownBy wr (some hb)) (fun v _ => (strOf v).size)
  case atStart => exact ⟨[], s, rfl, HSZ.out, rfl, by simpa using HIN.out, ⟨rfl, rfl, rfl, Nat.le_refl _, fun _ _ _ => rfl⟩⟩
  case round =>
    obtain ⟨pre, r, hpr, hrz, rfl, ⟨B, hB, hBy, hBt, hcell⟩, hgr⟩ := hrel
    have HPR := Lib.hid hpr
    have HBB := Lib.hid hB
    have HBY := Lib.hid hBy
    have HBT := Lib.hid hBt
    clear hpr hB hBy hBt
    by_cases hlt : 0 < r.size
    · obtain ⟨mm, hmm⟩ : ∃ mm, mm = ms ++ pre := ⟨_, rfl⟩
      rw [← hmm] at hcell HBT
      obtain ⟨u, hu⟩ : ∃ u, u = mm.length % 64 := ⟨_, rfl⟩
      rw [← hu] at hcell HBT
      have hu64 : u < 64 := by omega
      obtain ⟨S, hS⟩ : ∃ S, S = hstate mm := ⟨_, rfl⟩
      have hSl : S.length = 8 := by rw [hS]; exact hstate_length mm
      rw [← hS] at hcell
      have HSl := Lib.hid hSl
      have HC := Lib.hid hcell
      have HS := Lib.hid hS
      have HU := Lib.hid hu
      have HMM := Lib.hid hmm
      have cu : wr.cell? ⟨hb, 72, none⟩ = some (.int .i64 (u : Int)) := by
        rw [cell_of_row wr hb 72 _ _ _ HC.out, List.getElem?_toArray]; exact hl_get_u S B _ HSl.out HBB.out
      clear hcell hSl hS hu hmm
      have q1 : (u : Int) ≤ 64 := by omega
      have q2 : (u : Int) < 64 := by omega
      have q3 : ¬ (64 = u) := by omega
      obtain ⟨n, hn⟩ : ∃ n, n = Nat.min r.size (64 - u) := ⟨_, rfl⟩
      have hn0 : 0 < n := by rw [hn]; have : Nat.min r.size (64 - u) = min r.size (64 - u) := rfl; omega
      have hn1 : n ≤ r.size := by rw [hn]; exact Nat.min_le_left _ _
      have hn2 : n ≤ 64 - u := by rw [hn]; exact Nat.min_le_right _ _
      have HN := Lib.hid hn
      clear hn
      go_wp2
      go_still_tail 9, (by kernel_rfl)
      change wpList _ _ _ _ _ wr.drew
      refine wpList_copy_str rfl (.tmp 15) (.tmp 16) 60 9 rfl 5 und49 (by kernel_rfl) hb (8 + u) (64 - u) (64 - u) n r rfl rfl (hl S B (u : Int)) 82 HC.out HN.out (by rw [hl_length _ _ _ HSl.out HBB.out]; omega) ?_
      intro w2 h2 hg2 hs2
      have hrl : r.data.toList.length = r.size := (Lib.size_eq r).symm
      have hxl : (u8s (r.data.toList.take n)).length = n := by rw [u8s_length, List.length_take, hrl]; omega
      rw [splice_hl S B _ u _ HSl.out (by rw [hxl, HBB.out]; omega)] at h2
      obtain ⟨B2, hB2⟩ : ∃ B2, B2 = splice B u (u8s (r.data.toList.take n)) := ⟨_, rfl⟩
      rw [← hB2] at h2
      have hB2l : B2.length = 64 := by rw [hB2, length_splice _ _ _ (by rw [hxl, HBB.out]; omega), HBB.out]
      have hB2y : IsBytes B2 := by rw [hB2]; exact splice_bytes u HBY.out (u8s_bytes _)
      have hB2t : B2.take (u + n) = u8s (tailB mm ++ r.data.toList.take n) := by
        have := splice_take B (u8s (r.data.toList.take n)) u (by rw [hxl, HBB.out]; omega)
        rw [hxl] at this
        rw [hB2, this, HBT.out, u8s_append]
      have hg2' : w.grownBy w2 (some hb) := ⟨hg2.os.trans hgr.os, hg2.tape.trans hgr.tape, hg2.output.trans hgr.output, Nat.le_trans hgr.size hg2.size, fun k hk hne => (hg2.block k (Nat.lt_of_lt_of_le hk hgr.size) hne).trans (hgr.block k hk hne)⟩
      have c72 : w2.cell? ⟨hb, 72, none⟩ = some (.int .i64 (u : Int)) := by
        rw [cell_of_row w2 hb 72 _ _ _ h2, List.getElem?_toArray]; exact hl_get_u S B2 _ HSl.out hB2l
      have f72 := frozen_of_row w2 hb 72 _ _ h2
      have p2 : (pre ++ r.data.toList.take n) ++ (r.extract n r.size).data.toList = s.data.toList := by
        rw [extract_rest, List.append_assoc, List.take_append_drop]; exact HPR.out
      have p3 : (r.extract n r.size).size = r.size - n := by rw [Lib.size_eq, extract_rest, List.length_drop, hrl]
      have hxn : (r.data.toList.take n).length = n := by rw [List.length_take, hrl]; omega
      have P2 := Lib.hid p2
      have P3 := Lib.hid p3
      have HX := Lib.hid hxn
      have H2 := Lib.hid h2
      have HB2l := Lib.hid hB2l
      have HB2y := Lib.hid hB2y
      have HB2t := Lib.hid hB2t
      clear p2 p3 hxn h2 hB2l hB2y hB2t hB2 hxl hrl hg2 hgr cu hs2
      by_cases hfull : u + n = 64
      · have tf : ((u : Int) + (n : Int) == 64) = true := by simp; omega
        go_wp2
        have k3 := hl_set72 (v := (u : Int) + (n : Int)) HSl.out HB2l.out H2.out
        have hg3 : w.grownBy (w2.setCell ⟨hb, 72, none⟩ (.int .i64 ((u : Int) + (n : Int)))) (some hb) := ⟨hg2'.os, hg2'.tape, hg2'.output, by simpa using hg2'.size, fun k hk hne => (heap_setCell_other _ _ _ _ (fun e => hne (by rw [e]))).trans (hg2'.block k hk hne)⟩
        obtain ⟨w3, hw3⟩ : ∃ w3, w3 = w2.setCell ⟨hb, 72, none⟩ (.int .i64 ((u : Int) + (n : Int))) := ⟨_, rfl⟩
        rw [← hw3] at k3 hg3 ⊢
        have hs3 : hb < w3.heap.size := (Array.getElem?_eq_some_iff.1 k3).1
        have l28 := load_S (w := w3.drew) HSl.out k3
        have l50 := load_B (w := w3.drew) HSl.out HB2l.out k3
        have HK3 : KeysIn w3 := fun j hj => (World.cell?_of_block (w := w) (hg3.block 1 hp (fun e => hne (Option.some.inj e).symm))).trans (HK.out j hj)
        have HKK := Lib.hid HK3
        have K3 := Lib.hid k3
        clear hw3 k3 c72 f72 hg2' H2 HK3
        refine wp_region_any (by kernel_rfl) ?_
        change wpAny _ _ _ _ _ _ _ (World.drew _)
        refine wpAny_take (i := 0) (v := (.pointer (some ⟨hb, 0, none⟩))) rfl (by kernel_rfl) (by kernel_rfl) (by kernel_rfl) (fun _ _ _ h => h) (Or.inl ⟨by rfl, by intro w; go_simp⟩) ?_
        refine wpAny_take (i := 1) (v := (.pointer (some ⟨hb, 0, none⟩))) rfl (by kernel_rfl) (by kernel_rfl) (by kernel_rfl) (fun _ _ _ h => h) (Or.inl ⟨by rfl, by intro w; go_simp⟩) ?_
        refine wpAny_take (i := 2) (v := (.pointer (some ⟨hb, 0, none⟩))) rfl (by kernel_rfl) (by kernel_rfl) (by kernel_rfl) (fun _ _ _ h => h) (Or.inl ⟨by rfl, by intro w; go_simp⟩) ?_
        refine wpAny_take (i := 3) (v := (.pointer (some ⟨hb, 0, none⟩))) rfl (by kernel_rfl) (by kernel_rfl) (by kernel_rfl) (fun _ _ _ h => h) (Or.inl ⟨by rfl, by intro w; go_simp⟩) ?_
        refine wpAny_take (i := 5) (v := (.pointer (some ⟨hb, 0, none⟩))) rfl (by kernel_rfl) (by kernel_rfl) (by kernel_rfl) (fun _ _ _ h => h) (Or.inl ⟨by rfl, by intro w; go_simp⟩) ?_
        refine wpAny_take (i := 6) (v := (.pointer (some ⟨hb, 0, none⟩))) rfl (by kernel_rfl) (by kernel_rfl) (by kernel_rfl) (fun _ _ _ h => h) (Or.inl ⟨by rfl, by intro w; go_simp⟩) ?_
        refine wpAny_take (i := 7) (v := (.pointer (some ⟨hb, 8, none⟩))) rfl (by kernel_rfl) (by kernel_rfl) (by kernel_rfl) (fun _ _ _ h => h) (Or.inl ⟨by rfl, by intro w; go_simp⟩) ?_
        refine wpAny_ready (rs := [4, 8]) (by kernel_rfl) (by simp) ?_
        refine AllReady.cons rfl (fun K hK => ?_) (AllReady.cons rfl (fun K hK => ?_) AllReady.nil)
        · with_reducible refine step_load ?_ 79 (.tmp 37) ?_ (.pointer (some ⟨hb, 0, none⟩)) ?_ (.agg (ua S)) ?_ ?_
          · rfl
          · rfl
          · kernel_rfl
          · exact l28
          refine hK _ _ ?_
          clear hK K
          refine wpAny_ready (rs := [8]) (by kernel_rfl) (by simp) ?_
          refine AllReady.cons rfl (fun K hK => ?_) AllReady.nil
          with_reducible refine step_load ?_ 80 (.tmp 41) ?_ (.pointer (some ⟨hb, 8, none⟩)) ?_ (.agg (ub B2)) ?_ ?_
          · rfl
          · rfl
          · kernel_rfl
          · exact l50
          refine hK _ _ ?_
          clear hK K
          refine wpAny_ready (rs := [9]) (by kernel_rfl) (by simp) ?_
          refine AllReady.cons rfl (fun K hK => ?_) AllReady.nil
          go_simp
          (go_at_call 60; refine (words_any B2 HB2l.out HB2y.out w3.drew).mono ?_; rintro e wA ⟨rfl, hbA⟩)
          have kA := (hbA.block hb (by simp; omega)).trans K3.out
          have l28A := load_S HSl.out kA
          have KA := Lib.hid kA
          have HKA := Lib.hid (KeysIn.below (w := w3.drew) HKK.out hbA (KeysIn.pos HKK.out))
          clear kA
          refine hK _ _ ?_
          clear hK K
          refine wpAny_ready (rs := [10]) (by kernel_rfl) (by simp) ?_
          refine AllReady.cons rfl (fun K hK => ?_) AllReady.nil
          go_simp
          (go_at_call 59; refine (compress_any S (wds B2 64) HSl.out (wds_length _ _) wA HKA.out).mono ?_; rintro e wB ⟨rfl, hbB⟩)
          have kB := (hbB.block hb (by have := hbA.size; simp at this; omega)).trans KA.out
          have st28 := store_S HSl.out (compI_length S (wds B2 64)) HB2l.out kB
          have KB := Lib.hid kB
          clear kB
          refine hK _ _ ?_
          clear hK K
          refine wpAny_take (i := 11) (v := (.pointer (some ⟨hb, 0, none⟩))) rfl (by kernel_rfl) (by kernel_rfl) (by kernel_rfl) (fun _ _ _ h => h) (Or.inl ⟨by rfl, by intro w; go_simp⟩) ?_
          refine wpAny_take (i := 12) (v := (.pointer (some ⟨hb, 0, none⟩))) rfl (by kernel_rfl) (by kernel_rfl) (by kernel_rfl) (fun _ _ _ h => h) (Or.inl ⟨by rfl, by intro w; go_simp⟩) ?_
          refine wpAny_ready (rs := [13]) (by kernel_rfl) (by simp) ?_
          refine AllReady.cons rfl (fun K hK => ?_) AllReady.nil
          with_reducible refine step_store (w' := wB.setRow hb (hl (compI S (wds B2 64)) B2 ((u : Int) + (n : Int))).toArray) ?_ 79 (.tmp 46) (.tmp 44) ?_ (.pointer (some ⟨hb, 0, none⟩)) (.agg (ua (compI S (wds B2 64)))) ?_ ?_ ?_ ?_
          · rfl
          · rfl
          · kernel_rfl
          · kernel_rfl
          · exact st28
          refine hK _ _ ?_
          clear hK K
          refine wpAny_done (by kernel_rfl) ?_ _
          have kC := setRow_heap wB hb _ (hl (compI S (wds B2 64)) B2 ((u : Int) + (n : Int))).toArray _ _ KB.out
          have hgC : w.grownBy (wB.setRow hb (hl (compI S (wds B2 64)) B2 ((u : Int) + (n : Int))).toArray) (some hb) := grown_setRow (grown_below (grown_below (w1 := w3.drew) ⟨hg3.os, hg3.tape, hg3.output, hg3.size, hg3.block⟩ hbA hg3.size) hbB (Nat.le_trans (show w.heap.size ≤ w3.drew.heap.size from hg3.size) hbA.size))
          obtain ⟨wC, hwC⟩ : ∃ wC, wC = wB.setRow hb (hl (compI S (wds B2 64)) B2 ((u : Int) + (n : Int))).toArray := ⟨_, rfl⟩
          rw [← hwC] at kC hgC ⊢
          have cC : wC.cell? ⟨hb, 72, none⟩ = some (.int .i64 ((u : Int) + (n : Int))) := by rw [cell_of_row wC hb 72 _ _ _ kC, List.getElem?_toArray]; exact hl_get_u _ B2 _ (compI_length _ _) HB2l.out
          have fC := frozen_of_row wC hb 72 _ _ kC
          have kD := hl_set72 (v := 0) (compI_length S (wds B2 64)) HB2l.out kC
          have hin : InH (wC.setCell ⟨hb, 72, none⟩ (.int .i64 0)) hb (ms ++ (pre ++ r.data.toList.take n)) := by
            rw [← List.append_assoc, ← HMM.out]
            exact inH_full (by rw [HX.out, ← HU.out]; exact hfull) HB2l.out HB2y.out (by rw [HX.out, ← HU.out]; exact HB2t.out) (by rw [← HS.out]; exact kD)
          have HIN2 := Lib.hid hin
          clear hwC kC kD hin hbA hbB hg3 st28 l28A l28 l50
          go_wp2
          go_roundw
          case rel => exact ⟨pre ++ r.data.toList.take n, r.extract n r.size, P2.out, by rw [P3.out]; omega, rfl, HIN2.out, grown_setCell hgC⟩
          case measure => simp only [strOf]; rw [P3.out]; omega
        · with_reducible refine step_load ?_ 80 (.tmp 41) ?_ (.pointer (some ⟨hb, 8, none⟩)) ?_ (.agg (ub B2)) ?_ ?_
          · rfl
          · rfl
          · kernel_rfl
          · exact l50
          refine hK _ _ ?_
          clear hK K
          refine wpAny_ready (rs := [4, 9]) (by kernel_rfl) (by simp) ?_
          refine AllReady.cons rfl (fun K hK => ?_) (AllReady.cons rfl (fun K hK => ?_) AllReady.nil)
          · with_reducible refine step_load ?_ 79 (.tmp 37) ?_ (.pointer (some ⟨hb, 0, none⟩)) ?_ (.agg (ua S)) ?_ ?_
            · rfl
            · rfl
            · kernel_rfl
            · exact l28
            refine hK _ _ ?_
            clear hK K
            refine wpAny_ready (rs := [9]) (by kernel_rfl) (by simp) ?_
            refine AllReady.cons rfl (fun K hK => ?_) AllReady.nil
            go_simp
            (go_at_call 60; refine (words_any B2 HB2l.out HB2y.out w3.drew).mono ?_; rintro e wA ⟨rfl, hbA⟩)
            have kA := (hbA.block hb (by simp; omega)).trans K3.out
            have l28A := load_S HSl.out kA
            have KA := Lib.hid kA
            have HKA := Lib.hid (KeysIn.below (w := w3.drew) HKK.out hbA (KeysIn.pos HKK.out))
            clear kA
            refine hK _ _ ?_
            clear hK K
            refine wpAny_ready (rs := [10]) (by kernel_rfl) (by simp) ?_
            refine AllReady.cons rfl (fun K hK => ?_) AllReady.nil
            go_simp
            (go_at_call 59; refine (compress_any S (wds B2 64) HSl.out (wds_length _ _) wA HKA.out).mono ?_; rintro e wB ⟨rfl, hbB⟩)
            have kB := (hbB.block hb (by have := hbA.size; simp at this; omega)).trans KA.out
            have st28 := store_S HSl.out (compI_length S (wds B2 64)) HB2l.out kB
            have KB := Lib.hid kB
            clear kB
            refine hK _ _ ?_
            clear hK K
            refine wpAny_take (i := 11) (v := (.pointer (some ⟨hb, 0, none⟩))) rfl (by kernel_rfl) (by kernel_rfl) (by kernel_rfl) (fun _ _ _ h => h) (Or.inl ⟨by rfl, by intro w; go_simp⟩) ?_
            refine wpAny_take (i := 12) (v := (.pointer (some ⟨hb, 0, none⟩))) rfl (by kernel_rfl) (by kernel_rfl) (by kernel_rfl) (fun _ _ _ h => h) (Or.inl ⟨by rfl, by intro w; go_simp⟩) ?_
            refine wpAny_ready (rs := [13]) (by kernel_rfl) (by simp) ?_
            refine AllReady.cons rfl (fun K hK => ?_) AllReady.nil
            with_reducible refine step_store (w' := wB.setRow hb (hl (compI S (wds B2 64)) B2 ((u : Int) + (n : Int))).toArray) ?_ 79 (.tmp 46) (.tmp 44) ?_ (.pointer (some ⟨hb, 0, none⟩)) (.agg (ua (compI S (wds B2 64)))) ?_ ?_ ?_ ?_
            · rfl
            · rfl
            · kernel_rfl
            · kernel_rfl
            · exact st28
            refine hK _ _ ?_
            clear hK K
            refine wpAny_done (by kernel_rfl) ?_ _
            have kC := setRow_heap wB hb _ (hl (compI S (wds B2 64)) B2 ((u : Int) + (n : Int))).toArray _ _ KB.out
            have hgC : w.grownBy (wB.setRow hb (hl (compI S (wds B2 64)) B2 ((u : Int) + (n : Int))).toArray) (some hb) := grown_setRow (grown_below (grown_below (w1 := w3.drew) ⟨hg3.os, hg3.tape, hg3.output, hg3.size, hg3.block⟩ hbA hg3.size) hbB (Nat.le_trans (show w.heap.size ≤ w3.drew.heap.size from hg3.size) hbA.size))
            obtain ⟨wC, hwC⟩ : ∃ wC, wC = wB.setRow hb (hl (compI S (wds B2 64)) B2 ((u : Int) + (n : Int))).toArray := ⟨_, rfl⟩
            rw [← hwC] at kC hgC ⊢
            have cC : wC.cell? ⟨hb, 72, none⟩ = some (.int .i64 ((u : Int) + (n : Int))) := by rw [cell_of_row wC hb 72 _ _ _ kC, List.getElem?_toArray]; exact hl_get_u _ B2 _ (compI_length _ _) HB2l.out
            have fC := frozen_of_row wC hb 72 _ _ kC
            have kD := hl_set72 (v := 0) (compI_length S (wds B2 64)) HB2l.out kC
            have hin : InH (wC.setCell ⟨hb, 72, none⟩ (.int .i64 0)) hb (ms ++ (pre ++ r.data.toList.take n)) := by
              rw [← List.append_assoc, ← HMM.out]
              exact inH_full (by rw [HX.out, ← HU.out]; exact hfull) HB2l.out HB2y.out (by rw [HX.out, ← HU.out]; exact HB2t.out) (by rw [← HS.out]; exact kD)
            have HIN2 := Lib.hid hin
            clear hwC kC kD hin hbA hbB hg3 st28 l28A l28 l50
            go_wp2
            go_roundw
            case rel => exact ⟨pre ++ r.data.toList.take n, r.extract n r.size, P2.out, by rw [P3.out]; omega, rfl, HIN2.out, grown_setCell hgC⟩
            case measure => simp only [strOf]; rw [P3.out]; omega
          · go_simp
            (go_at_call 60; refine (words_any B2 HB2l.out HB2y.out w3.drew).mono ?_; rintro e wA ⟨rfl, hbA⟩)
            have kA := (hbA.block hb (by simp; omega)).trans K3.out
            have l28A := load_S HSl.out kA
            have KA := Lib.hid kA
            have HKA := Lib.hid (KeysIn.below (w := w3.drew) HKK.out hbA (KeysIn.pos HKK.out))
            clear kA
            refine hK _ _ ?_
            clear hK K
            refine wpAny_ready (rs := [4]) (by kernel_rfl) (by simp) ?_
            refine AllReady.cons rfl (fun K hK => ?_) AllReady.nil
            with_reducible refine step_load ?_ 79 (.tmp 37) ?_ (.pointer (some ⟨hb, 0, none⟩)) ?_ (.agg (ua S)) ?_ ?_
            · rfl
            · rfl
            · kernel_rfl
            · exact l28A
            refine hK _ _ ?_
            clear hK K
            refine wpAny_ready (rs := [10]) (by kernel_rfl) (by simp) ?_
            refine AllReady.cons rfl (fun K hK => ?_) AllReady.nil
            go_simp
            (go_at_call 59; refine (compress_any S (wds B2 64) HSl.out (wds_length _ _) wA HKA.out).mono ?_; rintro e wB ⟨rfl, hbB⟩)
            have kB := (hbB.block hb (by have := hbA.size; simp at this; omega)).trans KA.out
            have st28 := store_S HSl.out (compI_length S (wds B2 64)) HB2l.out kB
            have KB := Lib.hid kB
            clear kB
            refine hK _ _ ?_
            clear hK K
            refine wpAny_take (i := 11) (v := (.pointer (some ⟨hb, 0, none⟩))) rfl (by kernel_rfl) (by kernel_rfl) (by kernel_rfl) (fun _ _ _ h => h) (Or.inl ⟨by rfl, by intro w; go_simp⟩) ?_
            refine wpAny_take (i := 12) (v := (.pointer (some ⟨hb, 0, none⟩))) rfl (by kernel_rfl) (by kernel_rfl) (by kernel_rfl) (fun _ _ _ h => h) (Or.inl ⟨by rfl, by intro w; go_simp⟩) ?_
            refine wpAny_ready (rs := [13]) (by kernel_rfl) (by simp) ?_
            refine AllReady.cons rfl (fun K hK => ?_) AllReady.nil
            with_reducible refine step_store (w' := wB.setRow hb (hl (compI S (wds B2 64)) B2 ((u : Int) + (n : Int))).toArray) ?_ 79 (.tmp 46) (.tmp 44) ?_ (.pointer (some ⟨hb, 0, none⟩)) (.agg (ua (compI S (wds B2 64)))) ?_ ?_ ?_ ?_
            · rfl
            · rfl
            · kernel_rfl
            · kernel_rfl
            · exact st28
            refine hK _ _ ?_
            clear hK K
            refine wpAny_done (by kernel_rfl) ?_ _
            have kC := setRow_heap wB hb _ (hl (compI S (wds B2 64)) B2 ((u : Int) + (n : Int))).toArray _ _ KB.out
            have hgC : w.grownBy (wB.setRow hb (hl (compI S (wds B2 64)) B2 ((u : Int) + (n : Int))).toArray) (some hb) := grown_setRow (grown_below (grown_below (w1 := w3.drew) ⟨hg3.os, hg3.tape, hg3.output, hg3.size, hg3.block⟩ hbA hg3.size) hbB (Nat.le_trans (show w.heap.size ≤ w3.drew.heap.size from hg3.size) hbA.size))
            obtain ⟨wC, hwC⟩ : ∃ wC, wC = wB.setRow hb (hl (compI S (wds B2 64)) B2 ((u : Int) + (n : Int))).toArray := ⟨_, rfl⟩
            rw [← hwC] at kC hgC ⊢
            have cC : wC.cell? ⟨hb, 72, none⟩ = some (.int .i64 ((u : Int) + (n : Int))) := by rw [cell_of_row wC hb 72 _ _ _ kC, List.getElem?_toArray]; exact hl_get_u _ B2 _ (compI_length _ _) HB2l.out
            have fC := frozen_of_row wC hb 72 _ _ kC
            have kD := hl_set72 (v := 0) (compI_length S (wds B2 64)) HB2l.out kC
            have hin : InH (wC.setCell ⟨hb, 72, none⟩ (.int .i64 0)) hb (ms ++ (pre ++ r.data.toList.take n)) := by
              rw [← List.append_assoc, ← HMM.out]
              exact inH_full (by rw [HX.out, ← HU.out]; exact hfull) HB2l.out HB2y.out (by rw [HX.out, ← HU.out]; exact HB2t.out) (by rw [← HS.out]; exact kD)
            have HIN2 := Lib.hid hin
            clear hwC kC kD hin hbA hbB hg3 st28 l28A l28 l50
            go_wp2
            go_roundw
            case rel => exact ⟨pre ++ r.data.toList.take n, r.extract n r.size, P2.out, by rw [P3.out]; omega, rfl, HIN2.out, grown_setCell hgC⟩
            case measure => simp only [strOf]; rw [P3.out]; omega
      · have tf : ((u : Int) + (n : Int) == 64) = false := by simp; omega
        have k3 := hl_set72 (v := (u : Int) + (n : Int)) HSl.out HB2l.out H2.out
        have hin : InH (w2.setCell ⟨hb, 72, none⟩ (.int .i64 ((u : Int) + (n : Int)))) hb (ms ++ (pre ++ r.data.toList.take n)) := by
          rw [← List.append_assoc, ← HMM.out]
          exact inH_stay (by rw [HX.out, ← HU.out]; omega) HB2l.out HB2y.out (by rw [HX.out, ← HU.out]; exact HB2t.out) (by rw [HX.out, ← HU.out, ← HS.out]; exact k3)
        have HIN2 := Lib.hid hin
        clear k3 hin
        go_wp2
        go_roundw
        case rel => exact ⟨pre ++ r.data.toList.take n, r.extract n r.size, P2.out, by rw [P3.out]; omega, rfl, HIN2.out, grown_setCell hg2'⟩
        case measure => simp only [strOf]; rw [P3.out]; omega
    · have hr0 : r.data.toList = [] := List.eq_nil_of_length_eq_zero (by rw [← Lib.size_eq]; omega)
      have hfin : InH wr hb (ms ++ s.data.toList) := by
        rw [← HPR.out, hr0, List.append_nil]
        exact ⟨B, HBB.out, HBY.out, HBT.out, hcell⟩
      have HF := Lib.hid hfin
      clear hr0 hfin hcell
      go_wp2
      go_end0
      exact ⟨rfl, HF.out, hgr⟩
end Go.Proofs.YtomghpielgkigaaDoor

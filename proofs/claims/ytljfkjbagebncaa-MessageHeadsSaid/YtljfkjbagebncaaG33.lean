/-
  Copied: Questions copied; what Query and Reply answer. No older memory is changed.
  SameQ: Whether two questions ask for the same; whether a message is a response to another one. No older memory is changed.
  Match: Whether a message is a response to another one. No older memory is changed.
-/
import Derived.Test.YtljfkjbagebncaaG38
import Derived.Test.YtljfkjbagebncaaG32
import Derived.Deep.RegionWith
import Derived.Deep.RegionHeld3
import Derived.WalkSpells
import Derived.Test.YtljfkjbagebncaaG24

/- Copied -/
namespace Go.Proofs.Ytljfkjbagebncaa
open Go.RowKit
theorem setCell_self {w : World} {b i : Nat} {T : TypeId} {cs : Array Value} {v : Value} (h : Ce w b T cs) (hi : cs[i]? = some v) : w.setCell ⟨b, i, none⟩ v = w := by
  have hlt : b < w.heap.size := h.lt
  have hv : w.heap[b] = .cells cs T (0, 0) := (Array.getElem?_eq_some_iff.1 h).2
  have e : cs.setIfInBounds i v = cs := by
    obtain ⟨h1, h2⟩ := Array.getElem?_eq_some_iff.1 hi
    apply Array.ext
    · simp
    · intro j hj1 hj2
      rw [Array.getElem_setIfInBounds]
      split
      · rename_i e; subst e; exact h2.symm
      · rfl
  have hh : (w.setCell ⟨b, i, none⟩ v).heap = w.heap := by
    unfold World.setCell
    apply Array.ext
    · simp
    · intro j hj1 hj2
      simp only [Array.getElem_modify]
      split
      · rename_i e2; subst e2; rw [hv]; simp [e]
      · rfl
  show ({ w with heap := (w.setCell ⟨b, i, none⟩ v).heap } : World) = w
  rw [hh]
set_option maxRecDepth 100000 in
set_option maxHeartbeats 6400000 in
theorem copied_q (s : Sl) (qs : List Qn) (hok : ∀ q ∈ qs, q.n.size ≤ 140737488351232) (hn : qs.length ≤ 1000000) (w : World) (h : RdQ w s qs) :
    Calls Try.prog 47 #[s.v] w fun e w' => ∃ s' : Sl, e = .returned s'.v ∧ RdQ w' s' qs ∧ Below w.heap.size w w' := by
  have HC := Lib.hid (qclone_any s qs hn w h)
  have HOK := Lib.hid hok
  obtain ⟨sa, sn, sc⟩ := s
  obtain ⟨m, hm⟩ : ∃ m, m = qs.length := ⟨_, rfl⟩
  have HM := Lib.hid hm
  have hmi : (m : Int) ≤ 1000000 := by omega
  clear h hok hn hm
  go_enter Try.func47, Try.ntmps47
  go_wp2_with fail
  refine HC.out.mono ?_
  rintro e w1 ⟨v1, rfl, hown, hb1⟩
  rw [← HM.out] at hown
  obtain ⟨a, c, rfl⟩ := row_slice hown
  have HO1 := Lib.hid hown
  have HB1 := Lib.hid hb1
  clear hown hb1 HC
  go_wp2
  go_loopw [9] (fun i wr => ∃ k : Nat, k ≤ m ∧ i = .int .i64 (k : Int) ∧ wr.ownsRow w.heap.size 44 3 (.slice a m c) m (qcc qs) ∧ Below w.heap.size w wr) (fun i _ => m - (intOf i).toNat)
  case atStart => exact ⟨0, by omega, rfl, HO1.out, HB1.out⟩
  case round =>
    clear HO1 HB1
    obtain ⟨k, hk, rfl, hown, hb⟩ := hrel
    by_cases hlt : k < m
    · have q1 : (k : Int) < (m : Int) := by omega
      obtain ⟨q, hq⟩ : ∃ q, qs[k]? = some q := ⟨_, List.getElem?_eq_getElem (by rw [← HM.out]; exact hlt)⟩
      have hs := HOK.out q (List.mem_of_getElem? hq)
      obtain ⟨g, cap, cur, hv, hgb, hg, hcells⟩ : ∃ g cap cur, Value.slice a m c = .slice (some ⟨g, 0, none⟩) m cap ∧ w.heap.size ≤ g ∧ Ce wr g 44 cur ∧ (∀ j u, (qcc qs)[j]? = some u → cur[j]? = some u) := by
        have hc := @World.ownsRow.cells wr w.heap.size 44 3 _ m _ hown
        rcases hown.2 with ⟨e, h0⟩ | ⟨g, cap, cur, e, hb, hg, _⟩
        · omega
        · refine ⟨g, cap, cur, e, hb, hg, fun j u hj => ?_⟩
          cases e
          have := hc (g := g) rfl j u hj
          rw [add_lit, Nat.zero_add] at this
          exact ((Ce.cell (T := 44) hg j).symm.trans this)
      cases hv
      have x0 := hcells _ _ (qcc_get qs k q hq).1
      have d0 := (hg.cell (k * 3)).trans x0
      have C := fun w => sclone_any q.n hs w
      have HOW := Lib.hid hown
      have HB := Lib.hid hb
      have HG := Lib.hid hg
      have HX := Lib.hid x0
      have HCL := Lib.hid C
      obtain ⟨qn, qt, qc⟩ := q
      clear C hown hb hg x0 hq hs hcells
      go_wp2_with fail
      refine (HCL.out _).mono ?_
      rintro e w5 ⟨rfl, hb5⟩
      have hg5 := HG.out.below hb5
      have d5 := (hg5.cell (k * 3)).trans HX.out
      have f5 := hg5.frozen (k * 3)
      have HS := Lib.hid (setCell_self hg5 HX.out)
      have HO5 := Lib.hid (row_under HOW.out hb5)
      have HB5 := Lib.hid (HB.out.trans (hb5.mono HB.out.size))
      clear hg5 hb5 d0
      go_wp2
      go_roundw
      case rel => exact ⟨k + 1, by omega, by go_num, by rw [HS.out]; exact HO5.out, by rw [HS.out]; exact HB5.out⟩
      case measure => simp [intOf]; omega
    · obtain rfl : k = m := by omega
      have q1 : decide ((k : Int) < (k : Int)) = false := by simp
      rw [HM.out] at hown
      obtain ⟨s', hs', hr⟩ := row_rdq hown
      have HR := Lib.hid hr
      have HS := Lib.hid hs'
      have HB := Lib.hid hb
      clear hown hb hr hs' hk hlt
      go_wp2
      go_ret
      exact ⟨s', by rw [← HS.out, ← HM.out]; rfl, HR.out, HB.out⟩
/-- A query, a reply. -/
def qryM (id : Nat) (q : Qn) : Ms := ⟨id, false, false, false, false, false, 0, 0, [q], [], [], []⟩
def rplM (m : Ms) (code : Int) : Ms := ⟨m.id, true, false, false, m.d, true, m.op, code, m.qs, [], [], []⟩
/-- A question in a block of its own. -/
theorem one_rdq (w : World) (q : Qn) : RdQ (w.alloc (.cells q.cells 44)) ⟨some ⟨w.heap.size, 0, none⟩, 1, 1⟩ [q] := by
  refine ⟨rfl, .inr ⟨w.heap.size, 0, rfl, by simp, fun j r hj => ?_⟩⟩
  match j, hj with
  | 0, hj =>
    simp at hj
    subst hj
    have h := Ce.new w 44 q.cells
    exact ⟨h.cell 0, h.cell 1, h.cell 2⟩
  | j + 1, hj => simp at hj
set_option maxRecDepth 100000 in
set_option maxHeartbeats 6400000 in
theorem query_any (id : Nat) (q : Qn) (hq : q.n.size ≤ 140737488351232) (w : World) :
    Calls Try.prog 24 #[.int .u16 (id : Int), q.v] w fun e w' => ∃ s : Sl, e = .returned (.agg ((qryM id q).cells s nl nl nl)) ∧ RdQ w' s [q] ∧ Below w.heap.size w w' := by
  have ht := three_boxes w 44 26 44 q.cells zcs q.cells
  simp only at ht
  have hl := one_rdq ((w.alloc (.cells q.cells 44)).alloc (.cells zcs 26)) q
  simp only [World.size_alloc] at hl
  have C := copied_q _ [q] (by simpa using hq) (by simp) _ hl
  have HC := Lib.hid C
  have HZ := Lib.hid ht.2.1
  have HB := Lib.hid ht.2.2.2
  clear C hl ht
  obtain ⟨qn, qt, qc⟩ := q
  clear hq
  go_enter Try.func24, Try.ntmps24
  go_wp2_with fail
  refine HC.out.mono ?_
  rintro e w5 ⟨s, rfl, hr, hb5⟩
  have HZ5 := Lib.hid (HZ.out.below hb5)
  have HB5 := Lib.hid (HB.out.trans (hb5.mono HB.out.size))
  have HR := Lib.hid hr
  clear hr hb5 HC
  go_wp2_with (first | (refine st12 (id := id) (r := false) (b := false) (t := false) (d := false) (v := false) (op := 0) (cd := 0) (q := s) (k := nl) (l := nl) (m := nl) (.tmp 4) (.tmp 9) HZ5.out rfl rfl rfl rfl rfl ?_))
  refine bodyPost_ret (res12 rfl rfl (HZ5.out.row (mc id false false false false false 0 0 s nl nl nl))) rfl ?_
  have k5 := row_others w5 (w.heap.size + 1) (mc id false false false false false 0 0 s nl nl nl)
  exact ⟨s, rfl, HR.out.other HZ5.out (mc_ns _ _ _ _ _ _ _ _ _ _ _ _) k5.1 k5.2, below_row HB5.out (by omega) _⟩
abbrev set12 (w : World) (n : Nat) (v0 v1 v2 v3 v4 v5 v6 v7 v8 v9 v10 v11 : Value) : World := ((((((((((((w.setCell ⟨n, 0, none⟩ v0).setCell ⟨n, 1, none⟩ v1).setCell ⟨n, 2, none⟩ v2).setCell ⟨n, 3, none⟩ v3).setCell ⟨n, 4, none⟩ v4).setCell ⟨n, 5, none⟩ v5).setCell ⟨n, 6, none⟩ v6).setCell ⟨n, 7, none⟩ v7).setCell ⟨n, 8, none⟩ v8).setCell ⟨n, 9, none⟩ v9).setCell ⟨n, 10, none⟩ v10).setCell ⟨n, 11, none⟩ v11)
set_option maxHeartbeats 3200000 in
theorem set12_ce {w : World} {n : Nat} {c0 c1 c2 c3 c4 c5 c6 c7 c8 c9 c10 c11 : Value} (b : Ce w n 26 #[c0, c1, c2, c3, c4, c5, c6, c7, c8, c9, c10, c11]) (v0 v1 v2 v3 v4 v5 v6 v7 v8 v9 v10 v11 : Value) : Ce (set12 w n v0 v1 v2 v3 v4 v5 v6 v7 v8 v9 v10 v11) n 26 #[v0, v1, v2, v3, v4, v5, v6, v7, v8, v9, v10, v11] := by
  have b0 : Ce (w.setCell ⟨n, 0, none⟩ v0) n 26 #[v0, c1, c2, c3, c4, c5, c6, c7, c8, c9, c10, c11] := b.set v0 (i := 0)
  have b1 : Ce ((w.setCell ⟨n, 0, none⟩ v0).setCell ⟨n, 1, none⟩ v1) n 26 #[v0, v1, c2, c3, c4, c5, c6, c7, c8, c9, c10, c11] := b0.set v1 (i := 1)
  have b2 : Ce (((w.setCell ⟨n, 0, none⟩ v0).setCell ⟨n, 1, none⟩ v1).setCell ⟨n, 2, none⟩ v2) n 26 #[v0, v1, v2, c3, c4, c5, c6, c7, c8, c9, c10, c11] := b1.set v2 (i := 2)
  have b3 : Ce ((((w.setCell ⟨n, 0, none⟩ v0).setCell ⟨n, 1, none⟩ v1).setCell ⟨n, 2, none⟩ v2).setCell ⟨n, 3, none⟩ v3) n 26 #[v0, v1, v2, v3, c4, c5, c6, c7, c8, c9, c10, c11] := b2.set v3 (i := 3)
  have b4 : Ce (((((w.setCell ⟨n, 0, none⟩ v0).setCell ⟨n, 1, none⟩ v1).setCell ⟨n, 2, none⟩ v2).setCell ⟨n, 3, none⟩ v3).setCell ⟨n, 4, none⟩ v4) n 26 #[v0, v1, v2, v3, v4, c5, c6, c7, c8, c9, c10, c11] := b3.set v4 (i := 4)
  have b5 : Ce ((((((w.setCell ⟨n, 0, none⟩ v0).setCell ⟨n, 1, none⟩ v1).setCell ⟨n, 2, none⟩ v2).setCell ⟨n, 3, none⟩ v3).setCell ⟨n, 4, none⟩ v4).setCell ⟨n, 5, none⟩ v5) n 26 #[v0, v1, v2, v3, v4, v5, c6, c7, c8, c9, c10, c11] := b4.set v5 (i := 5)
  have b6 : Ce (((((((w.setCell ⟨n, 0, none⟩ v0).setCell ⟨n, 1, none⟩ v1).setCell ⟨n, 2, none⟩ v2).setCell ⟨n, 3, none⟩ v3).setCell ⟨n, 4, none⟩ v4).setCell ⟨n, 5, none⟩ v5).setCell ⟨n, 6, none⟩ v6) n 26 #[v0, v1, v2, v3, v4, v5, v6, c7, c8, c9, c10, c11] := b5.set v6 (i := 6)
  have b7 : Ce ((((((((w.setCell ⟨n, 0, none⟩ v0).setCell ⟨n, 1, none⟩ v1).setCell ⟨n, 2, none⟩ v2).setCell ⟨n, 3, none⟩ v3).setCell ⟨n, 4, none⟩ v4).setCell ⟨n, 5, none⟩ v5).setCell ⟨n, 6, none⟩ v6).setCell ⟨n, 7, none⟩ v7) n 26 #[v0, v1, v2, v3, v4, v5, v6, v7, c8, c9, c10, c11] := b6.set v7 (i := 7)
  have b8 : Ce (((((((((w.setCell ⟨n, 0, none⟩ v0).setCell ⟨n, 1, none⟩ v1).setCell ⟨n, 2, none⟩ v2).setCell ⟨n, 3, none⟩ v3).setCell ⟨n, 4, none⟩ v4).setCell ⟨n, 5, none⟩ v5).setCell ⟨n, 6, none⟩ v6).setCell ⟨n, 7, none⟩ v7).setCell ⟨n, 8, none⟩ v8) n 26 #[v0, v1, v2, v3, v4, v5, v6, v7, v8, c9, c10, c11] := b7.set v8 (i := 8)
  have b9 : Ce ((((((((((w.setCell ⟨n, 0, none⟩ v0).setCell ⟨n, 1, none⟩ v1).setCell ⟨n, 2, none⟩ v2).setCell ⟨n, 3, none⟩ v3).setCell ⟨n, 4, none⟩ v4).setCell ⟨n, 5, none⟩ v5).setCell ⟨n, 6, none⟩ v6).setCell ⟨n, 7, none⟩ v7).setCell ⟨n, 8, none⟩ v8).setCell ⟨n, 9, none⟩ v9) n 26 #[v0, v1, v2, v3, v4, v5, v6, v7, v8, v9, c10, c11] := b8.set v9 (i := 9)
  have b10 : Ce (((((((((((w.setCell ⟨n, 0, none⟩ v0).setCell ⟨n, 1, none⟩ v1).setCell ⟨n, 2, none⟩ v2).setCell ⟨n, 3, none⟩ v3).setCell ⟨n, 4, none⟩ v4).setCell ⟨n, 5, none⟩ v5).setCell ⟨n, 6, none⟩ v6).setCell ⟨n, 7, none⟩ v7).setCell ⟨n, 8, none⟩ v8).setCell ⟨n, 9, none⟩ v9).setCell ⟨n, 10, none⟩ v10) n 26 #[v0, v1, v2, v3, v4, v5, v6, v7, v8, v9, v10, c11] := b9.set v10 (i := 10)
  have b11 : Ce ((((((((((((w.setCell ⟨n, 0, none⟩ v0).setCell ⟨n, 1, none⟩ v1).setCell ⟨n, 2, none⟩ v2).setCell ⟨n, 3, none⟩ v3).setCell ⟨n, 4, none⟩ v4).setCell ⟨n, 5, none⟩ v5).setCell ⟨n, 6, none⟩ v6).setCell ⟨n, 7, none⟩ v7).setCell ⟨n, 8, none⟩ v8).setCell ⟨n, 9, none⟩ v9).setCell ⟨n, 10, none⟩ v10).setCell ⟨n, 11, none⟩ v11) n 26 #[v0, v1, v2, v3, v4, v5, v6, v7, v8, v9, v10, v11] := b10.set v11 (i := 11)
  exact b11
theorem set12_below {w w2 : World} {n : Nat} (h : Below w.heap.size w w2) (hn : w.heap.size ≤ n) (v0 v1 v2 v3 v4 v5 v6 v7 v8 v9 v10 v11 : Value) : Below w.heap.size w (set12 w2 n v0 v1 v2 v3 v4 v5 v6 v7 v8 v9 v10 v11) := ((((((((((((h.setCell (p := ⟨n, 0, none⟩) hn v0).setCell (p := ⟨n, 1, none⟩) hn v1).setCell (p := ⟨n, 2, none⟩) hn v2).setCell (p := ⟨n, 3, none⟩) hn v3).setCell (p := ⟨n, 4, none⟩) hn v4).setCell (p := ⟨n, 5, none⟩) hn v5).setCell (p := ⟨n, 6, none⟩) hn v6).setCell (p := ⟨n, 7, none⟩) hn v7).setCell (p := ⟨n, 8, none⟩) hn v8).setCell (p := ⟨n, 9, none⟩) hn v9).setCell (p := ⟨n, 10, none⟩) hn v10).setCell (p := ⟨n, 11, none⟩) hn v11)
theorem set12_keep {w : World} {n g : Nat} {T : TypeId} {cs : Array Value} (b : Ce w g T cs) (hg : g ≠ n) (v0 v1 v2 v3 v4 v5 v6 v7 v8 v9 v10 v11 : Value) : Ce (set12 w n v0 v1 v2 v3 v4 v5 v6 v7 v8 v9 v10 v11) g T cs := ((((((((((((b.other (i := 0) hg v0).other (i := 1) hg v1).other (i := 2) hg v2).other (i := 3) hg v3).other (i := 4) hg v4).other (i := 5) hg v5).other (i := 6) hg v6).other (i := 7) hg v7).other (i := 8) hg v8).other (i := 9) hg v9).other (i := 10) hg v10).other (i := 11) hg v11)
theorem set12_others (w : World) (n : Nat) (v0 v1 v2 v3 v4 v5 v6 v7 v8 v9 v10 v11 : Value) : w.heap.size ≤ (set12 w n v0 v1 v2 v3 v4 v5 v6 v7 v8 v9 v10 v11).heap.size ∧ ∀ k, k ≠ n → (set12 w n v0 v1 v2 v3 v4 v5 v6 v7 v8 v9 v10 v11).heap[k]? = w.heap[k]? :=
  ⟨by simp [set12], fun k hk => by simp only [set12]; repeat rw [Below.heap_setCell _ _ _ _ hk]⟩
/-- The four fields that Reply reads. -/
theorem four {W : World} {n : Nat} {id : Nat} {r a t d v : Bool} {op cd : Int} {q x y z : Sl} (h : Ce W n 26 (mc id r a t d v op cd q x y z)) :
    W.cell? ⟨n, 0, none⟩ = some (.int .u16 (id : Int)) ∧ W.cell? ⟨n, 4, none⟩ = some (.bool d) ∧ W.cell? ⟨n, 6, none⟩ = some (.int .i64 op) ∧ W.cell? ⟨n, 8, none⟩ = some q.v := by
  refine ⟨?_, ?_, ?_, ?_⟩ <;> (rw [h.cell]; rfl)
set_option maxRecDepth 100000 in
set_option maxHeartbeats 12800000 in
theorem reply_any (m : Ms) (hm : m.Ok) (code : Int) (q x y z : Sl) (w : World) (h : RdQ w q m.qs) :
    Calls Try.prog 21 #[.agg (m.cells q x y z), .int .i64 code] w fun e w' => ∃ s : Sl, e = .returned (.agg ((rplM m code).cells s nl nl nl)) ∧ RdQ w' s m.qs ∧ Below w.heap.size w w' := by
  have ht := two_boxes w 26 26 (m.cells q x y z) zcs
  simp only at ht
  have hl := h.below ht.2.2
  obtain ⟨mq, hmq⟩ : ∃ mq, mq = m.qs := ⟨_, rfl⟩
  have hok : ∀ q ∈ mq, q.n.size ≤ 140737488351232 := fun q hq => (hm.qs q (hmq ▸ hq)).n
  have hlen : mq.length ≤ 1000000 := by rw [hmq]; exact hm.nq
  rw [← hmq] at hl ⊢
  have C := fun w' hb => copied_q q mq hok hlen w' (hl.below hb)
  obtain ⟨K0, K1, KB⟩ := ht
  have HR : Hid (∀ s, (rplM m code).cells s nl nl nl = mc m.id true false false m.d true m.op code s nl nl nl) := Lib.hid fun s => rfl
  obtain ⟨id, r, a, t, d, v, op, cd, qs, an, au, ex⟩ := m
  simp only at HR
  clear hm h hok hlen hmq hl
  go_enter Try.func21, Try.ntmps21
  go_wp2_with fail
  generalize World.alloc _ _ = W at C K0 K1 KB ⊢
  have HC := Lib.hid (fun n => C (W.drewN n) (below_drewN W n))
  have HM0 := Lib.hid K0
  have HMd : Hid (Ce W.drew w.heap.size 26 (mc id r a t d v op cd q x y z)) := Lib.hid K0
  have HZ := Lib.hid K1
  have HB := Lib.hid KB
  obtain ⟨x0, x4, x6, x8⟩ := four K0
  have HNE : Hid (w.heap.size ≠ w.heap.size + 1) := Lib.hid (by omega)
  clear C K0 K1 KB
  go_region_held3 (fun w' => w'.cell? ⟨w.heap.size, 0, none⟩ = some (.int .u16 (id : Int)) ∧ w'.cell? ⟨w.heap.size, 4, none⟩ = some (.bool d) ∧ w'.cell? ⟨w.heap.size, 6, none⟩ = some (.int .i64 op) ∧ w'.cell? ⟨w.heap.size, 8, none⟩ = some q.v)
    (first | with_reducible exact four HM0.out | with_reducible exact four HMd.out | with_reducible exact four HM5.out | exact four (set12_keep HM5.out HNE.out _ _ _ _ _ _ _ _ _ _ _ _))
    (first
      | (go_at_call 47; refine (HC.out 1).mono ?_; rintro e w5 ⟨s, rfl, hr, hb5⟩; have HR5 := Lib.hid hr; have HM5 := Lib.hid (HMd.out.below hb5); have HZ5 := Lib.hid ((HZ.out.below (below_drewN W 1)).below hb5); have HB5 := Lib.hid ((below_drewN W 1).trans hb5); clear hr hb5; obtain ⟨z0, z1, z2, z3, z4, z5, z6, z7, z8, z9, z10, z11⟩ := c12 HZ5.out; obtain ⟨f0, f1, f2, f3, f4, f5, f6, f7, f8, f9, f10, f11⟩ := f12 HZ5.out))
  all_goals
    rename_i hheld
    clear hheld z0 z1 z2 z3 z4 z5 z6 z7 z8 z9 z10 z11 f0 f1 f2 f3 f4 f5 f6 f7 f8 f9 f10 f11
    have HZ6 := Lib.hid (set12_ce HZ5.out (.int .u16 (id : Int)) (.bool true) (.bool false) (.bool false) (.bool d) (.bool true) (.int .i64 op) (.int .i64 code) s.v nl.v nl.v nl.v)
    have HB6 := Lib.hid (set12_below (HB.out.trans (HB5.out.mono HB.out.size)) (Nat.le_succ w.heap.size) (.int .u16 (id : Int)) (.bool true) (.bool false) (.bool false) (.bool d) (.bool true) (.int .i64 op) (.int .i64 code) s.v nl.v nl.v nl.v)
    have k6 := set12_others w5 (w.heap.size + 1) (.int .u16 (id : Int)) (.bool true) (.bool false) (.bool false) (.bool d) (.bool true) (.int .i64 op) (.int .i64 code) s.v nl.v nl.v nl.v
    have HR6 := Lib.hid (HR5.out.other HZ5.out (mc_ns _ _ _ _ _ _ _ _ _ _ _ _) k6.1 k6.2)
    clear k6 x0 x4 x6 x8
    go_wp2
    refine bodyPost_ret (res12 rfl rfl HZ6.out) rfl ?_
    exact ⟨s, by rw [HR.out], HR6.out, HB6.out⟩
end Go.Proofs.Ytljfkjbagebncaa

/- SameQ -/
namespace Go.Proofs.Ytljfkjbagebncaa
open Go.RowKit
theorem sam_yes {a b : Bs} (h : a.length = b.length ∧ chk a = 0 ∧ chk b = 0) : (low a == low b) = sam a b := by unfold sam; rw [if_pos h]
set_option maxRecDepth 100000 in
set_option maxHeartbeats 1600000 in
theorem same_any (a b : ByteArray) (ha : a.size ≤ 1000000) (hb : b.size ≤ 1000000) (w : World) :
    Calls Try.prog 48 #[.string a, .string b] w fun e w' => e = .returned (.bool (sam a.data.toList b.data.toList)) ∧ Below w.heap.size w w' := by
  by_cases h : a.data.toList.length = b.data.toList.length ∧ chk a.data.toList = 0 ∧ chk b.data.toList = 0
  · have HS := Lib.hid (sam_yes h)
    have h1 : a.size = b.size := by rw [size_list, size_list]; exact h.1
    have q : ((a.size : Int) == (b.size : Int)) = true := by rw [h1]; simp
    have HA := Lib.hid h.2.1
    have HB := Lib.hid h.2.2
    clear h h1
    go_enter Try.func48, Try.ntmps48
    go_wp2_with fail
    refine (check_any a (by omega) w).mono ?_
    rintro e w1 ⟨rfl, hb1⟩
    rw [HA.out]
    go_wp2_with fail
    refine (check_any b (by omega) w1).mono ?_
    rintro e w2 ⟨rfl, hb2⟩
    rw [HB.out]
    have hb12 := hb1.trans (hb2.mono hb1.size)
    clear hb1 hb2
    go_wp2_with fail
    refine (lower_any a (by omega) w2).mono ?_
    rintro e w3 ⟨rfl, hb3⟩
    have hb13 := hb12.trans (hb3.mono hb12.size)
    clear hb12 hb3
    go_wp2_with fail
    refine (lower_any b (by omega) w3).mono ?_
    rintro e w4 ⟨rfl, hb4⟩
    go_wp2
    go_ret
    exact ⟨ret_b HS.out, hb13.trans (hb4.mono hb13.size)⟩
  · have HS := Lib.hid (sam_no h)
    by_cases h1 : a.size = b.size
    · have q : ((a.size : Int) == (b.size : Int)) = true := by rw [h1]; simp
      by_cases h2 : chk a.data.toList = 0
      · have h3 : ¬ chk b.data.toList = 0 := fun h3 => h ⟨by rw [← size_list, ← size_list]; exact h1, h2, h3⟩
        have HA := Lib.hid h2
        have q3 : (chk b.data.toList == 0) = false := by simpa using h3
        clear h h1 h2 h3
        go_enter Try.func48, Try.ntmps48
        go_wp2_with fail
        refine (check_any a (by omega) w).mono ?_
        rintro e w1 ⟨rfl, hb1⟩
        rw [HA.out]
        go_wp2_with fail
        refine (check_any b (by omega) w1).mono ?_
        rintro e w2 ⟨rfl, hb2⟩
        go_wp2
        go_ret
        exact ⟨ret_b HS.out, hb1.trans (hb2.mono hb1.size)⟩
      · have q3 : (chk a.data.toList == 0) = false := by simpa using h2
        clear h h1 h2
        go_enter Try.func48, Try.ntmps48
        go_wp2_with fail
        refine (check_any a (by omega) w).mono ?_
        rintro e w1 ⟨rfl, hb1⟩
        go_wp2
        go_ret
        exact ⟨ret_b HS.out, hb1⟩
    · have q : ((a.size : Int) == (b.size : Int)) = false := by simp; omega
      clear h h1
      go_enter Try.func48, Try.ntmps48
      go_wp2
      go_ret
      exact ⟨ret_b HS.out, Below.refl _ _⟩
/-- Do two questions ask for the same? -/
def sq (a b : Qn) : Bool := sam a.n.data.toList b.n.data.toList && decide (a.t = b.t) && decide (a.c = b.c)
set_option maxRecDepth 100000 in
set_option maxHeartbeats 3200000 in
theorem sameq_any (a b : Qn) (ha : a.n.size ≤ 1000000) (hb : b.n.size ≤ 1000000) (w : World) :
    Calls Try.prog 25 #[a.v, b.v] w fun e w' => e = .returned (.bool (sq a b)) ∧ Below w.heap.size w w' := by
  have C := Lib.hid (fun w => same_any a.n b.n ha hb w)
  have ht := two_boxes w 44 44 a.cells b.cells
  have HB := Lib.hid ht.2.2
  have HA := Lib.hid ht.1
  have HD := Lib.hid ht.2.1
  have HQ : Hid (sq a b = (sam a.n.data.toList b.n.data.toList && decide (a.t = b.t) && decide (a.c = b.c))) := Lib.hid rfl
  generalize sq a b = R at HQ ⊢
  generalize sam a.n.data.toList b.n.data.toList = S at C HQ
  obtain ⟨an, at_, ac⟩ := a
  obtain ⟨bn, bt, bc⟩ := b
  simp only at HQ
  clear ha hb ht
  go_enter Try.func25, Try.ntmps25
  go_wp2_with fail
  refine (C.out _).mono ?_
  rintro e w1 ⟨rfl, hb1⟩
  obtain ⟨x0, x1, x2⟩ := c3 (HA.out.below hb1)
  obtain ⟨y0, y1, y2⟩ := c3 (HD.out.below hb1)
  have HB1 := Lib.hid (HB.out.trans (hb1.mono HB.out.size))
  clear hb1
  cases S
  · have HF : Hid (false = R) := Lib.hid (by rw [HQ.out]; rfl)
    go_wp2
    go_ret
    exact ⟨ret_b HF.out, HB1.out⟩
  · by_cases h1 : at_ = bt
    · have q1 : ((at_ : Int) == (bt : Int)) = true := by rw [h1]; simp
      by_cases h2 : ac = bc
      · have q2 : ((ac : Int) == (bc : Int)) = true := by rw [h2]; simp
        have HF : Hid (true = R) := Lib.hid (by rw [HQ.out]; simp [h1, h2])
        clear h1 h2
        go_wp2
        go_ret
        exact ⟨ret_b HF.out, HB1.out⟩
      · have q2 : ((ac : Int) == (bc : Int)) = false := by simp; omega
        have HF : Hid (false = R) := Lib.hid (by rw [HQ.out]; simp [h2])
        clear h1 h2
        go_wp2
        go_ret
        exact ⟨ret_b HF.out, HB1.out⟩
    · have q1 : ((at_ : Int) == (bt : Int)) = false := by simp; omega
      have HF : Hid (false = R) := Lib.hid (by rw [HQ.out]; simp [h1])
      clear h1
      go_wp2
      go_ret
      exact ⟨ret_b HF.out, HB1.out⟩
set_option maxRecDepth 100000 in
set_option maxHeartbeats 3200000 in
theorem rsameq_any (a b : Qn) (ha : a.n.size ≤ 1000000) (hb : b.n.size ≤ 1000000) (w : World) :
    Calls Try.prog 26 #[a.v, b.v] w fun e w' => e = .returned (.bool (sq a b)) ∧ Below w.heap.size w w' := by
  have C := Lib.hid (fun w => rsame_any a.n b.n ha hb w)
  have ht := two_boxes w 44 44 a.cells b.cells
  have HB := Lib.hid ht.2.2
  have HA := Lib.hid ht.1
  have HD := Lib.hid ht.2.1
  have HQ : Hid (sq a b = (sam a.n.data.toList b.n.data.toList && decide (a.t = b.t) && decide (a.c = b.c))) := Lib.hid rfl
  generalize sq a b = R at HQ ⊢
  generalize sam a.n.data.toList b.n.data.toList = S at C HQ
  obtain ⟨an, at_, ac⟩ := a
  obtain ⟨bn, bt, bc⟩ := b
  simp only at HQ
  clear ha hb ht
  go_enter Try.func26, Try.ntmps26
  go_wp2_with fail
  refine (C.out _).mono ?_
  rintro e w1 ⟨rfl, hb1⟩
  obtain ⟨x0, x1, x2⟩ := c3 (HA.out.below hb1)
  obtain ⟨y0, y1, y2⟩ := c3 (HD.out.below hb1)
  have HB1 := Lib.hid (HB.out.trans (hb1.mono HB.out.size))
  clear hb1
  cases S
  · have HF : Hid (false = R) := Lib.hid (by rw [HQ.out]; rfl)
    go_wp2
    go_ret
    exact ⟨ret_b HF.out, HB1.out⟩
  · by_cases h1 : at_ = bt
    · have q1 : ((at_ : Int) == (bt : Int)) = true := by rw [h1]; simp
      by_cases h2 : ac = bc
      · have q2 : ((ac : Int) == (bc : Int)) = true := by rw [h2]; simp
        have HF : Hid (true = R) := Lib.hid (by rw [HQ.out]; simp [h1, h2])
        clear h1 h2
        go_wp2
        go_ret
        exact ⟨ret_b HF.out, HB1.out⟩
      · have q2 : ((ac : Int) == (bc : Int)) = false := by simp; omega
        have HF : Hid (false = R) := Lib.hid (by rw [HQ.out]; simp [h2])
        clear h1 h2
        go_wp2
        go_ret
        exact ⟨ret_b HF.out, HB1.out⟩
    · have q1 : ((at_ : Int) == (bt : Int)) = false := by simp; omega
      have HF : Hid (false = R) := Lib.hid (by rw [HQ.out]; simp [h1])
      clear h1
      go_wp2
      go_ret
      exact ⟨ret_b HF.out, HB1.out⟩
end Go.Proofs.Ytljfkjbagebncaa

/- Match -/
namespace Go.Proofs.Ytljfkjbagebncaa
open Go.RowKit
/-- Is m a response to ask? -/
def mt (ask m : Ms) : Bool := if m.r = true ∧ m.id = ask.id ∧ m.op = ask.op ∧ ask.qs.length = 1 ∧ m.qs.length = 1 then sq (ask.qs.headD zeroQ) (m.qs.headD zeroQ) else false
theorem mt_no {ask m : Ms} (h : ¬ (m.r = true ∧ m.id = ask.id ∧ m.op = ask.op ∧ ask.qs.length = 1 ∧ m.qs.length = 1)) : false = mt ask m := by unfold mt; rw [if_neg h]
theorem RdQ.one {w : World} {s : Sl} {qs : List Qn} (h : RdQ w s qs) (hn : qs.length = 1) : ∃ b off c, s = ⟨some ⟨b, off, none⟩, 1, c⟩ ∧ b < w.heap.size ∧ QnAt w b off (qs.headD zeroQ) := by
  obtain ⟨q, hq⟩ : ∃ q, qs = [q] := List.length_eq_one_iff.1 hn
  subst hq
  obtain ⟨b, off, e, hb, hc⟩ := h.get (k := 0) (q := q) rfl
  obtain ⟨sa, sn, sc⟩ := s
  have h1 : sn = 1 := h.1
  simp only at e
  subst e h1
  exact ⟨b, off, sc, rfl, hb, by simpa using hc⟩
set_option maxRecDepth 100000 in
set_option maxHeartbeats 6400000 in
theorem matches_any (k m : Ms) (hk : ∀ q ∈ k.qs, q.n.size ≤ 1000000) (hm : ∀ q ∈ m.qs, q.n.size ≤ 1000000) (q x y z q' x' y' z' : Sl) (w : World) (hq : RdQ w q k.qs) (hq' : RdQ w q' m.qs) :
    Calls Try.prog 22 #[.agg (k.cells q x y z), .agg (m.cells q' x' y' z')] w fun e w' => e = .returned (.bool (mt k m)) ∧ Below w.heap.size w w' := by
  have ht := two_boxes w 26 26 (k.cells q x y z) (m.cells q' x' y' z')
  simp only at ht
  obtain ⟨K0, K1, KB⟩ := ht
  have HNO : Hid (¬ (m.r = true ∧ m.id = k.id ∧ m.op = k.op ∧ k.qs.length = 1 ∧ m.qs.length = 1) → false = mt k m) := Lib.hid mt_no
  have HYES : Hid ((m.r = true ∧ m.id = k.id ∧ m.op = k.op ∧ k.qs.length = 1 ∧ m.qs.length = 1) → sq (k.qs.headD zeroQ) (m.qs.headD zeroQ) = mt k m) := Lib.hid fun h => by unfold mt; rw [if_pos h]
  have HQ := Lib.hid (hq.below KB)
  have HQ' := Lib.hid (hq'.below KB)
  have HKO := Lib.hid hk
  have HMO := Lib.hid hm
  generalize mt k m = R at HNO HYES ⊢
  obtain ⟨id, r, a, t, d, v, op, cd, qs, an, au, ex⟩ := k
  obtain ⟨id', r', a', t', d', v', op', cd', qs', an', au', ex'⟩ := m
  simp only at HNO HYES HQ HQ' HKO HMO
  clear hq hq' hk hm
  have HK0 := Lib.hid K0
  have HK1 := Lib.hid K1
  have HB := Lib.hid KB
  clear K0 K1 KB
  cases hr : r'
  · subst hr
    have HF := Lib.hid (HNO.out (by simp))
    clear HNO HYES
    go_enter Try.func22, Try.ntmps22
    go_wp2
    go_ret
    exact ⟨ret_b HF.out, HB.out⟩
  · subst hr
    by_cases h1 : id' = id
    · subst h1
      by_cases h2 : op' = op
      · subst h2
        go_enter Try.func22, Try.ntmps22
        go_wp2_with fail
        generalize World.alloc _ _ = W at HK0 HK1 HB HQ HQ' ⊢
        by_cases h3 : qs.length = 1
        · by_cases h4 : qs'.length = 1
          · obtain ⟨b, off, c, rfl, hb, hq⟩ := HQ.out.one h3
            obtain ⟨b', off', c', rfl, hb', hq'⟩ := HQ'.out.one h4
            have HF := Lib.hid (HYES.out ⟨trivial, trivial, trivial, h3, h4⟩)
            obtain ⟨A, hA, hAs⟩ : ∃ A, A = qs.headD zeroQ ∧ A.n.size ≤ 1000000 := ⟨_, rfl, by
              obtain ⟨q, e⟩ := List.length_eq_one_iff.1 h3
              rw [e]; exact HKO.out q (by rw [e]; simp)⟩
            obtain ⟨D, hD, hDs⟩ : ∃ D, D = qs'.headD zeroQ ∧ D.n.size ≤ 1000000 := ⟨_, rfl, by
              obtain ⟨q, e⟩ := List.length_eq_one_iff.1 h4
              rw [e]; exact HMO.out q (by rw [e]; simp)⟩
            rw [← hA] at hq HF
            rw [← hD] at hq' HF
            have HC := Lib.hid (fun w => sameq_any A D hAs hDs w)
            rw [HF.out] at HC
            obtain ⟨an, at_, ac⟩ := A
            obtain ⟨dn, dt, dc⟩ := D
            obtain ⟨d0, d1, d2⟩ := hq
            obtain ⟨e0, e1, e2⟩ := hq'
            simp only at d0 d1 d2 e0 e1 e2
            have x8 := HK0.out.cell 8
            have y8 := HK1.out.cell 8
            simp at x8 y8
            have HS := Lib.hid (show W.cell? ⟨w.heap.size, 8, none⟩ = some (.slice (some ⟨b, off, none⟩) 1 c) ∧ W.cell? ⟨w.heap.size + 1, 8, none⟩ = some (.slice (some ⟨b', off', none⟩) 1 c') ∧ W.cell? ⟨b, off, none⟩ = some (.string an) ∧ W.cell? ⟨b, off + 1, none⟩ = some (.int .u16 (at_ : Int)) ∧ W.cell? ⟨b, off + 2, none⟩ = some (.int .u16 (ac : Int)) ∧ W.cell? ⟨b', off', none⟩ = some (.string dn) ∧ W.cell? ⟨b', off' + 1, none⟩ = some (.int .u16 (dt : Int)) ∧ W.cell? ⟨b', off' + 2, none⟩ = some (.int .u16 (dc : Int)) from ⟨x8, y8, d0, d1, d2, e0, e1, e2⟩)
            have HL0 := Lib.hid HK0.out.lt
            have HL1 := Lib.hid HK1.out.lt
            have HL2 := Lib.hid hb
            have HL3 := Lib.hid hb'
            clear hA hD hAs hDs HF HNO HYES h3 h4 hb hb' HQ HQ' HKO HMO HK0 HK1
            go_region_held3 (fun w' => w'.cell? ⟨w.heap.size, 8, none⟩ = some (.slice (some ⟨b, off, none⟩) 1 c) ∧ w'.cell? ⟨w.heap.size + 1, 8, none⟩ = some (.slice (some ⟨b', off', none⟩) 1 c') ∧ w'.cell? ⟨b, off, none⟩ = some (.string an) ∧ w'.cell? ⟨b, off + 1, none⟩ = some (.int .u16 (at_ : Int)) ∧ w'.cell? ⟨b, off + 2, none⟩ = some (.int .u16 (ac : Int)) ∧ w'.cell? ⟨b', off', none⟩ = some (.string dn) ∧ w'.cell? ⟨b', off' + 1, none⟩ = some (.int .u16 (dt : Int)) ∧ w'.cell? ⟨b', off' + 2, none⟩ = some (.int .u16 (dc : Int)))
              (first | with_reducible exact HS.out | exact HS.out | with_reducible exact HS5.out)
              (first
                | (go_at_call 25; refine (HC.out _).mono ?_; rintro e w5 ⟨rfl, hb5⟩; have hb6 := (below_drewN W 1).trans hb5; have HB5 := Lib.hid (HB.out.trans (hb6.mono HB.out.size)); have HS5 := Lib.hid (show w5.cell? ⟨w.heap.size, 8, none⟩ = some (.slice (some ⟨b, off, none⟩) 1 c) ∧ w5.cell? ⟨w.heap.size + 1, 8, none⟩ = some (.slice (some ⟨b', off', none⟩) 1 c') ∧ w5.cell? ⟨b, off, none⟩ = some (.string an) ∧ w5.cell? ⟨b, off + 1, none⟩ = some (.int .u16 (at_ : Int)) ∧ w5.cell? ⟨b, off + 2, none⟩ = some (.int .u16 (ac : Int)) ∧ w5.cell? ⟨b', off', none⟩ = some (.string dn) ∧ w5.cell? ⟨b', off' + 1, none⟩ = some (.int .u16 (dt : Int)) ∧ w5.cell? ⟨b', off' + 2, none⟩ = some (.int .u16 (dc : Int)) from ⟨(hb6.cell (p := ⟨w.heap.size, 8, none⟩) HL0.out).trans HS.out.1, (hb6.cell (p := ⟨w.heap.size + 1, 8, none⟩) HL1.out).trans HS.out.2.1, (hb6.cell (p := ⟨b, off, none⟩) HL2.out).trans HS.out.2.2.1, (hb6.cell (p := ⟨b, off + 1, none⟩) HL2.out).trans HS.out.2.2.2.1, (hb6.cell (p := ⟨b, off + 2, none⟩) HL2.out).trans HS.out.2.2.2.2.1, (hb6.cell (p := ⟨b', off', none⟩) HL3.out).trans HS.out.2.2.2.2.2.1, (hb6.cell (p := ⟨b', off' + 1, none⟩) HL3.out).trans HS.out.2.2.2.2.2.2.1, (hb6.cell (p := ⟨b', off' + 2, none⟩) HL3.out).trans HS.out.2.2.2.2.2.2.2⟩); clear hb5 hb6))
            all_goals
              rename_i hheld
              clear hheld
              go_wp2
              go_ret
              exact ⟨rfl, HB5.out⟩
          · obtain ⟨b, off, c, rfl, hb, hq⟩ := HQ.out.one h3
            have q4 : ((q'.n : Int) == 1) = false := by
              have := HQ'.out.1
              simp; omega
            have x8 := HK0.out.cell 8
            have y8 := HK1.out.cell 8
            simp at x8 y8
            have HF := Lib.hid (HNO.out (by simp [h4]))
            clear HNO HYES h3 h4 hq hb
            go_quiet (fail)
            go_wp2
            go_ret
            exact ⟨ret_b HF.out, HB.out.trans (below_drewN _ _ |>.mono HB.out.size)⟩
        · have q3 : ((q.n : Int) == 1) = false := by
            have := HQ.out.1
            simp; omega
          have x8 := HK0.out.cell 8
          simp at x8
          have HF := Lib.hid (HNO.out (by simp [h3]))
          clear HNO HYES h3
          go_quiet (fail)
          go_wp2
          go_ret
          exact ⟨ret_b HF.out, HB.out.trans (below_drewN _ _ |>.mono HB.out.size)⟩
      · have q2 : (op' == op) = false := by simpa using h2
        have q2' : (op' != op) = true := by simpa using h2
        have HF := Lib.hid (HNO.out (by simp [h2]))
        clear HNO HYES h2
        go_enter Try.func22, Try.ntmps22
        go_wp2
        go_ret
        exact ⟨ret_b HF.out, HB.out⟩
    · have q1 : ((id' : Int) == (id : Int)) = false := by simp; omega
      have q1' : ((id' : Int) != (id : Int)) = true := by simp; omega
      have HF := Lib.hid (HNO.out (by simp [h1]))
      clear HNO HYES h1
      go_enter Try.func22, Try.ntmps22
      go_wp2
      go_ret
      exact ⟨ret_b HF.out, HB.out⟩
set_option maxRecDepth 100000 in
set_option maxHeartbeats 6400000 in
theorem rmatches_any (k m : Ms) (hk : ∀ q ∈ k.qs, q.n.size ≤ 1000000) (hm : ∀ q ∈ m.qs, q.n.size ≤ 1000000) (q x y z q' x' y' z' : Sl) (w : World) (hq : RdQ w q k.qs) (hq' : RdQ w q' m.qs) :
    Calls Try.prog 23 #[.agg (k.cells q x y z), .agg (m.cells q' x' y' z')] w fun e w' => e = .returned (.bool (mt k m)) ∧ Below w.heap.size w w' := by
  have ht := two_boxes w 26 26 (k.cells q x y z) (m.cells q' x' y' z')
  simp only at ht
  obtain ⟨K0, K1, KB⟩ := ht
  have HNO : Hid (¬ (m.r = true ∧ m.id = k.id ∧ m.op = k.op ∧ k.qs.length = 1 ∧ m.qs.length = 1) → false = mt k m) := Lib.hid mt_no
  have HYES : Hid ((m.r = true ∧ m.id = k.id ∧ m.op = k.op ∧ k.qs.length = 1 ∧ m.qs.length = 1) → sq (k.qs.headD zeroQ) (m.qs.headD zeroQ) = mt k m) := Lib.hid fun h => by unfold mt; rw [if_pos h]
  have HQ := Lib.hid (hq.below KB)
  have HQ' := Lib.hid (hq'.below KB)
  have HKO := Lib.hid hk
  have HMO := Lib.hid hm
  generalize mt k m = R at HNO HYES ⊢
  obtain ⟨id, r, a, t, d, v, op, cd, qs, an, au, ex⟩ := k
  obtain ⟨id', r', a', t', d', v', op', cd', qs', an', au', ex'⟩ := m
  simp only at HNO HYES HQ HQ' HKO HMO
  clear hq hq' hk hm
  have HK0 := Lib.hid K0
  have HK1 := Lib.hid K1
  have HB := Lib.hid KB
  clear K0 K1 KB
  cases hr : r'
  · subst hr
    have HF := Lib.hid (HNO.out (by simp))
    clear HNO HYES
    go_enter Try.func23, Try.ntmps23
    go_wp2
    go_ret
    exact ⟨ret_b HF.out, HB.out⟩
  · subst hr
    by_cases h1 : id' = id
    · subst h1
      by_cases h2 : op' = op
      · subst h2
        by_cases h3 : qs.length = 1
        · by_cases h4 : qs'.length = 1
          · obtain ⟨b, off, c, rfl, hb, hq⟩ := HQ.out.one h3
            obtain ⟨b', off', c', rfl, hb', hq'⟩ := HQ'.out.one h4
            have HX := Lib.hid hq
            have HX' := Lib.hid hq'
            have HY := Lib.hid hb
            have HY' := Lib.hid hb'
            have HH3 := Lib.hid h3
            have HH4 := Lib.hid h4
            clear hq hq' hb hb' h3 h4
            go_enter Try.func23, Try.ntmps23
            go_wp2_with fail
            generalize World.alloc _ _ = W at HK0 HK1 HB HQ HQ' HX HX' HY HY' ⊢
            have hq := HX.out
            have hq' := HX'.out
            have hb := HY.out
            have hb' := HY'.out
            have h3 := HH3.out
            have h4 := HH4.out
            clear HX HX' HY HY' HH3 HH4
            have HF := Lib.hid (HYES.out ⟨trivial, trivial, trivial, h3, h4⟩)
            obtain ⟨A, hA, hAs⟩ : ∃ A, A = qs.headD zeroQ ∧ A.n.size ≤ 1000000 := ⟨_, rfl, by
              obtain ⟨q, e⟩ := List.length_eq_one_iff.1 h3
              rw [e]; exact HKO.out q (by rw [e]; simp)⟩
            obtain ⟨D, hD, hDs⟩ : ∃ D, D = qs'.headD zeroQ ∧ D.n.size ≤ 1000000 := ⟨_, rfl, by
              obtain ⟨q, e⟩ := List.length_eq_one_iff.1 h4
              rw [e]; exact HMO.out q (by rw [e]; simp)⟩
            rw [← hA] at hq HF
            rw [← hD] at hq' HF
            have HC := Lib.hid (fun w => rsameq_any A D hAs hDs w)
            rw [HF.out] at HC
            obtain ⟨an, at_, ac⟩ := A
            obtain ⟨dn, dt, dc⟩ := D
            obtain ⟨d0, d1, d2⟩ := hq
            obtain ⟨e0, e1, e2⟩ := hq'
            simp only at d0 d1 d2 e0 e1 e2
            have x8 := HK0.out.cell 8
            have y8 := HK1.out.cell 8
            simp at x8 y8
            have HS := Lib.hid (show W.cell? ⟨w.heap.size, 8, none⟩ = some (.slice (some ⟨b, off, none⟩) 1 c) ∧ W.cell? ⟨w.heap.size + 1, 8, none⟩ = some (.slice (some ⟨b', off', none⟩) 1 c') ∧ W.cell? ⟨b, off, none⟩ = some (.string an) ∧ W.cell? ⟨b, off + 1, none⟩ = some (.int .u16 (at_ : Int)) ∧ W.cell? ⟨b, off + 2, none⟩ = some (.int .u16 (ac : Int)) ∧ W.cell? ⟨b', off', none⟩ = some (.string dn) ∧ W.cell? ⟨b', off' + 1, none⟩ = some (.int .u16 (dt : Int)) ∧ W.cell? ⟨b', off' + 2, none⟩ = some (.int .u16 (dc : Int)) from ⟨x8, y8, d0, d1, d2, e0, e1, e2⟩)
            have HL0 := Lib.hid HK0.out.lt
            have HL1 := Lib.hid HK1.out.lt
            have HL2 := Lib.hid hb
            have HL3 := Lib.hid hb'
            clear hA hD hAs hDs HF HNO HYES h3 h4 hb hb' HQ HQ' HKO HMO HK0 HK1
            go_region_held3 (fun w' => w'.cell? ⟨w.heap.size, 8, none⟩ = some (.slice (some ⟨b, off, none⟩) 1 c) ∧ w'.cell? ⟨w.heap.size + 1, 8, none⟩ = some (.slice (some ⟨b', off', none⟩) 1 c') ∧ w'.cell? ⟨b, off, none⟩ = some (.string an) ∧ w'.cell? ⟨b, off + 1, none⟩ = some (.int .u16 (at_ : Int)) ∧ w'.cell? ⟨b, off + 2, none⟩ = some (.int .u16 (ac : Int)) ∧ w'.cell? ⟨b', off', none⟩ = some (.string dn) ∧ w'.cell? ⟨b', off' + 1, none⟩ = some (.int .u16 (dt : Int)) ∧ w'.cell? ⟨b', off' + 2, none⟩ = some (.int .u16 (dc : Int)))
              (first | with_reducible exact HS.out | exact HS.out | with_reducible exact HS5.out)
              (first
                | (go_at_call 26; refine (HC.out _).mono ?_; rintro e w5 ⟨rfl, hb5⟩; have hb6 := (below_drewN W 1).trans hb5; have HB5 := Lib.hid (HB.out.trans (hb6.mono HB.out.size)); have HS5 := Lib.hid (show w5.cell? ⟨w.heap.size, 8, none⟩ = some (.slice (some ⟨b, off, none⟩) 1 c) ∧ w5.cell? ⟨w.heap.size + 1, 8, none⟩ = some (.slice (some ⟨b', off', none⟩) 1 c') ∧ w5.cell? ⟨b, off, none⟩ = some (.string an) ∧ w5.cell? ⟨b, off + 1, none⟩ = some (.int .u16 (at_ : Int)) ∧ w5.cell? ⟨b, off + 2, none⟩ = some (.int .u16 (ac : Int)) ∧ w5.cell? ⟨b', off', none⟩ = some (.string dn) ∧ w5.cell? ⟨b', off' + 1, none⟩ = some (.int .u16 (dt : Int)) ∧ w5.cell? ⟨b', off' + 2, none⟩ = some (.int .u16 (dc : Int)) from ⟨(hb6.cell (p := ⟨w.heap.size, 8, none⟩) HL0.out).trans HS.out.1, (hb6.cell (p := ⟨w.heap.size + 1, 8, none⟩) HL1.out).trans HS.out.2.1, (hb6.cell (p := ⟨b, off, none⟩) HL2.out).trans HS.out.2.2.1, (hb6.cell (p := ⟨b, off + 1, none⟩) HL2.out).trans HS.out.2.2.2.1, (hb6.cell (p := ⟨b, off + 2, none⟩) HL2.out).trans HS.out.2.2.2.2.1, (hb6.cell (p := ⟨b', off', none⟩) HL3.out).trans HS.out.2.2.2.2.2.1, (hb6.cell (p := ⟨b', off' + 1, none⟩) HL3.out).trans HS.out.2.2.2.2.2.2.1, (hb6.cell (p := ⟨b', off' + 2, none⟩) HL3.out).trans HS.out.2.2.2.2.2.2.2⟩); clear hb5 hb6))
            all_goals
              rename_i hheld
              clear hheld
              go_wp2
              go_ret
              exact ⟨rfl, HB5.out⟩
          · obtain ⟨b, off, c, rfl, hb, hq⟩ := HQ.out.one h3
            clear hb hq
            have q4 : ((q'.n : Int) == 1) = false := by
              have := HQ'.out.1
              simp; omega
            have q4' : ((q'.n : Int) != 1) = true := by
              have := HQ'.out.1
              simp; omega
            have HF := Lib.hid (HNO.out (by simp [h4]))
            clear HNO HYES h3 h4
            go_enter Try.func23, Try.ntmps23
            go_wp2
            go_ret
            exact ⟨ret_b HF.out, HB.out⟩
        · have q3 : ((q.n : Int) == 1) = false := by
            have := HQ.out.1
            simp; omega
          have q3' : ((q.n : Int) != 1) = true := by
            have := HQ.out.1
            simp; omega
          have HF := Lib.hid (HNO.out (by simp [h3]))
          clear HNO HYES h3
          go_enter Try.func23, Try.ntmps23
          go_wp2
          go_ret
          exact ⟨ret_b HF.out, HB.out⟩
      · have q2 : (op' == op) = false := by simpa using h2
        have q2' : (op' != op) = true := by simpa using h2
        have HF := Lib.hid (HNO.out (by simp [h2]))
        clear HNO HYES h2
        go_enter Try.func23, Try.ntmps23
        go_wp2
        go_ret
        exact ⟨ret_b HF.out, HB.out⟩
    · have q1 : ((id' : Int) == (id : Int)) = false := by simp; omega
      have q1' : ((id' : Int) != (id : Int)) = true := by simp; omega
      have HF := Lib.hid (HNO.out (by simp [h1]))
      clear HNO HYES h1
      go_enter Try.func23, Try.ntmps23
      go_wp2
      go_ret
      exact ⟨ret_b HF.out, HB.out⟩
end Go.Proofs.Ytljfkjbagebncaa

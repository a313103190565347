/-
  Lists of strings put in order: what merged and sorted answer has the same strings.
-/
import Derived.Test.YtpiiknbjllgaoaaCrash1
import Derived.Laws.MakeOwn
namespace Go.Proofs.Ytpiiknbjllgaoaa
open Go.RowKit
/-- A slice reads as a list of strings. -/
def RdS (w : World) (v : Value) (l : List ByteArray) : Prop := ∃ a cap, v = .slice a l.length cap ∧ l.length ≤ cap ∧ cap ≤ maxLen ∧ (l = [] ∨ ∃ g k, a = some ⟨g, k, none⟩ ∧ ∀ i s, l[i]? = some s → w.cell? ⟨g, k + i, none⟩ = some (.string s))
theorem RdS.below {w w' : World} {v : Value} {l : List ByteArray} (h : RdS w v l) (hb : Below w.heap.size w w') : RdS w' v l := by
  obtain ⟨a, cap, e, h1, h2, h3⟩ := h
  refine ⟨a, cap, e, h1, h2, h3.imp id fun ⟨g, k, e, hc⟩ => ⟨g, k, e, fun i s hs => ?_⟩⟩
  have := hc i s hs
  exact (hb.cell (w.block_lt_of_cell? _ this)).trans this
theorem info9 : (Try.prog.info? 9).map (fun i => (i.zero, i.size, i.bytes)) = some (some (.string ⟨#[]⟩), 1, 16) := by kernel_rfl
abbrev sv (l : List ByteArray) : List Value := l.map Value.string
/-- Strings of one's own. -/
theorem rds_of_own {w : World} {base : Nat} {v : Value} {l : List ByteArray} (h : w.ownsRow base 9 1 v l.length (sv l)) : RdS w v l := by
  rcases h.2 with ⟨rfl, h0⟩ | ⟨g, cap, cur, rfl, _, hg, h1, h2, h3, ht⟩
  · exact ⟨none, 0, by rw [h0], by omega, Nat.zero_le _, .inl (List.eq_nil_of_length_eq_zero h0)⟩
  · refine ⟨_, cap, rfl, h1, h2, .inr ⟨g, 0, rfl, fun i s hs => ?_⟩⟩
    have hil := (List.getElem?_eq_some_iff.1 hs).1
    have h5 : (sv l)[i]? = some (.string s) := by simp [sv, hs]
    rw [← ht, List.getElem?_take, if_pos (by omega)] at h5
    rw [cell_of_row w g _ cur 9 (0, 0) hg, Nat.zero_add]
    simpa using h5
/-- The list behind its first one. -/
theorem sl22 (g k n cap : Nat) (hn : 0 < n) (hc : n ≤ cap) : ∃ a, (1 < n → a = some ⟨g, k + 1, none⟩) ∧ ∀ w : World, (Instr.slice 27 (.slice (some ⟨g, k, none⟩) n cap) (some (.int .i64 1)) none none).run Try.prog w = .ok (.slice a (n - 1) (cap - 1)) w := by
  obtain ⟨i, hi, hz0, hz1, hz2⟩ := info_parts info9
  by_cases h1 : cap = 1
  · subst h1
    obtain rfl : n = 1 := by omega
    exact ⟨_, fun h => by omega, fun w => by simp [Instr.slice, Instr.sliceBounds, Instr.sliceBound, run_underlying Try.underlying27, sizeOf, typeInfo, hi, asIntOf]; rfl⟩
  · refine ⟨some ⟨g, k + 1, none⟩, fun _ => rfl, fun w => ?_⟩
    simp [Instr.slice, Instr.sliceBounds, Instr.sliceBound, run_underlying Try.underlying27, sizeOf, typeInfo, hi, hz1, asIntOf, h1, Addr.add_lit]
    omega
theorem RdS.tail {w : World} {s : ByteArray} {l : List ByteArray} {v : Value} (h : RdS w v (s :: l)) : ∃ g k cap v', v = .slice (some ⟨g, k, none⟩) (l.length + 1) cap ∧ w.cell? ⟨g, k, none⟩ = some (.string s) ∧ RdS w v' l ∧ ∀ w' : World, (Instr.slice 27 v (some (.int .i64 1)) none none).run Try.prog w' = .ok v' w' := by
  obtain ⟨a, cap, rfl, h1, h2, h3⟩ := h
  rcases h3 with e | ⟨g, k, rfl, hc⟩
  · cases e
  · obtain ⟨a', ha', hs⟩ := sl22 g k (s :: l).length cap (by simp) h1
    refine ⟨g, k, cap, _, rfl, hc 0 s rfl, ⟨a', cap - 1, ?_, by simp at h1; omega, by omega, ?_⟩, hs⟩
    · simp
    · by_cases h4 : 1 < (s :: l).length
      · refine .inr ⟨g, k + 1, ha' h4, fun i x hx => ?_⟩
        have := hc (i + 1) x (by simpa using hx)
        rw [show k + 1 + i = k + (i + 1) by omega]
        exact this
      · exact .inl (List.eq_nil_of_length_eq_zero (by simp at h4; simpa using h4))
theorem own_below {w w' : World} {base e size n : Nat} {v : Value} {xs : List Value} (h : w.ownsRow base e size v n xs) (hb : Below w.heap.size w w') : w'.ownsRow base e size v n xs := by
  refine ⟨h.1, ?_⟩
  rcases h.2 with h | ⟨g, cap, cur, rfl, h0, hg, r⟩
  · exact .inl h
  · exact .inr ⟨g, cap, cur, rfl, h0, (hb.block g (Array.getElem?_eq_some_iff.1 hg).1).trans hg, r⟩
/-- A list of strings is put behind one's own. -/
theorem wpList_app_sv {w : World} {ops : Array Oper} {rest : List Oper} {o : Oper} {a : Act} {Q : Exit → Act → World → Prop} (hgd : o.guard = none) (sl x : Operand)
    (ho : o.op = .call { callee := .builtin .append, args := #[sl, x], argTypes := #[27, 27] }) (base : Nat) (hbase : base ≤ w.heap.size) (v u : Value) (lo l : List ByteArray) (n : Nat) (hn : n = lo.length)
    (hs : a.eval sl = v) (hown : w.ownsRow base 9 1 v n (sv lo)) (hx : a.eval x = u) (hr : RdS w u l) (hB : lo.length ≤ 1000000) (hB2 : l.length ≤ 1000000)
    (h : ∀ v' w', w'.ownsRow base 9 1 v' (lo ++ l).length (sv (lo ++ l)) → Below base w w' → wpList Try.prog ops Q rest (a.put o.dst v') w') : wpList Try.prog ops Q (o :: rest) a w := by
  subst hn
  obtain ⟨i0, hi, hz0, hz1, hz2⟩ := info_parts info9
  have hsv : sv (lo ++ l) = sv lo ++ sv l := by simp [sv]
  by_cases hnone : ∃ c, u = .slice none 0 c
  · obtain ⟨c, rfl⟩ := hnone
    have hl : l = [] := by
      obtain ⟨a', c', e, _, _, h3⟩ := hr
      rcases h3 with h3 | ⟨g, k, rfl, _⟩
      · exact h3
      · cases e
    subst hl
    rw [List.append_nil] at h
    have hrun : ∀ ty, (Builtin.append_ #[27, 27] ty #[v, .slice none 0 c]).run Try.prog w = .ok v w := by
      intro ty
      rcases hown.2 with ⟨rfl, h0⟩ | ⟨g, cap, cur, rfl, _, hg, h1, _⟩
      · simp [Builtin.append_, run_underlying Try.underlying27, sizeOf, typeInfo, hi, Builtin.lenOf, Builtin.firstCells]
      · simp [Builtin.append_, run_underlying Try.underlying27, sizeOf, typeInfo, hi, Builtin.lenOf, Builtin.firstCells, storeCells, h1]
    refine wpList_plain hgd fun K hK => ?_
    unfold Oper.wp execOp
    simp only [ho, resolve, invoke, builtin, Sem.run_bind, Sem.run_pure, Result.andThen_ok, List.map_toArray, List.map_cons, List.map_nil, hs, hx, hrun]
    exact hK _ _ (h v w hown (Below.refl _ _))
  · have hsome : ∃ ad c, u = .slice (some ad) l.length c ∧ ∀ j x, (sv l)[j]? = some x → w.cell? (ad.add j) = some x := by
      obtain ⟨a', c', rfl, _, _, h3⟩ := hr
      cases a' with
      | none =>
        rcases h3 with rfl | ⟨g, k, e, _⟩
        · exact absurd ⟨c', rfl⟩ hnone
        · cases e
      | some ad =>
        refine ⟨ad, c', rfl, fun j x hj => ?_⟩
        rcases h3 with rfl | ⟨g, k, e, hc⟩
        · simp [sv] at hj
        · cases e
          obtain ⟨s, hs, rfl⟩ : ∃ s, l[j]? = some s ∧ x = .string s := by
            unfold sv at hj
            rw [List.getElem?_map] at hj
            cases hl : l[j]? with
            | none => rw [hl] at hj; cases hj
            | some s => rw [hl] at hj; exact ⟨s, rfl, by simpa using hj.symm⟩
          rw [Addr.add_lit]
          exact hc j s hs
    obtain ⟨ad, c, rfl, hc⟩ := hsome
    refine wpList_append_own_at w hgd sl x 27 ho base 9 i0 _ 1 16 Try.underlying27 hi hz0 hz1 hz2 rfl (by decide) v lo.length (sv lo) hs hown ad l.length c (sv l) hx (by simp) hc (by intro u hu; obtain ⟨s, _, rfl⟩ := List.mem_map.1 hu; rfl) (by unfold maxLen; omega) (by omega) hbase ?_
    intro v' w' hown' hg _ _
    exact h v' w' (by rw [List.length_append, hsv]; exact hown') ((Below.refl _ _).grown hg hbase (fun j hj => (World.ownsRow.lt hown j hj).1))
/-- Go's order of strings. -/
def lt (x y : ByteArray) : Bool := Op.bytesLess x.toList y.toList
def mrg : List ByteArray → List ByteArray → List ByteArray
  | [], b => b
  | a, [] => a
  | x :: a, y :: b => if lt x y then x :: mrg a (y :: b) else y :: mrg (x :: a) b
termination_by a b => a.length + b.length
theorem mrg_nil (b : List ByteArray) : mrg [] b = b := by unfold mrg; rfl
theorem mrg_nil2 (a : List ByteArray) : mrg a [] = a := by
  cases a
  · exact mrg_nil []
  · unfold mrg; rfl
theorem mrg_cons (x y : ByteArray) (a b : List ByteArray) : mrg (x :: a) (y :: b) = if lt x y then x :: mrg a (y :: b) else y :: mrg (x :: a) b := by
  rw [mrg]
theorem mrg_perm : ∀ (n : Nat) (a b : List ByteArray), a.length + b.length ≤ n → (mrg a b).Perm (a ++ b)
  | _, [], b, _ => by rw [mrg_nil]; exact List.Perm.refl _
  | _, x :: a, [], _ => by rw [mrg_nil2, List.append_nil]
  | 0, x :: a, y :: b, h => by simp at h
  | n + 1, x :: a, y :: b, h => by
    rw [mrg_cons]
    simp only [List.length_cons] at h
    split
    · exact (mrg_perm n a (y :: b) (by simp only [List.length_cons]; omega)).cons x
    · exact ((mrg_perm n (x :: a) b (by simp only [List.length_cons]; omega)).cons y).trans List.perm_middle.symm
def lenOf : Value → Nat
  | .slice _ n _ => n
  | _ => 0
set_option maxRecDepth 100000 in
set_option maxHeartbeats 6400000 in
theorem merged_any {la lb : List ByteArray} {va vb : Value} {w : World} (ha : RdS w va la) (hb : RdS w vb lb) (hB : la.length + lb.length ≤ 1000000) :
    Calls Try.prog 81 #[va, vb] w fun e w' => ∃ v', e = .returned v' ∧ w'.ownsRow w.heap.size 9 1 v' (mrg la lb).length (sv (mrg la lb)) ∧ Below w.heap.size w w' := by
  obtain ⟨i0, hi, hz0, hz1, hz2⟩ := info_parts info9
  have HA := Lib.hid ha
  have HB := Lib.hid hb
  obtain ⟨a, ca, rfl, _⟩ := ha
  obtain ⟨c, cb, rfl, _⟩ := hb
  have hla : la.length ≤ 1000000 := by omega
  have hlb : lb.length ≤ 1000000 := by omega
  have HSUM := Lib.hid hB
  have hab : (0 : Int) ≤ (la.length : Int) + (lb.length : Int) := by omega
  obtain ⟨n, hn⟩ : ∃ n, n = la.length := ⟨_, rfl⟩
  obtain ⟨m, hm⟩ : ∃ m, m = lb.length := ⟨_, rfl⟩
  rw [← hn] at hla hab ⊢
  rw [← hm] at hlb hab ⊢
  have HN := Lib.hid hn
  have HM := Lib.hid hm
  obtain ⟨w0, hmk, hown0, hg0⟩ := run_make_own (P := Try.prog) w w.heap.size 27 9 i0 _ 1 Try.underlying27 hi hz0 hz1 .i64 .i64 (n + m) (by rw [hz2]; omega) (by unfold maxLen; omega) (Nat.le_refl _)
  rw [show ((n + m : Nat) : Int) = (n : Int) + (m : Int) from Int.natCast_add _ _] at hmk
  have HO0 := Lib.hid hown0
  have HB0 := Lib.hid ((Below.refl w.heap.size w).grown hg0 (Nat.le_refl _) (fun j hj => by cases hj))
  have HA0 := Lib.hid (HA.out.below HB0.out)
  have HBB0 := Lib.hid (HB.out.below HB0.out)
  rw [← HN.out] at HA0
  rw [← HM.out] at HBB0
  clear hn hm hB hown0 hg0
  go_enter Try.func81, Try.ntmps81
  go_wp2_with fail
  go_loopw [0, 1, 5] (fun u0 u1 u5 wr => ∃ lo l1 l2, wr.ownsRow w.heap.size 9 1 u5 lo.length (sv lo) ∧ RdS w u0 l1 ∧ RdS w u1 l2 ∧ mrg la lb = lo ++ mrg l1 l2 ∧ Below w.heap.size w wr) (fun u0 u1 _ _ => lenOf u0 + lenOf u1)
  case atStart => exact ⟨[], la, lb, HO0.out, by rw [HN.out]; exact HA.out, by rw [HM.out]; exact HB.out, rfl, HB0.out⟩
  case round =>
    obtain ⟨lo, l1, l2, hown, h1, h2, hp, hbe⟩ := hrel
    have HOW := Lib.hid hown
    have HPM := Lib.hid hp
    have HBE := Lib.hid hbe
    have hlen := congrArg List.length hp
    rw [List.length_append, (mrg_perm _ la lb (Nat.le_refl _)).length_eq, (mrg_perm _ l1 l2 (Nat.le_refl _)).length_eq, List.length_append, List.length_append] at hlen
    have hs := HSUM.out
    have hlo : lo.length ≤ 1000000 := by omega
    have hl1 : l1.length ≤ 1000000 := by omega
    have hl2 : l2.length ≤ 1000000 := by omega
    have H1 := Lib.hid h1
    have H2 := Lib.hid h2
    clear hown hp hbe hlen hs
    cases l1 with
    | nil =>
      obtain ⟨a1, c1, e, _⟩ := h1
      have e : u0 = .slice a1 0 c1 := e
      subst e
      obtain ⟨a2, c2, rfl, _⟩ := h2
      have HE : Hid (mrg la lb = lo ++ l2) := Lib.hid (by rw [HPM.out, mrg_nil])
      have hsz := HBE.out.size
      have R1 := Lib.hid (H1.out.below HBE.out)
      have R2 := Lib.hid (H2.out.below HBE.out)
      skip
      go_wp2_with (at_builtin; refine wpList_app_sv rfl (.tmp 43) (.tmp 44) rfl w.heap.size hsz _ _ lo [] _ rfl rfl HOW.out rfl R1.out (by assumption) (by first | assumption | decide) ?_)
      intro v3 w3 hown3 hb3
      have R3 : Hid (RdS w3 _ l2) := Lib.hid (H2.out.below (HBE.out.trans hb3))
      have HO3 : Hid (w3.ownsRow w.heap.size 9 1 v3 lo.length (sv lo)) := Lib.hid (by simpa using hown3)
      have HB3 := Lib.hid (HBE.out.trans hb3)
      have hsz3 := HB3.out.size
      clear hown3 hb3
      go_wp2_with (at_builtin; refine wpList_app_sv rfl (.tmp 45) (.tmp 46) rfl w.heap.size hsz3 _ _ lo l2 _ rfl rfl HO3.out rfl R3.out hlo (by first | assumption | decide) ?_)
      intro v4 w4 hown4 hb4
      have HO4 : Hid (w4.ownsRow w.heap.size 9 1 v4 (lo ++ l2).length (sv (lo ++ l2))) := Lib.hid (by simpa using hown4)
      have HB4 := Lib.hid (HB3.out.trans hb4)
      clear hown4 hb4
      go_wp2
      go_ret
      exact ⟨_, rfl, by rw [HE.out]; exact HO4.out, HB4.out⟩
    | cons x r1 =>
      cases l2 with
      | nil =>
        obtain ⟨a1, c1, e1, _⟩ := h1
        obtain ⟨a2, c2, e2, _⟩ := h2
        have e1 : u0 = .slice a1 (r1.length + 1) c1 := e1
        have e2 : u1 = .slice a2 0 c2 := e2
        subst e1 e2
        have HE : Hid (mrg la lb = lo ++ (x :: r1)) := Lib.hid (by rw [HPM.out, mrg_nil2])
        have hsz := HBE.out.size
        have R1 := Lib.hid (H1.out.below HBE.out)
        have R2 := Lib.hid (H2.out.below HBE.out)
        have q1 : (0 : Int) < (r1.length : Int) + 1 := by omega
        go_wp2_with (at_builtin; refine wpList_app_sv rfl (.tmp 43) (.tmp 44) rfl w.heap.size hsz _ _ lo (x :: r1) _ rfl rfl HOW.out rfl R1.out (by assumption) (by first | assumption | decide) ?_)
        intro v3 w3 hown3 hb3
        have R3 : Hid (RdS w3 _ []) := Lib.hid (H2.out.below (HBE.out.trans hb3))
        have HO3 : Hid (w3.ownsRow w.heap.size 9 1 v3 (lo ++ (x :: r1)).length (sv (lo ++ (x :: r1)))) := Lib.hid (by simpa using hown3)
        obtain ⟨X, hX⟩ : ∃ X, X = lo ++ (x :: r1) := ⟨_, rfl⟩
        rw [← hX] at HO3 HE
        have HB3 := Lib.hid (HBE.out.trans hb3)
        have hsz3 := HB3.out.size
        have hlo3 : X.length ≤ 1000000 := by rw [hX]; have := congrArg List.length HPM.out; rw [mrg_nil2, (mrg_perm _ la lb (Nat.le_refl _)).length_eq, List.length_append] at this; have := HSUM.out; omega
        clear hX
        clear hown3 hb3
        go_wp2_with (at_builtin; refine wpList_app_sv rfl (.tmp 45) (.tmp 46) rfl w.heap.size hsz3 _ _ X [] _ rfl rfl HO3.out rfl R3.out hlo3 (by first | assumption | decide) ?_)
        intro v4 w4 hown4 hb4
        have HO4 : Hid (w4.ownsRow w.heap.size 9 1 v4 X.length (sv X)) := Lib.hid (by simpa using hown4)
        have HB4 := Lib.hid (HB3.out.trans hb4)
        clear hown4 hb4
        go_wp2
        go_ret
        exact ⟨_, rfl, by rw [HE.out]; exact HO4.out, HB4.out⟩
      | cons y r2 =>
        obtain ⟨g1, k1, c1, v1, rfl, cx, ht1, hs1⟩ := h1.tail
        obtain ⟨g2, k2, c2, v2, rfl, cy, ht2, hs2⟩ := h2.tail
        have HT1 := Lib.hid ht1
        have HT2 := Lib.hid ht2
        obtain ⟨a1, b1, rfl, _⟩ := ht1
        obtain ⟨a2, b2, rfl, _⟩ := ht2
        have q1 : (0 : Int) < (r1.length : Int) + 1 := by omega
        have q2 : (0 : Int) < (r2.length : Int) + 1 := by omega
        have Hx := Lib.hid cx
        have Hy := Lib.hid cy
        have cx := (HBE.out.cell (w.block_lt_of_cell? _ Hx.out)).trans Hx.out
        have cy := (HBE.out.cell (w.block_lt_of_cell? _ Hy.out)).trans Hy.out
        clear h1 h2
        have HLN := Lib.hid (mrg_cons x y r1 r2)
        unfold lt at HLN
        cases hq : Op.bytesLess x.toList y.toList with
        | true =>
          rw [hq, if_pos rfl] at HLN
          go_wp2_with fail
          go_quiet (fail)
          obtain ⟨w1, hw1⟩ : ∃ w1, w1 = wr.drewN nq := ⟨_, rfl⟩
          have BN : Hid (Below w.heap.size w w1) := Lib.hid (by rw [hw1]; exact HBE.out.trans ((below_drewN wr nq).mono HBE.out.size))
          have ON : Hid (w1.ownsRow w.heap.size 9 1 u5 lo.length (sv lo)) := Lib.hid (by rw [hw1]; exact own_below HOW.out (below_drewN wr nq))
          have CX : w1.cell? ⟨g1, k1, none⟩ = some (.string x) := (BN.out.cell (w.block_lt_of_cell? _ Hx.out)).trans Hx.out
          rw [← hw1]
          clear hw1 cx cy
          have hsz := BN.out.size
          go_wp2_with fail
          go_region_law ((refine step_append_lies _ rfl (.tmp 27) (.tmp 31) 27 rfl w.heap.size 9 i0 (.string ⟨#[]⟩) 1 16 Try.underlying27 hi hz0 hz1 hz2 rfl (by decide) u5 lo.length _ (by simp [Act.eval]) (ON.out.alloc _).drew ⟨w1.heap.size, 0, none⟩ 1 1 [.string x] (by simp [Act.eval]) rfl (fun j u hj => World.news_of_block (cs := #[.string x]) (t := 9) (fr := (0, 0)) (heap_alloc_new w1 _) j u hj) (by simp [Value.oneCell']) (by decide) (by unfold maxLen; omega) (by omega) (by simp; omega) _ rfl ?_; intro g3 cap3 w2 hown2 hg2 hat2 hlt2))
          have hb2 := (((Below.refl _ w1).alloc hsz (.cells #[.string x] 9)).drew.grown hg2 (by simp; omega) (fun j hj => (World.ownsRow.lt ON.out j hj).1))
          have HB2 := Lib.hid (BN.out.trans hb2)
          have HO2 := Lib.hid hown2
          clear hown2 hg2 hat2 hlt2 hb2
          change Exit.inBlock 1 _ Exit.normal { tmps := #[_, _, _, _, _, _, _, _, _, _, _, _, _, _, _, _, _, _, _, _, _, _, _, _, _, _, _, _, _, _, _, _, _, _, _, _, _, _, _, _, _, _, _, _, _, _, _, _], defers := [] } w2
          go_roundw
          case rel =>
            refine ⟨_, _, _, _, _, _, _, _, _, _, _, _, _, _, _, _, _, _, _, _, _, _, _, _, _, _, _, _, _, _, _, _, _, _, ?_, rfl⟩
            exact ⟨lo ++ [x], r1, (y :: r2), by rw [List.length_append, show sv (lo ++ [x]) = sv lo ++ [.string x] by simp [sv]]; exact HO2.out, HT1.out, H2.out, by rw [HPM.out, HLN.out, List.append_assoc]; rfl, HB2.out⟩
          case measure => simp [lenOf]; try omega
        | false =>
          rw [hq, if_neg (by simp)] at HLN
          go_wp2_with fail
          go_quiet (fail)
          obtain ⟨w1, hw1⟩ : ∃ w1, w1 = wr.drewN nq := ⟨_, rfl⟩
          have BN : Hid (Below w.heap.size w w1) := Lib.hid (by rw [hw1]; exact HBE.out.trans ((below_drewN wr nq).mono HBE.out.size))
          have ON : Hid (w1.ownsRow w.heap.size 9 1 u5 lo.length (sv lo)) := Lib.hid (by rw [hw1]; exact own_below HOW.out (below_drewN wr nq))
          have CX : w1.cell? ⟨g2, k2, none⟩ = some (.string y) := (BN.out.cell (w.block_lt_of_cell? _ Hy.out)).trans Hy.out
          rw [← hw1]
          clear hw1 cx cy
          have hsz := BN.out.size
          go_wp2_with fail
          go_region_law ((refine step_append_lies _ rfl (.tmp 35) (.tmp 39) 27 rfl w.heap.size 9 i0 (.string ⟨#[]⟩) 1 16 Try.underlying27 hi hz0 hz1 hz2 rfl (by decide) u5 lo.length _ (by simp [Act.eval]) (ON.out.alloc _).drew ⟨w1.heap.size, 0, none⟩ 1 1 [.string y] (by simp [Act.eval]) rfl (fun j u hj => World.news_of_block (cs := #[.string y]) (t := 9) (fr := (0, 0)) (heap_alloc_new w1 _) j u hj) (by simp [Value.oneCell']) (by decide) (by unfold maxLen; omega) (by omega) (by simp; omega) _ rfl ?_; intro g3 cap3 w2 hown2 hg2 hat2 hlt2))
          have hb2 := (((Below.refl _ w1).alloc hsz (.cells #[.string y] 9)).drew.grown hg2 (by simp; omega) (fun j hj => (World.ownsRow.lt ON.out j hj).1))
          have HB2 := Lib.hid (BN.out.trans hb2)
          have HO2 := Lib.hid hown2
          clear hown2 hg2 hat2 hlt2 hb2
          change Exit.inBlock 1 _ Exit.normal { tmps := #[_, _, _, _, _, _, _, _, _, _, _, _, _, _, _, _, _, _, _, _, _, _, _, _, _, _, _, _, _, _, _, _, _, _, _, _, _, _, _, _, _, _, _, _, _, _, _, _], defers := [] } w2
          go_roundw
          case rel =>
            refine ⟨_, _, _, _, _, _, _, _, _, _, _, _, _, _, _, _, _, _, _, _, _, _, _, _, _, _, _, _, _, _, _, _, _, _, ?_, rfl⟩
            exact ⟨lo ++ [y], (x :: r1), r2, by rw [List.length_append, show sv (lo ++ [y]) = sv lo ++ [.string y] by simp [sv]]; exact HO2.out, H1.out, HT2.out, by rw [HPM.out, HLN.out, List.append_assoc]; rfl, HB2.out⟩
          case measure => simp [lenOf]; try omega
end Go.Proofs.Ytpiiknbjllgaoaa

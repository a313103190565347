/-
  What Labels answers, for every text; no older memory is changed.
-/
import Derived.Test.YtpeojicimmofjaaDoorRLabels
namespace Go.Proofs.YtpeojicimmofjaaDoor
open Go.RowKit Go.Shelf
attribute [local go_sem] Oper.semAt_some
set_option maxRecDepth 100000 in
set_option maxHeartbeats 2000000 in
theorem labels_no (F : Fence) (n : Nat) (h13 : F.fn 11) (h16 : F.fn 20) (h36 : F.fn 21) (h43 : F.fn 29) (hro : F.round = none) (hn : 4 ≤ n) (s : ByteArray) (hs : s.size ≤ 140737488351232) (hz : ¬ chk s.data.toList = 0) (w : World) :
    CallsIn F n Tryd.prog 11 #[.string s] w fun e w' => e = .returned (.tuple #[.slice none 0 0, .int .i64 (chk s.data.toList)]) ∧ Below w.heap.size w w' := by
  have h1 : 1 ≤ n := by omega
  have q : (chk s.data.toList == 0) = false := by simpa using hz
  have q' : (chk s.data.toList != 0) = true := by simpa using hz
  refine callsIn_of_wp_marks Tryd.func11 rfl h13 ?_ hro
  simp only [Tryd.ntmps11, List.size_toArray, List.length_cons, List.length_nil, Nat.reduceAdd, Nat.reduceSub, Array.replicate_succ, Array.replicate_zero, List.push_toArray, List.append_toArray, List.nil_append, List.cons_append]
  gi_wp2_with (gi_at_call 20; refine (check_in F (n - 1) h16 h36 h43 hro (by omega) s hs _).mono ?_; rintro e w1 ⟨rfl, hb1⟩)
  exact ⟨_, results_tmp2 rfl _ _ _, rfl, hb1⟩
theorem row_below {w w' : World} {base e size n : Nat} {v : Value} {xs : List Value} (h : w.ownsRow base e size v n xs) (hb : Below w.heap.size w w') : w'.ownsRow base e size v n xs := by
  refine World.ownsRow.kept (row := none) h ⟨hb.os, hb.tape, hb.output, hb.size, fun k hk _ => hb.block k hk⟩ ?_
  cases hv : v.ownBlock <;> simp
theorem row_mono {w : World} {B B' e size n : Nat} {v : Value} {xs : List Value} (h : w.ownsRow B e size v n xs) (hB : B' ≤ B) : w.ownsRow B' e size v n xs := by
  refine ⟨h.1, ?_⟩
  rcases h.2 with h0 | ⟨g, cap, cur, e, hb, r⟩
  · exact .inl h0
  · exact .inr ⟨g, cap, cur, e, Nat.le_trans hB hb, r⟩
theorem kpB_append {W w1 : World} {B r base e size k : Nat} {tmp : Obj} {v v' : Value} {xs : List Value} (hr : W.ownsRow base e size v k xs) (hB : B < base) (hne : B ≠ r) (hgrow : (W.alloc tmp).grownBy w1 v.ownBlock) : KpB B W (w1.setCell ⟨r, 0, none⟩ v') := fun u hu => by
  have hlt := World.block_lt_of_cell? W _ hu
  have h1 : (W.alloc tmp).cell? ⟨B, 0, none⟩ = some u := World.grownBy.cell (World.grownBy_alloc W tmp none) hu (by simp)
  have h2 := World.grownBy.cell hgrow h1 (fun e' => by have := (World.ownsRow.lt hr _ e'.symm).1; simp at this; omega)
  exact kpB_set hne v' u h2
theorem items_strs (p : Nat) {ls : List Bs} (h : ∀ x ∈ ls, OkL x) : (items p ls).map (fun x => Value.string x.1.1) = ls.map str := by
  induction ls generalizing p with
  | nil => rfl
  | cons x ls ih =>
    simp only [items, List.map_cons]
    rw [item_str p x (h x (by simp)), ih _ (fun y hy => h y (by simp [hy]))]
theorem below_drew {W w2 : World} (h : Below W.drew.heap.size W.drew w2) : Below W.heap.size W w2 := (Below.refl W.heap.size W).drew.trans h
theorem keeps_below {W w2 : World} (h : Below W.heap.size W w2) : KeepsOthers W w2 :=
  KeepsOthers.of_grownBy (row := none) ⟨h.os, h.tape, h.output, h.size, fun k hk _ => h.block k hk⟩ (fun j o e _ => by cases e)
theorem after_append {w W w2 w3 : World} {r B base k : Nat} {v v' : Value} {xs : List Value} {x : Value} {tmp : Obj} (hv : Boxed W r 30 v) (hrow : W.ownsRow base 9 1 v k xs) (hb2 : Below W.heap.size W w2) (hsb : base ≤ W.heap.size)
    (hown' : w3.ownsRow base 9 1 v' (k + 1) (xs ++ [x])) (hgrow : (w2.alloc tmp).grownBy w3 v.ownBlock) (hwr : w.heap.size ≤ r) (hwb : w.heap.size ≤ base) (hBb : B < base) (hBr : B ≠ r) (hB : Below w.heap.size w W) :
    (w3.cell? ⟨r, 0, none⟩ = some v ∧ w3.frozen? ⟨r, 0, none⟩ = false) ∧ KeepsOthers W (w3.setCell ⟨r, 0, none⟩ v') ∧ KpB B W (w3.setCell ⟨r, 0, none⟩ v') ∧ Boxed (w3.setCell ⟨r, 0, none⟩ v') r 30 v' ∧
      (w3.setCell ⟨r, 0, none⟩ v').ownsRow base 9 1 v' (k + 1) (xs ++ [x]) ∧ base ≤ (w3.setCell ⟨r, 0, none⟩ v').heap.size ∧ Below w.heap.size w (w3.setCell ⟨r, 0, none⟩ v') := by
  have hv2 : Boxed w2 r 30 v := (hb2.block _ hv.lt).trans hv
  have hrow2 := row_below hrow hb2
  have hs2 := hb2.size
  have hs := hB.size
  obtain ⟨b1, b2, b3, b4, b5⟩ := hv2.appended (by decide) (row_mono hrow2 hwb) (by omega) hwr (row_mono hown' hwb) hgrow
  refine ⟨⟨b1.cell, b1.frozen⟩, (keeps_below hb2).trans b4, kpB_t (kpB_below hb2 (by omega)) (kpB_append hrow2 hBb hBr hgrow), b2, hown'.kept (grownBy_setCell' w3 r v') (.inr (b1.not_row (by decide) hown').symm), ?_, hB.trans ((hb2.mono hs).trans b5)⟩
  have h3 := hgrow.size
  rw [World.size_setCell]
  simp at h3
  omega
theorem after_call {W w2 : World} {r t : Nat} {v : Value} (hv : Boxed W r t v) (hb : Below W.drew.heap.size W.drew w2) : w2.cell? ⟨r, 0, none⟩ = some v ∧ w2.frozen? ⟨r, 0, none⟩ = false ∧ W.heap.size ≤ w2.heap.size ∧ ∀ o, (w2.alloc o).cell? ⟨r, 0, none⟩ = some v := by
  have hv2 : Boxed w2 r t v := (hb.block _ hv.lt).trans hv
  exact ⟨hv2.cell, hv2.frozen, hb.size, fun o => (hv2.alloc o).cell⟩
theorem stepIn_append {F : Fence} {n : Nat} {P : Program} (w : World) {ops : Array Oper} {o : Oper} {a : Act} {K : Act → World → Prop} {Q : Exit → Act → World → Prop} {E : Prop}
    (hg : o.guard = none) (s x : Operand) (t : TypeId) (hop : o.op = Op.call { callee := Callee.builtin Builtin.append, args := #[s, x], argTypes := #[t, t] })
    (base : Nat) (e : TypeId) (i : TypeInfo) (z : Value) (size bytes : Nat) (h1 : P.underlying t = some (.slice e)) (h2 : P.info? e = some i) (h3 : i.zero = some z) (h4 : i.size = size) (h5 : i.bytes = bytes) (h6 : z.cells.size = size) (h7 : 0 < size)
    (v : Value) (k : Nat) (xs : List Value) (hs : a.eval s = v) (hown : w.ownsRow base e size v k xs) (ad : Addr) (m c : Nat) (news : List Value) (hx : a.eval x = .slice (some ad) m c) (hn : news.length = m * size)
    (hc : ∀ j u, news[j]? = some u → w.cell? (ad.add j) = some u) (h1c : ∀ u ∈ news, u.oneCell' = true) (b1 : k + m ≤ maxLen) (b2 : (k + m) * bytes ≤ 140737488355328) (b3 : base ≤ w.heap.size)
    (hK : ∀ v' w', w'.ownsRow base e size v' (k + m) (xs ++ news) → w.grownBy w' v.ownBlock → (v' = .slice none 0 0 ↔ v = .slice none 0 0 ∧ m = 0) → K (a.put o.dst v') w') :
    if Region.wanted o (yielded ops a.tmps) = true then Oper.wpIn F n P o a w K Q else E := by
  rw [if_pos (by simp [Region.wanted, hg])]
  obtain ⟨v', w', hrun, r1, r2, r3⟩ := run_append_own (P := P) w base t o.type e i z size bytes h1 h2 h3 h4 h5 h6 h7 v k xs hown ad m c news hn hc h1c b1 b2 b3
  unfold Oper.wpIn
  refine ⟨?_, ?_⟩
  · simp [Oper.about, hop, resolve, Target.leads, Sem.run_pure]
  · rw [Oper.semAt_plain F _ _ (by rw [hop]; intro c hc'; cases hc')]
    simp [execOp, hop, resolve, invoke, builtin, hs, hx, hrun, Result.andThen]
    exact hK _ _ r1 r2 r3
set_option maxRecDepth 100000 in
set_option maxHeartbeats 2000000 in
theorem labels_yes (s : ByteArray) (hs : s.size ≤ 1000000) (hz : chk s.data.toList = 0) (w : World) :
    CallsIn Fence.wide 5 Tryd.prog 11 #[.string s] w fun e w' => ∃ v, e = .returned (.tuple #[v, .int .i64 0]) ∧ Own9 w' w.heap.size v (labs s.data.toList) ∧ Below w.heap.size w w' := by
  have HZ := Lib.hid hz
  clear hz
  obtain ⟨i0, hi, hz0, hz1, hz2⟩ := info_parts info9
  refine callsIn_of_wp_marks Tryd.func11 rfl trivial ?_ rfl
  simp only [Tryd.ntmps11, List.size_toArray, List.length_cons, List.length_nil, Nat.reduceAdd, Nat.reduceSub, Array.replicate_succ, Array.replicate_zero, List.push_toArray, List.append_toArray, List.nil_append, List.cons_append]
  gi_wp2_with (first | (refine ⟨trivial, ?_⟩; gi_at_call 20; refine (callsIn_wide.2 (check_any s (by omega) _)).mono ?_; rintro e w1 ⟨rfl, hb1⟩; rw [HZ.out]) | (refine ⟨trivial, ?_⟩; gi_at_call 21; refine (each_in Fence.wide _ trivial rfl _ _).mono ?_; rintro e w' ⟨rfl, rfl⟩))
  have hsw := hb1.size
  have bS := Boxed.new w1 30 (.slice none 0 0)
  have bN := Boxed.new (w1.alloc (.cells #[.slice none 0 0] 30)) 9 (.string s)
  rw [World.size_alloc] at bN
  have hB0 : Below w.heap.size w ((w1.alloc (.cells #[.slice none 0 0] 30)).alloc (.cells #[.string s] 9)) := (hb1.alloc hsw _).alloc (by simp; omega) _
  refine wpIn_rangeFunc_ownG rfl (by omega) (gf := 29) (lb := #[.pointer (some ⟨w1.heap.size + 1, 0, none⟩)]) rfl trivial (enters_of Tryd.func29 (by kernel_rfl) rfl)
    (each_stops Fence.wide _ trivial rfl (by omega) (w1.heap.size + 1) s (by omega) _ (by simp) bN.cell) kpB_t kpB_b (Below.refl _ _) (fun _ => rfl)
    (fun pre W => (∃ v, Boxed W w1.heap.size 30 v ∧ W.ownsRow (w1.heap.size + 2) 9 1 v pre.length (pre.map fun x => Value.string x.1.1) ∧ True) ∧ w1.heap.size + 2 ≤ W.heap.size ∧ Below w.heap.size w W)
    (fun _ _ _ => False)
    (OwnFrom.and (Own.from (holdsRow_own (w1.heap.size + 2) w1.heap.size 30 9 1 (fun pre : List Item => pre.length) (fun pre : List Item => pre.map fun x => Value.string x.1.1) (fun _ _ => True)) _) (OwnFrom.and (fun _ _ _ _ hs hg _ => Nat.le_trans hs hg.size) (ownFrom_below (Nat.le_refl _) (by simp; omega))))
    (fun _ _ _ _ _ hs _ _ => hs)
    ⟨⟨_, bS.alloc _, World.ownsRow_nil _ _ _ _, trivial⟩, by simp, hB0⟩
    (fun x => { tmps := #[.string s, undef, .slice none 0 0, .int .i64 0, .int .i64 0, .pointer (some ⟨w1.heap.size, 0, none⟩), .string x.1.1, .string s, .int .i64 0, .int .i64 0, .bool false, undef, .string s, .func (.func 29) #[] #[.pointer (some ⟨w1.heap.size + 1, 0, none⟩)], .string x.1.1, .int .i64 (x.1.2 : Int), undef, undef, undef, undef, undef, undef], defers := [] }) ?assign ?body ?done ?stop
  case assign =>
    intro l x W K hK
    gi_wp2
    exact hK
  case body =>
    rintro l pre x W ⟨⟨v, hv, hrow, _⟩, hsb, hB⟩ hlt
    have hc := hv.cell
    have hf := hv.frozen
    have hmx : Tryd.prog.follows .mixedOrders = true := by kernel_rfl
    gi_wp2
    have hpl : pre.length ≤ 1000000 := by
      have hel := enc_le s
      have hll := length_le_enc (labs s.data.toList)
      omega
    refine wpIn_region_any hmx ?_
    change wpAnyIn _ _ _ _ _ _ _ _ _ (World.drew _)
    refine wpAnyIn_ready (rs := [0, 1]) (by kernel_rfl) (by simp) ?_
    refine AllReadyIn.cons rfl (fun K hK => ?_) (AllReadyIn.cons rfl (fun K hK => ?_) AllReadyIn.nil)
    · go_simp
      refine hK _ _ ?_
      clear hK K
      refine wpAnyIn_ready (rs := [1]) (by kernel_rfl) (by simp) ?_
      refine AllReadyIn.cons rfl (fun K hK => ?_) AllReadyIn.nil
      go_simp
      refine hK _ _ ?_
      clear hK K
      refine wpAnyIn_ready (rs := [2]) (by kernel_rfl) (by simp) ?_
      refine AllReadyIn.cons rfl (fun K hK => ?_) AllReadyIn.nil
      go_simp
      refine ⟨trivial, ?_⟩
      gi_at_call 25
      refine (CallsIn.inRound l (callsIn_wide.2 (copied_any _ _))).mono ?_
      rintro e w2 ⟨rfl, hb2⟩
      obtain ⟨hc2, hf2, hsz2, hca2⟩ := after_call hv hb2
      refine hK _ _ ?_
      clear hK K
      refine wpAnyIn_ready (rs := [3]) (by kernel_rfl) (by simp) ?_
      refine AllReadyIn.cons rfl (fun K hK => ?_) AllReadyIn.nil
      go_simp
      refine hK _ _ ?_
      clear hK K
      refine wpAnyIn_ready (rs := [4]) (by kernel_rfl) (by simp) ?_
      refine AllReadyIn.cons rfl (fun K hK => ?_) AllReadyIn.nil
      refine stepIn_append _ rfl (.tmp 16) (.tmp 19) 30 rfl (w1.heap.size + 2) 9 i0 (.string ⟨#[]⟩) 1 16 Tryd.underlying30 hi hz0 hz1 hz2 rfl (by decide) v pre.length (pre.map fun x => Value.string x.1.1) rfl ((row_below (World.ownsRow.drew hrow) hb2).alloc _) ⟨w2.heap.size, 0, none⟩ 1 1 [.string x.1.1] rfl rfl (cell_one_new _ _ _) (by simp [Value.oneCell']) (by unfold maxLen; omega) (by omega) (by simp; omega) ?_
      intro v' w3 hown' hgrow _
      obtain ⟨g', cap', rfl⟩ := ownsRow_succ hown'
      obtain ⟨⟨hc3, hf3⟩, a1, a2, a3, a4, a5, a6⟩ := after_append (B := w1.heap.size + 1) hv hrow (below_drew hb2) hsb hown' hgrow hsw (by omega) (by omega) (by omega) hB
      have A := Lib.hid (And.intro a1 (And.intro a2 (And.intro a3 (And.intro a4 (And.intro a5 a6)))))
      clear a1 a2 a3 a4 a5 a6
      refine hK _ _ ?_
      clear hK K
      refine wpAnyIn_ready (rs := [5]) (by kernel_rfl) (by simp) ?_
      refine AllReadyIn.cons rfl (fun K hK => ?_) AllReadyIn.nil
      go_simp
      refine hK _ _ ?_
      clear hK K
      refine wpAnyIn_done (by kernel_rfl) ?_ _
      gi_wp2
      exact ⟨A.out.1.from _, A.out.2.1, ⟨⟨_, A.out.2.2.1, by rw [List.length_append, List.map_append]; exact A.out.2.2.2.1, trivial⟩, A.out.2.2.2.2.1, A.out.2.2.2.2.2⟩⟩
    · go_simp
      refine hK _ _ ?_
      clear hK K
      refine wpAnyIn_ready (rs := [0, 2]) (by kernel_rfl) (by simp) ?_
      refine AllReadyIn.cons rfl (fun K hK => ?_) (AllReadyIn.cons rfl (fun K hK => ?_) AllReadyIn.nil)
      · go_simp
        refine hK _ _ ?_
        clear hK K
        refine wpAnyIn_ready (rs := [2]) (by kernel_rfl) (by simp) ?_
        refine AllReadyIn.cons rfl (fun K hK => ?_) AllReadyIn.nil
        go_simp
        refine ⟨trivial, ?_⟩
        gi_at_call 25
        refine (CallsIn.inRound l (callsIn_wide.2 (copied_any _ _))).mono ?_
        rintro e w2 ⟨rfl, hb2⟩
        obtain ⟨hc2, hf2, hsz2, hca2⟩ := after_call hv hb2
        refine hK _ _ ?_
        clear hK K
        refine wpAnyIn_ready (rs := [3]) (by kernel_rfl) (by simp) ?_
        refine AllReadyIn.cons rfl (fun K hK => ?_) AllReadyIn.nil
        go_simp
        refine hK _ _ ?_
        clear hK K
        refine wpAnyIn_ready (rs := [4]) (by kernel_rfl) (by simp) ?_
        refine AllReadyIn.cons rfl (fun K hK => ?_) AllReadyIn.nil
        refine stepIn_append _ rfl (.tmp 16) (.tmp 19) 30 rfl (w1.heap.size + 2) 9 i0 (.string ⟨#[]⟩) 1 16 Tryd.underlying30 hi hz0 hz1 hz2 rfl (by decide) v pre.length (pre.map fun x => Value.string x.1.1) rfl ((row_below (World.ownsRow.drew hrow) hb2).alloc _) ⟨w2.heap.size, 0, none⟩ 1 1 [.string x.1.1] rfl rfl (cell_one_new _ _ _) (by simp [Value.oneCell']) (by unfold maxLen; omega) (by omega) (by simp; omega) ?_
        intro v' w3 hown' hgrow _
        obtain ⟨g', cap', rfl⟩ := ownsRow_succ hown'
        obtain ⟨⟨hc3, hf3⟩, a1, a2, a3, a4, a5, a6⟩ := after_append (B := w1.heap.size + 1) hv hrow (below_drew hb2) hsb hown' hgrow hsw (by omega) (by omega) (by omega) hB
        have A := Lib.hid (And.intro a1 (And.intro a2 (And.intro a3 (And.intro a4 (And.intro a5 a6)))))
        clear a1 a2 a3 a4 a5 a6
        refine hK _ _ ?_
        clear hK K
        refine wpAnyIn_ready (rs := [5]) (by kernel_rfl) (by simp) ?_
        refine AllReadyIn.cons rfl (fun K hK => ?_) AllReadyIn.nil
        go_simp
        refine hK _ _ ?_
        clear hK K
        refine wpAnyIn_done (by kernel_rfl) ?_ _
        gi_wp2
        exact ⟨A.out.1.from _, A.out.2.1, ⟨⟨_, A.out.2.2.1, by rw [List.length_append, List.map_append]; exact A.out.2.2.2.1, trivial⟩, A.out.2.2.2.2.1, A.out.2.2.2.2.2⟩⟩
      · go_simp
        refine ⟨trivial, ?_⟩
        gi_at_call 25
        refine (CallsIn.inRound l (callsIn_wide.2 (copied_any _ _))).mono ?_
        rintro e w2 ⟨rfl, hb2⟩
        obtain ⟨hc2, hf2, hsz2, hca2⟩ := after_call hv hb2
        refine hK _ _ ?_
        clear hK K
        refine wpAnyIn_ready (rs := [0, 3]) (by kernel_rfl) (by simp) ?_
        refine AllReadyIn.cons rfl (fun K hK => ?_) (AllReadyIn.cons rfl (fun K hK => ?_) AllReadyIn.nil)
        · go_simp
          refine hK _ _ ?_
          clear hK K
          refine wpAnyIn_ready (rs := [3]) (by kernel_rfl) (by simp) ?_
          refine AllReadyIn.cons rfl (fun K hK => ?_) AllReadyIn.nil
          go_simp
          refine hK _ _ ?_
          clear hK K
          refine wpAnyIn_ready (rs := [4]) (by kernel_rfl) (by simp) ?_
          refine AllReadyIn.cons rfl (fun K hK => ?_) AllReadyIn.nil
          refine stepIn_append _ rfl (.tmp 16) (.tmp 19) 30 rfl (w1.heap.size + 2) 9 i0 (.string ⟨#[]⟩) 1 16 Tryd.underlying30 hi hz0 hz1 hz2 rfl (by decide) v pre.length (pre.map fun x => Value.string x.1.1) rfl ((row_below (World.ownsRow.drew hrow) hb2).alloc _) ⟨w2.heap.size, 0, none⟩ 1 1 [.string x.1.1] rfl rfl (cell_one_new _ _ _) (by simp [Value.oneCell']) (by unfold maxLen; omega) (by omega) (by simp; omega) ?_
          intro v' w3 hown' hgrow _
          obtain ⟨g', cap', rfl⟩ := ownsRow_succ hown'
          obtain ⟨⟨hc3, hf3⟩, a1, a2, a3, a4, a5, a6⟩ := after_append (B := w1.heap.size + 1) hv hrow (below_drew hb2) hsb hown' hgrow hsw (by omega) (by omega) (by omega) hB
          have A := Lib.hid (And.intro a1 (And.intro a2 (And.intro a3 (And.intro a4 (And.intro a5 a6)))))
          clear a1 a2 a3 a4 a5 a6
          refine hK _ _ ?_
          clear hK K
          refine wpAnyIn_ready (rs := [5]) (by kernel_rfl) (by simp) ?_
          refine AllReadyIn.cons rfl (fun K hK => ?_) AllReadyIn.nil
          go_simp
          refine hK _ _ ?_
          clear hK K
          refine wpAnyIn_done (by kernel_rfl) ?_ _
          gi_wp2
          exact ⟨A.out.1.from _, A.out.2.1, ⟨⟨_, A.out.2.2.1, by rw [List.length_append, List.map_append]; exact A.out.2.2.2.1, trivial⟩, A.out.2.2.2.2.1, A.out.2.2.2.2.2⟩⟩
        · go_simp
          refine hK _ _ ?_
          clear hK K
          refine wpAnyIn_ready (rs := [0]) (by kernel_rfl) (by simp) ?_
          refine AllReadyIn.cons rfl (fun K hK => ?_) AllReadyIn.nil
          go_simp
          refine hK _ _ ?_
          clear hK K
          refine wpAnyIn_ready (rs := [4]) (by kernel_rfl) (by simp) ?_
          refine AllReadyIn.cons rfl (fun K hK => ?_) AllReadyIn.nil
          refine stepIn_append _ rfl (.tmp 16) (.tmp 19) 30 rfl (w1.heap.size + 2) 9 i0 (.string ⟨#[]⟩) 1 16 Tryd.underlying30 hi hz0 hz1 hz2 rfl (by decide) v pre.length (pre.map fun x => Value.string x.1.1) rfl ((row_below (World.ownsRow.drew hrow) hb2).alloc _) ⟨w2.heap.size, 0, none⟩ 1 1 [.string x.1.1] rfl rfl (cell_one_new _ _ _) (by simp [Value.oneCell']) (by unfold maxLen; omega) (by omega) (by simp; omega) ?_
          intro v' w3 hown' hgrow _
          obtain ⟨g', cap', rfl⟩ := ownsRow_succ hown'
          obtain ⟨⟨hc3, hf3⟩, a1, a2, a3, a4, a5, a6⟩ := after_append (B := w1.heap.size + 1) hv hrow (below_drew hb2) hsb hown' hgrow hsw (by omega) (by omega) (by omega) hB
          have A := Lib.hid (And.intro a1 (And.intro a2 (And.intro a3 (And.intro a4 (And.intro a5 a6)))))
          clear a1 a2 a3 a4 a5 a6
          refine hK _ _ ?_
          clear hK K
          refine wpAnyIn_ready (rs := [5]) (by kernel_rfl) (by simp) ?_
          refine AllReadyIn.cons rfl (fun K hK => ?_) AllReadyIn.nil
          go_simp
          refine hK _ _ ?_
          clear hK K
          refine wpAnyIn_done (by kernel_rfl) ?_ _
          gi_wp2
          exact ⟨A.out.1.from _, A.out.2.1, ⟨⟨_, A.out.2.2.1, by rw [List.length_append, List.map_append]; exact A.out.2.2.2.1, trivial⟩, A.out.2.2.2.2.1, A.out.2.2.2.2.2⟩⟩
  case done =>
    rintro D ys W hD rfl ⟨⟨v, hv, hrow, _⟩, _, hB⟩ hK
    have hc := hv.cell
    rw [items_length, items_strs 0 (labs_ok _)] at hrow
    gi_wp2
    refine ⟨by simp, .inl ⟨_, _, rfl, run_takeDeferred hK, ?_⟩⟩
    exact ⟨_, results_tmp2 rfl _ _ _, v, rfl, row_mono (ownsRow_putObj hrow _ hK rfl) (by omega), hB.trans (belowK_b (w := w) (Nat.le_refl _) W D _ _ (by simp at hD; omega) hK rfl rfl)⟩
  case stop =>
    rintro D c pre W _ _ h _
    exact h.elim
theorem label_yes (s : ByteArray) (hs : s.size ≤ 1000000) (hz : chk s.data.toList = 0) (w : World) :
    Calls Tryd.prog 11 #[.string s] w fun e w' => ∃ v, e = .returned (.tuple #[v, .int .i64 0]) ∧ Own9 w' w.heap.size v (labs s.data.toList) ∧ Below w.heap.size w w' :=
  (callsIn_wide (n := 5)).1 (labels_yes s hs hz w)
theorem label_no (s : ByteArray) (hs : s.size ≤ 140737488351232) (hz : ¬ chk s.data.toList = 0) (w : World) :
    Calls Tryd.prog 11 #[.string s] w fun e w' => e = .returned (.tuple #[.slice none 0 0, .int .i64 (chk s.data.toList)]) ∧ Below w.heap.size w w' :=
  (callsIn_wide (n := 4)).1 (labels_no Fence.wide 4 trivial trivial trivial trivial rfl (by omega) s hs hz w)
end Go.Proofs.YtpeojicimmofjaaDoor

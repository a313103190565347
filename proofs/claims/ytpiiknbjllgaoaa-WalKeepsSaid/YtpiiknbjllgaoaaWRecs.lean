/-
  What Records answers, for every text: the texts of its records, and how many bytes these have.
-/
import Derived.Test.YtpiiknbjllgaoaaWEach
namespace Go.Proofs.Ytpiiknbjllgaoaa
open Go.RowKit Go.Shelf
attribute [local go_sem] Oper.semAt_some
theorem conv_of (t : ByteArray) (w : World) : (convert 9 31 (.string t)).run Try.prog w = .ok (.slice (some ⟨w.heap.size, 0, none⟩) t.size (grownCap w t.size 0 5))
      (w.drew.alloc (.cells (bytesRow t (grownCap w t.size 0 5)) 5 ((bytesRow t (grownCap w t.size 0 5)).size, (bytesRow t (grownCap w t.size 0 5)).size + 1))) :=
  run_bytes_of_string (P := Try.prog) w 9 31 5 t Try.underlying9 Try.underlying31 Try.underlying5
theorem bytes_cell (w : World) (t : ByteArray) (cap F e : Nat) (j : Nat) (hj : j < t.data.toList.length) : (w.alloc (.cells (bytesRow t cap) e (F, F + 1))).cell? ⟨w.heap.size, j, none⟩ = some (.int .u8 ((t.data.toList[j]).toNat : Int)) := by
  have hjl : j < t.data.size := by simpa using hj
  rw [World.cell?_alloc_mark, bytesRow_at t cap j hjl]
  simp
/-- string([]byte(t)): the same bytes; new memory alone. -/
theorem conv_twice (t : ByteArray) (w : World) : ∃ C w2, (convert 9 31 (.string t)).run Try.prog w = .ok (.slice (some ⟨w.heap.size, 0, none⟩) t.size C) w2 ∧ (convert 31 9 (.slice (some ⟨w.heap.size, 0, none⟩) t.size C)).run Try.prog w2 = .ok (.string t) w2 ∧ Below w.heap.size w w2 := by
  refine ⟨_, _, conv_of t w, ?_, ((Below.refl _ w).drew).alloc (Nat.le_refl _) _⟩
  have := run_convert_bytes_back (P := Try.prog) (w.drew.alloc (.cells (bytesRow t (grownCap w t.size 0 5)) 5 ((bytesRow t (grownCap w t.size 0 5)).size, (bytesRow t (grownCap w t.size 0 5)).size + 1))) 31 9 5 ⟨w.heap.size, 0, none⟩ (grownCap w t.size 0 5) t.data.toList Try.underlying31 Try.underlying5 Try.underlying9 (fun j hj => by
    rw [Addr.add_lit, Nat.zero_add]
    exact bytes_cell w.drew t _ _ 5 j hj)
  rw [← size_list] at this
  exact this
/-- The two boxes, and the texts gathered so far. -/
def RI (n : Nat) (w0 : World) (r : Nat) (L : List Item) (W : World) : Prop :=
  (∃ v, Boxed W r 27 v ∧ W.ownsRow (r + 3) 9 1 v L.length (L.map fun x => str x.1) ∧ True) ∧ Boxed W (r + 1) 3 (.int .i64 ((rcsB (L.map fun x => x.1)).length : Int)) ∧ r + 3 ≤ W.heap.size ∧ Below n w0 W
theorem boxed_own {β : Type} (B t : Nat) (f : β → Value) : Own (fun s W => Boxed W B t (f s)) := by
  rintro s X Y row hv hg hrow
  refine hv.kept hg (fun e' => ?_)
  obtain ⟨o, ho, hc⟩ := hrow B e'.symm
  rw [show X.heap[B]? = _ from hv] at ho; cases ho; cases hc
theorem ri_own (n : Nat) (w0 : World) (r N : Nat) (hn : n ≤ w0.heap.size) (hN : n ≤ N) : OwnFrom N (RI n w0 r) :=
  OwnFrom.and (Own.from (holdsRow_own (r + 3) r 27 9 1 (fun pre : List Item => pre.length) (fun pre : List Item => pre.map fun x => str x.1) (fun _ _ => True)) _)
    (OwnFrom.and (Own.from (boxed_own (r + 1) 3 _) _) (OwnFrom.and (fun _ _ _ _ hs hg _ => Nat.le_trans hs hg.size) (ownFrom_below hn hN)))
theorem rcs_most (L : List Item) : (rcsB (L.map fun x => x.1)).length ≤ 60008 * L.length := by
  induction L with
  | nil => exact Nat.le_refl _
  | cons x L ih =>
    have := x.2
    simp only [List.map_cons, rcsB, List.length_append, rcB_length, List.length_cons]
    omega
theorem keeps_below {W w2 : World} (h : Below W.heap.size W w2) : KeepsOthers W w2 :=
  KeepsOthers.of_grownBy (row := none) ⟨h.os, h.tape, h.output, h.size, fun k hk _ => h.block k hk⟩ (fun j o e _ => by cases e)
theorem row_mono {w : World} {B B' e size n : Nat} {v : Value} {xs : List Value} (h : w.ownsRow B e size v n xs) (hB : B' ≤ B) : w.ownsRow B' e size v n xs := by
  refine ⟨h.1, ?_⟩
  rcases h.2 with h0 | ⟨g, cap, cur, e, hb, r⟩
  · exact .inl h0
  · exact .inr ⟨g, cap, cur, e, Nat.le_trans hB hb, r⟩
/-- Behind the append of one text. -/
theorem ri_app {n : Nat} {w0 : World} {r : Nat} {L : List Item} {x : Item} {W W2 w3 : World} {v v' : Value} {tmp : Obj} (hv : Boxed W r 27 v) (hrow : W.ownsRow (r + 3) 9 1 v L.length (L.map fun x => str x.1)) (hz : Boxed W (r + 1) 3 (.int .i64 ((rcsB (L.map fun x => x.1)).length : Int)))
    (hb2 : Below W.heap.size W W2) (hs : r + 3 ≤ W.heap.size) (hB : Below n w0 W) (hn : n ≤ r) (_ : n ≤ w0.heap.size) (hown' : w3.ownsRow (r + 3) 9 1 v' (L.length + 1) ((L.map fun x => str x.1) ++ [str x.1])) (hg : (W2.alloc tmp).grownBy w3 v.ownBlock) :
    (w3.cell? ⟨r, 0, none⟩ = some v ∧ w3.frozen? ⟨r, 0, none⟩ = false) ∧ (Boxed (w3.setCell ⟨r, 0, none⟩ v') (r + 1) 3 (.int .i64 ((rcsB (L.map fun x => x.1)).length : Int))) ∧
    ∀ z, z = (((rcsB ((L ++ [x]).map fun x => x.1)).length : Nat) : Int) → KeepsOthers W ((w3.setCell ⟨r, 0, none⟩ v').setCell ⟨r + 1, 0, none⟩ (.int .i64 z)) ∧ KpB (r + 2) W ((w3.setCell ⟨r, 0, none⟩ v').setCell ⟨r + 1, 0, none⟩ (.int .i64 z)) ∧ RI n w0 r (L ++ [x]) ((w3.setCell ⟨r, 0, none⟩ v').setCell ⟨r + 1, 0, none⟩ (.int .i64 z)) := by
  have hv2 : Boxed W2 r 27 v := (hb2.block _ hv.lt).trans hv
  have hz2 : Boxed W2 (r + 1) 3 _ := (hb2.block _ hz.lt).trans hz
  have hrow2 := own_below hrow hb2
  have hs2 := hb2.size
  obtain ⟨b1, b2, b3, b4, b5⟩ := hv2.appended (by decide) (row_mono hrow2 (show n ≤ r + 3 by omega)) (by omega) hn (row_mono hown' (show n ≤ r + 3 by omega)) hg
  have hz3 : Boxed w3 (r + 1) 3 _ := (hz2.alloc tmp).kept hg (hz2.not_row (by decide) hrow2)
  have hz4 : Boxed (w3.setCell ⟨r, 0, none⟩ v') (r + 1) 3 _ := hz3.kept (grownBy_setCell' w3 r v') (by simp)
  refine ⟨⟨b1.cell, b1.frozen⟩, hz4, fun z hze => ?_⟩
  subst hze
  have hrowA : (w3.setCell ⟨r, 0, none⟩ v').ownsRow (r + 3) 9 1 v' (L.length + 1) ((L.map fun x => str x.1) ++ [str x.1]) := hown'.kept (grownBy_setCell' w3 r v') (.inr (b1.not_row (by decide) hown').symm)
  have hsz : W.heap.size ≤ w3.heap.size := by have := hg.size; simp at this; omega
  refine ⟨((keeps_below hb2).trans b4).trans (KeepsOthers.setCell _ _ _), ?_, ⟨_, b2.kept (grownBy_setCell' _ (r + 1) _) (by simp), ?_, trivial⟩, hz4.set _, by simp only [World.size_setCell]; omega, (hB.trans ((hb2.mono (show n ≤ W.heap.size by omega)).trans b5)).setCell (by show n ≤ r + 1; omega) _⟩
  · intro u hu
    have hlt := World.block_lt_of_cell? W _ hu
    have h1 : (W2.alloc tmp).cell? ⟨r + 2, 0, none⟩ = some u := World.grownBy.cell (World.grownBy_alloc W2 tmp none) ((hb2.cell hlt).trans hu) (by simp)
    have h2 := World.grownBy.cell hg h1 (fun e' => by have := (World.ownsRow.lt hrow2 _ e'.symm).1; simp at this)
    exact kpB_set (by omega) _ u (kpB_set (by omega) v' u h2)
  · have e1 : (L ++ [x]).length = L.length + 1 := by simp
    have e2 : (L ++ [x]).map (fun x => str x.1) = (L.map fun x => str x.1) ++ [str x.1] := by simp
    rw [e1, e2]
    exact hrowA.kept (grownBy_setCell' _ (r + 1) _) (.inr (hz4.not_row (by decide) hrowA).symm)
set_option maxRecDepth 100000 in
set_option maxHeartbeats 4000000 in
theorem recs_in (s : ByteArray) (hs : s.size ≤ 1000000000) (w : World) :
    CallsIn Fence.wide 5 Try.prog 13 #[.string s] w fun e w' => ∃ v, e = .returned (.tuple #[v, .int .i64 ((rcsB (recs s.data.toList)).length : Int)]) ∧ w'.ownsRow w.heap.size 9 1 v (recs s.data.toList).length ((recs s.data.toList).map str) ∧ Below w.heap.size w w' := by
  obtain ⟨i0, hi, hz0, hz1, hz2⟩ := info_parts info9
  have hfit : Fit (recs s.data.toList) := by obtain ⟨_, _, _, h⟩ := recs_split s.data.toList; exact h
  have HFIT := Lib.hid hfit
  have hlen : (rcsB (recs s.data.toList)).length ≤ 1000000000 := by have := rcs_len s.data.toList; rw [← size_list] at this; omega
  have hmore : ∀ L : List Bs, L.length ≤ (rcsB L).length := by
    intro L; induction L with
    | nil => exact Nat.le_refl _
    | cons x L ih => simp only [rcsB, List.length_append, rcB_length, List.length_cons]; omega
  have HM := Lib.hid hmore
  have HLEN := Lib.hid hlen
  clear hfit hlen hmore
  refine callsIn_of_wp_marks Try.func13 rfl trivial ?_ rfl
  simp only [Try.ntmps13, List.size_toArray, List.length_cons, List.length_nil, Nat.reduceAdd, Nat.reduceSub, Array.replicate_succ, Array.replicate_zero, List.push_toArray, List.append_toArray, List.nil_append, List.cons_append]
  gi_wp2_with (refine ⟨trivial, ?_⟩; gi_at_call 33; refine (each_in _ _ _).mono ?_; rintro e w' ⟨rfl, rfl⟩)
  have bS := Boxed.new w 27 (.slice none 0 0)
  have bZ := Boxed.new (w.alloc (.cells #[.slice none 0 0] 27)) 3 (.int .i64 0)
  rw [World.size_alloc] at bZ
  have bN := Boxed.new ((w.alloc (.cells #[.slice none 0 0] 27)).alloc (.cells #[.int .i64 0] 3)) 9 (.string s)
  rw [World.size_alloc, World.size_alloc] at bN
  have hB0 : Below w.heap.size w (((w.alloc (.cells #[.slice none 0 0] 27)).alloc (.cells #[.int .i64 0] 3)).alloc (.cells #[.string s] 9)) := (((Below.refl _ _).alloc (Nat.le_refl _) _).alloc (by simp) _).alloc (by simp; omega) _
  refine wpIn_rangeFunc_ownG rfl (by omega) (gf := 54) (lb := #[ptr (w.heap.size + 1 + 1)]) rfl trivial (enters_of Try.func54 (by kernel_rfl) rfl)
    (each_stops _ (by omega) (w.heap.size + 1 + 1) s hs _ (by simp) bN.cell) kpB_t kpB_b (Below.refl _ _) (fun _ => rfl)
    (RI w.heap.size w w.heap.size)
    (fun _ _ _ => False)
    (ri_own _ _ _ _ (Nat.le_refl _) (by simp only [World.size_alloc]; omega))
    (fun _ _ _ _ _ hs _ _ => hs)
    ⟨⟨_, (bS.alloc _).alloc _, World.ownsRow_nil _ _ _ _, trivial⟩, bZ.alloc _, by simp, hB0⟩
    (fun x => { tmps := #[.string s, undef, .slice none 0 0, .int .i64 0, ptr w.heap.size, ptr (w.heap.size + 1), str x.1, .string s, .func (.func 54) #[] #[ptr (w.heap.size + 1 + 1)], str x.1, undef, undef, undef, undef, undef, undef, undef, undef, undef, undef, undef, undef, undef], defers := [] }) ?assign ?body ?done ?stop
  case assign =>
    intro l x W K hK
    gi_wp2
    exact hK
  case body =>
    rintro l pre x W ⟨⟨v, hv, hrow, _⟩, hz, hsb, hB⟩ hlt
    have hc := hv.cell
    have hpl : pre.length ≤ 1000000000 := by have := HM.out (recs s.data.toList); have := HLEN.out; omega
    have hzn : ((rcsB (pre.map fun x => x.1)).length : Int) + (8 + (x.1.length : Int)) = (((rcsB ((pre ++ [x]).map fun x => x.1)).length : Nat) : Int) := by
      rw [List.map_append, rcs_append]; simp only [List.map_cons, List.map_nil, rcsB, List.append_nil, List.length_append, rcB_length]; omega
    have hzl := rcs_most pre
    obtain ⟨z, hzz⟩ : ∃ z : Int, z = ((rcsB (pre.map fun x => x.1)).length : Int) := ⟨_, rfl⟩
    have hz0' : 0 ≤ z := by omega
    have hz1' : z ≤ 1000000000000000 := by omega
    rw [← hzz] at hzn
    obtain ⟨m, hm⟩ : ∃ m, m = x.1.length := ⟨_, rfl⟩
    have hm1 : (m : Int) ≤ 60000 := by have := x.2; omega
    have hsz : (⟨x.1.toArray⟩ : ByteArray).size = m := by rw [ba_size, hm]
    rw [← hm] at hzn
    have HZN := Lib.hid hzn
    have HZZ := Lib.hid hzz
    obtain ⟨C, W2, hv1, hv2, hb2⟩ := conv_twice ⟨x.1.toArray⟩ W
    rw [hsz] at hv1 hv2
    obtain ⟨xs, hxs⟩ : ∃ xs, xs = pre.map fun x => str x.1 := ⟨_, rfl⟩
    have HX := Lib.hid hxs
    rw [← hxs] at hrow
    have HV := Lib.hid hv
    have HR := Lib.hid hrow
    have HZ := Lib.hid hz
    have HB2 := Lib.hid hb2
    have HB := Lib.hid hB
    have hpn : pre.length ≤ 1000000000 := hpl
    have hs2 := hb2.size
    clear hv hrow hz hb2 hB hzn hzz hzl hm hlt hxs
    gi_wp2_with (refine wpListIn_append_own _ rfl (.tmp 10) (.tmp 14) 27 rfl (w.heap.size + 3) 9 i0 (.string ⟨#[]⟩) 1 16 Try.underlying27 hi hz0 hz1 hz2 rfl (by decide) v pre.length xs rfl ((own_below HR.out HB2.out).alloc _) ⟨W2.heap.size, 0, none⟩ 1 1 [str x.1] rfl rfl (fun j u hj => World.news_of_block (cs := #[str x.1]) (t := 9) (fr := (0, 0)) (heap_alloc_new W2 _) j u hj) (by simp [Value.oneCell']) (by unfold maxLen; omega) (by omega) (by simp; omega) ?_)
    intro v' w3 hown' hgrow _
    rw [HX.out] at hown' HR
    obtain ⟨g', cap', rfl⟩ := ownsRow_succ hown'
    obtain ⟨⟨hc3, hf3⟩, hz4, A⟩ := ri_app (n := w.heap.size) HV.out HR.out HZ.out HB2.out hsb HB.out (Nat.le_refl _) (Nat.le_refl _) hown' hgrow
    rw [← HZZ.out] at hz4
    have c4 := hz4.cell
    have f4 := hz4.frozen
    have HA := Lib.hid (A _ HZN.out)
    clear hown' hgrow hz4 A hv1 hv2 hc
    gi_wp2
    exact ⟨HA.out.1.from _, HA.out.2.1, HA.out.2.2⟩
  case done =>
    rintro D ys W hD rfl ⟨⟨v, hv, hrow, _⟩, hz, _, hB⟩ hK
    have hc := hv.cell
    have hc2 := hz.cell
    rw [items_length HFIT.out] at hrow
    have e1 : (items (recs s.data.toList)).map (fun x => str x.1) = (recs s.data.toList).map str := by
      conv => rhs; rw [← items_map HFIT.out, List.map_map]
      rfl
    rw [e1] at hrow
    rw [items_map HFIT.out] at hc2
    have HROW := Lib.hid hrow
    obtain ⟨a, cap, rfl⟩ : ∃ a cap, v = .slice a (recs s.data.toList).length cap := by
      rcases hrow.2 with ⟨rfl, h0⟩ | ⟨g, cap, cur, rfl, _⟩
      · exact ⟨none, 0, by rw [h0]⟩
      · exact ⟨_, cap, rfl⟩
    have HBB := Lib.hid hB
    have HKK := Lib.hid hK
    clear hrow hB e1 hv hz
    gi_wp2_with fail
    gi_quiet (fail)
    gi_wp2
    have hbd := below_drewN W nq
    have hK' : (W.drewN nq).heap[D]? = some (.deferred (some [])) := (hbd.block D (Array.getElem?_eq_some_iff.1 HKK.out).1).trans HKK.out
    refine ⟨by simp, .inl ⟨_, _, rfl, run_takeDeferred hK', ?_⟩⟩
    have hnD : w.heap.size ≤ D := by simp only [World.size_alloc] at hD; omega
    exact ⟨_, results_tmp2 rfl _ _ _, _, rfl, row_mono (ownsRow_putObj (own_below HROW.out hbd) _ hK' rfl) (by omega), (HBB.out.trans (hbd.mono HBB.out.size)).trans (belowK_b (w := w) (Nat.le_refl _) _ D _ _ hnD hK' rfl rfl)⟩
  case stop =>
    rintro D c pre W _ _ h _
    exact h.elim
/-- Strings as bytes, and back. -/
def ab (L : List Bs) : List ByteArray := L.map fun l => ⟨l.toArray⟩
def bz (l : List ByteArray) : List Bs := l.map fun s => s.data.toList
theorem ab_bz (l : List ByteArray) : ab (bz l) = l := by
  unfold ab bz; rw [List.map_map]
  conv => rhs; rw [← List.map_id l]
  rfl
theorem bz_ab (L : List Bs) : bz (ab L) = L := by
  unfold ab bz; rw [List.map_map]
  conv => rhs; rw [← List.map_id L]
  rfl
theorem ab_length (L : List Bs) : (ab L).length = L.length := by unfold ab; rw [List.length_map]
theorem bz_length (l : List ByteArray) : (bz l).length = l.length := by unfold bz; rw [List.length_map]
theorem sv_ab (L : List Bs) : sv (ab L) = L.map str := by unfold ab sv; rw [List.map_map]; rfl
/-- A slice that reads as these texts. -/
abbrev RdB (w : World) (v : Value) (L : List Bs) : Prop := RdS w v (ab L)
theorem records_any (s : ByteArray) (hs : s.size ≤ 1000000000) (w : World) :
    Calls Try.prog 13 #[.string s] w fun e w' => ∃ v, e = .returned (.tuple #[v, .int .i64 ((rcsB (recs s.data.toList)).length : Int)]) ∧ RdB w' v (recs s.data.toList) ∧ (∀ j, v.ownBlock = some j → w.heap.size ≤ j ∧ j < w'.heap.size) ∧ Below w.heap.size w w' := by
  refine (callsIn_wide.1 (recs_in s hs w)).mono ?_
  rintro e w' ⟨v, rfl, hr, hb⟩
  refine ⟨v, rfl, rds_of_own (base := w.heap.size) ?_, fun j hj => World.ownsRow.lt hr j hj, hb⟩
  rw [ab_length, sv_ab]
  exact hr
end Go.Proofs.Ytpiiknbjllgaoaa

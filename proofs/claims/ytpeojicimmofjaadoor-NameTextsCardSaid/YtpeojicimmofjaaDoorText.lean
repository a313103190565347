/-
  What Text answers, for every text; no older memory is changed.
-/
import Derived.Test.YtpeojicimmofjaaDoorEsc

namespace Go.Proofs.YtpeojicimmofjaaDoor
open Go.RowKit Go.Shelf
attribute [local go_sem] Oper.semAt_some
theorem txt_no {l : Bs} (h : ¬ chk l = 0) : [] = txt l := by unfold txt; rw [if_neg h]
theorem txt_root {l : Bs} (h : chk l = 0) (h2 : l = [0]) : [46] = txt l := by unfold txt; rw [if_pos h, if_pos h2]
theorem txt_yes {l : Bs} (h : chk l = 0) (h2 : ¬ l = [0]) : txtL (labs l) = txt l := by unfold txt; rw [if_pos h, if_neg h2]
/-- The labels that have come. -/
def got (pre : List Item) : List Bs := pre.map fun x => x.1.1.data.toList
theorem got_snoc (pre : List Item) (x : Item) : got (pre ++ [x]) = got pre ++ [x.1.1.data.toList] := by simp [got]
theorem got_items (p : Nat) {ls : List Bs} (h : ∀ x ∈ ls, OkL x) : got (items p ls) = ls := by
  induction ls generalizing p with
  | nil => rfl
  | cons x ls ih =>
    simp only [items, got, List.map_cons]
    rw [item_str p x (h x (by simp))]
    have := ih (p + 1 + x.length) (fun y hy => h y (by simp [hy]))
    rw [got] at this
    rw [this]
theorem got_len (pre : List Item) : (txtL (got pre)).length ≤ 253 * pre.length := by
  have := txtL_len (got pre) (fun x hx => by
    obtain ⟨y, _, rfl⟩ := List.mem_map.1 hx
    have := y.2
    rw [size_list] at this
    exact this)
  rw [got, List.length_map] at this
  exact this
theorem ub_app (a b : Bs) : ub (a ++ b) = ub a ++ ub b := by simp [ub]
set_option maxRecDepth 100000 in
set_option maxHeartbeats 2000000 in
theorem text_no (s : ByteArray) (hs : s.size ≤ 1000000) (hz : ¬ chk s.data.toList = 0) (w : World) :
    CallsIn Fence.wide 6 Tryd.prog 8 #[.string s] w fun e w' => e = .returned (.string ⟨#[]⟩) ∧ Below w.heap.size w w' := by
  have q : (chk s.data.toList == 0) = false := by simpa using hz
  have q' : (chk s.data.toList != 0) = true := by simpa using hz
  clear hz
  refine callsIn_of_wp_marks Tryd.func8 rfl trivial ?_ rfl
  simp only [Tryd.ntmps8, List.size_toArray, List.length_cons, List.length_nil, Nat.reduceAdd, Nat.reduceSub, Array.replicate_succ, Array.replicate_zero, List.push_toArray, List.append_toArray, List.nil_append, List.cons_append]
  gi_wp2_with (refine ⟨trivial, ?_⟩; gi_at_call 20; refine (callsIn_wide.2 (check_any s (by omega) _)).mono ?_; rintro e w1 ⟨rfl, hb1⟩)
  exact ⟨_, results_tmp rfl _ _ _, rfl, hb1⟩
set_option maxRecDepth 100000 in
set_option maxHeartbeats 2000000 in
theorem text_root (s : ByteArray) (hs : s.size ≤ 1000000) (hz : chk s.data.toList = 0) (hr : s = ⟨#[0]⟩) (w : World) :
    CallsIn Fence.wide 6 Tryd.prog 8 #[.string s] w fun e w' => e = .returned (.string ⟨#[46]⟩) ∧ Below w.heap.size w w' := by
  subst hr
  have HZ := Lib.hid hz
  clear hz
  refine callsIn_of_wp_marks Tryd.func8 rfl trivial ?_ rfl
  simp only [Tryd.ntmps8, List.size_toArray, List.length_cons, List.length_nil, Nat.reduceAdd, Nat.reduceSub, Array.replicate_succ, Array.replicate_zero, List.push_toArray, List.append_toArray, List.nil_append, List.cons_append]
  gi_wp2_with (refine ⟨trivial, ?_⟩; gi_at_call 20; refine (callsIn_wide.2 (check_any ⟨#[0]⟩ (by decide) _)).mono ?_; rintro e w1 ⟨rfl, hb1⟩; rw [HZ.out])
  exact ⟨_, results_tmp rfl _ _ _, rfl, hb1⟩
set_option maxRecDepth 100000 in
set_option maxHeartbeats 8000000 in
theorem text_yes (s : ByteArray) (hs : s.size ≤ 1000000) (hz : chk s.data.toList = 0) (hr : ¬ s.data.toList = [0]) (w : World) :
    CallsIn Fence.wide 6 Tryd.prog 8 #[.string s] w fun e w' => e = .returned (.string ⟨(txtL (labs s.data.toList)).toArray⟩) ∧ Below w.heap.size w w' := by
  have q : (s.toList == [0]) = false := by rw [ByteArray.toList_eq]; simpa using hr
  have HN : Hid ((labs s.data.toList).length ≤ 254) := Lib.hid (labs_len255 hz)
  have HZ := Lib.hid hz
  clear hz hr
  obtain ⟨i0, hi, hz0, hz1, hz2⟩ := info_parts info5
  refine callsIn_of_wp_marks Tryd.func8 rfl trivial ?_ rfl
  simp only [Tryd.ntmps8, List.size_toArray, List.length_cons, List.length_nil, Nat.reduceAdd, Nat.reduceSub, Array.replicate_succ, Array.replicate_zero, List.push_toArray, List.append_toArray, List.nil_append, List.cons_append]
  gi_wp2_with (first | (refine ⟨trivial, ?_⟩; gi_at_call 20; refine (callsIn_wide.2 (check_any s (by omega) _)).mono ?_; rintro e w1 ⟨rfl, hb1⟩; rw [HZ.out]) | (refine ⟨trivial, ?_⟩; gi_at_call 21; refine (each_in Fence.wide _ trivial rfl _ _).mono ?_; rintro e w' ⟨rfl, rfl⟩))
  have hsw := hb1.size
  have bS := Boxed.new w1 35 (.slice none 0 0)
  have bN := Boxed.new (w1.alloc (.cells #[.slice none 0 0] 35)) 9 (.string s)
  rw [World.size_alloc] at bN
  have hB0 : Below w.heap.size w ((w1.alloc (.cells #[.slice none 0 0] 35)).alloc (.cells #[.string s] 9)) := (hb1.alloc hsw _).alloc (by simp; omega) _
  refine wpIn_rangeFunc_ownG rfl (by omega) (gf := 29) (lb := #[.pointer (some ⟨w1.heap.size + 1, 0, none⟩)]) rfl trivial (enters_of Tryd.func29 (by kernel_rfl) rfl)
    (each_stops Fence.wide _ trivial rfl (by omega) (w1.heap.size + 1) s (by omega) _ (by simp) bN.cell) kpB_t kpB_b (Below.refl _ _) (fun _ => rfl)
    (fun pre W => (∃ v, Boxed W w1.heap.size 35 v ∧ W.ownsRow (w1.heap.size + 2) 5 1 v (txtL (got pre)).length (ub (txtL (got pre))) ∧ True) ∧ w1.heap.size + 2 ≤ W.heap.size ∧ Below w.heap.size w W)
    (fun _ _ _ => False)
    (OwnFrom.and (Own.from (holdsRow_own (w1.heap.size + 2) w1.heap.size 35 5 1 (fun pre : List Item => (txtL (got pre)).length) (fun pre : List Item => ub (txtL (got pre))) (fun _ _ => True)) _) (OwnFrom.and (fun _ _ _ _ hs hg _ => Nat.le_trans hs hg.size) (ownFrom_below (Nat.le_refl _) (by simp; omega))))
    (fun _ _ _ _ _ hs _ _ => hs)
    ⟨⟨_, bS.alloc _, World.ownsRow_nil _ _ _ _, trivial⟩, by simp, hB0⟩
    (fun x => { tmps := #[.string s, undef, .string ⟨#[]⟩, .pointer (some ⟨w1.heap.size, 0, none⟩), .string x.1.1, undef, .string s, .int .i64 0, .bool false, .string s, .bool false, .string s, .func (.func 29) #[] #[.pointer (some ⟨w1.heap.size + 1, 0, none⟩)], .string x.1.1, .int .i64 (x.1.2 : Int), undef, undef, undef, undef, undef, undef, undef, undef, undef, undef, undef, undef, undef, undef, undef, undef, undef], defers := [] }) ?assign ?body ?done ?stop
  case assign =>
    intro l x W K hK
    gi_wp2
    exact hK
  case body =>
    rintro l pre x W ⟨⟨v, hv, hrow, _⟩, hsb, hB⟩ hlt
    have hmx : Tryd.prog.follows .mixedOrders = true := by kernel_rfl
    have hgl := got_len pre
    have hnn := HN.out
    have hxs := x.2
    obtain ⟨T, hT⟩ : ∃ T, T = txtL (got pre) := ⟨_, rfl⟩
    rw [← hT] at hrow hgl
    have hTl : T.length ≤ 70000 := by omega
    obtain ⟨y, hy⟩ : ∃ y, y = x.1.1 := ⟨_, rfl⟩
    rw [← hy] at hxs ⊢
    have HT := Lib.hid hT
    have HY := Lib.hid hy
    have HYS : Hid (y.data.toList.length = y.size) := Lib.hid (size_list y).symm
    have HV := Lib.hid hv
    have HROW := Lib.hid hrow
    clear hT hy hgl hnn hv hrow
    gi_wp2
    gi_loopw [17] (fun i wr => ∃ (k : Nat) (u : Value), k ≤ y.size ∧ i = .int .i64 k ∧ Boxed wr w1.heap.size 35 u ∧ wr.ownsRow (w1.heap.size + 2) 5 1 u (T ++ txtX (y.data.toList.take k)).length (ub (T ++ txtX (y.data.toList.take k))) ∧ KeepsOthers W wr ∧ KpB (w1.heap.size + 1) W wr ∧ w1.heap.size + 2 ≤ wr.heap.size ∧ Below w.heap.size w wr) (fun i _ => y.size - (intOf i).toNat)
    case atStart => exact ⟨0, v, by omega, rfl, HV.out, by simpa [txtX] using HROW.out, KeepsOthers.refl _, kpB_refl _ _, hsb, hB⟩
    case round =>
      obtain ⟨k, u, hk, rfl, hu, hrowu, hko, hkp, hsz, hbr⟩ := hrel
      have hul : (T ++ txtX (y.data.toList.take k)).length ≤ 70300 := by
        have h1 := txtX_len (y.data.toList.take k)
        have h2 : (y.data.toList.take k).length ≤ 63 := by rw [List.length_take, HYS.out]; omega
        rw [List.length_append]; omega
      obtain ⟨L, hL⟩ : ∃ L, L = T ++ txtX (y.data.toList.take k) := ⟨_, rfl⟩
      rw [← hL] at hul hrowu
      have HL := Lib.hid hL
      have HU := Lib.hid hu
      have HRU := Lib.hid hrowu
      have HKO := Lib.hid hko
      have HKP := Lib.hid hkp
      have hc := hu.cell
      clear hL hu hrowu hko hkp
      by_cases hlt2 : k < y.size
      · obtain ⟨b, hb⟩ : ∃ b, b = y[k] := ⟨_, rfl⟩
        have HSN : Hid (txtX (y.data.toList.take (k + 1)) = txtX (y.data.toList.take k) ++ esc b) := Lib.hid (by
          rw [hb, get_list y k hlt2]; exact txtX_snoc _ k (by rw [HYS.out]; exact hlt2))
        have hbi : y[k] = b := hb.symm
        have hbt : y[k].toNat = b.toNat := by rw [hbi]
        have hel := esc_len b
        have HEL := Lib.hid hel
        have q0 : (k : Int) < (y.size : Int) := by omega
        clear hb hel hbi
        gi_wp2
        refine wpIn_region_any hmx ?_
        change wpAnyIn _ _ _ _ _ _ _ _ _ (World.drew _)
        refine wpAnyIn_ready (rs := [0, 1, 2]) (by kernel_rfl) (by simp) ?_
        refine AllReadyIn.cons rfl (fun K hK => ?_) (AllReadyIn.cons rfl (fun K hK => ?_) (AllReadyIn.cons rfl (fun K hK => ?_) AllReadyIn.nil))
        · go_simp
          refine hK _ _ ?_
          clear hK K
          refine wpAnyIn_ready (rs := [1, 2]) (by kernel_rfl) (by simp) ?_
          refine AllReadyIn.cons rfl (fun K hK => ?_) (AllReadyIn.cons rfl (fun K hK => ?_) AllReadyIn.nil)
          · go_simp
            refine hK _ _ ?_
            clear hK K
            refine wpAnyIn_ready (rs := [2]) (by kernel_rfl) (by simp) ?_
            refine AllReadyIn.cons rfl (fun K hK => ?_) AllReadyIn.nil
            go_simp
            refine hK _ _ ?_
            clear hK K
            refine wpAnyIn_ready (rs := [3]) (by kernel_rfl) (by simp) ?_
            refine AllReadyIn.cons rfl (fun K hK => ?_) AllReadyIn.nil
            go_simp
            refine hK _ _ ?_
            clear hK K
            refine wpAnyIn_ready (rs := [4]) (by kernel_rfl) (by simp) ?_
            refine AllReadyIn.cons rfl (fun K hK => ?_) AllReadyIn.nil
            go_simp
            refine ⟨trivial, ?_⟩
            gi_at_call 22
            refine (CallsIn.inRound l (callsIn_wide.2 (escape_any b _))).mono ?_
            rintro e w2 ⟨z, rfl, hz'⟩
            obtain ⟨hc2, hf2, hsz2, _⟩ := after_call HU.out (newB_below hz')
            refine hK _ _ ?_
            clear hK K
            refine wpAnyIn_ready (rs := [5]) (by kernel_rfl) (by simp) ?_
            refine AllReadyIn.cons rfl (fun K hK => ?_) AllReadyIn.nil
            refine stepIn_append _ rfl (.tmp 20) (.tmp 24) 35 rfl (w1.heap.size + 2) 5 i0 (.int .u8 0) 1 1 Tryd.underlying35 hi hz0 hz1 hz2 rfl (by decide) u L.length (ub L) rfl (row_below (World.ownsRow.drew HRU.out) (newB_below hz')) ⟨wr.drew.heap.size, 0, none⟩ (esc b).length (esc b).length (ub (esc b)) hz'.1 (by rw [List.length_map, Nat.mul_one]) (newB_news hz') (ub_one' _) (by have := HEL.out.2; unfold maxLen; omega) (by have := HEL.out.2; omega) (by omega) ?_
            intro v' w3 hown' hgrow _
            obtain ⟨a', cap', rfl⟩ := row_slice hown'
            obtain ⟨⟨hc3, hf3⟩, a1, a2, a3, a4, a5, a6⟩ := after_app (B := w1.heap.size + 1) (by decide) HU.out HRU.out (below_drew (newB_below hz')) hsz hown' hgrow hsw (by omega) (by omega) (by omega) hbr
            have A := Lib.hid (And.intro a1 (And.intro a2 (And.intro a3 (And.intro a4 (And.intro a5 a6)))))
            clear a1 a2 a3 a4 a5 a6
            refine hK _ _ ?_
            clear hK K
            refine wpAnyIn_ready (rs := [6]) (by kernel_rfl) (by simp) ?_
            refine AllReadyIn.cons rfl (fun K hK => ?_) AllReadyIn.nil
            go_simp
            refine hK _ _ ?_
            clear hK K
            refine wpAnyIn_done (by kernel_rfl) ?_ _
            gi_wp2
            go_roundw
            case rel => exact ⟨k + 1, _, by omega, by go_num, A.out.2.2.1, by rw [HSN.out, ← List.append_assoc, ← HL.out, List.length_append, ub_app]; exact A.out.2.2.2.1, HKO.out.trans A.out.1, kpB_t HKP.out A.out.2.1, A.out.2.2.2.2.1, A.out.2.2.2.2.2⟩
            case measure => simp [intOf]; omega
          · go_simp
            refine hK _ _ ?_
            clear hK K
            refine wpAnyIn_ready (rs := [1]) (by kernel_rfl) (by simp) ?_
            refine AllReadyIn.cons rfl (fun K hK => ?_) AllReadyIn.nil
            go_simp
            refine hK _ _ ?_
            clear hK K
            refine wpAnyIn_ready (rs := [3]) (by kernel_rfl) (by simp) ?_
            refine AllReadyIn.cons rfl (fun K hK => ?_) AllReadyIn.nil
            go_simp
            refine hK _ _ ?_
            clear hK K
            refine wpAnyIn_ready (rs := [4]) (by kernel_rfl) (by simp) ?_
            refine AllReadyIn.cons rfl (fun K hK => ?_) AllReadyIn.nil
            go_simp
            refine ⟨trivial, ?_⟩
            gi_at_call 22
            refine (CallsIn.inRound l (callsIn_wide.2 (escape_any b _))).mono ?_
            rintro e w2 ⟨z, rfl, hz'⟩
            obtain ⟨hc2, hf2, hsz2, _⟩ := after_call HU.out (newB_below hz')
            refine hK _ _ ?_
            clear hK K
            refine wpAnyIn_ready (rs := [5]) (by kernel_rfl) (by simp) ?_
            refine AllReadyIn.cons rfl (fun K hK => ?_) AllReadyIn.nil
            refine stepIn_append _ rfl (.tmp 20) (.tmp 24) 35 rfl (w1.heap.size + 2) 5 i0 (.int .u8 0) 1 1 Tryd.underlying35 hi hz0 hz1 hz2 rfl (by decide) u L.length (ub L) rfl (row_below (World.ownsRow.drew HRU.out) (newB_below hz')) ⟨wr.drew.heap.size, 0, none⟩ (esc b).length (esc b).length (ub (esc b)) hz'.1 (by rw [List.length_map, Nat.mul_one]) (newB_news hz') (ub_one' _) (by have := HEL.out.2; unfold maxLen; omega) (by have := HEL.out.2; omega) (by omega) ?_
            intro v' w3 hown' hgrow _
            obtain ⟨a', cap', rfl⟩ := row_slice hown'
            obtain ⟨⟨hc3, hf3⟩, a1, a2, a3, a4, a5, a6⟩ := after_app (B := w1.heap.size + 1) (by decide) HU.out HRU.out (below_drew (newB_below hz')) hsz hown' hgrow hsw (by omega) (by omega) (by omega) hbr
            have A := Lib.hid (And.intro a1 (And.intro a2 (And.intro a3 (And.intro a4 (And.intro a5 a6)))))
            clear a1 a2 a3 a4 a5 a6
            refine hK _ _ ?_
            clear hK K
            refine wpAnyIn_ready (rs := [6]) (by kernel_rfl) (by simp) ?_
            refine AllReadyIn.cons rfl (fun K hK => ?_) AllReadyIn.nil
            go_simp
            refine hK _ _ ?_
            clear hK K
            refine wpAnyIn_done (by kernel_rfl) ?_ _
            gi_wp2
            go_roundw
            case rel => exact ⟨k + 1, _, by omega, by go_num, A.out.2.2.1, by rw [HSN.out, ← List.append_assoc, ← HL.out, List.length_append, ub_app]; exact A.out.2.2.2.1, HKO.out.trans A.out.1, kpB_t HKP.out A.out.2.1, A.out.2.2.2.2.1, A.out.2.2.2.2.2⟩
            case measure => simp [intOf]; omega
        · go_simp
          refine hK _ _ ?_
          clear hK K
          refine wpAnyIn_ready (rs := [0, 2]) (by kernel_rfl) (by simp) ?_
          refine AllReadyIn.cons rfl (fun K hK => ?_) (AllReadyIn.cons rfl (fun K hK => ?_) AllReadyIn.nil)
          · go_simp
            refine hK _ _ ?_
            clear hK K
            refine wpAnyIn_ready (rs := [2]) (by kernel_rfl) (by simp) ?_
            refine AllReadyIn.cons rfl (fun K hK => ?_) AllReadyIn.nil
            go_simp
            refine hK _ _ ?_
            clear hK K
            refine wpAnyIn_ready (rs := [3]) (by kernel_rfl) (by simp) ?_
            refine AllReadyIn.cons rfl (fun K hK => ?_) AllReadyIn.nil
            go_simp
            refine hK _ _ ?_
            clear hK K
            refine wpAnyIn_ready (rs := [4]) (by kernel_rfl) (by simp) ?_
            refine AllReadyIn.cons rfl (fun K hK => ?_) AllReadyIn.nil
            go_simp
            refine ⟨trivial, ?_⟩
            gi_at_call 22
            refine (CallsIn.inRound l (callsIn_wide.2 (escape_any b _))).mono ?_
            rintro e w2 ⟨z, rfl, hz'⟩
            obtain ⟨hc2, hf2, hsz2, _⟩ := after_call HU.out (newB_below hz')
            refine hK _ _ ?_
            clear hK K
            refine wpAnyIn_ready (rs := [5]) (by kernel_rfl) (by simp) ?_
            refine AllReadyIn.cons rfl (fun K hK => ?_) AllReadyIn.nil
            refine stepIn_append _ rfl (.tmp 20) (.tmp 24) 35 rfl (w1.heap.size + 2) 5 i0 (.int .u8 0) 1 1 Tryd.underlying35 hi hz0 hz1 hz2 rfl (by decide) u L.length (ub L) rfl (row_below (World.ownsRow.drew HRU.out) (newB_below hz')) ⟨wr.drew.heap.size, 0, none⟩ (esc b).length (esc b).length (ub (esc b)) hz'.1 (by rw [List.length_map, Nat.mul_one]) (newB_news hz') (ub_one' _) (by have := HEL.out.2; unfold maxLen; omega) (by have := HEL.out.2; omega) (by omega) ?_
            intro v' w3 hown' hgrow _
            obtain ⟨a', cap', rfl⟩ := row_slice hown'
            obtain ⟨⟨hc3, hf3⟩, a1, a2, a3, a4, a5, a6⟩ := after_app (B := w1.heap.size + 1) (by decide) HU.out HRU.out (below_drew (newB_below hz')) hsz hown' hgrow hsw (by omega) (by omega) (by omega) hbr
            have A := Lib.hid (And.intro a1 (And.intro a2 (And.intro a3 (And.intro a4 (And.intro a5 a6)))))
            clear a1 a2 a3 a4 a5 a6
            refine hK _ _ ?_
            clear hK K
            refine wpAnyIn_ready (rs := [6]) (by kernel_rfl) (by simp) ?_
            refine AllReadyIn.cons rfl (fun K hK => ?_) AllReadyIn.nil
            go_simp
            refine hK _ _ ?_
            clear hK K
            refine wpAnyIn_done (by kernel_rfl) ?_ _
            gi_wp2
            go_roundw
            case rel => exact ⟨k + 1, _, by omega, by go_num, A.out.2.2.1, by rw [HSN.out, ← List.append_assoc, ← HL.out, List.length_append, ub_app]; exact A.out.2.2.2.1, HKO.out.trans A.out.1, kpB_t HKP.out A.out.2.1, A.out.2.2.2.2.1, A.out.2.2.2.2.2⟩
            case measure => simp [intOf]; omega
          · go_simp
            refine hK _ _ ?_
            clear hK K
            refine wpAnyIn_ready (rs := [0, 3]) (by kernel_rfl) (by simp) ?_
            refine AllReadyIn.cons rfl (fun K hK => ?_) (AllReadyIn.cons rfl (fun K hK => ?_) AllReadyIn.nil)
            · go_simp
              refine hK _ _ ?_
              clear hK K
              refine wpAnyIn_ready (rs := [3]) (by kernel_rfl) (by simp) ?_
              refine AllReadyIn.cons rfl (fun K hK => ?_) AllReadyIn.nil
              go_simp
              refine hK _ _ ?_
              clear hK K
              refine wpAnyIn_ready (rs := [4]) (by kernel_rfl) (by simp) ?_
              refine AllReadyIn.cons rfl (fun K hK => ?_) AllReadyIn.nil
              go_simp
              refine ⟨trivial, ?_⟩
              gi_at_call 22
              refine (CallsIn.inRound l (callsIn_wide.2 (escape_any b _))).mono ?_
              rintro e w2 ⟨z, rfl, hz'⟩
              obtain ⟨hc2, hf2, hsz2, _⟩ := after_call HU.out (newB_below hz')
              refine hK _ _ ?_
              clear hK K
              refine wpAnyIn_ready (rs := [5]) (by kernel_rfl) (by simp) ?_
              refine AllReadyIn.cons rfl (fun K hK => ?_) AllReadyIn.nil
              refine stepIn_append _ rfl (.tmp 20) (.tmp 24) 35 rfl (w1.heap.size + 2) 5 i0 (.int .u8 0) 1 1 Tryd.underlying35 hi hz0 hz1 hz2 rfl (by decide) u L.length (ub L) rfl (row_below (World.ownsRow.drew HRU.out) (newB_below hz')) ⟨wr.drew.heap.size, 0, none⟩ (esc b).length (esc b).length (ub (esc b)) hz'.1 (by rw [List.length_map, Nat.mul_one]) (newB_news hz') (ub_one' _) (by have := HEL.out.2; unfold maxLen; omega) (by have := HEL.out.2; omega) (by omega) ?_
              intro v' w3 hown' hgrow _
              obtain ⟨a', cap', rfl⟩ := row_slice hown'
              obtain ⟨⟨hc3, hf3⟩, a1, a2, a3, a4, a5, a6⟩ := after_app (B := w1.heap.size + 1) (by decide) HU.out HRU.out (below_drew (newB_below hz')) hsz hown' hgrow hsw (by omega) (by omega) (by omega) hbr
              have A := Lib.hid (And.intro a1 (And.intro a2 (And.intro a3 (And.intro a4 (And.intro a5 a6)))))
              clear a1 a2 a3 a4 a5 a6
              refine hK _ _ ?_
              clear hK K
              refine wpAnyIn_ready (rs := [6]) (by kernel_rfl) (by simp) ?_
              refine AllReadyIn.cons rfl (fun K hK => ?_) AllReadyIn.nil
              go_simp
              refine hK _ _ ?_
              clear hK K
              refine wpAnyIn_done (by kernel_rfl) ?_ _
              gi_wp2
              go_roundw
              case rel => exact ⟨k + 1, _, by omega, by go_num, A.out.2.2.1, by rw [HSN.out, ← List.append_assoc, ← HL.out, List.length_append, ub_app]; exact A.out.2.2.2.1, HKO.out.trans A.out.1, kpB_t HKP.out A.out.2.1, A.out.2.2.2.2.1, A.out.2.2.2.2.2⟩
              case measure => simp [intOf]; omega
            · go_simp
              refine hK _ _ ?_
              clear hK K
              refine wpAnyIn_ready (rs := [0, 4]) (by kernel_rfl) (by simp) ?_
              refine AllReadyIn.cons rfl (fun K hK => ?_) (AllReadyIn.cons rfl (fun K hK => ?_) AllReadyIn.nil)
              · go_simp
                refine hK _ _ ?_
                clear hK K
                refine wpAnyIn_ready (rs := [4]) (by kernel_rfl) (by simp) ?_
                refine AllReadyIn.cons rfl (fun K hK => ?_) AllReadyIn.nil
                go_simp
                refine ⟨trivial, ?_⟩
                gi_at_call 22
                refine (CallsIn.inRound l (callsIn_wide.2 (escape_any b _))).mono ?_
                rintro e w2 ⟨z, rfl, hz'⟩
                obtain ⟨hc2, hf2, hsz2, _⟩ := after_call HU.out (newB_below hz')
                refine hK _ _ ?_
                clear hK K
                refine wpAnyIn_ready (rs := [5]) (by kernel_rfl) (by simp) ?_
                refine AllReadyIn.cons rfl (fun K hK => ?_) AllReadyIn.nil
                refine stepIn_append _ rfl (.tmp 20) (.tmp 24) 35 rfl (w1.heap.size + 2) 5 i0 (.int .u8 0) 1 1 Tryd.underlying35 hi hz0 hz1 hz2 rfl (by decide) u L.length (ub L) rfl (row_below (World.ownsRow.drew HRU.out) (newB_below hz')) ⟨wr.drew.heap.size, 0, none⟩ (esc b).length (esc b).length (ub (esc b)) hz'.1 (by rw [List.length_map, Nat.mul_one]) (newB_news hz') (ub_one' _) (by have := HEL.out.2; unfold maxLen; omega) (by have := HEL.out.2; omega) (by omega) ?_
                intro v' w3 hown' hgrow _
                obtain ⟨a', cap', rfl⟩ := row_slice hown'
                obtain ⟨⟨hc3, hf3⟩, a1, a2, a3, a4, a5, a6⟩ := after_app (B := w1.heap.size + 1) (by decide) HU.out HRU.out (below_drew (newB_below hz')) hsz hown' hgrow hsw (by omega) (by omega) (by omega) hbr
                have A := Lib.hid (And.intro a1 (And.intro a2 (And.intro a3 (And.intro a4 (And.intro a5 a6)))))
                clear a1 a2 a3 a4 a5 a6
                refine hK _ _ ?_
                clear hK K
                refine wpAnyIn_ready (rs := [6]) (by kernel_rfl) (by simp) ?_
                refine AllReadyIn.cons rfl (fun K hK => ?_) AllReadyIn.nil
                go_simp
                refine hK _ _ ?_
                clear hK K
                refine wpAnyIn_done (by kernel_rfl) ?_ _
                gi_wp2
                go_roundw
                case rel => exact ⟨k + 1, _, by omega, by go_num, A.out.2.2.1, by rw [HSN.out, ← List.append_assoc, ← HL.out, List.length_append, ub_app]; exact A.out.2.2.2.1, HKO.out.trans A.out.1, kpB_t HKP.out A.out.2.1, A.out.2.2.2.2.1, A.out.2.2.2.2.2⟩
                case measure => simp [intOf]; omega
              · go_simp
                refine ⟨trivial, ?_⟩
                gi_at_call 22
                refine (CallsIn.inRound l (callsIn_wide.2 (escape_any b _))).mono ?_
                rintro e w2 ⟨z, rfl, hz'⟩
                obtain ⟨hc2, hf2, hsz2, _⟩ := after_call HU.out (newB_below hz')
                refine hK _ _ ?_
                clear hK K
                refine wpAnyIn_ready (rs := [0]) (by kernel_rfl) (by simp) ?_
                refine AllReadyIn.cons rfl (fun K hK => ?_) AllReadyIn.nil
                go_simp
                refine hK _ _ ?_
                clear hK K
                refine wpAnyIn_ready (rs := [5]) (by kernel_rfl) (by simp) ?_
                refine AllReadyIn.cons rfl (fun K hK => ?_) AllReadyIn.nil
                refine stepIn_append _ rfl (.tmp 20) (.tmp 24) 35 rfl (w1.heap.size + 2) 5 i0 (.int .u8 0) 1 1 Tryd.underlying35 hi hz0 hz1 hz2 rfl (by decide) u L.length (ub L) rfl (row_below (World.ownsRow.drew HRU.out) (newB_below hz')) ⟨wr.drew.heap.size, 0, none⟩ (esc b).length (esc b).length (ub (esc b)) hz'.1 (by rw [List.length_map, Nat.mul_one]) (newB_news hz') (ub_one' _) (by have := HEL.out.2; unfold maxLen; omega) (by have := HEL.out.2; omega) (by omega) ?_
                intro v' w3 hown' hgrow _
                obtain ⟨a', cap', rfl⟩ := row_slice hown'
                obtain ⟨⟨hc3, hf3⟩, a1, a2, a3, a4, a5, a6⟩ := after_app (B := w1.heap.size + 1) (by decide) HU.out HRU.out (below_drew (newB_below hz')) hsz hown' hgrow hsw (by omega) (by omega) (by omega) hbr
                have A := Lib.hid (And.intro a1 (And.intro a2 (And.intro a3 (And.intro a4 (And.intro a5 a6)))))
                clear a1 a2 a3 a4 a5 a6
                refine hK _ _ ?_
                clear hK K
                refine wpAnyIn_ready (rs := [6]) (by kernel_rfl) (by simp) ?_
                refine AllReadyIn.cons rfl (fun K hK => ?_) AllReadyIn.nil
                go_simp
                refine hK _ _ ?_
                clear hK K
                refine wpAnyIn_done (by kernel_rfl) ?_ _
                gi_wp2
                go_roundw
                case rel => exact ⟨k + 1, _, by omega, by go_num, A.out.2.2.1, by rw [HSN.out, ← List.append_assoc, ← HL.out, List.length_append, ub_app]; exact A.out.2.2.2.1, HKO.out.trans A.out.1, kpB_t HKP.out A.out.2.1, A.out.2.2.2.2.1, A.out.2.2.2.2.2⟩
                case measure => simp [intOf]; omega
        · go_simp
          refine hK _ _ ?_
          clear hK K
          refine wpAnyIn_ready (rs := [0, 1]) (by kernel_rfl) (by simp) ?_
          refine AllReadyIn.cons rfl (fun K hK => ?_) (AllReadyIn.cons rfl (fun K hK => ?_) AllReadyIn.nil)
          · go_simp
            refine hK _ _ ?_
            clear hK K
            refine wpAnyIn_ready (rs := [1]) (by kernel_rfl) (by simp) ?_
            refine AllReadyIn.cons rfl (fun K hK => ?_) AllReadyIn.nil
            go_simp
            refine hK _ _ ?_
            clear hK K
            refine wpAnyIn_ready (rs := [3]) (by kernel_rfl) (by simp) ?_
            refine AllReadyIn.cons rfl (fun K hK => ?_) AllReadyIn.nil
            go_simp
            refine hK _ _ ?_
            clear hK K
            refine wpAnyIn_ready (rs := [4]) (by kernel_rfl) (by simp) ?_
            refine AllReadyIn.cons rfl (fun K hK => ?_) AllReadyIn.nil
            go_simp
            refine ⟨trivial, ?_⟩
            gi_at_call 22
            refine (CallsIn.inRound l (callsIn_wide.2 (escape_any b _))).mono ?_
            rintro e w2 ⟨z, rfl, hz'⟩
            obtain ⟨hc2, hf2, hsz2, _⟩ := after_call HU.out (newB_below hz')
            refine hK _ _ ?_
            clear hK K
            refine wpAnyIn_ready (rs := [5]) (by kernel_rfl) (by simp) ?_
            refine AllReadyIn.cons rfl (fun K hK => ?_) AllReadyIn.nil
            refine stepIn_append _ rfl (.tmp 20) (.tmp 24) 35 rfl (w1.heap.size + 2) 5 i0 (.int .u8 0) 1 1 Tryd.underlying35 hi hz0 hz1 hz2 rfl (by decide) u L.length (ub L) rfl (row_below (World.ownsRow.drew HRU.out) (newB_below hz')) ⟨wr.drew.heap.size, 0, none⟩ (esc b).length (esc b).length (ub (esc b)) hz'.1 (by rw [List.length_map, Nat.mul_one]) (newB_news hz') (ub_one' _) (by have := HEL.out.2; unfold maxLen; omega) (by have := HEL.out.2; omega) (by omega) ?_
            intro v' w3 hown' hgrow _
            obtain ⟨a', cap', rfl⟩ := row_slice hown'
            obtain ⟨⟨hc3, hf3⟩, a1, a2, a3, a4, a5, a6⟩ := after_app (B := w1.heap.size + 1) (by decide) HU.out HRU.out (below_drew (newB_below hz')) hsz hown' hgrow hsw (by omega) (by omega) (by omega) hbr
            have A := Lib.hid (And.intro a1 (And.intro a2 (And.intro a3 (And.intro a4 (And.intro a5 a6)))))
            clear a1 a2 a3 a4 a5 a6
            refine hK _ _ ?_
            clear hK K
            refine wpAnyIn_ready (rs := [6]) (by kernel_rfl) (by simp) ?_
            refine AllReadyIn.cons rfl (fun K hK => ?_) AllReadyIn.nil
            go_simp
            refine hK _ _ ?_
            clear hK K
            refine wpAnyIn_done (by kernel_rfl) ?_ _
            gi_wp2
            go_roundw
            case rel => exact ⟨k + 1, _, by omega, by go_num, A.out.2.2.1, by rw [HSN.out, ← List.append_assoc, ← HL.out, List.length_append, ub_app]; exact A.out.2.2.2.1, HKO.out.trans A.out.1, kpB_t HKP.out A.out.2.1, A.out.2.2.2.2.1, A.out.2.2.2.2.2⟩
            case measure => simp [intOf]; omega
          · go_simp
            refine hK _ _ ?_
            clear hK K
            refine wpAnyIn_ready (rs := [0, 3]) (by kernel_rfl) (by simp) ?_
            refine AllReadyIn.cons rfl (fun K hK => ?_) (AllReadyIn.cons rfl (fun K hK => ?_) AllReadyIn.nil)
            · go_simp
              refine hK _ _ ?_
              clear hK K
              refine wpAnyIn_ready (rs := [3]) (by kernel_rfl) (by simp) ?_
              refine AllReadyIn.cons rfl (fun K hK => ?_) AllReadyIn.nil
              go_simp
              refine hK _ _ ?_
              clear hK K
              refine wpAnyIn_ready (rs := [4]) (by kernel_rfl) (by simp) ?_
              refine AllReadyIn.cons rfl (fun K hK => ?_) AllReadyIn.nil
              go_simp
              refine ⟨trivial, ?_⟩
              gi_at_call 22
              refine (CallsIn.inRound l (callsIn_wide.2 (escape_any b _))).mono ?_
              rintro e w2 ⟨z, rfl, hz'⟩
              obtain ⟨hc2, hf2, hsz2, _⟩ := after_call HU.out (newB_below hz')
              refine hK _ _ ?_
              clear hK K
              refine wpAnyIn_ready (rs := [5]) (by kernel_rfl) (by simp) ?_
              refine AllReadyIn.cons rfl (fun K hK => ?_) AllReadyIn.nil
              refine stepIn_append _ rfl (.tmp 20) (.tmp 24) 35 rfl (w1.heap.size + 2) 5 i0 (.int .u8 0) 1 1 Tryd.underlying35 hi hz0 hz1 hz2 rfl (by decide) u L.length (ub L) rfl (row_below (World.ownsRow.drew HRU.out) (newB_below hz')) ⟨wr.drew.heap.size, 0, none⟩ (esc b).length (esc b).length (ub (esc b)) hz'.1 (by rw [List.length_map, Nat.mul_one]) (newB_news hz') (ub_one' _) (by have := HEL.out.2; unfold maxLen; omega) (by have := HEL.out.2; omega) (by omega) ?_
              intro v' w3 hown' hgrow _
              obtain ⟨a', cap', rfl⟩ := row_slice hown'
              obtain ⟨⟨hc3, hf3⟩, a1, a2, a3, a4, a5, a6⟩ := after_app (B := w1.heap.size + 1) (by decide) HU.out HRU.out (below_drew (newB_below hz')) hsz hown' hgrow hsw (by omega) (by omega) (by omega) hbr
              have A := Lib.hid (And.intro a1 (And.intro a2 (And.intro a3 (And.intro a4 (And.intro a5 a6)))))
              clear a1 a2 a3 a4 a5 a6
              refine hK _ _ ?_
              clear hK K
              refine wpAnyIn_ready (rs := [6]) (by kernel_rfl) (by simp) ?_
              refine AllReadyIn.cons rfl (fun K hK => ?_) AllReadyIn.nil
              go_simp
              refine hK _ _ ?_
              clear hK K
              refine wpAnyIn_done (by kernel_rfl) ?_ _
              gi_wp2
              go_roundw
              case rel => exact ⟨k + 1, _, by omega, by go_num, A.out.2.2.1, by rw [HSN.out, ← List.append_assoc, ← HL.out, List.length_append, ub_app]; exact A.out.2.2.2.1, HKO.out.trans A.out.1, kpB_t HKP.out A.out.2.1, A.out.2.2.2.2.1, A.out.2.2.2.2.2⟩
              case measure => simp [intOf]; omega
            · go_simp
              refine hK _ _ ?_
              clear hK K
              refine wpAnyIn_ready (rs := [0, 4]) (by kernel_rfl) (by simp) ?_
              refine AllReadyIn.cons rfl (fun K hK => ?_) (AllReadyIn.cons rfl (fun K hK => ?_) AllReadyIn.nil)
              · go_simp
                refine hK _ _ ?_
                clear hK K
                refine wpAnyIn_ready (rs := [4]) (by kernel_rfl) (by simp) ?_
                refine AllReadyIn.cons rfl (fun K hK => ?_) AllReadyIn.nil
                go_simp
                refine ⟨trivial, ?_⟩
                gi_at_call 22
                refine (CallsIn.inRound l (callsIn_wide.2 (escape_any b _))).mono ?_
                rintro e w2 ⟨z, rfl, hz'⟩
                obtain ⟨hc2, hf2, hsz2, _⟩ := after_call HU.out (newB_below hz')
                refine hK _ _ ?_
                clear hK K
                refine wpAnyIn_ready (rs := [5]) (by kernel_rfl) (by simp) ?_
                refine AllReadyIn.cons rfl (fun K hK => ?_) AllReadyIn.nil
                refine stepIn_append _ rfl (.tmp 20) (.tmp 24) 35 rfl (w1.heap.size + 2) 5 i0 (.int .u8 0) 1 1 Tryd.underlying35 hi hz0 hz1 hz2 rfl (by decide) u L.length (ub L) rfl (row_below (World.ownsRow.drew HRU.out) (newB_below hz')) ⟨wr.drew.heap.size, 0, none⟩ (esc b).length (esc b).length (ub (esc b)) hz'.1 (by rw [List.length_map, Nat.mul_one]) (newB_news hz') (ub_one' _) (by have := HEL.out.2; unfold maxLen; omega) (by have := HEL.out.2; omega) (by omega) ?_
                intro v' w3 hown' hgrow _
                obtain ⟨a', cap', rfl⟩ := row_slice hown'
                obtain ⟨⟨hc3, hf3⟩, a1, a2, a3, a4, a5, a6⟩ := after_app (B := w1.heap.size + 1) (by decide) HU.out HRU.out (below_drew (newB_below hz')) hsz hown' hgrow hsw (by omega) (by omega) (by omega) hbr
                have A := Lib.hid (And.intro a1 (And.intro a2 (And.intro a3 (And.intro a4 (And.intro a5 a6)))))
                clear a1 a2 a3 a4 a5 a6
                refine hK _ _ ?_
                clear hK K
                refine wpAnyIn_ready (rs := [6]) (by kernel_rfl) (by simp) ?_
                refine AllReadyIn.cons rfl (fun K hK => ?_) AllReadyIn.nil
                go_simp
                refine hK _ _ ?_
                clear hK K
                refine wpAnyIn_done (by kernel_rfl) ?_ _
                gi_wp2
                go_roundw
                case rel => exact ⟨k + 1, _, by omega, by go_num, A.out.2.2.1, by rw [HSN.out, ← List.append_assoc, ← HL.out, List.length_append, ub_app]; exact A.out.2.2.2.1, HKO.out.trans A.out.1, kpB_t HKP.out A.out.2.1, A.out.2.2.2.2.1, A.out.2.2.2.2.2⟩
                case measure => simp [intOf]; omega
              · go_simp
                refine ⟨trivial, ?_⟩
                gi_at_call 22
                refine (CallsIn.inRound l (callsIn_wide.2 (escape_any b _))).mono ?_
                rintro e w2 ⟨z, rfl, hz'⟩
                obtain ⟨hc2, hf2, hsz2, _⟩ := after_call HU.out (newB_below hz')
                refine hK _ _ ?_
                clear hK K
                refine wpAnyIn_ready (rs := [0]) (by kernel_rfl) (by simp) ?_
                refine AllReadyIn.cons rfl (fun K hK => ?_) AllReadyIn.nil
                go_simp
                refine hK _ _ ?_
                clear hK K
                refine wpAnyIn_ready (rs := [5]) (by kernel_rfl) (by simp) ?_
                refine AllReadyIn.cons rfl (fun K hK => ?_) AllReadyIn.nil
                refine stepIn_append _ rfl (.tmp 20) (.tmp 24) 35 rfl (w1.heap.size + 2) 5 i0 (.int .u8 0) 1 1 Tryd.underlying35 hi hz0 hz1 hz2 rfl (by decide) u L.length (ub L) rfl (row_below (World.ownsRow.drew HRU.out) (newB_below hz')) ⟨wr.drew.heap.size, 0, none⟩ (esc b).length (esc b).length (ub (esc b)) hz'.1 (by rw [List.length_map, Nat.mul_one]) (newB_news hz') (ub_one' _) (by have := HEL.out.2; unfold maxLen; omega) (by have := HEL.out.2; omega) (by omega) ?_
                intro v' w3 hown' hgrow _
                obtain ⟨a', cap', rfl⟩ := row_slice hown'
                obtain ⟨⟨hc3, hf3⟩, a1, a2, a3, a4, a5, a6⟩ := after_app (B := w1.heap.size + 1) (by decide) HU.out HRU.out (below_drew (newB_below hz')) hsz hown' hgrow hsw (by omega) (by omega) (by omega) hbr
                have A := Lib.hid (And.intro a1 (And.intro a2 (And.intro a3 (And.intro a4 (And.intro a5 a6)))))
                clear a1 a2 a3 a4 a5 a6
                refine hK _ _ ?_
                clear hK K
                refine wpAnyIn_ready (rs := [6]) (by kernel_rfl) (by simp) ?_
                refine AllReadyIn.cons rfl (fun K hK => ?_) AllReadyIn.nil
                go_simp
                refine hK _ _ ?_
                clear hK K
                refine wpAnyIn_done (by kernel_rfl) ?_ _
                gi_wp2
                go_roundw
                case rel => exact ⟨k + 1, _, by omega, by go_num, A.out.2.2.1, by rw [HSN.out, ← List.append_assoc, ← HL.out, List.length_append, ub_app]; exact A.out.2.2.2.1, HKO.out.trans A.out.1, kpB_t HKP.out A.out.2.1, A.out.2.2.2.2.1, A.out.2.2.2.2.2⟩
                case measure => simp [intOf]; omega
      · have hkk : k = y.size := by omega
        have HLL : Hid (L = T ++ txtX y.data.toList) := Lib.hid (by rw [HL.out, List.take_of_length_le (by rw [HYS.out]; omega)])
        clear hkk
        gi_wp2_with (gi_at_builtin; refine wpListIn_append_own _ rfl (.tmp 27) (.tmp 28) 35 rfl (w1.heap.size + 2) 5 i0 (.int .u8 0) 1 1 Tryd.underlying35 hi hz0 hz1 hz2 rfl (by decide) u L.length (ub L) rfl (HRU.out.alloc _) ⟨wr.heap.size, 0, none⟩ 1 1 [.int .u8 46] rfl rfl (cell_one_new _ _ _) (by simp [Value.oneCell']) (by unfold maxLen; omega) (by omega) (by simp; omega) ?_; intro v' w3 hown' hgrow _; obtain ⟨a', cap', rfl⟩ := row_slice hown'; obtain ⟨⟨hc3, hf3⟩, a1, a2, a3, a4, a5, a6⟩ := after_app (B := w1.heap.size + 1) (by decide) HU.out HRU.out ((Below.refl _ _).alloc (Nat.le_refl _) _) hsz hown' hgrow hsw (by omega) (by omega) (by omega) hbr; have A := Lib.hid (And.intro a1 (And.intro a2 (And.intro a3 (And.intro a4 (And.intro a5 a6))))); clear a1 a2 a3 a4 a5 a6)
        exact ⟨(HKO.out.trans A.out.1).from _, kpB_t HKP.out A.out.2.1, ⟨⟨_, A.out.2.2.1, by rw [got_snoc, txtL_snoc, ← HT.out, ← HY.out, ← HLL.out, List.length_append, ub_app]; exact A.out.2.2.2.1, trivial⟩, A.out.2.2.2.2.1, A.out.2.2.2.2.2⟩⟩
  case done =>
    rintro D ys W hD rfl ⟨⟨v, hv, hrow, _⟩, _, hB⟩ hK
    rw [got_items 0 (labs_ok _)] at hrow
    have hc := hv.cell
    obtain ⟨a', cap', rfl⟩ := row_slice hrow
    have hconv := row_back hrow
    have HROW := Lib.hid hrow
    clear hrow
    gi_wp2
    refine ⟨by simp, .inl ⟨_, _, rfl, run_takeDeferred hK, ?_⟩⟩
    exact ⟨_, results_tmp rfl _ _ _, rfl, hB.trans (belowK_b (w := w) (Nat.le_refl _) W D _ _ (by simp at hD; omega) hK rfl rfl)⟩
  case stop =>
    rintro D c pre W _ _ h _
    exact h.elim
theorem text_any (s : ByteArray) (hs : s.size ≤ 1000000) (w : World) :
    Calls Tryd.prog 8 #[.string s] w fun e w' => e = .returned (.string ⟨(txt s.data.toList).toArray⟩) ∧ Below w.heap.size w w' := by
  refine (callsIn_wide (n := 6)).1 ?_
  by_cases hz : chk s.data.toList = 0
  · by_cases hr : s.data.toList = [0]
    · rw [← txt_root hz hr]
      exact text_root s hs hz (by apply ByteArray.ext; apply Array.toList_inj.1; exact hr) w
    · rw [← txt_yes hz hr]; exact text_yes s hs hz hr w
  · rw [← txt_no hz]; exact text_no s hs hz w
end Go.Proofs.YtpeojicimmofjaaDoor

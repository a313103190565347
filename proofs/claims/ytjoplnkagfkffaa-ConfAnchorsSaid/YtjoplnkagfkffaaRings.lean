/-
  Nodes on the ring: looked for, put in order, taken off.
-/
import Derived.Test.YtjoplnkagfkffaaInsI
namespace Go.Proofs.Ytjoplnkagfkffaa
open Go.RowKit
set_option maxRecDepth 100000 in
set_option maxHeartbeats 3200000 in
theorem index_any {w : World} {a : Option Addr} {n cap : Nat} {L : List Int} (h : RdX elI w (.slice a n cap) L) (hl : L.length ≤ 1000000) (t : Int) :
    Calls Try.prog 47 #[.slice a n cap, it t] w fun e w' => e = .returned (it (fiI (fun x => decide (t = x)) L)) ∧ Below w.heap.size w w' := by
  have hn := h.len
  have HR := Lib.hid h
  have HN := Lib.hid hn
  have hl' : n ≤ 1000000 := by omega
  clear h hl hn
  go_enter Try.func47, Try.ntmps47
  go_wp2
  go_loopw [8] (fun i wr => ∃ k : Nat, k ≤ n ∧ i = it (k : Int) ∧ k ≤ fidx (fun x => decide (t = x)) L ∧ Below w.heap.size w wr) (fun i _ => n - (intOf i).toNat)
  case atStart => exact ⟨0, by omega, rfl, Nat.zero_le _, Below.refl _ _⟩
  case round =>
    obtain ⟨k, hk, rfl, hf, hb⟩ := hrel
    have HB := Lib.hid hb
    have HF := Lib.hid hf
    by_cases hlt : k < n
    · have q1 : (k : Int) < (n : Int) := by omega
      obtain ⟨x, hx⟩ : ∃ x, L[k]? = some x := ⟨_, List.getElem?_eq_getElem (by rw [← HN.out]; exact hlt)⟩
      obtain ⟨b, o, rfl, hg, c0⟩ := at1 HR.out rfl hx rfl
      have c0 := (hb.cell (p := ⟨b, o + k, none⟩) hg).trans c0
      have HX := Lib.hid hx
      clear hb hf hx
      by_cases htx : t = x
      · have q2 : (t == x) = true := by simpa using htx
        have HE := Lib.hid (fidx_at (p := fun x => decide (t = x)) HX.out HF.out (decide_eq_true htx))
        have e : fiI (fun x => decide (t = x)) L = (k : Int) := by unfold fiI; rw [HE.out, if_pos (by rw [← HN.out]; exact hlt)]
        have E := Lib.hid e
        clear e htx
        go_wp2
        go_ret
        exact ⟨by rw [E.out]; rfl, HB.out⟩
      · have q2 : (t == x) = false := by simpa using htx
        have HE := Lib.hid (fidx_more (p := fun x => decide (t = x)) HX.out HF.out (decide_eq_false htx))
        clear htx
        go_wp2
        go_roundw
        case rel => exact ⟨k + 1, by omega, by go_num, HE.out, HB.out⟩
        case measure => simp [intOf]; omega
    · have q1 : decide ((k : Int) < (n : Int)) = false := by simp; omega
      have e : fiI (fun x => decide (t = x)) L = -1 := by unfold fiI; rw [if_neg (by have := HF.out; have := HN.out; omega)]
      have E := Lib.hid e
      clear hb hf e
      go_wp2
      go_ret
      exact ⟨by rw [E.out]; rfl, HB.out⟩
set_option maxRecDepth 100000 in
set_option maxHeartbeats 3200000 in
theorem has_any {w : World} {a : Option Addr} {n cap : Nat} {L : List Int} (h : RdX elI w (.slice a n cap) L) (hl : L.length ≤ 1000000) (t : Int) :
    Calls Try.prog 44 #[.slice a n cap, it t] w fun e w' => e = .returned (.bool (L.any fun x => decide (t = x))) ∧ Below w.heap.size w w' := by
  have HI := Lib.hid (index_any h hl t)
  have HE := Lib.hid (fiI_any (fun x => decide (t = x)) L)
  generalize (L.any fun x => decide (t = x)) = r at *
  generalize fiI (fun x => decide (t = x)) L = q at *
  clear h hl
  go_enter Try.func44, Try.ntmps44
  go_wp2_with fail
  refine HI.out.mono ?_
  rintro e w2 ⟨rfl, hb⟩
  have HB := Lib.hid hb
  have q1 := HE.out
  clear hb
  go_wp2
  go_ret
  exact ⟨rfl, HB.out⟩
set_option maxRecDepth 100000 in
set_option maxHeartbeats 3200000 in
theorem nan_any (n : Int) (w : World) : Calls Try.prog 67 #[it n] w fun e w' => e = .returned (.bool false) ∧ w = w' := by
  have q : (n != n) = false := by simp
  go_enter Try.func67, Try.ntmps67
  go_wp2
  go_ret
  exact ⟨rfl, rfl⟩
def cmpI (a b : Int) : Int := if a < b then -1 else if b < a then 1 else 0
set_option maxRecDepth 100000 in
set_option maxHeartbeats 3200000 in
theorem cmp_anyI (a b : Int) (w : World) : Calls Try.prog 46 #[it a, it b] w fun e w' => e = .returned (it (cmpI a b)) ∧ w = w' := by
  obtain ⟨r, hr⟩ : ∃ r, r = cmpI a b := ⟨_, rfl⟩
  rw [← hr]
  unfold cmpI at hr
  by_cases h1 : a < b
  · rw [if_pos h1] at hr
    subst hr
    go_enter Try.func46, Try.ntmps46
    go_wp2_with (first | (go_at_call 67; refine (nan_any _ _).mono ?_; rintro e w2 ⟨rfl, rfl⟩) | fail)
    go_ret
    exact ⟨rfl, rfl⟩
  · rw [if_neg h1] at hr
    have q1 : decide (a < b) = false := decide_eq_false h1
    by_cases h2 : b < a
    · rw [if_pos h2] at hr
      subst hr
      go_enter Try.func46, Try.ntmps46
      go_wp2_with (first | (go_at_call 67; refine (nan_any _ _).mono ?_; rintro e w2 ⟨rfl, rfl⟩) | fail)
      go_ret
      exact ⟨rfl, rfl⟩
    · rw [if_neg h2] at hr
      have q2 : decide (b < a) = false := decide_eq_false h2
      subst hr
      go_enter Try.func46, Try.ntmps46
      go_wp2_with (first | (go_at_call 67; refine (nan_any _ _).mono ?_; rintro e w2 ⟨rfl, rfl⟩) | fail)
      go_ret
      exact ⟨rfl, rfl⟩
set_option maxRecDepth 100000 in
set_option maxHeartbeats 6400000 in
theorem binI_any {w : World} {a : Option Addr} {n cap : Nat} {L : List Int} (h : RdX elI w (.slice a n cap) L) (hl : L.length ≤ 1000) (t : Int) (g : FuncId) (cf : Int → Int) (i0 : Nat) (hi0 : i0 ≤ n)
    (hN : ∀ args w, (callFunc g args).run Try.prog w = .ok (.enter g args) w)
    (hc : ∀ W, ∀ x ∈ L, Below w.heap.size w W → Calls Try.prog g #[it x, it t] W fun e W' => e = .returned (it (cf x)) ∧ Below W.heap.size W W')
    (h1 : ∀ j x, L[j]? = some x → j < i0 → cf x < 0) (h2 : ∀ j x, L[j]? = some x → i0 ≤ j → 0 ≤ cf x) :
    Calls Try.prog 65 #[.slice a n cap, it t, .func (.func g) #[] #[]] w fun e w' => ∃ b, e = .returned (.tuple #[it (i0 : Int), .bool b]) ∧ Below w.heap.size w w' := by
  have hn := h.len
  have HR := Lib.hid h
  have HN := Lib.hid hn
  have HC := Lib.hid hc
  have H1 := Lib.hid h1
  have H2 := Lib.hid h2
  have hl' : n ≤ 1000 := by omega
  clear h hl hn hc h1 h2
  go_enter Try.func65, Try.ntmps65
  go_wp2
  go_loopw [9, 10] (fun i j wr => ∃ p q : Nat, p ≤ i0 ∧ i0 ≤ q ∧ q ≤ n ∧ i = it (p : Int) ∧ j = it (q : Int) ∧ Below w.heap.size w wr) (fun i j _ => (intOf j).toNat - (intOf i).toNat)
  case atStart => exact ⟨0, n, Nat.zero_le _, hi0, Nat.le_refl _, rfl, rfl, Below.refl _ _⟩
  case round =>
    obtain ⟨p, q, hp, hq, hqn, rfl, rfl, hb⟩ := hrel
    have HB := Lib.hid hb
    by_cases hlt : p < q
    · have q1 : (p : Int) < (q : Int) := by omega
      obtain ⟨m, hm⟩ : ∃ m, m = (p + q) / 2 := ⟨_, rfl⟩
      have e1 : wrap64 ((p : Int) + (q : Int)) = (p : Int) + (q : Int) := by unfold wrap64; omega
      have e2 : IntKind.u64.wrap ((p : Int) + (q : Int)) = (p : Int) + (q : Int) := by unfold IntKind.wrap; simp only [IntKind.bits, IntKind.signed]; simp; omega
      have e3 : ((p : Int) + (q : Int)) / 2 = (m : Int) := by omega
      have e4 : IntKind.i64.wrap (m : Int) = (m : Int) := by unfold IntKind.wrap; simp only [IntKind.bits, IntKind.signed]; simp; omega
      have hm1 : p ≤ m := by omega
      have hm2 : m < q := by omega
      clear hm
      go_upto_region 5 with fail
      obtain ⟨x, hx⟩ : ∃ x, L[m]? = some x := ⟨_, List.getElem?_eq_getElem (by rw [← HN.out]; omega)⟩
      obtain ⟨b, o, rfl, hg, c0⟩ := at1 HR.out rfl hx rfl
      have c0 := (hb.cell (p := ⟨b, o + m, none⟩) hg).trans c0
      have HCX := Lib.hid (HC.out wr x (List.mem_of_getElem? hx) hb)
      have q2 : (0 : Int) ≤ (m : Int) := by omega
      have q3 : (m : Int) < (n : Int) := by omega
      have HX := Lib.hid hx
      clear hx hb
      go_wp2_with fail
      refine HCX.out.mono ?_
      rintro e w2 ⟨rfl, hb2⟩
      have HB2 := Lib.hid (HB.out.trans (hb2.mono HB.out.size))
      clear hb2
      by_cases hneg : cf x < 0
      · have hmi : m + 1 ≤ i0 := by
          rcases Nat.lt_or_ge m i0 with h | h
          · exact h
          · have := H2.out m x HX.out h; omega
        go_wp2
        go_roundw
        case rel => exact ⟨m + 1, q, hmi, hq, hqn, by go_num, rfl, HB2.out⟩
        case measure => simp [intOf]; omega
      · have hmi : i0 ≤ m := by
          rcases Nat.lt_or_ge m i0 with h | h
          · have := H1.out m x HX.out h; omega
          · exact h
        have q4 : decide (cf x < 0) = false := decide_eq_false hneg
        go_wp2
        go_roundw
        case rel => exact ⟨p, m, hp, hmi, by omega, rfl, rfl, HB2.out⟩
        case measure => simp [intOf]; omega
    · have q1 : decide ((p : Int) < (q : Int)) = false := decide_eq_false (by omega)
      obtain rfl : p = i0 := by omega
      obtain rfl : q = p := by omega
      by_cases hqn2 : q < n
      · have q3 : (q : Int) < (n : Int) := by omega
        have q3' : decide ((q : Int) < (n : Int)) = true := decide_eq_true q3
        obtain ⟨x, hx⟩ : ∃ x, L[q]? = some x := ⟨_, List.getElem?_eq_getElem (by rw [← HN.out]; omega)⟩
        obtain ⟨b, o, rfl, hg, c0⟩ := at1 HR.out rfl hx rfl
        have c0 := (hb.cell (p := ⟨b, o + q, none⟩) hg).trans c0
        have HCX := Lib.hid (HC.out wr x (List.mem_of_getElem? hx) hb)
        clear hx hb
        go_wp2_with fail
        refine HCX.out.mono ?_
        rintro e w2 ⟨rfl, hb2⟩
        have HB2 := Lib.hid (HB.out.trans (hb2.mono HB.out.size))
        clear hb2
        go_wp2
        go_ret2
        exact ⟨_, rfl, HB2.out⟩
      · have q3 : decide ((q : Int) < (n : Int)) = false := decide_eq_false (by omega)
        have q3' : decide (q < n) = false := decide_eq_false hqn2
        clear hb
        go_wp2
        go_ret2
        exact ⟨_, rfl, HB.out⟩
/-- What an append onto a row's own beginning leaves. -/
theorem own_cut {α : Type} {E : El α} {w : World} {base g n cap i : Nat} {L : List α} (h : OwnX E w base (.slice (some ⟨g, 0, none⟩) n cap) L) (hi : i ≤ n) : OwnX E w base (.slice (some ⟨g, 0, none⟩) i cap) (L.take i) := by
  obtain ⟨cur, hC, hb, hn, hc, hm, hs, ht⟩ := own_cur h
  refine own_row hC hb (by rw [List.length_take]; omega) (by omega) hm hs ?_
  rw [El.fl_take, ← ht, List.take_take, Nat.min_eq_left (Nat.mul_le_mul_right _ hi)]
theorem del_cells {α : Type} {E : El α} {w : World} {base g n cap i : Nat} {L : List α} (h : OwnX E w base (.slice (some ⟨g, 0, none⟩) n cap) L) (hi : i < n) (ty : TypeId) :
    ∃ w', (Builtin.append_ #[E.t, E.t] ty #[.slice (some ⟨g, 0, none⟩) i cap, .slice (some ⟨g, (i + 1) * E.k, none⟩) (n - (i + 1)) (cap - (i + 1))]).run Try.prog w = .ok (.slice (some ⟨g, 0, none⟩) (n - 1) cap) w' ∧
      OwnX E w' base (.slice (some ⟨g, 0, none⟩) (n - 1) cap) (L.take i ++ L.drop (i + 1)) ∧ Tr (· = g) w w' ∧ ∃ cur', Ce w' g E.e cur' ∧ cur'.size = cap * E.k := by
  obtain ⟨inf, hif, hz0, hz1, hz2⟩ := info_parts E.hinf
  have hA : i + 1 + (n - (i + 1)) = n := by omega
  have hB : i + (n - (i + 1)) = n - 1 := by omega
  have hsum : (i + 1) * E.k + (n - (i + 1)) * E.k = n * E.k := by rw [← Nat.add_mul, hA]
  have hsum2 : i * E.k + (n - (i + 1)) * E.k = (n - 1) * E.k := by rw [← Nat.add_mul, hB]
  obtain ⟨cur, hC, hb, hn, hc, hm, hs, ht⟩ := own_cur h
  have hdl : (E.fl (L.drop (i + 1))).length = (n - (i + 1)) * E.k := by rw [El.fl_length, List.length_drop, ← hn]
  have htl : (E.fl (L.take i)).length = i * E.k := by rw [El.fl_length, List.length_take, ← hn, Nat.min_eq_left (Nat.le_of_lt hi)]
  have htl1 : (E.fl (L.take (i + 1))).length = (i + 1) * E.k := by rw [El.fl_length, List.length_take, ← hn, Nat.min_eq_left hi]
  have hkk : (i + 1) * E.k = i * E.k + E.k := Nat.succ_mul i E.k
  have hcap : n * E.k ≤ cap * E.k := Nat.mul_le_mul_right _ hc
  have hfit : i * E.k + (E.fl (L.drop (i + 1))).length ≤ cur.size := by rw [hdl, hs]; omega
  have hsrc : ∀ j u, (E.fl (L.drop (i + 1)))[j]? = some u → w.cell? ((⟨g, (i + 1) * E.k, none⟩ : Addr).add j) = some u := by
    intro j u hu
    have h1 : E.fl L = E.fl (L.take (i + 1)) ++ E.fl (L.drop (i + 1)) := by rw [← El.fl_append, List.take_append_drop]
    have h2 : (E.fl L)[(i + 1) * E.k + j]? = some u := by
      rw [h1, List.getElem?_append_right (by rw [htl1]; exact Nat.le_add_right _ _), htl1, Nat.add_sub_cancel_left]
      exact hu
    rw [← ht, List.getElem?_take] at h2
    split at h2
    · rw [Array.getElem?_toList] at h2
      rw [add_any, hC.cell]; exact h2
    · cases h2
  have hrun := run_append_room (P := Try.prog) w E.t ty E.e inf E.ht hif g i cap cur hC ⟨g, (i + 1) * E.k, none⟩ (n - (i + 1)) (cap - (i + 1)) (E.fl (L.drop (i + 1))) (by rw [hz1]; exact hdl) hsrc (El.fl_ones _) (by omega) (by rw [hz1]; exact hfit)
  rw [hz1, show i + (n - (i + 1)) = n - 1 by omega] at hrun
  refine ⟨_, hrun, ?_, setRow_tr, _, setRow_ce hC, ?_⟩
  · refine own_row (setRow_ce hC) hb (by rw [List.length_append, List.length_take, List.length_drop]; omega) (by omega) hm ?_ ?_
    · rw [List.size_toArray]
      have := put_length cur.toList (i * E.k) (E.fl (L.drop (i + 1))) (by rw [Array.length_toList]; exact hfit)
      unfold put at this
      rw [this, Array.length_toList, hs]
    · have e : (n - 1) * E.k = (cur.toList.take (i * E.k) ++ E.fl (L.drop (i + 1))).length := by
        rw [List.length_append, List.length_take, Array.length_toList, hdl, Nat.min_eq_left (by rw [hs]; omega)]; omega
      rw [e]
      show List.take _ (_ ++ _) = _
      rw [List.take_left, El.fl_append, El.fl_take, ← ht, List.take_take, Nat.min_eq_left (Nat.mul_le_mul_right _ (Nat.le_of_lt hi))]
  · rw [List.size_toArray]
    have := put_length cur.toList (i * E.k) (E.fl (L.drop (i + 1))) (by rw [Array.length_toList]; exact hfit)
    unfold put at this
    rw [this, Array.length_toList, hs]
theorem own_setCells {α : Type} {E : El α} {w : World} {base g n cap o : Nat} {L : List α} (h : OwnX E w base (.slice (some ⟨g, 0, none⟩) n cap) L) (ho : n * E.k ≤ o) (vs : List Value) : OwnX E (w.setCells g o vs) base (.slice (some ⟨g, 0, none⟩) n cap) L := by
  obtain ⟨cur, hC, hb, hn, hc, hm, hs, ht⟩ := own_cur h
  obtain ⟨cs', c1, c2, c3⟩ := setCells_ce vs o w cur hC
  refine own_row c1 hb hn hc hm (by rw [c2, hs]) ?_
  rw [← ht]
  apply List.ext_getElem?
  intro j
  rw [List.getElem?_take, List.getElem?_take]
  by_cases hj : j < n * E.k
  · rw [if_pos hj, if_pos hj, Array.getElem?_toList, Array.getElem?_toList, c3 j (by omega)]
  · rw [if_neg hj, if_neg hj]
theorem slice_three {α : Type} (E : El α) {g n cap i j : Nat} (hi : i < j) (hj : j ≤ n) (hc : n ≤ cap) : ∃ v, ∀ w : World, (Instr.slice E.t (.slice (some ⟨g, 0, none⟩) n cap) (some (it (i : Int))) (some (it (j : Int))) (some (it (n : Int)))).run Try.prog w = .ok v w := by
  obtain ⟨q, hq, hz0, hz1, hz2⟩ := info_parts E.hinf
  have h1 : i ≤ j := by omega
  have h2 : ¬ n = i := by omega
  exact ⟨_, fun w => by simp [Instr.slice, Instr.sliceBounds, Instr.sliceBound, run_underlying E.ht, sizeOf, typeInfo, hq, asIntOf, h1, hj, hc, h2]; rfl⟩
theorem zonesI (n : Nat) : ∀ u ∈ (Builtin.zeroCells elI.z.cells n).toList, u.oneCell' = true := by
  intro u hu
  unfold Builtin.zeroCells at hu
  rw [Array.toList_map, List.mem_map] at hu
  obtain ⟨i, _, rfl⟩ := hu
  have hs : elI.z.cells = #[.int .i64 0] := rfl
  rw [hs]
  have : i % 1 = 0 := Nat.mod_one i
  show (#[.int .i64 0] : Array Value)[i % 1]!.oneCell' = true
  rw [this]; rfl
set_option maxRecDepth 100000 in
set_option maxHeartbeats 6400000 in
theorem delI_any {w : World} {base : Nat} {v : Value} {L : List Int} {i : Nat} (h : OwnX elI w base v L) (hi : i < L.length) (hl : L.length ≤ 1000) :
    Calls Try.prog 48 #[v, it (i : Int), it ((i : Int) + 1)] w fun e w' => ∃ v', e = .returned v' ∧ OwnX elI w' base v' (L.take i ++ L.drop (i + 1)) ∧ Tr (fun b => v.ownBlock = some b) w w' := by
  rcases own_form h with ⟨_, rfl⟩ | ⟨g, cap, rfl⟩
  · simp at hi
  obtain ⟨n, hn⟩ : ∃ n, n = L.length := ⟨_, rfl⟩
  obtain ⟨M, hM⟩ : ∃ M, M = L.take i ++ L.drop (i + 1) := ⟨_, rfl⟩
  rw [← hM]
  rw [← hn] at h hi hl ⊢
  obtain ⟨cur, hC, hbg0, hnn0, hlc, hcm, hcs, hct0⟩ := own_cur h
  clear hcm hbg0 hnn0 hct0
  obtain ⟨v3, r0⟩ := slice_three elI (g := g) (n := n) (cap := cap) (i := i) (j := i + 1) (by omega) (by omega) hlc
  have r0 : ∀ w : World, (Instr.slice 25 (.slice (some ⟨g, 0, none⟩) n cap) (some (it (i : Int))) (some (it ((i : Int) + 1))) (some (it (n : Int)))).run Try.prog w = .ok v3 w := r0
  have r1 : ∀ w : World, (Instr.slice 25 (.slice (some ⟨g, 0, none⟩) n cap) none (some (it (i : Int))) none).run Try.prog w = .ok (.slice (some ⟨g, 0, none⟩) i cap) w := fun w => slice_tillK elI (g := g) (n := n) (cap := cap) (i := i) (by omega) w
  have q0 : ((i : Int) == (i : Int) + 1) = false := by simp; omega
  -- what the append leaves
  have key : ∃ (a' : Option Addr) (w' : World), (∀ w : World, (Instr.slice 25 (.slice (some ⟨g, 0, none⟩) n cap) (some (it ((i : Int) + 1))) none none).run Try.prog w = .ok (.slice a' (n - (i + 1)) (cap - (i + 1))) w) ∧
      (Builtin.append_ #[25, 25] 25 #[.slice (some ⟨g, 0, none⟩) i cap, .slice a' (n - (i + 1)) (cap - (i + 1))]).run Try.prog w.drew = .ok (.slice (some ⟨g, 0, none⟩) (n - 1) cap) w' ∧
      OwnX elI w' base (.slice (some ⟨g, 0, none⟩) (n - 1) cap) M ∧ Tr (· = g) w w' ∧ ∃ cur', Ce w' g 3 cur' ∧ cur'.size = cap * elI.k := by
    have hd : OwnX elI w.drew base (.slice (some ⟨g, 0, none⟩) n cap) L := h
    by_cases hic : i + 1 < cap
    · obtain ⟨w', hrun, ho, ht, hcu⟩ := del_cells hd hi 25
      have r2 : ∀ w : World, _ := fun w => slice_fromK elI (g := g) (n := n) (cap := cap) (i := i + 1) hic (by omega) w
      refine ⟨some ⟨g, (i + 1) * elI.k, none⟩, w', r2, hrun, by rw [hM]; exact ho, (Tr.refl (· = g) w).drew.then ht, hcu⟩
    · have hin : i + 1 = n := by omega
      obtain ⟨a', r2⟩ : ∃ a', ∀ w : World, (Instr.slice 25 (.slice (some ⟨g, 0, none⟩) n cap) (some (it (n : Int))) none none).run Try.prog w = .ok (.slice a' 0 (cap - n)) w := by
        refine ⟨some ⟨g, 0, none⟩, fun w => ?_⟩
        obtain ⟨j, hj, hz0, hz1, hz2⟩ := info_parts infoI
        have h5 : cap = n := by omega
        simp [Instr.slice, Instr.sliceBounds, Instr.sliceBound, run_underlying Try.underlying25, sizeOf, typeInfo, hj, asIntOf, h5]
      have hown := own_cut hd (i := i) (by omega)
      have hrun := run_append_none1 (E := elI) (w := w.drew) base _ (L.take i).length _ hown 25 a' (cap - n)
      have e1 : n - (i + 1) = 0 := by omega
      have e2 : n - 1 = i := by omega
      refine ⟨a', w.drew, ?_, ?_, ?_, (Tr.refl (· = g) w).drew, cur, hC, hcs⟩
      · rw [e1, hin]
        have e3 : (i : Int) + 1 = (n : Int) := by omega
        rw [e3]
        exact r2
      · rw [e1, e2, hin]
        exact hrun
      · rw [e2, hM, List.drop_eq_nil_of_le (by omega), List.append_nil]
        exact hown
  obtain ⟨a', w', r2, ra, ho, ht, cur', hc', hs'⟩ := key
  have s1 : wrap64 ((n : Int) - 1) = (n : Int) - 1 := by unfold wrap64; omega
  have r3 : ∀ w : World, (Instr.slice 25 (.slice (some ⟨g, 0, none⟩) (n - 1) cap) (some (it ((n - 1 : Nat) : Int))) (some (it (n : Int))) none).run Try.prog w = .ok (.slice (some ⟨g, n - 1, none⟩) 1 (cap - (n - 1))) w := fun w => by
    obtain ⟨j, hj, hz0, hz1, hz2⟩ := info_parts infoI
    have h5 : ¬ cap = n - 1 := by omega
    have h7 : n - (n - 1) = 1 := by omega
    simp [Instr.slice, Instr.sliceBounds, Instr.sliceBound, run_underlying Try.underlying25, sizeOf, typeInfo, hj, hz1, asIntOf, h5, h7, hlc, add_any]
  have rc : (Builtin.clear_ #[25] 0 #[.slice (some ⟨g, n - 1, none⟩) 1 (cap - (n - 1))]).run Try.prog w' = .ok (.tuple #[]) (w'.setCells g (n - 1) (Builtin.zeroCells elI.z.cells 1).toList) := run_clearK elI zonesI w' 0 (by omega) hc' (by
    rw [hs', show elI.k = 1 from rfl]; omega)
  obtain ⟨Z, hZ⟩ : ∃ Z, Z = (Builtin.zeroCells elI.z.cells 1).toList := ⟨_, rfl⟩
  rw [← hZ] at rc
  have HO := Lib.hid (own_setCells ho (o := n - 1) (Nat.le_of_eq (Nat.mul_one _)) Z)
  have HT : Hid (Tr (fun b => (Value.slice (some ⟨g, 0, none⟩) n cap).ownBlock = some b) w (w'.setCells g (n - 1) Z)) := Lib.hid ((ht.then (setCells_tr g Z (n - 1) w')).mono (fun k hk => by show some g = some k; rw [hk]))
  have RA := Lib.hid ra
  obtain ⟨d, hd⟩ : ∃ d, d = n - 1 := ⟨_, rfl⟩
  rw [← hd] at RA r3 rc HO HT
  clear h hC hcs ho ht hc' hs' ra hZ hM hn hd
  go_enter Try.func48, Try.ntmps48
  go_upto_region 5 with fail
  go_still_tail 6, (by kernel_rfl)
  change wpList _ _ _ _ _ w.drew
  go_wp2_with (at_builtin; refine wp_app_run rfl (.tmp 22) (.tmp 25) 25 25 rfl _ _ _ rfl rfl RA.out ?_)
  go_wp2
  go_ret
  exact ⟨_, rfl, HO.out, HT.out⟩
end Go.Proofs.Ytjoplnkagfkffaa

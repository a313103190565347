/-
  slices.Insert onto a row of one's own: numbers.
-/
import Derived.Test.YtjoplnkagfkffaaIns
namespace Go.Proofs.Ytjoplnkagfkffaa
open Go.RowKit
set_option maxRecDepth 100000 in
set_option maxHeartbeats 6400000 in
theorem insI_any {w : World} {base : Nat} {v : Value} {L : List Int} {i V : Nat} {x : Int} {xs : Array Value} (h : OwnX elI w base v L) (hi : i ≤ L.length) (hl : L.length ≤ 1000) (hx : Ce w V 3 xs) (hxe : elI.enc x = xs.toList) (hne : v.ownBlock ≠ some V) (hbase : base ≤ w.heap.size) :
    Calls Try.prog 66 #[v, it (i : Int), .slice (some ⟨V, 0, none⟩) 1 1] w fun e w' => ∃ v', e = .returned v' ∧ OwnX elI w' base v' (L.take i ++ [x] ++ L.drop i) ∧ Tr (fun b => v.ownBlock = some b) w w' := by
  have hxr : RdX elI w (.slice (some ⟨V, 0, none⟩) 1 1) [x] := ⟨_, 1, rfl, Nat.le_refl _, by decide, .inr ⟨V, 0, rfl, fun j u hu => by
    rw [El.fl_cons, hxe] at hu
    simp [El.fl] at hu
    rw [hx.cell, Nat.zero_add]; exact hu⟩⟩
  by_cases hin : i = L.length
  · subst hin
    obtain ⟨a, cap, rfl, hlc, hcm⟩ := h.shape
    have e : L.take L.length ++ [x] ++ L.drop L.length = L ++ [x] := by simp
    rw [e]
    obtain ⟨a', r1⟩ : ∃ a', ∀ w : World, (Instr.slice 25 (.slice a L.length cap) (some (it (L.length : Int))) none none).run Try.prog w = .ok (.slice a' 0 (cap - L.length)) w := by
      obtain ⟨a', _⟩ := slice_endK elI a L.length cap w
      refine ⟨if cap = L.length then a else a.map (·.add (L.length * elI.k)), fun w => ?_⟩
      obtain ⟨j, hj, hz0, hz1, hz2⟩ := info_parts elI.hinf
      have hj : Try.prog.info? 3 = some j := hj
      by_cases h5 : cap = L.length
      · rw [if_pos h5]
        simp [Instr.slice, Instr.sliceBounds, Instr.sliceBound, run_underlying Try.underlying25, sizeOf, typeInfo, hj, asIntOf, h5]
      · rw [if_neg h5]
        simp [Instr.slice, Instr.sliceBounds, Instr.sliceBound, run_underlying Try.underlying25, sizeOf, typeInfo, hj, asIntOf, h5, hz1]
    have HN : Hid (L.length + [x].length ≤ 1000000) := Lib.hid (by simp; omega)
    have HO := Lib.hid h
    have HX := Lib.hid hxr
    have HB := Lib.hid hbase
    obtain ⟨n, hn⟩ : ∃ n, n = L.length := ⟨_, rfl⟩
    rw [← hn] at r1 HO ⊢
    clear h hxr hbase hne hx hn e hl hi hlc hcm
    go_enter Try.func66, Try.ntmps66
    go_wp2_with (at_builtin; refine wp_app elI rfl (.tmp 23) (.tmp 24) rfl base _ L [x] rfl HO.out _ rfl HX.out HN.out HB.out ?_)
    intro v6 w6 ho6 hg6 hv6
    have HO6 := Lib.hid ho6
    have HG6 := Lib.hid (Tr.of_grown hg6)
    clear ho6 hg6 hv6
    go_wp2
    go_ret
    exact ⟨_, rfl, HO6.out, HG6.out⟩
  · rcases own_form h with ⟨_, rfl⟩ | ⟨g, cap, rfl⟩
    · simp at hi hin; omega
    obtain ⟨cur, hC, hbg, _, hlc, hcm, hcs, hct⟩ := own_cur h
    have hgV : g ≠ V := fun e => hne (by rw [← e]; rfl)
    obtain ⟨n, hn⟩ : ∃ n, n = L.length := ⟨_, rfl⟩
    rw [← hn] at hi hin hl hlc hct
    have HCS := Lib.hid hcs
    have HCT := Lib.hid hct
    have HCM := Lib.hid hcm
    have HC := Lib.hid hC
    have HX := Lib.hid hx
    have HN := Lib.hid hn
    have HBG := Lib.hid hbg
    have HBS := Lib.hid hbase
    clear hcs hct hcm hn hbg hbase
    have hlt : i < n := by omega
    have HFL : Hid ((elI.fl L).length = n * elI.k) := Lib.hid (by rw [El.fl_length, HN.out])
    have hmin : Nat.min i n = i := Nat.min_eq_left (Nat.le_of_lt hlt)
    have HTL : Hid ((elI.fl (L.take i)).length = i * elI.k) := Lib.hid (by rw [El.fl_length, List.length_take, ← HN.out]; congr 1)
    have HDL : Hid ((elI.fl (L.drop i)).length = (n - i) * elI.k) := Lib.hid (by rw [El.fl_length, List.length_drop, ← HN.out])
    have HXL : Hid (xs.toList.length = elI.k) := Lib.hid (by rw [← hxe]; exact elI.hk x)
    have HSRC : Hid (∀ j u, (elI.fl (L.drop i))[j]? = some u → cur[i * elI.k + j]? = some u) := Lib.hid (by
      intro j u hu
      have h1 : elI.fl L = elI.fl (L.take i) ++ elI.fl (L.drop i) := by rw [← El.fl_append, List.take_append_drop]
      have h2 : (elI.fl L)[i * elI.k + j]? = some u := by
        rw [h1, List.getElem?_append_right (by rw [HTL.out]; exact Nat.le_add_right _ _), HTL.out, Nat.add_sub_cancel_left]
        exact hu
      rw [← HCT.out, List.getElem?_take] at h2
      split at h2
      · rw [Array.getElem?_toList] at h2; exact h2
      · cases h2)
    have HX1 : Hid (∀ u ∈ xs.toList, u.oneCell' = true) := Lib.hid (by rw [← hxe]; exact elI.h1 x)
    have HD1 := Lib.hid (El.fl_ones (E := elI) (L.drop i))
    have HFIN : Hid ((elI.fl L).take (i * elI.k) ++ xs.toList ++ elI.fl (L.drop i) = elI.fl (L.take i ++ [x] ++ L.drop i)) := Lib.hid (by
      have h2 : elI.fl [x] = xs.toList := by rw [El.fl_cons, hxe]; exact List.append_nil _
      rw [El.fl_append, El.fl_append, El.fl_take, h2])
    have HLEN : Hid (n + 1 = (L.take i ++ [x] ++ L.drop i).length) := Lib.hid (by
      rw [List.length_append, List.length_append, List.length_take, List.length_drop, ← HN.out, show min i n = i from hmin]
      show n + 1 = i + 1 + (n - i)
      omega)
    have r1 : ∀ w : World, (Instr.slice 25 (.slice (some ⟨g, 0, none⟩) n cap) (some (it (i : Int))) none none).run Try.prog w = .ok (.slice (some ⟨g, i, none⟩) (n - i) (cap - i)) w := fun w => by
      have := slice_fromK elI (g := g) (n := n) (cap := cap) (i := i) (Nat.lt_of_lt_of_le hlt hlc) hi w
      rw [show i * elI.k = i from Nat.mul_one i] at this
      exact this
    have s1 : wrap64 ((n : Int) + 1) = (n : Int) + 1 := by unfold wrap64; omega
    have s2 : wrap64 ((i : Int) + 1) = (i : Int) + 1 := by unfold wrap64; omega
    have q0 : ((i : Int) == (n : Int)) = false := by simp; omega
    have q0' : (i == n) = false := by simp; omega
    rw [← HN.out]
    obtain ⟨M, hM⟩ : ∃ M, M = L.take i ++ [x] ++ L.drop i := ⟨_, rfl⟩
    rw [← hM] at HFIN HLEN ⊢
    clear hM
    have hkk : (i + 1) * elI.k = i * elI.k + elI.k := Nat.succ_mul i elI.k
    have HKK := Lib.hid hkk
    clear hkk
    by_cases hroom : n + 1 ≤ cap
    · have r2 : ∀ w : World, (Instr.slice 25 (.slice (some ⟨g, 0, none⟩) n cap) none (some (it ((n : Int) + 1))) none).run Try.prog w = .ok (.slice (some ⟨g, 0, none⟩) (n + 1) cap) w := fun w => slice_tillK elI (g := g) (n := n) (cap := cap) (i := n + 1) hroom w
      have r3 : ∀ w : World, (Instr.slice 25 (.slice (some ⟨g, 0, none⟩) (n + 1) cap) (some (it ((i : Int) + 1))) none none).run Try.prog w = .ok (.slice (some ⟨g, (i + 1), none⟩) (n - i) (cap - (i + 1))) w := fun w => by
        have := slice_fromK elI (g := g) (n := n + 1) (cap := cap) (i := i + 1) (by omega) (by omega) w
        rw [show (i + 1) * elI.k = (i + 1) from Nat.mul_one (i + 1), Nat.add_sub_add_right] at this
        exact this
      have hwi : IntKind.i64.wrap ((i : Int) + 1) = (i : Int) + 1 := by unfold IntKind.wrap; simp only [IntKind.bits, IntKind.signed]; simp; omega
      have r3w : ∀ w : World, (Instr.slice 25 (.slice (some ⟨g, 0, none⟩) (n + 1) cap) (some (it (IntKind.i64.wrap ((i : Int) + 1)))) none none).run Try.prog w = .ok (.slice (some ⟨g, (i + 1), none⟩) (n - i) (cap - (i + 1))) w := fun w => by rw [hwi]; exact r3 w
      clear hwi
      have r4 : ∀ w : World, (Instr.slice 25 (.slice (some ⟨g, 0, none⟩) (n + 1) cap) (some (it (i : Int))) none none).run Try.prog w = .ok (.slice (some ⟨g, i, none⟩) (n + 1 - i) (cap - i)) w := fun w => by
        have := slice_fromK elI (g := g) (n := n + 1) (cap := cap) (i := i) (by omega) (by omega) w
        rw [show i * elI.k = i from Nat.mul_one i] at this
        exact this
      have ov := run_overlapsI (n := 1) (d := 1) (o := (i + 1)) (m := n - i) (c := cap - (i + 1)) HX.out HC.out (fun e => hgV e.symm)
      have HFIT : Hid (i * elI.k + elI.k + (n - i) * elI.k ≤ cur.toList.length) := Lib.hid (by
        rw [Array.length_toList, HCS.out]
        have : i * elI.k + elI.k + (n - i) * elI.k = (n + 1) * elI.k := by rw [← Nat.succ_mul, ← Nat.add_mul]; congr 1; omega
        rw [this]
        exact Nat.mul_le_mul_right _ hroom)
      have ki : i * elI.k = i := Nat.mul_one i
      have kj : (i + 1) * elI.k = (i + 1) := Nat.mul_one (i + 1)
      have HF1 : Hid ((i + 1) + (n - i) * elI.k ≤ cur.size) := Lib.hid (by rw [← kj, HKK.out, ← Array.length_toList]; exact HFIT.out)
      have HF2 : Hid (i + elI.k ≤ cur.size) := Lib.hid (by rw [← ki, ← Array.length_toList]; exact Nat.le_trans (Nat.le_add_right _ _) HFIT.out)
      obtain ⟨c1, hc1⟩ : ∃ c1, c1 = (put cur.toList (i + 1) (elI.fl (L.drop i))).toArray := ⟨_, rfl⟩
      obtain ⟨c2, hc2⟩ : ∃ c2, c2 = (put c1.toList i xs.toList).toArray := ⟨_, rfl⟩
      have hw1 : Ce (w.drew.setRow g c1) g 3 c1 := setRow_ce (T := 3) (cur := cur) HC.out
      have hV1 : Ce (w.drew.setRow g c1) V 3 xs := HX.out.tr (S := (· = g)) ((Tr.refl _ w).drew.then setRow_tr) (fun e => hgV e.symm)
      have hl1 : c1.size = cur.size := by
        rw [hc1, List.size_toArray, put_length _ _ _ (by rw [HDL.out, Array.length_toList]; exact HF1.out), Array.length_toList]
      have p1 := run_copyK elI w.drew 3 g (i + 1) (n - i) (cap - (i + 1)) ⟨g, i, none⟩ (n + 1 - i) (cap - i) cur (elI.fl (L.drop i)) (n - i) HC.out (Nat.min_eq_right (by omega)) HDL.out
        (fun j u hu => by rw [add_any]; have := HSRC.out j u hu; rw [ki] at this; exact ((show Ce w.drew g 3 cur from HC.out).cell _).trans this) (by rw [HDL.out]; exact HF1.out) HD1.out
      rw [← hc1] at p1
      have p1 : (Builtin.copy_ #[25, 25] 3 #[.slice (some ⟨g, (i + 1), none⟩) (n - i) (cap - (i + 1)), .slice (some ⟨g, i, none⟩) (n + 1 - i) (cap - i)]).run Try.prog w.drew = .ok (.int .i64 ((n - i : Nat) : Int)) (w.drew.setRow g c1) := p1
      have p2 := run_copyK elI (w.drew.setRow g c1) 3 g i (n + 1 - i) (cap - i) ⟨V, 0, none⟩ 1 1 c1 xs.toList 1 hw1 (Nat.min_eq_left (by omega)) (by rw [HXL.out, Nat.one_mul])
        (fun j u hu => by rw [add_any, Nat.zero_add, hV1.cell]; rw [Array.getElem?_toList] at hu; exact hu) (by rw [HXL.out, hl1]; exact HF2.out) HX1.out
      rw [← hc2] at p2
      have p2 : (Builtin.copy_ #[25, 25] 3 #[.slice (some ⟨g, i, none⟩) (n + 1 - i) (cap - i), .slice (some ⟨V, 0, none⟩) 1 1]).run Try.prog (w.drew.setRow g c1) = .ok (.int .i64 1) ((w.drew.setRow g c1).setRow g c2) := p2
      have HOUT : Hid (OwnX elI ((w.drew.setRow g c1).setRow g c2) base (.slice (some ⟨g, 0, none⟩) (n + 1) cap) M) := Lib.hid (by
        refine own_row (cur := c2) (setRow_ce hw1) HBG.out HLEN.out hroom HCM.out ?_ ?_
        · rw [hc2, List.size_toArray, put_length _ _ _ (by rw [HXL.out, Array.length_toList, hl1]; exact HF2.out), Array.length_toList, hl1, HCS.out]
        · have h4 := put_put cur.toList xs.toList (elI.fl (L.drop i)) (i * elI.k) (by rw [HXL.out, HDL.out]; exact HFIT.out) false
          rw [if_neg (by simp), HXL.out, HDL.out, ← HKK.out, kj, ki] at h4
          have h5 : (n + 1) * elI.k = (i + 1) + (n - i) * elI.k := by rw [← kj, ← Nat.add_mul]; congr 1; omega
          rw [h5, hc2, hc1]
          show List.take _ (put (put _ _ _) _ _) = _
          rw [h4, ← HFIN.out, ← HCT.out, List.take_take, Nat.min_eq_left (Nat.mul_le_mul_right _ (Nat.le_of_lt hlt)), ki])
      have HTR : Hid (Tr (fun b => (Value.slice (some ⟨g, 0, none⟩) n cap).ownBlock = some b) w ((w.drew.setRow g c1).setRow g c2)) := Lib.hid ((((Tr.refl (· = g) w).drew.then setRow_tr).then setRow_tr).mono (fun k hk => by show some g = some k; rw [hk]))
      have q1 : decide ((cap : Int) < (n : Int) + 1) = false := decide_eq_false (by omega)
      have q2 : decide (cap < n + 1) = false := decide_eq_false (by omega)
      clear h hxr hC hx hne hin hw1 hV1 hl1 hc1 hc2
      go_enter Try.func66, Try.ntmps66
      go_upto_region 15 with fail
      go_still_tail 8, (by kernel_rfl)
      change wpList _ _ _ _ _ w.drew
      go_wp2
      go_ret
      exact ⟨.slice (some ⟨g, 0, none⟩) (n + 1) cap, rfl, HOUT.out, HTR.out⟩
    · have hcn : cap < n + 1 := by omega
      have r2 : ∀ w : World, (Instr.slice 25 (.slice (some ⟨g, 0, none⟩) n cap) none (some (it (i : Int))) none).run Try.prog w = .ok (.slice (some ⟨g, 0, none⟩) i cap) w := fun w => slice_tillK elI (g := g) (n := n) (cap := cap) (i := i) (by omega) w
      obtain ⟨m, hm⟩ : ∃ m, m = n + 1 - i := ⟨_, rfl⟩
      have sb : wrap64 ((n : Int) + 1 - (i : Int)) = (n : Int) + 1 - (i : Int) := by unfold wrap64; omega
      have him : i + m = n + 1 := by omega
      have ra := run_app_make elI (w := w) 25 ⟨g, 0, none⟩ i cap m (elI.fl (L.take i)) HTL.out (fun j u hu => by
        rw [add_any, Nat.zero_add, HC.out.cell]
        rw [El.fl_take, List.getElem?_take] at hu
        split at hu
        · rename_i hj
          have h1 := hu
          rw [← HCT.out, List.getElem?_take] at h1
          split at h1
          · rw [Array.getElem?_toList] at h1; exact h1
          · cases h1
        · cases hu) (by omega) (by omega) (by omega)
      rw [him] at ra
      have hge := grownCap_ge w (n + 1) cap elI.e
      have hle := grownCap_le_maxLen w (n + 1) cap elI.e (by unfold maxLen; omega)
      generalize grownCap w (n + 1) cap elI.e = G at *
      obtain ⟨arr, harr⟩ : ∃ arr, arr = (elI.fl (L.take i)).toArray ++ Builtin.zeroCells elI.z.cells m ++ Builtin.zeroCells elI.z.cells (G - (n + 1)) := ⟨_, rfl⟩
      rw [← harr] at ra
      have RA0 := Lib.hid ra
      clear ra
      have hzs : ∀ q, (Builtin.zeroCells elI.z.cells q).size = q * elI.k := fun q => by unfold Builtin.zeroCells; rw [Array.size_map, Array.size_range, elI.hzc]
      have has : arr.size = G * elI.k := by
        rw [harr, Array.size_append, Array.size_append, hzs, hzs, List.size_toArray, HTL.out, ← Nat.add_mul, ← Nat.add_mul]
        congr 1
        omega
      have hat : arr.toList.take (i * elI.k) = elI.fl (L.take i) := by
        rw [harr, Array.toList_append, Array.toList_append, List.append_assoc, ← HTL.out]
        exact List.take_left
      obtain ⟨N, hNN⟩ : ∃ N, N = w.heap.size := ⟨_, rfl⟩
      obtain ⟨W2, hW2⟩ : ∃ W, W = w.drew.alloc (.cells arr 3) := ⟨_, rfl⟩
      have hC2 : Ce W2 N 3 arr := by rw [hW2, hNN]; exact Ce.new w.drew 3 arr
      have hB2 : Below w.heap.size w W2 := by rw [hW2]; exact (Below.refl _ w).drew.alloc (Nat.le_refl _) _
      have ra : (Builtin.append_ #[25, 3] 25 #[.slice (some ⟨g, 0, none⟩) i cap, it ((n : Int) + 1 - (i : Int))]).run Try.prog w = .ok (.slice (some ⟨N, 0, none⟩) (n + 1) G) W2 := by rw [hW2, hNN, show (n : Int) + 1 - (i : Int) = (m : Int) by omega]; exact RA0.out
      have hgN : g ≠ N := by have := HC.out.lt; omega
      have hVN : V ≠ N := by have := HX.out.lt; omega
      have ki : i * elI.k = i := Nat.mul_one i
      have kj : (i + 1) * elI.k = (i + 1) := Nat.mul_one (i + 1)
      have HFIT : Hid (i * elI.k + elI.k + (n - i) * elI.k ≤ arr.size) := Lib.hid (by
        rw [has]
        have : i * elI.k + elI.k + (n - i) * elI.k = (n + 1) * elI.k := by rw [← Nat.succ_mul, ← Nat.add_mul]; congr 1; omega
        rw [this]
        exact Nat.mul_le_mul_right _ hge)
      have HF1 : Hid ((i + 1) + (n - i) * elI.k ≤ arr.size) := Lib.hid (by rw [← kj, HKK.out]; exact HFIT.out)
      have HF2 : Hid (i + elI.k ≤ arr.size) := Lib.hid (by rw [← ki]; exact Nat.le_trans (Nat.le_add_right _ _) HFIT.out)
      obtain ⟨c1, hc1⟩ : ∃ c1, c1 = (put arr.toList i xs.toList).toArray := ⟨_, rfl⟩
      obtain ⟨c2, hc2⟩ : ∃ c2, c2 = (put c1.toList (i + 1) (elI.fl (L.drop i))).toArray := ⟨_, rfl⟩
      have hl1 : c1.size = arr.size := by
        rw [hc1, List.size_toArray, put_length _ _ _ (by rw [HXL.out, Array.length_toList]; exact HF2.out), Array.length_toList]
      have hX2 : Ce W2 V 3 xs := HX.out.below hB2
      have hw1 : Ce (W2.setRow N c1) N 3 c1 := setRow_ce (T := 3) (cur := arr) hC2
      have hg1 : Ce (W2.setRow N c1) g 3 cur := (HC.out.below hB2).tr (S := (· = N)) setRow_tr hgN
      have p1 := run_copyK elI W2 3 N i (n + 1 - i) (G - i) ⟨V, 0, none⟩ 1 1 arr xs.toList 1 hC2 (Nat.min_eq_left (by omega)) (by rw [HXL.out, Nat.one_mul])
        (fun j u hu => by rw [add_any, Nat.zero_add, hX2.cell]; rw [Array.getElem?_toList] at hu; exact hu) (by rw [HXL.out]; exact HF2.out) HX1.out
      rw [← hc1] at p1
      have p1 : (Builtin.copy_ #[25, 25] 3 #[.slice (some ⟨N, i, none⟩) (n + 1 - i) (G - i), .slice (some ⟨V, 0, none⟩) 1 1]).run Try.prog W2 = .ok (.int .i64 1) (W2.setRow N c1) := p1
      obtain ⟨W3, hW3⟩ : ∃ W, W = W2.setRow N c1 := ⟨_, rfl⟩
      rw [← hW3] at hw1 hg1 p1
      have p2 := run_copyK elI W3.drew 3 N (i + 1) (n - i) (G - (i + 1)) ⟨g, i, none⟩ (n - i) (cap - i) c1 (elI.fl (L.drop i)) (n - i) hw1 (Nat.min_self _) HDL.out
        (fun j u hu => by rw [add_any]; have := HSRC.out j u hu; rw [ki] at this; exact ((show Ce W3.drew g 3 cur from hg1).cell _).trans this) (by rw [HDL.out, hl1]; exact HF1.out) HD1.out
      rw [← hc2] at p2
      have p2 : (Builtin.copy_ #[25, 25] 3 #[.slice (some ⟨N, (i + 1), none⟩) (n - i) (G - (i + 1)), .slice (some ⟨g, i, none⟩) (n - i) (cap - i)]).run Try.prog W3.drew = .ok (.int .i64 ((n - i : Nat) : Int)) (W3.drew.setRow N c2) := p2
      have HOUT : Hid (OwnX elI (W3.drew.setRow N c2) base (.slice (some ⟨N, 0, none⟩) (n + 1) G) M) := Lib.hid (by
        refine own_row (cur := c2) (setRow_ce (T := 3) (cur := c1) hw1) (by rw [hNN]; exact HBS.out) HLEN.out hge hle ?_ ?_
        · rw [hc2, List.size_toArray, put_length _ _ _ (by rw [HDL.out, Array.length_toList, hl1]; exact HF1.out), Array.length_toList, hl1, has]
        · have h4 := put_put arr.toList xs.toList (elI.fl (L.drop i)) (i * elI.k) (by rw [HXL.out, HDL.out, Array.length_toList]; exact HFIT.out) true
          rw [if_pos rfl, HXL.out, HDL.out, ← HKK.out, kj, ki] at h4
          have h5 : (n + 1) * elI.k = (i + 1) + (n - i) * elI.k := by rw [← kj, ← Nat.add_mul]; congr 1; omega
          rw [h5, hc2, hc1]
          show List.take _ (put (put _ _ _) _ _) = _
          have hat' : arr.toList.take i = elI.fl (L.take i) := by rw [← hat, ki]
          rw [h4, ← HFIN.out, hat', El.fl_take])
      have HTR : Hid (Tr (fun b => (Value.slice (some ⟨g, 0, none⟩) n cap).ownBlock = some b) w (W3.drew.setRow N c2)) := Lib.hid (by
        have t1 : Tr (fun b => (Value.slice (some ⟨g, 0, none⟩) n cap).ownBlock = some b) w W2 := Tr.of_below hB2
        have t2 : Tr (· = N) W2 (W3.drew.setRow N c2) := by rw [hW3]; exact (setRow_tr.drew).then setRow_tr
        exact t1.trans t2 (fun k hk => .inr (by rw [hk, hNN]; exact Nat.le_refl _)))
      have r5 : ∀ w : World, (Instr.slice 25 (.slice (some ⟨N, 0, none⟩) (n + 1) G) (some (it (i : Int))) none none).run Try.prog w = .ok (.slice (some ⟨N, i, none⟩) (n + 1 - i) (G - i)) w := fun w => by
        have := slice_fromK elI (g := N) (n := n + 1) (cap := G) (i := i) (by omega) (by omega) w
        rw [ki] at this
        exact this
      have r6 : ∀ w : World, (Instr.slice 25 (.slice (some ⟨N, 0, none⟩) (n + 1) G) (some (it ((i : Int) + 1))) none none).run Try.prog w = .ok (.slice (some ⟨N, (i + 1), none⟩) (n - i) (G - (i + 1))) w := fun w => by
        have := slice_fromK elI (g := N) (n := n + 1) (cap := G) (i := i + 1) (by omega) (by omega) w
        rw [kj, Nat.add_sub_add_right] at this
        exact this
      have hwi : IntKind.i64.wrap ((i : Int) + 1) = (i : Int) + 1 := by unfold IntKind.wrap; simp only [IntKind.bits, IntKind.signed]; simp; omega
      have r6w : ∀ w : World, (Instr.slice 25 (.slice (some ⟨N, 0, none⟩) (n + 1) G) (some (it (IntKind.i64.wrap ((i : Int) + 1)))) none none).run Try.prog w = .ok (.slice (some ⟨N, (i + 1), none⟩) (n - i) (G - (i + 1))) w := fun w => by rw [hwi]; exact r6 w
      have q1 : decide ((cap : Int) < (n : Int) + 1) = true := decide_eq_true (by omega)
      have q2 : decide (cap < n + 1) = true := decide_eq_true hcn
      have q3 : (cap : Int) < (n : Int) + 1 := by omega
      clear h hxr hC hx hne hin hw1 hg1 hl1 hc1 hc2 hW2 hW3 hC2 hB2 hX2 hgN hVN ki kj has hat harr hzs hge hle him hm hwi hNN
      have RA := Lib.hid ra
      clear ra
      go_enter Try.func66, Try.ntmps66
      go_wp2_with (at_builtin; refine wp_app_run rfl (.tmp 34) (.tmp 39) 25 3 rfl _ _ _ rfl rfl RA.out ?_)
      go_upto_region 11 with fail
      go_still_tail 8, (by kernel_rfl)
      change wpList _ _ _ _ _ W3.drew
      go_wp2
      go_ret
      exact ⟨.slice (some ⟨N, 0, none⟩) (n + 1) G, rfl, HOUT.out, HTR.out⟩
end Go.Proofs.Ytjoplnkagfkffaa

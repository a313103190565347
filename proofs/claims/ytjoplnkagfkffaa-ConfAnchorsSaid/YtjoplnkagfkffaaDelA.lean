/-
  The first anchor for which a test holds; all for which it doesn't.
-/
import Derived.Test.YtjoplnkagfkffaaRingStep
namespace Go.Proofs.Ytjoplnkagfkffaa
open Go.RowKit
abbrev An.v (a : An) : Value := .agg #[.string a.name, .string a.text]
set_option maxRecDepth 100000 in
set_option maxHeartbeats 3200000 in
theorem idxA_any {w : World} {a : Option Addr} {n cap : Nat} {L : List An} (h : RdX elA w (.slice a n cap) L) (hl : L.length ≤ 1000000) (g : FuncId) (cb : Array Value) (p : An → Bool)
    (hN : ∀ args w, (callFunc g args).run Try.prog w = .ok (.enter g args) w)
    (hp : ∀ W, ∀ x ∈ L, Below w.heap.size w W → Calls Try.prog g (#[x.v] ++ cb) W fun e W' => e = .returned (.bool (p x)) ∧ Below W.heap.size W W') :
    Calls Try.prog 68 #[.slice a n cap, .func (.func g) #[] cb] w fun e w' => e = .returned (it (fiI p L)) ∧ Below w.heap.size w w' := by
  have hn := h.len
  have HR := Lib.hid h
  have HP := Lib.hid hp
  have HN := Lib.hid hn
  have hl' : n ≤ 1000000 := by omega
  clear h hp hl hn
  go_enter Try.func68, Try.ntmps68
  go_wp2
  go_loopw [8] (fun i wr => ∃ k : Nat, k ≤ n ∧ i = it (k : Int) ∧ k ≤ fidx p L ∧ Below w.heap.size w wr) (fun i _ => n - (intOf i).toNat)
  case atStart => exact ⟨0, by omega, rfl, Nat.zero_le _, Below.refl _ _⟩
  case round =>
    obtain ⟨k, hk, rfl, hf, hb⟩ := hrel
    have HB := Lib.hid hb
    have HF := Lib.hid hf
    by_cases hlt : k < n
    · have q1 : (k : Int) < (n : Int) := by omega
      obtain ⟨x, hx⟩ : ∃ x, L[k]? = some x := ⟨_, List.getElem?_eq_getElem (by rw [← HN.out]; exact hlt)⟩
      obtain ⟨b, o, rfl, hg, c0, c1⟩ := at2 HR.out rfl hx rfl
      have c0 := (hb.cell (p := ⟨b, o + k * 2, none⟩) hg).trans c0
      have c1 := (hb.cell (p := ⟨b, o + k * 2 + 1, none⟩) hg).trans c1
      have HC := Lib.hid (HP.out wr x (List.mem_of_getElem? hx) hb)
      have HX := Lib.hid hx
      clear hb hf hx
      go_wp2_with fail
      refine HC.out.mono ?_
      rintro e w2 ⟨rfl, hb2⟩
      have HB2 := Lib.hid (HB.out.trans (hb2.mono HB.out.size))
      clear hb2
      cases hpx : p x with
      | true =>
        have HE := Lib.hid (fidx_at HX.out HF.out hpx)
        go_wp2
        go_ret
        have e : fiI p L = (k : Int) := by unfold fiI; rw [HE.out, if_pos (by rw [← HN.out]; exact hlt)]
        exact ⟨by rw [e]; rfl, HB2.out⟩
      | false =>
        have HE := Lib.hid (fidx_more HX.out HF.out hpx)
        go_wp2
        go_roundw
        case rel => exact ⟨k + 1, by omega, by go_num, HE.out, HB2.out⟩
        case measure => simp [intOf]; omega
    · have q1 : decide ((k : Int) < (n : Int)) = false := by simp; omega
      clear hb hf
      go_wp2
      go_ret
      have e : fiI p L = -1 := by unfold fiI; rw [if_neg (by have := HF.out; have := HN.out; omega)]
      exact ⟨by rw [e]; rfl, HB.out⟩
theorem zonesA (n : Nat) : ∀ u ∈ (Builtin.zeroCells elA.z.cells n).toList, u.oneCell' = true := by
  intro u hu
  unfold Builtin.zeroCells at hu
  rw [Array.toList_map, List.mem_map] at hu
  obtain ⟨i, _, rfl⟩ := hu
  have hs : elA.z.cells = #[.string ⟨#[]⟩, .string ⟨#[]⟩] := rfl
  rw [hs]
  have : i % 2 < 2 := Nat.mod_lt _ (by decide)
  show (#[.string ⟨#[]⟩, .string ⟨#[]⟩] : Array Value)[i % 2]!.oneCell' = true
  rcases (by omega : i % 2 = 0 ∨ i % 2 = 1) with h | h <;> rw [h] <;> rfl
theorem slice_fromA {g n cap i : Nat} (hi : i < n) (hc : n ≤ cap) (w : World) : (Instr.slice 26 (.slice (some ⟨g, 0, none⟩) n cap) (some (it (i : Int))) none none).run Try.prog w = .ok (.slice (some ⟨g, i * 2, none⟩) (n - i) (cap - i)) w := by
  obtain ⟨j, hj, hz0, hz1, hz2⟩ := info_parts infoA
  have h4 : i ≤ n := by omega
  have h5 : ¬ cap = i := by omega
  simp [Instr.slice, Instr.sliceBounds, Instr.sliceBound, run_underlying Try.underlying26, sizeOf, typeInfo, hj, asIntOf, h4, h5, hz1, add_any]
theorem slice_tillA {g n cap i : Nat} (hi : i ≤ cap) (w : World) : (Instr.slice 26 (.slice (some ⟨g, 0, none⟩) n cap) none (some (it (i : Int))) none).run Try.prog w = .ok (.slice (some ⟨g, 0, none⟩) i cap) w := by
  obtain ⟨j, hj, hz0, hz1, hz2⟩ := info_parts infoA
  simp [Instr.slice, Instr.sliceBounds, Instr.sliceBound, run_underlying Try.underlying26, sizeOf, typeInfo, hj, asIntOf, hi, add_any]
set_option maxRecDepth 100000 in
set_option maxHeartbeats 3200000 in
theorem delA_any {w : World} {base : Nat} {v : Value} {L : List An} (h : OwnX elA w base v L) (hl : L.length ≤ 1000000) (g : FuncId) (cb : Array Value) (p : An → Bool)
    (hN : ∀ args w, (callFunc g args).run Try.prog w = .ok (.enter g args) w)
    (hp : ∀ W, ∀ x ∈ L, Tr (fun b => v.ownBlock = some b) w W → Calls Try.prog g (#[x.v] ++ cb) W fun e W' => e = .returned (.bool (p x)) ∧ Below W.heap.size W W') :
    Calls Try.prog 51 #[v, .func (.func g) #[] cb] w fun e w' => ∃ v', e = .returned v' ∧ OwnX elA w' base v' (L.filter fun x => !p x) ∧ v'.ownBlock = v.ownBlock ∧ Tr (fun b => v.ownBlock = some b) w w' := by
  obtain ⟨a, cap, hv, hlc, hcm⟩ := h.shape
  have HI := Lib.hid (idxA_any (n := L.length) (cap := cap) (a := a) (hv ▸ h.rd) hl g cb p hN (fun W x hx hb => hp W x hx (Tr.of_below hb)))
  by_cases hf : fidx p L < L.length
  case neg =>
    have hall : L.filter (fun x => !p x) = L := by
      have := fidx_take (p := p) (L := L) (j := L.length) (by omega)
      rwa [List.take_length] at this
    rw [hall]
    have e : fiI p L = -1 := if_neg hf
    rw [e] at HI
    have H := Lib.hid h
    subst hv
    clear h hp hf e hall
    generalize L.length = n at *
    go_enter Try.func51, Try.ntmps51
    go_wp2_with fail
    refine HI.out.mono ?_
    rintro e w2 ⟨rfl, hb⟩
    have HB := Lib.hid hb
    clear hb
    go_wp2
    go_ret
    exact ⟨_, rfl, H.out.below HB.out, rfl, Tr.of_below HB.out⟩
  case pos =>
    have e : fiI p L = (fidx p L : Int) := if_pos hf
    rw [e] at HI
    rcases own_form h with ⟨_, rfl⟩ | ⟨b, cap', hv'⟩
    · simp at hf
    obtain rfl : cap' = cap := by rw [hv] at hv'; cases hv'; rfl
    obtain rfl : a = some ⟨b, 0, none⟩ := by rw [hv] at hv'; cases hv'; rfl
    clear hv'
    subst hv
    obtain ⟨_, hbb, _, _, hm⟩ := own_mid h (fidx p L) (by omega)
    have HTK := Lib.hid (fidx_take (p := p) (L := L) (Nat.le_refl _))
    have HX : Hid (∃ x, L[fidx p L]? = some x ∧ p x = true) := Lib.hid (by
      obtain ⟨x, hx⟩ : ∃ x, L[fidx p L]? = some x := ⟨_, List.getElem?_eq_getElem hf⟩
      refine ⟨x, hx, ?_⟩
      cases hpx : p x with
      | true => rfl
      | false => have := fidx_more hx (Nat.le_refl _) hpx; omega)
    obtain ⟨k0, hk0⟩ : ∃ k0, k0 = fidx p L := ⟨_, rfl⟩
    obtain ⟨n, hn⟩ : ∃ n, n = L.length := ⟨_, rfl⟩
    have HP := Lib.hid hp
    have HM := Lib.hid hm
    have HN := Lib.hid hn
    have HBB := Lib.hid hbb
    have HCM := Lib.hid hcm
    rw [← hk0] at HI HTK HX hf HM
    rw [← hn] at HI hf hlc hl HM HP ⊢
    clear h hp hm hn hk0 hbb hcm e
    have hw0 : wrap64 ((k0 : Int) + 1) = (k0 : Int) + 1 := by unfold wrap64; omega
    go_enter Try.func51, Try.ntmps51
    go_wp2_with fail
    refine HI.out.mono ?_
    rintro e w2 ⟨rfl, hb⟩
    have HB := Lib.hid hb
    have HM2 := Lib.hid (HM.out.below hb)
    have hk1 : ((k0 : Int) == -1) = false := by simp
    clear hb
    have HKL : Hid (((L.take (k0 + 1)).filter fun x => !p x) = L.take k0) := Lib.hid (by
      obtain ⟨x, hx, hpx⟩ := HX.out
      rw [filt_snoc hx, hpx, HTK.out]; simp)
    have HK0 : Hid ((L.take k0).length = k0) := Lib.hid (by rw [List.length_take]; have := HN.out; omega)
    clear HTK HX
    go_wp2
    go_loopw [5, 6] (fun i j wr => ∃ jj q : Nat, k0 < jj ∧ jj ≤ n ∧ j = it (jj : Int) ∧ i = it (q : Int) ∧ q = ((L.take jj).filter fun x => !p x).length ∧ q < jj ∧ Mid elA wr b cap' n ((L.take jj).filter fun x => !p x) L jj ∧ Tr (· = b) w wr) (fun _ j _ => n - (intOf j).toNat)
    case atStart =>
      refine ⟨k0 + 1, k0, by omega, by omega, by go_num, rfl, by rw [HKL.out, HK0.out], by omega, by rw [HKL.out]; exact HM2.out.skip, Tr.of_below HB.out⟩
    case round =>
      obtain ⟨jj, q, hj0, hjn, rfl, rfl, hq, hqj, hm, htr⟩ := hrel
      have HM := Lib.hid hm
      have HT := Lib.hid htr
      have HQ := Lib.hid hq
      clear HM2 HB HI
      by_cases hlt : jj < n
      · have q1 : (jj : Int) < (n : Int) := by omega
        obtain ⟨x, hx⟩ : ∃ x, L[jj]? = some x := ⟨_, List.getElem?_eq_getElem (by rw [← HN.out]; exact hlt)⟩
        obtain ⟨c0, c1⟩ := hm.get rfl hlt hx rfl
        have hcap : jj < cap' := by omega
        have HXX := Lib.hid hx
        have hbA := one_new wr (.cells #[.string x.name, .string x.text] 43)
        have HBA := Lib.hid hbA
        have HC := Lib.hid (HP.out (wr.alloc (.cells #[.string x.name, .string x.text] 43)) x (List.mem_of_getElem? hx) (((HT.out.then (Tr.of_below hbA)).mono (fun k hk => by rw [hk]; rfl))))
        clear hx hm htr hq hbA
        go_wp2_with fail
        refine HC.out.mono ?_
        rintro e w3 ⟨rfl, hb3⟩
        have HB3 := Lib.hid (HBA.out.trans (hb3.mono HBA.out.size))
        have HM3 := Lib.hid (HM.out.below HB3.out)
        have HD3 : Hid (Ce w3 wr.heap.size 43 #[.string x.name, .string x.text]) := Lib.hid ((Ce.new wr 43 #[.string x.name, .string x.text]).below hb3)
        have HT3 := Lib.hid (HT.out.then (Tr.of_below HB3.out))
        obtain ⟨⟨u0, u1, d0, d1⟩, e0, e1⟩ := HM3.out.any (i := q) rfl (by omega)
        have d2 : w3.cell? ⟨wr.heap.size, 0, none⟩ = some (.string x.name) := by rw [HD3.out.cell]; rfl
        have d3 : w3.cell? ⟨wr.heap.size, 1, none⟩ = some (.string x.text) := by rw [HD3.out.cell]; rfl
        clear hb3 c0 c1
        cases hpx : p x with
        | true =>
          have HE : Hid (((L.take (jj + 1)).filter fun x => !p x) = (L.take jj).filter fun x => !p x) := Lib.hid (by rw [filt_snoc HXX.out, hpx]; simp)
          clear d0 d1 d2 d3 e0 e1
          go_wp2
          go_roundw
          case rel => exact ⟨jj + 1, q, by omega, by omega, by go_num, rfl, by rw [HE.out]; exact HQ.out, by omega, by rw [HE.out]; exact HM3.out.skip, HT3.out⟩
          case measure => simp [intOf]; omega
        | false =>
          have HE : Hid (((L.take (jj + 1)).filter fun x => !p x) = ((L.take jj).filter fun x => !p x) ++ [x]) := Lib.hid (by rw [filt_snoc HXX.out, hpx]; simp)
          have q2 : (q : Int) < (n : Int) := by omega
          have HM4 := Lib.hid (HM3.out.put rfl HQ.out hqj hlt (by omega) (x := x) rfl)
          go_wp2
          go_roundw
          case rel => exact ⟨jj + 1, q + 1, by omega, by omega, by go_num, by go_num, by rw [HE.out, List.length_append, ← HQ.out]; rfl, by omega, by rw [HE.out]; exact HM4.out, Mid.tr_put HT3.out rfl⟩
          case measure => simp [intOf]; omega
      · have q1 : decide ((jj : Int) < (n : Int)) = false := by simp; omega
        have hqn : q < n := by omega
        obtain ⟨cur, h0, h1, _⟩ := HM.out
        have r1 := fun w => slice_fromA (g := b) hqn hlc w
        have r2 := fun w => slice_tillA (g := b) (n := n) (cap := cap') (i := q) (by omega) w
        have r3 : (Builtin.clear_ #[26] 0 #[.slice (some ⟨b, q * 2, none⟩) (n - q) (cap' - q)]).run Try.prog wr = .ok (.tuple #[]) (wr.setCells b (q * 2) (Builtin.zeroCells elA.z.cells (n - q)).toList) := run_clearK elA zonesA wr 0 (g := b) (o := q * 2) (n := n - q) (c := cap' - q) (by omega) h0 (by rw [h1]; show q * 2 + (n - q) * 2 ≤ cap' * 2; omega)
        have HJ : Hid (((L.take jj).filter fun x => !p x) = L.filter fun x => !p x) := Lib.hid (by rw [List.take_of_length_le (by have := HN.out; omega)])
        have HMO := Lib.hid (mid_own (cs := (Builtin.zeroCells elA.z.cells (n - q)).toList) (o := q * 2) HM.out HBB.out (by rw [← HQ.out]; omega) HCM.out (by rw [← HQ.out]; exact Nat.le_refl _))
        have HTO := Lib.hid (HT.out.then (setCells_tr b (Builtin.zeroCells elA.z.cells (n - q)).toList (q * 2) wr))
        obtain ⟨Z, hZ⟩ : ∃ Z, Z = (Builtin.zeroCells elA.z.cells (n - q)).toList := ⟨_, rfl⟩
        rw [← hZ] at r3 HMO HTO
        clear h0 h1 hm htr hq hZ
        go_wp2
        go_ret
        exact ⟨_, rfl, by have := HMO.out; rw [← HQ.out, HJ.out] at this; exact this, rfl, HTO.out.mono (fun k hk => by show some b = some k; rw [hk])⟩
end Go.Proofs.Ytjoplnkagfkffaa

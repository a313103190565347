/-
  The law RingOrder: a ring hangs on which nodes there are, not on their order.
-/
import Derived.Test.YtomghpielgkigaaDoorAwake14
namespace Go.Proofs.YtomghpielgkigaaDoor
open Go.RowKit
theorem drop_mem {M : List Int} {k : Nat} {x : Int} (hx : M[k]? = some x) (T : List Int) (hT : ∀ y, y ∈ T ↔ y ∈ M.drop (k + 1)) : ∀ y, y ∈ T ++ [x, x] ↔ y ∈ M.drop k := by
  intro y
  obtain ⟨h, rfl⟩ := List.getElem?_eq_some_iff.1 hx
  have e : y ∈ M[k] :: M.drop (k + 1) ↔ y = M[k] ∨ y ∈ M.drop (k + 1) := List.mem_cons
  rw [List.drop_eq_getElem_cons h, List.mem_append, e, hT y]
  constructor
  · rintro (h1 | h1)
    · exact Or.inr h1
    · exact Or.inl (by simpa using h1)
  · rintro (h1 | h1)
    · exact Or.inr (by rw [h1]; exact List.mem_cons_self)
    · exact Or.inl h1
theorem find_in (A : List Int) (l : List (Fin 64)) (h : ∀ x ∈ l, (x.val : Int) ∈ A) : l.find? (inL A) = l.head? := by
  cases l with
  | nil => rfl
  | cons x r =>
    have hx : inL A x = true := decide_eq_true (h x List.mem_cons_self)
    rw [List.find?_cons, hx]
    rfl
theorem al_all (t : ByteArray) (M : List Int) : al t M (vls (ndL M)) = ow t M := by
  rw [al_find, ow_head]
  exact find_in _ _ fun x hx => List.mem_map.2 ⟨x, (nx_perm t M).mem_iff.1 hx, rfl⟩
theorem rdx_none0' {w : World} {v : Value} {l : List (Fin 64)} (h : RdX elI w v (vls (l.take 0))) : ∃ a cap, v = .slice a 0 cap := let ⟨a, c, e, _, _⟩ := h.shape; ⟨a, c, e⟩
theorem same_self {w : World} {v u : Value} {A : List Int} (hv : RdX elI w v A) (hu : RdX elI w u A) (hl : A.length ≤ 1000000) : Calls Tryd.prog 12 #[v, u] w fun e w' => e = .returned (.bool true) ∧ Below w.heap.size w w' := by
  have h := sameInts_any hv hu hl
  rwa [decide_eq_true (rfl : A = A)] at h
theorem seen_not {l : List (Fin 64)} (hd : l.Nodup) {k : Nat} {x : Fin 64} (hx : l[k]? = some x) : decide (x ∈ l.take k) = false := by
  rw [decide_eq_false_iff_not]
  intro h
  obtain ⟨hk, rfl⟩ := List.getElem?_eq_some_iff.1 hx
  have e : l = l.take k ++ l.drop k := (List.take_append_drop k l).symm
  rw [e, List.nodup_append] at hd
  exact hd.2.2 _ h _ (by rw [List.drop_eq_getElem_cons hk]; exact List.mem_cons_self) rfl
theorem seen_snoc {l : List (Fin 64)} {k : Nat} {x : Fin 64} (hx : l[k]? = some x) : (onA fun j => decide (j ∈ l.take k)).setIfInBounds x.val (.bool true) = onA fun j => decide (j ∈ l.take (k + 1)) := by
  rw [onA_set]
  refine congrArg onA (funext fun j => ?_)
  rw [List.take_add_one, hx, ← Bool.decide_or]
  refine decide_eq_decide.2 ?_
  simp
set_option maxRecDepth 100000 in
set_option maxHeartbeats 3200000 in
theorem lawOrder_any {w : World} (hT : Tab w) {v : Value} {M0 : List Int} (hv : RdX elI w v M0) (s : ByteArray) : Calls Tryd.prog 4 #[v, .string s] w fun e w' => e = .returned (.bool true) ∧ Below w.heap.size w w' := by
  obtain ⟨t, ht, hS⟩ := short_any s 300
  have HS := Lib.hid hS
  have HT := Lib.hid hT
  have HTS : Hid (t.size ≤ 140737488355328) := Lib.hid (by omega)
  have HV := Lib.hid hv
  have HA := Lib.hid (awake_any hT)
  obtain ⟨va, vc, rfl, _⟩ := hv.shape
  generalize M0.length = m0 at *
  clear hS hT hv ht
  go_enter Tryd.func4, Tryd.ntmps4
  go_wp2_with fail
  refine HA.out.mono ?_
  rintro e w1 ⟨rfl, hb1⟩
  have HB1 := Lib.hid hb1
  have HM := Lib.hid (few_any (HV.out.below hb1))
  clear hb1 HV HA
  go_wp2_with fail
  refine HM.out.mono ?_
  rintro e w1' ⟨v', rfl, hv', rfl⟩
  have HV' := Lib.hid hv'
  obtain ⟨va', vc', rfl, _⟩ := hv'.shape
  obtain ⟨M, hM⟩ : ∃ M, M = M0.take 12 := ⟨_, rfl⟩
  have HML : Hid (M.length ≤ 12) := Lib.hid (by rw [hM, List.length_take]; omega)
  rw [← hM] at HV' ⊢
  obtain ⟨m, hm⟩ : ∃ m, m = M.length := ⟨_, rfl⟩
  rw [← hm] at HV' HML ⊢
  have HMM := Lib.hid hm
  clear hv' hM HM hm
  go_wp2_with fail
  refine (HS.out w1').mono ?_
  rintro e w1 ⟨rfl, rfl⟩
  have hm12 := HML.out
  go_upto_region 6 with fail
  have HE := Lib.hid (OwnX.nil (E := elI) w1 w1.heap.size)
  go_loopw [6, 7] (fun v i wr => ∃ (j : Nat) (T : List Int) (z : Int), j ≤ m ∧ i = it z ∧ z = (j : Int) - 1 ∧ T.length ≤ 2 * (m - j) ∧ (∀ y, y ∈ T ↔ y ∈ M.drop j) ∧ OwnX elI wr w1.heap.size v T ∧ Below w1.heap.size w1 wr) (fun _ i _ => (intOf i + 1).toNat)
  case atStart =>
    refine ⟨m, [], (m : Int) - 1, Nat.le_refl _, by go_num, rfl, Nat.zero_le _, fun y => ?_, HE.out, Below.refl _ _⟩
    rw [HMM.out, List.drop_length]
  case round =>
    obtain ⟨j, T, z, hj, rfl, hz, hTl, hTm, ho, hb⟩ := hrel
    have HO := Lib.hid ho
    have HB := Lib.hid hb
    have HTL := Lib.hid hTl
    have HTM := Lib.hid hTm
    clear ho hb hTl hTm
    cases j with
    | succ k =>
      obtain rfl : z = (k : Int) := by omega
      clear hz
      have hk0 : (0 : Int) ≤ (k : Int) := by omega
      have hkm : k < m := by omega
      have q : decide ((0 : Int) ≤ (k : Int)) = true := by simp
      obtain ⟨x, hx⟩ : ∃ x, M[k]? = some x := ⟨_, List.getElem?_eq_getElem (by have := HMM.out; omega)⟩
      have HTM2 := Lib.hid (drop_mem hx T HTM.out)
      obtain ⟨g, o, rfl, hg, c1⟩ := rdx_at HV'.out hx
      have c1 := (HB.out.cell (p := ⟨g, o + k, none⟩) hg).trans c1
      have c1d : wr.drew.cell? ⟨g, o + k, none⟩ = some (it x) := c1
      have hd : Below wr.heap.size wr wr.drew := (Below.refl _ _).drew
      have hbo := one_new wr.drew (.cells #[it x, it x] 3)
      have HOX := Lib.hid ((HO.out.below hd).below hbo)
      have HRX := Lib.hid (rd_arr (M := [x, x]) (Ce.new wr.drew 3 _) (show 2 ≤ maxLen by decide))
      have HLE : Hid (T.length + [x, x].length ≤ 1000000) := Lib.hid (by have := HTL.out; simp; omega)
      have HTL2 : Hid ((T ++ [x, x]).length ≤ 2 * (m - k)) := Lib.hid (by have := HTL.out; simp; omega)
      have HBO := Lib.hid hbo
      have HSZ : Hid (w1.heap.size ≤ (wr.drew.alloc (.cells #[it x, it x] 3)).heap.size) := Lib.hid (by have h1 := HB.out.size; have h2 := hbo.size; exact Nat.le_trans h1 h2)
      have HBD := Lib.hid (HB.out.drew.trans (hbo.mono HB.out.drew.size))
      clear hbo hd hg hx
      go_upto_region 8 with fail
      go_region_law (first
        | (refine step_app elI rfl (.tmp 32) (.tmp 41) rfl w1.heap.size _ T [x, x] rfl HOX.out _ rfl HRX.out HLE.out HSZ.out ?_; intro v6 w6 ho6 hg6 hv6; have HO6 := Lib.hid ho6; have HB6 : Hid (Below w1.heap.size w1 w6) := Lib.hid (HBD.out.trans ⟨hg6.os, hg6.tape, hg6.output, hg6.size, fun i hi => hg6.block i (Nat.lt_of_lt_of_le hi HSZ.out) (fun e => by have := HOX.out.block i e.symm; omega)⟩); clear ho6 hg6 hv6)
        | fail)
      all_goals
        go_wp2
        go_roundw
        case rel => exact ⟨k, T ++ [x, x], (k : Int) - 1, by omega, by go_num, rfl, HTL2.out, HTM2.out, HO6.out, HB6.out⟩
        case measure => first | (simp [intOf]; done) | (simp [intOf]; omega)
    | zero =>
      obtain rfl : z = -1 := by omega
      clear hz
      have HBW := Lib.hid (HB1.out.trans (HB.out.mono HB1.out.size))
      have HNW := Lib.hid (ri_new (HT.out.below HBW.out) (HV'.out.below HB.out) (by have := HMM.out; omega))
      have HTQ : Hid (∀ x, x ∈ T ↔ x ∈ M) := Lib.hid HTM.out
      have HTR := Lib.hid HO.out.rd
      have HTN : Hid (T.length ≤ 1000000) := Lib.hid (by have := HTL.out; omega)
      clear HO HTM HTL HE HV' HB
      go_wp2_with fail
      refine HNW.out.mono ?_
      rintro e w2 ⟨p2, rfl, hr2, hb2⟩
      have HB2 := Lib.hid (HBW.out.trans (hb2.mono HBW.out.size))
      have HI2 := Lib.hid hr2
      have HNW2 := Lib.hid (ri_new (HT.out.below HB2.out) (HTR.out.below hb2) HTN.out)
      clear hr2 hb2 HNW HTR
      go_wp2_with fail
      refine HNW2.out.mono ?_
      rintro e w3 ⟨p3, rfl, hr3, hb3⟩
      have HB3 := Lib.hid (HB2.out.trans (hb3.mono HB2.out.size))
      have HI3 := Lib.hid (HI2.out.below hb3)
      have HJ3 := Lib.hid (hr3.eq HTQ.out)
      obtain ⟨l, hl⟩ : ∃ l, l = nx t M := ⟨_, rfl⟩
      have HL := Lib.hid hl
      have hnx : ∀ (W : World) (p : Option Addr), Tab W → Ri W (.pointer p) M → Calls Tryd.prog 13 #[.pointer p, .string t, it ((64 : Nat) : Int)] W fun e w' => ∃ v', e = .returned v' ∧ RdX elI w' v' (vls l) ∧ Below W.heap.size W w' := by
        intro W p hT hr
        have h := ri_next hT hr t HTS.out 64
        rw [List.take_of_length_le (nx_le t M), ← hl] at h
        exact h
      have HX1 := Lib.hid (hnx _ _ (HT.out.below HB3.out) HI3.out)
      have hl64 : l.length ≤ 64 := by rw [hl]; exact nx_le t M
      have HNX := Lib.hid hnx
      clear hr3 hb3 HNW2 HI2 hl hnx
      go_wp2_with fail
      refine HX1.out.mono ?_
      rintro e w4 ⟨v4, rfl, hr4, hb4⟩
      have HB4 := Lib.hid (HB3.out.trans (hb4.mono HB3.out.size))
      have HR4 := Lib.hid hr4
      have HI4 := Lib.hid (HI3.out.below hb4)
      have HX2 := Lib.hid (HNX.out _ _ (HT.out.below HB4.out) (HJ3.out.below hb4))
      clear hr4 hb4 HX1 HI3 HJ3
      go_wp2_with fail
      refine HX2.out.mono ?_
      rintro e w5 ⟨v5, rfl, hr5, hb5⟩
      have HB5 := Lib.hid (HB4.out.trans (hb5.mono HB4.out.size))
      have HI5 := Lib.hid (HI4.out.below hb5)
      have HSM := Lib.hid (same_self (HR4.out.below hb5) hr5 (by rw [vls_len]; omega))
      clear hr5 hb5 HX2 HR4 HI4
      go_wp2_with fail
      refine HSM.out.mono ?_
      rintro e w6 ⟨rfl, hb6⟩
      have HB6 := Lib.hid (HB5.out.trans (hb6.mono HB5.out.size))
      have HI6 := Lib.hid (HI5.out.below hb6)
      have HX3 := Lib.hid (HNX.out _ _ (HT.out.below HB6.out) HI6.out)
      clear hb6 HSM HI5
      go_wp2_with fail
      refine HX3.out.mono ?_
      rintro e w7 ⟨v7, rfl, hr7, hb7⟩
      have HB7 := Lib.hid (HB6.out.trans (hb7.mono HB6.out.size))
      have HI7 := Lib.hid (HI6.out.below hb7)
      have HR7 := Lib.hid hr7
      obtain ⟨qa, qc, rfl, _⟩ := hr7.shape
      rw [vls_len] at HR7 ⊢
      obtain ⟨ln, hln⟩ : ∃ ln, ln = l.length := ⟨_, rfl⟩
      rw [← hln] at HR7 hl64 ⊢
      have HLN := Lib.hid hln
      clear hr7 hb7 hln HX3 HI6
      go_upto_region 15 with fail
      change Code.wp _ _ _ _ (w7.alloc (.cells (Array.replicate 64 (.bool false)) 34))
      rw [← onA_none]
      have k0 := Ce.new w7 34 (onA fun _ => false)
      have kb := one_new w7 (.cells (onA fun _ => false) 34)
      generalize w7.alloc (.cells (onA fun _ => false) 34) = w8 at *
      obtain ⟨B, hB⟩ : ∃ B, B = w7.heap.size := ⟨_, rfl⟩
      rw [← hB] at k0 ⊢
      have HBB := Lib.hid hB
      have K0 : Hid (Ce w8 B 34 (onA fun j => decide (j ∈ l.take 0))) := Lib.hid (by
        rw [show (fun j : Fin 64 => decide (j ∈ l.take 0)) = fun _ => false from funext fun j => by simp]
        exact k0)
      have KB := Lib.hid kb
      have HND : Hid l.Nodup := Lib.hid (by rw [HL.out]; exact dd_nodup _)
      clear k0 kb hB
      go_loopw [13] (fun i wr => ∃ k : Nat, k ≤ ln ∧ i = it (k : Int) ∧ Ce wr B 34 (onA fun j => decide (j ∈ l.take k)) ∧ Below w7.heap.size w7 wr) (fun i _ => ln - (intOf i).toNat)
      case atStart => exact ⟨0, Nat.zero_le _, rfl, K0.out, KB.out⟩
      case round =>
        obtain ⟨k, hk, rfl, hc, hb⟩ := hrel
        have HC := Lib.hid hc
        have HBQ := Lib.hid hb
        clear hc hb
        by_cases hlt : k < ln
        · have q : (k : Int) < (ln : Int) := by omega
          obtain ⟨x, hx⟩ : ∃ x, l[k]? = some x := ⟨_, List.getElem?_eq_getElem (by have := HLN.out; omega)⟩
          have hv1 : (vls l)[k]? = some (x.val : Int) := by unfold vls; rw [List.getElem?_map, hx]; rfl
          obtain ⟨g, o, rfl, hg, c1⟩ := rdx_at HR7.out hv1
          have c1 := (HBQ.out.cell (p := ⟨g, o + k, none⟩) hg).trans c1
          have cm : wr.cell? ⟨B, x.val, none⟩ = some (.bool false) := by
            have := HC.out.cell x.val
            rw [onA_at, seen_not HND.out hx] at this
            exact this
          have fm := HC.out.frozen x.val
          have hS := HC.out.set (i := x.val) (.bool true)
          rw [seen_snoc hx] at hS
          have HS2 := Lib.hid hS
          have hne : g ≠ B := by rw [HBB.out]; exact Nat.ne_of_lt hg
          have c2 := (Ce.cell hS x.val)
          have c1s : (wr.setCell ⟨B, x.val, none⟩ (.bool true)).cell? ⟨g, o + k, none⟩ = some (it x.val) := by
            rw [← c1]
            exact World.cell?_of_block (heap_setCell_other wr ⟨B, x.val, none⟩ g (.bool true) (fun e => hne e))
          have HB2' : Hid (Below w7.heap.size w7 (wr.setCell ⟨B, x.val, none⟩ (.bool true))) := Lib.hid (HBQ.out.trans (((Tr.refl (· = B) wr).setCell (b := B) (i := x.val) (.inl rfl) (.bool true)).below HBQ.out.size fun k hk => by have := HBB.out; omega))
          have hx0 : decide ((x.val : Int) < 0) = false := by simp
          have hx1 : (x.val : Int) < 64 := by have := x.isLt; omega
          have hx2 : decide ((63 : Int) < (x.val : Int)) = false := by simp; omega
          clear hx hv1 hg hS c2 hne
          go_wp2
          go_roundw
          case rel => exact ⟨k + 1, by omega, by go_num, HS2.out, HB2'.out⟩
          case measure => simp [intOf]; omega
        · have q : decide ((k : Int) < (ln : Int)) = false := by simp; omega
          have hC := HC.out
          rw [List.take_of_length_le (by have := HLN.out; omega)] at hC
          have HCF := Lib.hid hC
          have HBW2 := Lib.hid (HB7.out.trans (HBQ.out.mono HB7.out.size))
          have HIW := Lib.hid (HI7.out.below HBQ.out)
          have HNO := Lib.hid (ri_nodes HIW.out)
          clear hC HC K0
          go_wp2_with fail
          refine HNO.out.mono ?_
          rintro e w9 ⟨v9, rfl, hr9, hb9⟩
          have HB9 := Lib.hid (HBW2.out.trans (hb9.mono HBW2.out.size))
          have HI9 := Lib.hid (HIW.out.below hb9)
          have HC9 := Lib.hid (HCF.out.below hb9)
          have HR9 := Lib.hid hr9
          have hle : (ndL M).length = ln := by rw [HLN.out, HL.out, nx_len]
          have HLE := Lib.hid hle
          obtain ⟨na, nc, rfl, _⟩ := hr9.shape
          rw [vls_len, hle] at HR9 ⊢
          clear hr9 hb9 hle HNO HIW HCF
          go_upto_region 22 with fail
          go_loopw [15] (fun i wq => ∃ k : Nat, k ≤ ln ∧ i = it (k : Int) ∧ Below w9.heap.size w9 wq) (fun i _ => ln - (intOf i).toNat)
          case atStart => exact ⟨0, Nat.zero_le _, rfl, Below.refl _ _⟩
          case round =>
            obtain ⟨k2, hk2, rfl, hb⟩ := hrel
            have HBK := Lib.hid hb
            clear hb
            by_cases hlt2 : k2 < ln
            · have q2 : (k2 : Int) < (ln : Int) := by omega
              obtain ⟨y, hy⟩ : ∃ y, (ndL M)[k2]? = some y := ⟨_, List.getElem?_eq_getElem (by have := HLE.out; omega)⟩
              have hyl : y ∈ l := by rw [HL.out]; exact (nx_perm t M).mem_iff.2 (List.mem_of_getElem? hy)
              have hv1 : (vls (ndL M))[k2]? = some (y.val : Int) := by unfold vls; rw [List.getElem?_map, hy]; rfl
              obtain ⟨g, o, rfl, hg, c1⟩ := rdx_at HR9.out hv1
              have c1 := (HBK.out.cell (p := ⟨g, o + k2, none⟩) hg).trans c1
              have cm : wr.cell? ⟨B, y.val, none⟩ = some (.bool true) := by
                have := (HC9.out.below HBK.out).cell y.val
                rw [onA_at, decide_eq_true hyl] at this
                exact this
              have hx1 : (y.val : Int) < 64 := by have := y.isLt; omega
              clear hy hyl hv1 hg
              go_wp2
              go_roundw
              case rel => exact ⟨k2 + 1, by omega, by go_num, HBK.out⟩
              case measure => simp [intOf]; omega
            · have q2 : decide ((k2 : Int) < (ln : Int)) = false := by simp; omega
              have HBA := Lib.hid (HB9.out.trans (HBK.out.mono HB9.out.size))
              have HIA := Lib.hid (HI9.out.below HBK.out)
              have HRA := Lib.hid (HR9.out.below HBK.out)
              have HOW := Lib.hid (ri_owner (HT.out.below HBA.out) HIA.out t HTS.out)
              obtain ⟨rn, hrn⟩ : ∃ rn, fstN (ow t M) = rn := ⟨_, rfl⟩
              obtain ⟨rb, hrb⟩ : ∃ rb, (ow t M).isSome = rb := ⟨_, rfl⟩
              rw [hrn, hrb] at HOW
              have HRN := Lib.hid (And.intro hrn hrb)
              clear hrn hrb HC9 HI9 HR9
              go_wp2_with fail
              refine HOW.out.mono ?_
              rintro e w10 ⟨rfl, hb10⟩
              have HB10 := Lib.hid (HBA.out.trans (hb10.mono HBA.out.size))
              have HI10 := Lib.hid (HIA.out.below hb10)
              have HFA := Lib.hid (ri_alive (HT.out.below HB10.out) HI10.out t HTS.out (HRA.out.below hb10) (by rw [vls_len, HLE.out]; omega))
              rw [al_all, HRN.out.1, HRN.out.2] at HFA
              clear hb10 HOW HIA HRA
              go_wp2_with fail
              refine HFA.out.mono ?_
              rintro e w11 ⟨rfl, hb11⟩
              have HB11 := Lib.hid (HB10.out.trans (hb11.mono HB10.out.size))
              have HI11 := Lib.hid (HI10.out.below hb11)
              have hle := ri_len HI11.out
              rw [HLE.out, show ((16 * ln : Nat) : Int) = 16 * (ln : Int) by omega] at hle
              have HLC := Lib.hid hle
              have HX0 := Lib.hid (ri_next (HT.out.below HB11.out) HI11.out t HTS.out 0)
              clear hb11 HFA HI10 hle
              have hbb : (rb == rb) = true := by simp
              go_wp2_with fail
              refine HLC.out.mono ?_
              rintro e w12 ⟨rfl, rfl⟩
              go_wp2_with fail
              refine HX0.out.mono ?_
              rintro e w13 ⟨v13, rfl, hr13, hb13⟩
              obtain ⟨a13, c13, rfl⟩ := rdx_none0' hr13
              have HB13 := Lib.hid (HB11.out.trans (hb13.mono HB11.out.size))
              clear hr13 hb13
              go_wp2
              go_ret
              exact ⟨rfl, HB13.out⟩
end Go.Proofs.YtomghpielgkigaaDoor

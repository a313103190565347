/-
  Lists of voters: List, the program's and the document's; whether two lists are the same.
-/
import Derived.Test.YtopnmiakljpgbaaFew
namespace Go.Proofs.Ytopnmiakljpgbaa
open Go.RowKit
/-- A byte of a list of voters. -/
def vAt (b : Bs) (i : Nat) : Prop := (b.getD i 0).toNat < 64 ∧ (0 < i → (b.getD (i - 1) 0).toNat < (b.getD i 0).toNat)
instance (b : Bs) (i : Nat) : Decidable (vAt b i) := by unfold vAt; infer_instance
def lok (b : Bs) : Bool := decide (∀ i, i < b.length → vAt b i)
def vot (b : Bs) : List Int := b.map fun x => (x.toNat : Int)
def lst (b : Bs) : List Int := if lok b = true then vot b else []
def lsk (b : Bs) : Bool := lok b && decide (0 < b.length)
/-- []byte(t): its bytes in new memory. -/
def Bys (w : World) (g : Nat) (l : Bs) : Prop := ∀ (j : Nat) x, l[j]? = some x → w.cell? ⟨g, j, none⟩ = some (.int .u8 (x.toNat : Int))
theorem Bys.below {w w' : World} {g : Nat} {l : Bs} (h : Bys w g l) (hb : Below w.heap.size w w') : Bys w' g l := fun j x hx => (hb.cell (p := ⟨g, j, none⟩) (w.block_lt_of_cell? _ (h j x hx))).trans (h j x hx)
theorem conv_bys (t : ByteArray) (w : World) : ∃ C w2, (convert 9 75 (.string t)).run Try.prog w = .ok (.slice (some ⟨w.heap.size, 0, none⟩) t.size C) w2 ∧ Bys w2 w.heap.size t.data.toList ∧ Below w.heap.size w w2 := by
  refine ⟨_, _, run_bytes_of_string (P := Try.prog) w 9 75 5 t Try.underlying9 Try.underlying75 Try.underlying5, ?_, ((Below.refl _ w).drew).alloc (Nat.le_refl _) _⟩
  intro j x hj
  have hjl : j < t.data.size := by
    have := (List.getElem?_eq_some_iff.1 hj).1
    simpa using this
  have hx : t.data[j] = x := by
    have := (List.getElem?_eq_some_iff.1 hj).2
    simpa using this
  have := World.cell?_alloc_mark w.drew (bytesRow t (grownCap w t.size 0 5)) 5 ((bytesRow t (grownCap w t.size 0 5)).size, (bytesRow t (grownCap w t.size 0 5)).size + 1) j
  rw [bytesRow_at t _ j hjl, hx] at this
  exact this
theorem below_drewN (w : World) : ∀ n : Nat, Below w.heap.size w (w.drewN n)
  | 0 => Below.refl _ _
  | n + 1 => (below_drewN w n).drew
theorem getD_of {b : Bs} {k : Nat} {x : UInt8} (h : b[k]? = some x) : b.getD k 0 = x := by rw [List.getD_eq_getElem?_getD, h]; rfl
set_option maxRecDepth 100000 in
set_option maxHeartbeats 3200000 in
theorem list_any (d : ByteArray) (hd : d.size ≤ 1000000) (w : World) :
    Calls Try.prog 24 #[.string d] w fun e w' => ∃ v, e = .returned (.tuple #[v, .bool (lsk d.data.toList)]) ∧ OwnV w' w.heap.size 3 v (ivs (lst d.data.toList)) ∧ Below w.heap.size w w' := by
  obtain ⟨C, w1, hcv, hby, hb1⟩ := conv_bys d w
  obtain ⟨b, hbb⟩ : ∃ b, b = d.data.toList := ⟨_, rfl⟩
  have hsz : d.size = b.length := by rw [size_list, hbb]
  rw [← hbb] at hby ⊢
  obtain ⟨n, hn⟩ : ∃ n, n = b.length := ⟨_, rfl⟩
  rw [hsz, ← hn] at hcv hd
  have HN := Lib.hid hn
  have HBY := Lib.hid hby
  have HB1 := Lib.hid hb1
  have HS := Lib.hid hsz
  clear hbb hn hby hb1 hsz
  go_enter Try.func24, Try.ntmps24
  go_wp2
  go_loopw [4, 5, 7, 8, 12] (fun le ov _ _ i wr => ∃ k lk : Nat, k ≤ n ∧ i = it (k : Int) ∧ le = it (lk : Int) ∧ lk = (if k = 0 then 0 else (b.getD (k - 1) 0).toNat + 1) ∧ OwnV wr w1.heap.size 3 ov (ivs (vot (b.take k))) ∧ (∀ i, i < k → vAt b i) ∧ Below w1.heap.size w1 wr) (fun _ _ _ _ i _ => n - (intOf i).toNat)
  case atStart => exact ⟨0, 0, by omega, rfl, rfl, rfl, OwnV.nil _ _ _, (fun i h => absurd h (Nat.not_lt_zero _)), Below.refl _ _⟩
  case round =>
    obtain ⟨k, lk, hk, rfl, rfl, hlk, ho, hv, hbr⟩ := hrel
    have HV := Lib.hid hv
    have HB := Lib.hid hbr
    by_cases hlt : k < n
    · have q : (k : Int) < (n : Int) := by omega
      obtain ⟨x, hx⟩ : ∃ x, b[k]? = some x := ⟨_, List.getElem?_eq_getElem (by have := HN.out; omega)⟩
      have c0 := (HBY.out.below hbr) k x hx
      obtain ⟨y, hy⟩ : ∃ y, y = x.toNat := ⟨_, rfl⟩
      have hy1 : y < 256 := by rw [hy]; exact x.toNat_lt
      have hgd := getD_of hx
      rw [← hy] at c0
      obtain ⟨oa, oc, rfl, _⟩ := ho.shape
      have hlen : (ivs (vot (b.take k))).length = k := by simp [vot]; have := HN.out; omega
      obtain ⟨T, hT⟩ : ∃ T, T = ivs (vot (b.take k)) := ⟨_, rfl⟩
      have hend : T ++ [it (y : Int)] = ivs (vot (b.take (k + 1))) := by rw [hT, take_succ_of hx, hy]; simp [vot]
      rw [hlen] at ho ⊢
      rw [← hT] at ho hlen
      have HO := Lib.hid ho
      have HL := Lib.hid hlen
      have HE := Lib.hid hend
      have hat : vAt b k ↔ (y < 64 ∧ lk ≤ y) := by
        unfold vAt
        rw [hgd, ← hy, hlk]
        split
        · rename_i h0; subst h0; simp
        · rename_i h0; omega
      have HAT := Lib.hid hat
      have HY := Lib.hid hy
      have HGD := Lib.hid hgd
      have HLK : Hid (lk ≤ 300) := Lib.hid (by
        have := (b.getD (k - 1) 0).toNat_lt
        rw [hlk]; split <;> omega)
      have hw : IntKind.i64.wrap (y : Int) = (y : Int) := by unfold IntKind.wrap; simp only [IntKind.bits, IntKind.signed]; simp; omega
      clear hv hbr hx ho hlen hend hT hat hy hgd hlk
      by_cases hg : y < 64 ∧ lk ≤ y
      · have q1 : decide ((y : Int) < (lk : Int)) = false := by simp; omega
        have q2 : decide ((64 : Int) ≤ (y : Int)) = false := by simp; omega
        have HS2 := Lib.hid HB.out.size
        have HN0 : Hid (T.length ≤ 1000000) := Lib.hid (by rw [HL.out]; omega)
        go_wp2_with (at_builtin; refine wp_app_one 40 3 _ 8 Try.underlying40 info3 rfl (by decide) rfl (.tmp 25) (.tmp 27) rfl w1.heap.size _ T rfl HO.out _ rfl rfl HN0.out HS2.out ?_)
        intro v' w2 ho1 hb2
        rw [HE.out] at ho1
        have HO1 := Lib.hid ho1
        have HB2 := Lib.hid hb2
        clear ho1 hb2
        go_wp2
        go_roundw
        case rel =>
          refine ⟨k + 1, y + 1, by omega, by go_num, by go_num, ?_, HO1.out, ?_, ?_⟩
          · rw [if_neg (by omega), Nat.add_sub_cancel, HGD.out, HY.out]
          · intro i hi
            rcases (by omega : i < k ∨ i = k) with h | rfl
            · exact HV.out i h
            · exact HAT.out.2 hg
          · exact HB.out.trans HB2.out
        case measure => simp [intOf]; omega
      · have HF : Hid (lok b = false) := Lib.hid (by
          unfold lok
          rw [decide_eq_false_iff_not]
          intro h
          exact hg (HAT.out.1 (h k (by have := HN.out; omega))))
        have HBW := Lib.hid (HB1.out.trans (HB.out.mono HB1.out.size))
        rcases (by omega : y < lk ∨ (¬ y < lk ∧ 64 ≤ y)) with h | ⟨h, h2⟩
        · have q1 : (y : Int) < (lk : Int) := by omega
          go_wp2
          go_ret2
          refine ⟨.slice none 0 0, ?_, ?_, HBW.out⟩
          · unfold lsk; rw [HF.out]; rfl
          · unfold lst; rw [HF.out]; exact OwnV.nil _ _ _
        · have q1 : decide ((y : Int) < (lk : Int)) = false := by simp; omega
          have q2 : (64 : Int) ≤ (y : Int) := by omega
          go_wp2
          go_ret2
          refine ⟨.slice none 0 0, ?_, ?_, HBW.out⟩
          · unfold lsk; rw [HF.out]; rfl
          · unfold lst; rw [HF.out]; exact OwnV.nil _ _ _
    · have q : decide ((k : Int) < (n : Int)) = false := by simp; omega
      have hkn : k = n := by omega
      have HF : Hid (lok b = true) := Lib.hid (by
        unfold lok
        rw [decide_eq_true_eq]
        intro i hi
        exact hv i (by have := HN.out; omega))
      rw [List.take_of_length_le (by have := HN.out; omega)] at ho
      have HO := Lib.hid ho
      have HBW := Lib.hid (HB1.out.trans (HB.out.mono HB1.out.size))
      obtain ⟨oa, oc, rfl, _⟩ := ho.shape
      have hlen : (ivs (vot b)).length = n := by simp [vot]; exact HN.out.symm
      rw [hlen] at HO ⊢
      have HS1 := Lib.hid HB1.out.size
      clear hv hbr ho hlen hlk
      by_cases h0 : n = 0
      · subst h0
        go_wp2
        go_ret2
        refine ⟨.slice oa 0 oc, ?_, ?_, HBW.out⟩
        · unfold lsk; rw [HF.out, ← HN.out]; rfl
        · unfold lst; rw [HF.out]; exact HO.out.weak HS1.out
      · have q1 : (0 : Int) < (n : Int) := by omega
        go_wp2
        go_ret2
        refine ⟨.slice oa n oc, ?_, ?_, HBW.out⟩
        · unfold lsk; rw [HF.out, ← HN.out, decide_eq_true (show 0 < n by omega)]; rfl
        · unfold lst; rw [HF.out]; exact HO.out.weak HS1.out
theorem getE {d : ByteArray} {k : Nat} {x : UInt8} (h : d.data.toList[k]? = some x) : ∃ hk : k < d.size, d[k]'hk = x := by
  obtain ⟨h1, h2⟩ := List.getElem?_eq_some_iff.1 h
  have hk : k < d.size := by rw [size_list]; exact h1
  refine ⟨hk, ?_⟩
  rw [← h2]
  exact (Array.getElem_toList (xs := d.data) (i := k) (by simpa using h1)).symm
set_option maxRecDepth 100000 in
set_option maxHeartbeats 3200000 in
theorem rlist_any (d : ByteArray) (hd : d.size ≤ 1000000) (w : World) :
    Calls Try.prog 25 #[.string d] w fun e w' => ∃ v, e = .returned (.tuple #[v, .bool (lsk d.data.toList)]) ∧ OwnV w' w.heap.size 3 v (ivs (lst d.data.toList)) ∧ Below w.heap.size w w' := by
  obtain ⟨b, hbb⟩ : ∃ b, b = d.data.toList := ⟨_, rfl⟩
  have hsz : d.size = b.length := by rw [size_list, hbb]
  rw [← hbb]
  obtain ⟨n, hn⟩ : ∃ n, n = d.size := ⟨_, rfl⟩
  have HBB := Lib.hid hbb
  have HN : Hid (n = b.length) := Lib.hid (by rw [hn, hsz])
  have HNS := Lib.hid hn
  rw [← hn] at hd
  clear hbb hsz hn
  go_enter Try.func25, Try.ntmps25
  go_wp2
  go_loopw [4, 5] (fun ov i wr => ∃ k : Nat, k ≤ n ∧ i = it (k : Int) ∧ OwnV wr w.heap.size 3 ov (ivs (vot (b.take k))) ∧ (∀ i, i < k → vAt b i) ∧ Below w.heap.size w wr) (fun _ i _ => n - (intOf i).toNat)
  case atStart => exact ⟨0, by omega, rfl, OwnV.nil _ _ _, (fun i h => absurd h (Nat.not_lt_zero _)), Below.refl _ _⟩
  case round =>
    obtain ⟨k, hk, rfl, ho, hv, hbr⟩ := hrel
    have HV := Lib.hid hv
    have HB := Lib.hid hbr
    by_cases hlt : k < n
    · have q : (k : Int) < (d.size : Int) := by have := HNS.out; omega
      have q' : k < d.size := by have := HNS.out; omega
      obtain ⟨x, hx⟩ : ∃ x, b[k]? = some x := ⟨_, List.getElem?_eq_getElem (by have := HN.out; omega)⟩
      obtain ⟨hk1, hget⟩ := getE (d := d) (k := k) (x := x) (by rw [← HBB.out]; exact hx)
      have hgd := getD_of hx
      obtain ⟨oa, oc, rfl, _⟩ := ho.shape
      have hlen : (ivs (vot (b.take k))).length = k := by simp [vot]; have := HN.out; omega
      obtain ⟨T, hT⟩ : ∃ T, T = ivs (vot (b.take k)) := ⟨_, rfl⟩
      have hend : T ++ [it (x.toNat : Int)] = ivs (vot (b.take (k + 1))) := by rw [hT, take_succ_of hx]; simp [vot]
      rw [hlen] at ho ⊢
      rw [← hT] at ho hlen
      have HO := Lib.hid ho
      have HL := Lib.hid hlen
      have HE := Lib.hid hend
      have hxl := x.toNat_lt
      have hw : IntKind.i64.wrap (x.toNat : Int) = (x.toNat : Int) := by unfold IntKind.wrap; simp only [IntKind.bits, IntKind.signed]; simp; omega
      clear hv hbr ho hlen hend hT
      by_cases h0 : k = 0
      · subst h0
        by_cases hg : x.toNat < 64
        · have q1 : decide ((63 : Int) < (x.toNat : Int)) = false := by simp; omega
          have HAT : Hid (vAt b 0) := Lib.hid ⟨by rw [hgd]; exact hg, fun h => absurd h (by omega)⟩
          clear hx hgd
          go_wp2_with fail
          go_quiet (fail)
          obtain ⟨w2, hw2⟩ : ∃ w2, w2 = wr.drewN nq := ⟨_, rfl⟩
          have hbn := below_drewN wr nq
          rw [← hw2] at hbn ⊢
          have HO2 := Lib.hid (HO.out.below hbn)
          have HB2 := Lib.hid (HB.out.trans (hbn.mono HB.out.size))
          have HN0 : Hid (T.length ≤ 1000000) := Lib.hid (by rw [HL.out]; omega)
          clear hbn hw2
          go_wp2_with (at_builtin; refine wp_app_one 40 3 _ 8 Try.underlying40 info3 rfl (by decide) rfl (.tmp 30) (.tmp 35) rfl w.heap.size _ T rfl HO2.out _ rfl rfl HN0.out HB2.out.size ?_)
          intro v' w3 ho1 hb3
          rw [HE.out] at ho1
          have HO1 := Lib.hid ho1
          have HB3 := Lib.hid (HB2.out.trans hb3)
          clear ho1 hb3
          go_wp2
          go_roundw
          case rel =>
            refine ⟨0 + 1, by have := HNS.out; omega, by go_num, HO1.out, ?_, HB3.out⟩
            intro i hi
            rcases (by omega : i < 0 ∨ i = 0) with h | rfl
            · exact HV.out i h
            · exact HAT.out
          case measure => have := HNS.out; simp [intOf]; omega
        · have q1 : (63 : Int) < (x.toNat : Int) := by omega
          have hnat : ¬ vAt b 0 := fun h => hg (by have := h.1; rw [hgd] at this; exact this)
          have HF : Hid (lok b = false) := Lib.hid (by
            unfold lok
            rw [decide_eq_false_iff_not]
            intro h
            exact hnat (h (0) (by have := HN.out; omega)))
          have HBW := Lib.hid HB.out
          clear hx hgd hnat
          go_wp2_with fail
          go_quiet (fail)
          go_wp2
          go_ret2
          refine ⟨.slice none 0 0, ?_, ?_, HBW.out.trans ((below_drewN wr nq).mono HBW.out.size)⟩
          · unfold lsk; rw [HF.out]; rfl
          · unfold lst; rw [HF.out]; exact OwnV.nil _ _ _
      · obtain ⟨j, rfl⟩ : ∃ j, k = j + 1 := ⟨k - 1, by omega⟩
        obtain ⟨y, hy⟩ : ∃ y, b[j]? = some y := ⟨_, List.getElem?_eq_getElem (by have := HN.out; omega)⟩
        obtain ⟨hk2, hget2⟩ := getE (d := d) (k := j) (x := y) (by rw [← HBB.out]; exact hy)
        have hgd2 := getD_of hy
        have hyl := y.toNat_lt
        have hats : vAt b (j + 1) ↔ x.toNat < 64 ∧ y.toNat < x.toNat := by
          unfold vAt
          rw [Nat.add_sub_cancel, hgd, hgd2]
          simp
        clear hy hgd2
        by_cases hg : x.toNat < 64
        · have q1 : decide ((63 : Int) < (x.toNat : Int)) = false := by simp; omega
          by_cases hg2 : y.toNat < x.toNat
          · have q2 : decide ((x.toNat : Int) ≤ (y.toNat : Int)) = false := by simp; omega
            have HAT : Hid (vAt b (j + 1)) := Lib.hid (hats.2 ⟨hg, hg2⟩)
            clear hats
            clear hx hgd
            go_wp2_with fail
            go_quiet (fail)
            obtain ⟨w2, hw2⟩ : ∃ w2, w2 = wr.drewN nq := ⟨_, rfl⟩
            have hbn := below_drewN wr nq
            rw [← hw2] at hbn ⊢
            have HO2 := Lib.hid (HO.out.below hbn)
            have HB2 := Lib.hid (HB.out.trans (hbn.mono HB.out.size))
            have HN0 : Hid (T.length ≤ 1000000) := Lib.hid (by rw [HL.out]; omega)
            clear hbn hw2
            go_wp2_with (at_builtin; refine wp_app_one 40 3 _ 8 Try.underlying40 info3 rfl (by decide) rfl (.tmp 30) (.tmp 35) rfl w.heap.size _ T rfl HO2.out _ rfl rfl HN0.out HB2.out.size ?_)
            intro v' w3 ho1 hb3
            rw [HE.out] at ho1
            have HO1 := Lib.hid ho1
            have HB3 := Lib.hid (HB2.out.trans hb3)
            clear ho1 hb3
            go_wp2
            go_roundw
            case rel =>
              refine ⟨(j + 1) + 1, by have := HNS.out; omega, by go_num, HO1.out, ?_, HB3.out⟩
              intro i hi
              rcases (by omega : i < (j + 1) ∨ i = (j + 1)) with h | rfl
              · exact HV.out i h
              · exact HAT.out
            case measure => have := HNS.out; simp [intOf]; omega
          · have q2 : (x.toNat : Int) ≤ (y.toNat : Int) := by omega
            have hnat : ¬ vAt b (j + 1) := fun h => hg2 (hats.1 h).2
            clear hats
            have HF : Hid (lok b = false) := Lib.hid (by
              unfold lok
              rw [decide_eq_false_iff_not]
              intro h
              exact hnat (h (j + 1) (by have := HN.out; omega)))
            have HBW := Lib.hid HB.out
            clear hx hgd hnat
            go_wp2_with fail
            go_quiet (fail)
            go_wp2
            go_ret2
            refine ⟨.slice none 0 0, ?_, ?_, HBW.out.trans ((below_drewN wr nq).mono HBW.out.size)⟩
            · unfold lsk; rw [HF.out]; rfl
            · unfold lst; rw [HF.out]; exact OwnV.nil _ _ _
        · have q1 : (63 : Int) < (x.toNat : Int) := by omega
          have hnat : ¬ vAt b (j + 1) := fun h => hg (hats.1 h).1
          clear hats
          have HF : Hid (lok b = false) := Lib.hid (by
            unfold lok
            rw [decide_eq_false_iff_not]
            intro h
            exact hnat (h (j + 1) (by have := HN.out; omega)))
          have HBW := Lib.hid HB.out
          clear hx hgd hnat
          go_wp2_with fail
          go_quiet (fail)
          go_wp2
          go_ret2
          refine ⟨.slice none 0 0, ?_, ?_, HBW.out.trans ((below_drewN wr nq).mono HBW.out.size)⟩
          · unfold lsk; rw [HF.out]; rfl
          · unfold lst; rw [HF.out]; exact OwnV.nil _ _ _
    · have hkn : k = n := by omega
      have q : decide ((k : Int) < (d.size : Int)) = false := by have := HNS.out; simp; omega
      have q' : decide (k < d.size) = false := by have := HNS.out; simp; omega
      have HF : Hid (lok b = true) := Lib.hid (by
        unfold lok
        rw [decide_eq_true_eq]
        intro i hi
        exact hv i (by have := HN.out; omega))
      rw [List.take_of_length_le (by have := HN.out; omega)] at ho
      have HO := Lib.hid ho
      obtain ⟨oa, oc, rfl, _⟩ := ho.shape
      have hlen : (ivs (vot b)).length = n := by simp [vot]; exact HN.out.symm
      rw [hlen] at HO ⊢
      clear hv hbr ho hlen hkn
      by_cases h0 : n = 0
      · have z1 : decide ((0 : Int) < (d.size : Int)) = false := decide_eq_false (by have := HNS.out; omega)
        have z2 : decide (0 < d.size) = false := decide_eq_false (by have := HNS.out; omega)
        have z3 : d.size = 0 := by have := HNS.out; omega
        go_wp2
        go_ret2
        refine ⟨.slice oa n oc, ?_, ?_, HB.out⟩
        · unfold lsk; rw [HF.out, ← HN.out, h0]; rfl
        · unfold lst; rw [HF.out]; exact HO.out
      · have z1 : (0 : Int) < (d.size : Int) := by have := HNS.out; omega
        have z2 : 0 < d.size := by have := HNS.out; omega
        go_wp2
        go_ret2
        refine ⟨.slice oa n oc, ?_, ?_, HB.out⟩
        · unfold lsk; rw [HF.out, ← HN.out, decide_eq_true (show 0 < n by omega)]; rfl
        · unfold lst; rw [HF.out]; exact HO.out
theorem take_eq_succ {α : Type} {l m : List α} {k : Nat} {s : α} (h : l.take k = m.take k) (h1 : l[k]? = some s) (h2 : m[k]? = some s) : l.take (k + 1) = m.take (k + 1) := by
  rw [take_succ_of h1, take_succ_of h2, h]
set_option maxRecDepth 100000 in
set_option maxHeartbeats 3200000 in
theorem sameInts_any {w : World} {v u : Value} {A B : List Int} (hv : RdN w v A) (hu : RdN w u B) (hl : A.length ≤ 1000000) :
    Calls Try.prog 26 #[v, u] w fun e w' => e = .returned (.bool (decide (A = B))) ∧ Below w.heap.size w w' := by
  obtain ⟨va, vc, rfl, _⟩ := hv.shape
  obtain ⟨ua, uc, rfl, _⟩ := hu.shape
  have HV := Lib.hid hv
  have HU := Lib.hid hu
  obtain ⟨R, hR⟩ : ∃ R, R = decide (A = B) := ⟨_, rfl⟩
  have HR := Lib.hid hR
  rw [← hR]
  clear hv hu hR
  by_cases hlen : A.length = B.length
  · have HL := Lib.hid hlen
    rw [← hlen] at HU ⊢
    obtain ⟨n, hn⟩ : ∃ n, n = A.length := ⟨_, rfl⟩
    have HN := Lib.hid hn
    rw [← hn] at HU HV hl ⊢
    clear hlen hn
    go_enter Try.func26, Try.ntmps26
    go_wp2
    go_loopw [5] (fun i wr => ∃ k : Nat, k ≤ n ∧ i = it (k : Int) ∧ A.take k = B.take k ∧ Below w.heap.size w wr) (fun i _ => n - (intOf i).toNat)
    case atStart => exact ⟨0, by omega, rfl, rfl, Below.refl _ _⟩
    case round =>
      obtain ⟨k, hk, rfl, hE, hbr⟩ := hrel
      by_cases hlt : k < n
      · have q : (k : Int) < (n : Int) := by omega
        have q2 : decide (k < n) = true := by simp; omega
        obtain ⟨s, hs⟩ : ∃ s, A[k]? = some s := ⟨_, List.getElem?_eq_getElem (by have := HN.out; omega)⟩
        obtain ⟨t, ht⟩ : ∃ t, B[k]? = some t := ⟨_, List.getElem?_eq_getElem (by have := HN.out; have := HL.out; omega)⟩
        obtain ⟨e1, g, o, rfl, hg, c1⟩ := HV.out.at hs
        obtain ⟨e2, g2, o2, rfl, hg2, c2⟩ := HU.out.at ht
        have c1 := (hbr.cell (p := ⟨g, o + k, none⟩) hg).trans c1
        have c2 := (hbr.cell (p := ⟨g2, o2 + k, none⟩) hg2).trans c2
        have HE := Lib.hid hE
        have HBR := Lib.hid hbr
        have HS := Lib.hid hs
        have HT := Lib.hid ht
        clear hE hbr hs ht e1 e2
        by_cases he : s = t
        · subst he
          go_wp2_with fail
          go_quiet (fail)
          go_wp2
          go_roundw
          case rel => exact ⟨k + 1, by omega, by go_num, take_eq_succ HE.out HS.out HT.out, HBR.out.trans ((below_drewN _ _).mono HBR.out.size)⟩
          case measure => simp [intOf]; omega
        · have q3 : (s == t) = false := by simpa using he
          have q4 : (s != t) = true := by simpa using he
          have HF : Hid (R = false) := Lib.hid (by
            rw [HR.out, decide_eq_false_iff_not]; rintro rfl
            rw [HS.out] at HT; exact he (Option.some.inj HT.out))
          go_wp2_with fail
          go_quiet (fail)
          go_wp2
          go_ret
          exact ⟨by rw [HF.out]; rfl, HBR.out.trans ((below_drewN _ _).mono HBR.out.size)⟩
      · have q : decide ((k : Int) < (n : Int)) = false := by simp; omega
        have q2 : decide (k < n) = false := by simp; omega
        have HF : Hid (R = true) := Lib.hid (by
          rw [HR.out, decide_eq_true_eq]
          rw [List.take_of_length_le (by have := HN.out; omega), List.take_of_length_le (by have := HN.out; have := HL.out; omega)] at hE
          exact hE)
        have HBR := Lib.hid hbr
        clear hE hbr
        go_wp2
        go_ret
        exact ⟨by rw [HF.out]; rfl, HBR.out⟩
  · have q1 : ((A.length : Int) == (B.length : Int)) = false := by simp; omega
    have q2 : ((A.length : Int) != (B.length : Int)) = true := by simp; omega
    have q3 : (A.length == B.length) = false := by simpa using hlen
    have HF : Hid (R = false) := Lib.hid (by rw [HR.out, decide_eq_false_iff_not]; rintro rfl; exact hlen rfl)
    clear HV HU
    generalize A.length = x at *
    generalize B.length = y at *
    go_enter Try.func26, Try.ntmps26
    go_wp2
    go_ret
    exact ⟨by rw [HF.out]; rfl, Below.refl _ _⟩
end Go.Proofs.Ytopnmiakljpgbaa

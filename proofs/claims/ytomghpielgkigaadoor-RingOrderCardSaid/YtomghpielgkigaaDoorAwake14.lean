/-
  A ring that was made: the laws over it; what the statements ask of themselves.
-/
import Derived.Test.YtomghpielgkigaaDoorSmall14
namespace Go.Proofs.YtomghpielgkigaaDoor
open Go.RowKit
theorem flI (M : List Int) : elI.fl M = M.map it := by
  induction M with
  | nil => rfl
  | cons x r ih => rw [El.fl_cons, ih]; rfl
theorem rd_arr {w : World} {b : Nat} {M : List Int} (h : Ce w b 3 (M.map it).toArray) (hm : M.length ≤ maxLen) : RdX elI w (.slice (some ⟨b, 0, none⟩) M.length M.length) M := by
  refine ⟨_, _, rfl, Nat.le_refl _, hm, .inr ⟨b, 0, rfl, fun j u hu => ?_⟩⟩
  rw [h.cell (0 + j), Nat.zero_add]
  rw [flI] at hu
  simpa using hu
/-- A ring of nodes. -/
def Ri (w : World) (v : Value) (M : List Int) : Prop := RingAt Z0 w v (ringL M)
theorem Ri.below {w w' : World} {v : Value} {M : List Int} (h : Ri w v M) (hb : Below w.heap.size w w') : Ri w' v M := RingAt.below h hb fun _ _ h => h
theorem Ri.ptr {w : World} {v : Value} {M : List Int} (h : Ri w v M) : ∃ p, v = .pointer p := RingAt.ptr h
theorem Ri.eq {w : World} {v : Value} {M M' : List Int} (h : Ri w v M) (e : ∀ x, x ∈ M ↔ x ∈ M') : Ri w v M' := by unfold Ri; rw [← ringL_eq e]; exact h
theorem ri_new {w : World} (hT : Tab w) {v : Value} {M : List Int} (h : RdX elI w v M) (hM : M.length ≤ 1000000) :
    Calls Tryd.prog 9 #[v] w fun e w' => ∃ p, e = .returned (.pointer p) ∧ Ri w' (.pointer p) M ∧ Below w.heap.size w w' := by
  refine (new_any hT h hM).mono ?_
  rintro e w' ⟨r, rfl, hr, hb⟩
  obtain ⟨p, rfl⟩ := hr.ptr
  exact ⟨p, rfl, hr, hb⟩
def ow (s : ByteArray) (M : List Int) : Option (Fin 64) := own s (ringL M)
def al (s : ByteArray) (M A : List Int) : Option (Fin 64) := ali s (ringL M) A
def nx (s : ByteArray) (M : List Int) : List (Fin 64) := nds (pk s) (ringL M)
theorem nx_perm (s : ByteArray) (M : List Int) : (nx s M).Perm (ndL M) := nds_perm _ M
theorem ow_head (s : ByteArray) (M : List Int) : ow s M = (nx s M).head? := rfl
theorem al_find (s : ByteArray) (M A : List Int) : al s M A = (nx s M).find? (inL A) := rfl
theorem ri_owner {w : World} {v : Value} {M : List Int} (hT : Tab w) (h : Ri w v M) (s : ByteArray) (hs : s.size ≤ 140737488355328) :
    Calls Tryd.prog 11 #[v, .string s] w fun e w' => e = .returned (.tuple #[it (fstN (ow s M)), .bool (ow s M).isSome]) ∧ Below w.heap.size w w' := owner_any hT h (ringL_srt M) (ringL_len M) s hs
theorem ri_alive {w : World} {v : Value} {M : List Int} (hT : Tab w) (h : Ri w v M) (s : ByteArray) (hs : s.size ≤ 140737488355328) {u : Value} {A : List Int} (hA : RdX elI w u A) (hl : A.length ≤ 1000000) :
    Calls Tryd.prog 15 #[v, .string s, u] w fun e w' => e = .returned (.tuple #[it (fstN (al s M A)), .bool (al s M A).isSome]) ∧ Below w.heap.size w w' := firstA_any hT h (ringL_srt M) (ringL_len M) s hs hA hl
theorem ri_next {w : World} {v : Value} {M : List Int} (hT : Tab w) (h : Ri w v M) (s : ByteArray) (hs : s.size ≤ 140737488355328) (k : Nat) :
    Calls Tryd.prog 13 #[v, .string s, it (k : Int)] w fun e w' => ∃ v', e = .returned v' ∧ RdX elI w' v' (vls ((nx s M).take k)) ∧ Below w.heap.size w w' := by
  refine (next_any hT h (ringL_srt M) (ringL_len M) s hs (k : Int)).mono ?_
  rintro e w' ⟨v', rfl, ho, hb⟩
  exact ⟨v', rfl, ho.rd, hb⟩
theorem ri_nodes {w : World} {v : Value} {M : List Int} (h : Ri w v M) :
    Calls Tryd.prog 14 #[v] w fun e w' => ∃ v', e = .returned v' ∧ RdX elI w' v' (vls (ndL M)) ∧ Below w.heap.size w w' := by
  refine (nodes_any h (ringL_srt M) (ringL_len M)).mono ?_
  rintro e w' ⟨v', rfl, ho, hb⟩
  rw [nlist_ring] at ho
  exact ⟨v', rfl, ho.rd, hb⟩
theorem ri_len {w : World} {v : Value} {M : List Int} (h : Ri w v M) : Calls Tryd.prog 16 #[v] w fun e w' => e = .returned (it ((16 * (ndL M).length : Nat) : Int)) ∧ w' = w := by
  have := len_any h
  rw [ringL_length] at this
  exact this
theorem nx_len (s : ByteArray) (M : List Int) : (nx s M).length = (ndL M).length := (nx_perm s M).length_eq
theorem nx_le (s : ByteArray) (M : List Int) : (nx s M).length ≤ 64 := nds_le _ M
theorem nx_mem (s : ByteArray) (M : List Int) (n : Fin 64) : n ∈ nx s M ↔ (n.val : Int) ∈ M := (nx_perm s M).mem_iff.trans (mem_ndL M n)
theorem ndL_nil : ndL [] = [] := by decide
theorem ndL_five : ndL [5] = [5] := by decide
theorem ndL_three : ndL [3, 1, 3] = [1, 3] := by decide
theorem ow_nil (s : ByteArray) : ow s [] = none := by
  have := nx_perm s []
  rw [ndL_nil] at this
  rw [ow_head, List.Perm.eq_nil this]
  rfl
theorem ow_five (s : ByteArray) : ow s [5] = some 5 := by
  have := nx_perm s [5]
  rw [ndL_five] at this
  rw [ow_head, List.perm_singleton.1 this]
  rfl
set_option maxRecDepth 100000 in
set_option maxHeartbeats 1600000 in
theorem awake_any {w : World} (hT : Tab w) : Calls Tryd.prog 7 #[] w fun e w' => e = .returned (.bool true) ∧ Below w.heap.size w w' := by
  have HT := Lib.hid hT
  clear hT
  go_enter Tryd.func7, Tryd.ntmps7
  go_wp2_with fail
  refine (ri_new (M := [5]) (HT.out.below (one_new _ _)) (rd_arr (M := [5]) (Ce.new _ 3 _) (by decide)) (by decide)).mono ?_
  rintro e w1 ⟨p1, rfl, hr1, hb1⟩
  have hb1 : Below w.heap.size w w1 := (one_new _ _).trans (hb1.mono (one_new _ _).size)
  have HO := Lib.hid (ri_owner (HT.out.below hb1) hr1 (ByteArray.mk #[97, 110, 121, 116, 104, 105, 110, 103]) (by decide))
  rw [ow_five] at HO
  have HB1 := Lib.hid hb1
  clear hr1 hb1
  go_wp2_with fail
  refine HO.out.mono ?_
  rintro e w2 ⟨rfl, hb2⟩
  have HB2 := Lib.hid (HB1.out.trans (hb2.mono HB1.out.size))
  clear hb2
  go_wp2_with fail
  refine (ri_new (M := [3, 1, 3]) ((HT.out.below HB2.out).below (one_new _ _)) (rd_arr (M := [3, 1, 3]) (Ce.new _ 3 _) (by decide)) (by decide)).mono ?_
  rintro e w3 ⟨p3, rfl, hr3, hb3⟩
  have HB3 := Lib.hid (HB2.out.trans ((one_new w2 _).trans (hb3.mono (one_new w2 _).size) |>.mono HB2.out.size))
  have HR3 := Lib.hid hr3
  have HN := Lib.hid (ri_nodes hr3)
  rw [ndL_three] at HN
  clear hr3 hb3
  go_wp2_with fail
  refine HN.out.mono ?_
  rintro e w4 ⟨v4, rfl, hr4, hb4⟩
  have HB4 := Lib.hid (HB3.out.trans (hb4.mono HB3.out.size))
  have HR4 := Lib.hid (HR3.out.below hb4)
  obtain ⟨a, cap, rfl, _, _⟩ := hr4.shape
  obtain ⟨g, o, rfl, hg, c0⟩ := rdx_at hr4 (i := 0) (x := 1) rfl
  obtain ⟨g', o', e', _, c1⟩ := rdx_at hr4 (i := 1) (x := 3) rfl
  cases e'
  have C0 := Lib.hid c0
  have C1 := Lib.hid c1
  have HG := Lib.hid hg
  clear c0 c1 hg hb4 hr4
  go_wp2_with fail
  refine (ri_new (M := []) (HT.out.below HB4.out) (RdX.nil _) (by decide)).mono ?_
  rintro e w5 ⟨p5, rfl, hr5, hb5⟩
  have HB5 := Lib.hid (HB4.out.trans (hb5.mono HB4.out.size))
  have HR5 := Lib.hid (HR4.out.below hb5)
  have HO5 := Lib.hid (ri_owner (HT.out.below HB5.out) hr5 (ByteArray.mk #[97]) (by decide))
  rw [ow_nil] at HO5
  have D0 := Lib.hid ((hb5.cell (p := ⟨g, o + 0, none⟩) HG.out).trans C0.out)
  have D1 := Lib.hid ((hb5.cell (p := ⟨g, o + 1, none⟩) HG.out).trans C1.out)
  have HG5 := Lib.hid (Nat.lt_of_lt_of_le HG.out hb5.size)
  clear hr5 hb5 C0 C1 HG
  go_wp2_with fail
  refine HO5.out.mono ?_
  rintro e w6 ⟨rfl, hb6⟩
  have HB6 := Lib.hid (HB5.out.trans (hb6.mono HB5.out.size))
  have HL := Lib.hid (ri_len (HR5.out.below hb6))
  rw [ndL_three] at HL
  have c0 : w6.cell? ⟨g, o, none⟩ = some (it 1) := (hb6.cell (p := ⟨g, o + 0, none⟩) HG5.out).trans D0.out
  have c1 := (hb6.cell (p := ⟨g, o + 1, none⟩) HG5.out).trans D1.out
  clear hb6
  go_wp2_with fail
  refine HL.out.mono ?_
  rintro e w7 ⟨rfl, rfl⟩
  go_wp2
  go_ret
  exact ⟨rfl, HB6.out⟩
end Go.Proofs.YtomghpielgkigaaDoor

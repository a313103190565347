/-
  What all and Record answer: the records of texts, one behind the other.
-/
import Derived.Test.YtpiiknbjllgaoaaWLists
namespace Go.Proofs.Ytpiiknbjllgaoaa
open Go.RowKit
theorem rcs_snoc (L : List Bs) (k : Nat) (s : Bs) (h : L[k]? = some s) : rcsB (L.take (k + 1)) = rcsB (L.take k) ++ rcB s := by
  obtain ⟨a1, b1⟩ := List.getElem?_eq_some_iff.1 h
  rw [List.take_succ_eq_append_getElem a1, rcs_append, b1]
  simp only [rcsB, List.append_nil]
theorem rcs_bound (L : List Bs) (h : Fit L) : (rcsB L).length ≤ 60008 * L.length := by
  induction L with
  | nil => exact Nat.le_refl _
  | cons s L ih =>
    have := ih h.tail
    have := h s (by simp)
    simp only [rcsB, List.length_append, rcB_length, List.length_cons]
    omega
/-- What all answers. -/
def allE (L : List Bs) : Int := if ∀ s ∈ L, s.length ≤ 60000 then 0 else 11
def allB (L : List Bs) : Bs := if ∀ s ∈ L, s.length ≤ 60000 then rcsB L else []
theorem all_fit {L : List Bs} (h : Fit L) : allE L = 0 ∧ allB L = rcsB L := by
  unfold allE allB; exact ⟨if_pos h, if_pos h⟩
theorem all_not {L : List Bs} (h : ¬ Fit L) : allE L = 11 ∧ allB L = [] := by
  unfold allE allB; exact ⟨if_neg h, if_neg h⟩
/-- One's own bytes: they lie as they lay, but for memory that is new. -/
theorem row_step {w w1 w2 : World} {v v' : Value} (hg : w1.grownBy w2 v.ownBlock) (hloc : v'.ownBlock = v.ownBlock ∨ v'.ownBlock = some w1.heap.size)
    (hb : Below w.heap.size w w1) (ho : ∀ j, v.ownBlock = some j → w.heap.size ≤ j) : Below w.heap.size w w2 ∧ ∀ j, v'.ownBlock = some j → w.heap.size ≤ j := by
  refine ⟨hb.grown hg hb.size ho, fun j hj => ?_⟩
  rcases hloc with e | e
  · exact ho j (by rw [← e]; exact hj)
  · rw [e] at hj; cases hj; exact hb.size
theorem row_below {w w' : World} {v : Value} {R : Bs} (h : Row w v R) (hb : Below w.heap.size w w') : Row w' v R := h.tr (S := fun _ => False) (Tr.of_below hb) (fun _ _ h => h)
set_option maxRecDepth 100000 in
set_option maxHeartbeats 12800000 in
theorem all_any {w : World} {v : Value} {L : List Bs} (hv : RdB w v L) (hl : L.length ≤ 1000) (hs : ∀ s ∈ L, s.length ≤ 1000000) :
    Calls Try.prog 30 #[v] w fun e w' => e = .returned (.tuple #[str (allB L), .int .i64 (allE L)]) ∧ Below w.heap.size w w' := by
  obtain ⟨a, ca, rfl, ha1, ha2, ha3⟩ := hv.cells
  rw [ab_length] at ha1 ⊢
  have HA : Hid (∀ w', Below w.heap.size w w' → ∀ k s, L[k]? = some s → ∃ g o, a = some ⟨g, o, none⟩ ∧ w'.cell? ⟨g, o + k, none⟩ = some (str s)) := Lib.hid (fun w' hb k s hk => ha3 w' hb k _ (by unfold ab; rw [List.getElem?_map, hk]; rfl))
  have HSZ := Lib.hid hs
  obtain ⟨n, hn⟩ : ∃ n, n = L.length := ⟨_, rfl⟩
  have HN := Lib.hid hn
  rw [← hn] at ha1 hl ⊢
  clear hv ha3 hn hs
  go_enter Try.func30, Try.ntmps30
  go_wp2
  go_loopw [4, 6, 7, 10] (fun u _s _l i wr => ∃ k : Nat, k ≤ n ∧ i = .int .i64 (k : Int) ∧ Row wr u (rcsB (L.take k)) ∧ (∀ j, u.ownBlock = some j → w.heap.size ≤ j) ∧ Fit (L.take k) ∧ Below w.heap.size w wr) (fun _ _ _ i _ => n - (intOf i).toNat)
  case atStart => exact ⟨0, by omega, rfl, .inl ⟨rfl, rfl⟩, fun j hj => by simp [Value.ownBlock] at hj, fun s hs => by simp at hs, Below.refl _ _⟩
  case round =>
    obtain ⟨k, hk, rfl, hrow, hown, hfit, hbr⟩ := hrel
    have HR := Lib.hid hrow
    have HO := Lib.hid hown
    have HF := Lib.hid hfit
    have HBR := Lib.hid hbr
    have hRl : (rcsB (L.take k)).length ≤ 60008000 := by
      have := rcs_bound _ hfit
      rw [List.length_take] at this
      omega
    clear hrow hown hfit hbr
    by_cases hlt : k < n
    · have q : (k : Int) < (n : Int) := by omega
      obtain ⟨s, hs⟩ : ∃ s, L[k]? = some s := ⟨_, List.getElem?_eq_getElem (by rw [← HN.out]; exact hlt)⟩
      obtain ⟨g, o, rfl, c1⟩ := HA.out wr HBR.out k s hs
      have hsm : s.length ≤ 1000000 := HSZ.out s (List.mem_of_getElem? hs)
      have hsz : (⟨s.toArray⟩ : ByteArray).size = s.length := ba_size s
      by_cases hb : 60000 < s.length
      · have HNF : Hid (¬ Fit L) := Lib.hid (fun h => by have := h s (List.mem_of_getElem? hs); omega)
        obtain ⟨m, hm⟩ : ∃ m, m = s.length := ⟨_, rfl⟩
        rw [← hm] at hsz hb hsm
        have q1 : (60000 : Int) < (m : Int) := by omega
        clear hs hm
        go_wp2
        go_ret2
        rw [(all_not HNF.out).1, (all_not HNF.out).2]
        exact ⟨rfl, HBR.out⟩
      · have HT := Lib.hid (rcs_snoc L k s hs)
        have HFT : Hid (Fit (L.take (k + 1))) := Lib.hid (fun x hx => by
          obtain ⟨a1, b1⟩ := List.getElem?_eq_some_iff.1 hs
          rw [List.take_succ_eq_append_getElem a1, b1] at hx
          rcases List.mem_append.1 hx with hx | hx
          · exact HF.out x hx
          · simp at hx; subst hx; omega)
        obtain ⟨R, hR⟩ : ∃ R, R = rcsB (L.take k) := ⟨_, rfl⟩
        rw [← hR] at HR HT hRl
        obtain ⟨F, hFF⟩ : ∃ F, F = fourB s.length := ⟨_, rfl⟩
        have hFl : F.length = 4 := by rw [hFF]; rfl
        have H1 : ∀ w, Hid (Calls Try.prog 51 #[.int .u32 (s.length : Int)] w fun e w' => e = .returned (str F) ∧ Below w.heap.size w w') := fun w => Lib.hid (by rw [hFF]; exact bytesOf_any s.length (by omega) w)
        have H2 : ∀ w, Hid (Calls Try.prog 52 #[.slice (some ⟨w.heap.size, 0, none⟩) 2 2] (w.alloc (.cells #[str F, str s] 9)) fun e w' => e = .returned (.int .u32 (cs (F ++ s) : Nat)) ∧ Below w.heap.size w w') := fun w =>
          Lib.hid (of_two ⟨F.toArray⟩ ⟨s.toArray⟩ (by rw [ba_size]; omega) (by rw [ba_size]; omega) w)
        obtain ⟨C, hC⟩ : ∃ C, C = cs (F ++ s) := ⟨_, rfl⟩
        obtain ⟨G, hG⟩ : ∃ G, G = fourB C := ⟨_, rfl⟩
        have hGl : G.length = 4 := by rw [hG]; rfl
        have H3 : ∀ w, Hid (Calls Try.prog 51 #[.int .u32 (C : Int)] w fun e w' => e = .returned (str G) ∧ Below w.heap.size w w') := fun w => Lib.hid (by rw [hG]; exact bytesOf_any C (by rw [hC]; exact cs_lt _) w)
        have HRC : Hid (rcB s = F ++ (G ++ s)) := Lib.hid (by unfold rcB; rw [hG, hC, hFF])
        rw [← hC] at H2
        have q1 : decide ((60000 : Int) < (s.length : Int)) = false := by simp; omega
        have hmod : (s.length : Int) % 4294967296 = s.length := by omega
        have hszF : (⟨F.toArray⟩ : ByteArray).size = 4 := by rw [ba_size, hFl]
        have hszG : (⟨G.toArray⟩ : ByteArray).size = 4 := by rw [ba_size, hGl]
        have hsl : s.length ≤ 60000 := by omega
        clear hs hR hFF hC hG hFl hGl hb
        go_wp2_with fail
        refine (H1 _).out.mono ?_
        rintro e w1 ⟨rfl, hb1⟩
        have HB1 := Lib.hid (HBR.out.trans (hb1.mono HBR.out.size))
        have HR1 := Lib.hid (row_below HR.out hb1)
        clear hb1
        go_wp2_with (at_builtin; refine wpList_app _ rfl (.tmp 21) (.tmp 22) rfl rfl _ R rfl HR1.out ⟨F.toArray⟩ rfl (by rw [hszF]; omega) ?_)
        intro v2 w2 hrow2 hg2 hloc2
        obtain ⟨hb2, ho2⟩ := row_step hg2 hloc2 HB1.out HO.out
        obtain ⟨R2, hR2⟩ : ∃ R2, R2 = R ++ (⟨F.toArray⟩ : ByteArray).data.toList := ⟨_, rfl⟩
        rw [← hR2] at hrow2
        obtain ⟨a2, cap2, rfl, _, _⟩ := hrow2.shape
        have HE2 := Lib.hid hR2
        have HR2 := Lib.hid hrow2
        have HB2 := Lib.hid hb2
        have HO2 := Lib.hid ho2
        have hl2 : R2.length = R.length + 4 := by rw [hR2, List.length_append, ← size_list, hszF]
        rw [hl2] at HR2 HO2
        rw [hl2]
        clear hrow2 hg2 hloc2 hb2 ho2 hR2
        go_wp2_with fail
        refine (H2 _).out.mono ?_
        rintro e w3 ⟨rfl, hb3⟩
        have HB3 := Lib.hid (HB2.out.trans (hb3.mono HB2.out.size))
        have HR3 := Lib.hid (row_below HR2.out hb3)
        clear hb3 HR2 HB2
        go_wp2_with fail
        refine (H3 _).out.mono ?_
        rintro e w4 ⟨rfl, hb4⟩
        have HB4 := Lib.hid (HB3.out.trans (hb4.mono HB3.out.size))
        have HR4 := Lib.hid (row_below HR3.out hb4)
        clear hb4 HR3 HB3
        go_wp2_with (at_builtin; refine wpList_app _ rfl (.tmp 24) (.tmp 29) rfl rfl _ _ rfl HR4.out ⟨G.toArray⟩ rfl (by rw [hl2, hszG]; omega) ?_)
        intro v5 w5 hrow5 hg5 hloc5
        obtain ⟨hb5, ho5⟩ := row_step hg5 hloc5 HB4.out HO2.out
        obtain ⟨R5, hR5⟩ : ∃ R5, R5 = R2 ++ (⟨G.toArray⟩ : ByteArray).data.toList := ⟨_, rfl⟩
        rw [← hR5] at hrow5
        obtain ⟨a5, cap5, rfl, _, _⟩ := hrow5.shape
        have HE5 := Lib.hid hR5
        have HR5 := Lib.hid hrow5
        have HB5 := Lib.hid hb5
        have HO5 := Lib.hid ho5
        have hl5 : R5.length = R.length + 8 := by rw [hR5, List.length_append, hl2, ← size_list, hszG]
        rw [hl5] at HR5 HO5
        rw [hl5]
        clear hrow5 hg5 hloc5 hb5 ho5 HR4 HB4 hR5
        go_wp2_with (at_builtin; refine wpList_app _ rfl (.tmp 31) (.tmp 32) rfl rfl _ _ rfl HR5.out ⟨s.toArray⟩ rfl (by rw [hl5, hsz]; omega) ?_)
        intro v6 w6 hrow6 hg6 hloc6
        obtain ⟨hb6, ho6⟩ := row_step hg6 hloc6 HB5.out HO5.out
        have e6 : R5 ++ (⟨s.toArray⟩ : ByteArray).data.toList = rcsB (L.take (k + 1)) := by
          rw [HT.out, HRC.out, HE5.out, HE2.out]; simp
        rw [e6] at hrow6
        have HR6 := Lib.hid hrow6
        have HB6 := Lib.hid hb6
        have HO6 := Lib.hid ho6
        clear hrow6 hg6 hloc6 hb6 ho6 hl2 hl5 e6
        go_wp2
        go_roundw
        case rel => exact ⟨k + 1, by omega, by go_num, HR6.out, HO6.out, HFT.out, HB6.out⟩
        case measure => simp [intOf]; omega
    · have q : decide ((k : Int) < (n : Int)) = false := by simp; omega
      have hkn : k = n := by omega
      have e : L.take k = L := List.take_of_length_le (by rw [← HN.out]; omega)
      rw [e] at HR HF
      have hcv := conv_row HR.out
      have HE1 := Lib.hid (all_fit HF.out)
      obtain ⟨a6, cap6, rfl, _, _⟩ := HR.out.shape
      clear e hRl
      go_wp2
      go_ret2
      rw [HE1.out.1, HE1.out.2]
      exact ⟨rfl, HBR.out⟩
theorem rdb_one (w : World) (s : Bs) : RdB (w.alloc (.cells #[str s] 9)) (.slice (some ⟨w.heap.size, 0, none⟩) 1 1) [s] := by
  refine ⟨_, 1, rfl, Nat.le_refl _, by decide, .inr ⟨w.heap.size, 0, rfl, fun i x hx => ?_⟩⟩
  rcases i with _ | i
  · have e : x = ⟨s.toArray⟩ := by simpa [ab] using hx.symm
    rw [e]; simp
  · simp [ab] at hx
set_option maxRecDepth 100000 in
set_option maxHeartbeats 1600000 in
theorem record_any (s : Bs) (hs : s.length ≤ 1000000) (w : World) :
    Calls Try.prog 11 #[str s] w fun e w' => e = .returned (.tuple #[str (allB [s]), .int .i64 (allE [s])]) ∧ Below w.heap.size w w' := by
  have HA := Lib.hid (all_any (rdb_one w s) (by simp) (fun x hx => by simp at hx; subst hx; exact hs))
  have HB := Lib.hid ((Below.refl w.heap.size w).alloc (Nat.le_refl _) (.cells #[str s] 9))
  obtain ⟨A, hA⟩ : ∃ A, A = allB [s] := ⟨_, rfl⟩
  obtain ⟨E, hE⟩ : ∃ E, E = allE [s] := ⟨_, rfl⟩
  rw [← hA, ← hE] at HA ⊢
  clear hA hE
  go_enter Try.func11, Try.ntmps11
  go_wp2_with fail
  refine HA.out.mono ?_
  rintro e w1 ⟨rfl, hb⟩
  have HB1 := Lib.hid (HB.out.trans (hb.mono HB.out.size))
  clear hb
  go_wp2
  go_ret2
  exact ⟨rfl, HB1.out⟩
end Go.Proofs.Ytpiiknbjllgaoaa

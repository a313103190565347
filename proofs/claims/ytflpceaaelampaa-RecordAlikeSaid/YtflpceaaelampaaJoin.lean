/-
  How parts are put together again, and whether data are texts behind their lengths; for every text. No older memory is changed.
-/
import Derived.Test.YtflpceaaelampaaSplit
namespace Go.Proofs.Ytflpceaaelampaa
open Go.RowKit
theorem joinP_take (ps : List Part) (k : Nat) (p : Part) (h : ps[k]? = some p) : joinP (ps.take (k + 1)) = joinP (ps.take k) ++ p.2 := by
  obtain ⟨hk, e⟩ := List.getElem?_eq_some_iff.1 h
  rw [List.take_succ_eq_append_getElem hk, e, joinP_snoc]
theorem joinP_take_le (ps : List Part) (k : Nat) : (joinP (ps.take k)).length ≤ (joinP ps).length := by
  have : joinP ps = joinP (ps.take k) ++ joinP (ps.drop k) := by
    unfold joinP; rw [← List.flatMap_append, List.take_append_drop]
  rw [this, List.length_append]; omega
set_option maxRecDepth 100000 in
set_option maxHeartbeats 3200000 in
theorem join_any (ps : List Part) (v : Value) (base : Nat) (w : World) (h : Pts w base v ps) (hn : ps.length ≤ 1000) (hl : (joinP ps).length ≤ 1000000000) :
    Calls Try.prog 43 #[v] w fun e w' => e = .returned (str (joinP ps)) ∧ Below w.heap.size w w' := by
  obtain ⟨a, cap, rfl⟩ := row_slice h
  obtain ⟨m, hm⟩ : ∃ m, m = ps.length := ⟨_, rfl⟩
  unfold Pts at h
  rw [← hm] at h hn ⊢
  have HR := Lib.hid h
  have HM := Lib.hid hm
  have HL := Lib.hid hl
  have hmi : (m : Int) ≤ 1000 := by omega
  clear h hm hl
  go_enter Try.func43, Try.ntmps43
  go_wp2
  go_loopw [3, 8] (fun d i wr => ∃ k : Nat, k ≤ m ∧ i = .int .i64 k ∧ d = str (joinP (ps.take k)) ∧ Below w.heap.size w wr) (fun _ i _ => m - (intOf i).toNat)
  case atStart => exact ⟨0, by omega, rfl, rfl, Below.refl _ _⟩
  case round =>
    obtain ⟨k, hk, rfl, rfl, hb⟩ := hrel
    by_cases hlt : k < m
    · have q1 : (k : Int) < (m : Int) := by omega
      obtain ⟨p, hp⟩ : ∃ p, ps[k]? = some p := ⟨_, List.getElem?_eq_getElem (by rw [← HM.out]; exact hlt)⟩
      obtain ⟨g, rfl, hg, hc⟩ := row_at HR.out (by omega)
      obtain ⟨z1, z2⟩ := pc_get ps k p hp
      have d0 := (hb.cell (p := ⟨g, k * 2, none⟩) hg).trans (hc _ _ z1)
      have d1 := (hb.cell (p := ⟨g, k * 2 + 1, none⟩) hg).trans (hc _ _ z2)
      have hj := joinP_take ps k p hp
      have hle := joinP_take_le ps (k + 1)
      rw [hj] at hle
      generalize joinP (ps.take k) = J at hj hle ⊢
      obtain ⟨b, x⟩ := p
      have hadd : ∀ w, (Op.stringOp .add ⟨J.toArray⟩ ⟨x.toArray⟩).run Try.prog w = .ok (str (J ++ x)) w := fun w => by
        rw [run_string_add_sum w _ _ (by have := HL.out; rw [List.length_append] at hle; show J.length + x.length ≤ _; simp only at hle; omega), cat]
      have HJ := Lib.hid hj
      clear z1 z2 hc hp hj hle
      go_wp2
      go_roundw
      case rel => exact ⟨k + 1, by omega, by go_num, by rw [HJ.out], hb.alloc hb.size _⟩
      case measure => simp [intOf]; omega
    · have q1 : decide ((k : Int) < (m : Int)) = false := by simp; omega
      have e : ps.take k = ps := List.take_of_length_le (by rw [← HM.out]; omega)
      rw [e]
      go_wp2
      go_ret
      exact ⟨rfl, hb⟩
theorem piS_le (s : Bs) (a z : Int) : (piS s a z).length ≤ s.length := by
  unfold piS; split
  · simp; omega
  · simp
theorem rd1_len (s : Bs) (a z : Int) : (rd1 s a z).1.length ≤ s.length + 255 := by
  unfold rd1; split
  · have := nmI_len s a; show (nmI s a).1.length ≤ _; omega
  · have := piS_le s a z; show (piS s a z).length ≤ _; omega
theorem rdP_len (s : Bs) : ∀ (zs : List Int) (a : Int), (rdP s zs a).1.length ≤ zs.length ∧ (joinP (rdP s zs a).1).length ≤ zs.length * (s.length + 255) := by
  intro zs
  induction zs with
  | nil => intro a; simp [rdP, joinP]
  | cons z zs ih =>
    intro a
    simp only [rdP]
    have h1 := rd1_len s a z
    have h2 := ih (rd1 s a z).2.1
    split
    · split
      · simp only [joinP, List.flatMap_cons, List.length_append, List.length_cons]
        simp only [joinP] at h2
        rw [Nat.add_mul]
        omega
      · simp [joinP]
    · simp [joinP]
theorem lay_len (t n : Nat) : (lay t n).length ≤ 3 := by unfold lay; split <;> (try split) <;> (try split) <;> simp
theorem spl_len (t : Nat) (d : Bs) : (spl t d).1.length ≤ 3 ∧ (joinP (spl t d).1).length ≤ 3 * (d.length + 255) := by
  unfold spl
  have h1 := rdP_len d (lay t d.length) 0
  have h2 := lay_len t d.length
  refine ⟨by omega, Nat.le_trans h1.2 (Nat.mul_le_mul_right _ h2)⟩
theorem ret_b {a b : Bool} (h : a = b) : Ending.returned (.bool a) = .returned (.bool b) := by rw [h]
set_option maxRecDepth 100000 in
set_option maxHeartbeats 1600000 in
theorem areTexts_any (s : ByteArray) (hs : s.size ≤ 1000000) (w : World) :
    Calls Try.prog 60 #[.string s] w fun e w' => e = .returned (.bool (txt s.data.toList)) ∧ w = w' := by
  have HS := Lib.hid (size_list s)
  have hsi : (s.size : Int) ≤ 1000000 := by omega
  go_enter Try.func60, Try.ntmps60
  go_wp2
  go_loopw [3] (fun i wr => ∃ p : Nat, p ≤ s.size + 256 ∧ i = .int .i64 p ∧ jT s.data.toList 0 = jT s.data.toList p ∧ w = wr) (fun i _ => s.size - (intOf i).toNat)
  case atStart => exact ⟨0, by omega, rfl, rfl, rfl⟩
  case round =>
    obtain ⟨p, hp, rfl, hj, rfl⟩ := hrel
    by_cases hlt : p < s.size
    · have q1 : (p : Int) < (s.size : Int) := by omega
      rw [jT_go (p := p) (by rw [← HS.out]; exact hlt), ← get_at s p hlt] at hj
      obtain ⟨c, hc⟩ : ∃ c, s[p].toNat = c := ⟨_, rfl⟩
      have hcb : (c : Int) < 256 := by have := s[p].toNat_lt; omega
      rw [hc] at hj
      have HJ := Lib.hid hj
      clear hj
      go_wp2
      go_roundw
      case rel => exact ⟨p + 1 + c, by omega, by go_num, HJ.out, trivial⟩
      case measure => simp [intOf]; omega
    · have q1 : decide ((p : Int) < (s.size : Int)) = false := by simp; omega
      rw [jT_stop (p := p) (by rw [← HS.out]; exact hlt)] at hj
      have HJ := Lib.hid hj
      have E : Hid (txt s.data.toList = decide (0 < p ∧ p = s.size)) := Lib.hid (by unfold txt; rw [HJ.out, ← HS.out])
      clear hj
      by_cases g1 : 0 < p
      · have q2 : (0 : Int) < (p : Int) := by omega
        by_cases g2 : p = s.size
        · have q3 : ((p : Int) == (s.size : Int)) = true := by simp; omega
          have R : Hid (true = decide (0 < p ∧ p = s.size)) := Lib.hid (by simp [← g2, g1])
          clear g2
          go_wp2
          go_ret
          exact ⟨ret_b (R.out.trans E.out.symm), rfl⟩
        · have q3 : ((p : Int) == (s.size : Int)) = false := by simp; omega
          have R : Hid (false = decide (0 < p ∧ p = s.size)) := Lib.hid (by simp [g2])
          clear g2
          go_wp2
          go_ret
          exact ⟨ret_b (R.out.trans E.out.symm), rfl⟩
      · have q2 : decide ((0 : Int) < (p : Int)) = false := by simp; omega
        have R : Hid (false = decide (0 < p ∧ p = s.size)) := Lib.hid (by simp [g1])
        go_wp2
        go_ret
        exact ⟨ret_b (R.out.trans E.out.symm), rfl⟩
set_option maxRecDepth 100000 in
set_option maxHeartbeats 3200000 in
theorem valid_any (t : Nat) (ht : t < 65536) (s : ByteArray) (hs : s.size ≤ 1000000) (w : World) :
    Calls Try.prog 37 #[.int .u16 (t : Int), .string s] w fun e w' => e = .returned (.bool (vld t s.data.toList)) ∧ Below w.heap.size w w' := by
  have hsl := size_list s
  by_cases g1 : t = 1
  · subst g1
    have E : vld 1 s.data.toList = decide (s.size = 4) := by rw [hsl]; rfl
    rw [E]
    by_cases g : s.size = 4
    · have q : ((s.size : Int) == 4) = true := by simp; omega
      have R : Hid (true = decide (s.size = 4)) := Lib.hid (by simp [g])
      clear g E hsl
      go_enter Try.func37, Try.ntmps37
      go_wp2
      go_ret
      exact ⟨ret_b R.out, Below.refl _ _⟩
    · have q : ((s.size : Int) == 4) = false := by simp; omega
      have R : Hid (false = decide (s.size = 4)) := Lib.hid (by simp [g])
      clear g E hsl
      go_enter Try.func37, Try.ntmps37
      go_wp2
      go_ret
      exact ⟨ret_b R.out, Below.refl _ _⟩
  · have q1 : ((t : Int) == 1) = false := by simp; omega
    by_cases g2 : t = 28
    · subst g2
      have E : vld 28 s.data.toList = decide (s.size = 16) := by rw [hsl]; rfl
      rw [E]
      by_cases g : s.size = 16
      · have q : ((s.size : Int) == 16) = true := by simp; omega
        have R : Hid (true = decide (s.size = 16)) := Lib.hid (by simp [g])
        clear g E hsl
        go_enter Try.func37, Try.ntmps37
        go_wp2
        go_ret
        exact ⟨ret_b R.out, Below.refl _ _⟩
      · have q : ((s.size : Int) == 16) = false := by simp; omega
        have R : Hid (false = decide (s.size = 16)) := Lib.hid (by simp [g])
        clear g E hsl
        go_enter Try.func37, Try.ntmps37
        go_wp2
        go_ret
        exact ⟨ret_b R.out, Below.refl _ _⟩
    · have q2 : ((t : Int) == 28) = false := by simp; omega
      by_cases g3 : t = 16
      · subst g3
        have E : vld 16 s.data.toList = txt s.data.toList := rfl
        rw [E]
        have HC := Lib.hid (areTexts_any s hs w)
        clear E hsl
        go_enter Try.func37, Try.ntmps37
        go_wp2_with fail
        refine HC.out.mono ?_
        rintro e w1 ⟨rfl, rfl⟩
        go_wp2
        go_ret
        exact ⟨rfl, Below.refl _ _⟩
      · have q3 : ((t : Int) == 16) = false := by simp; omega
        have E := vld_spl (d := s.data.toList) g1 g2 g3
        have C := split_any t ht s (by omega) w
        have hln := spl_len t s.data.toList
        generalize spl t s.data.toList = R at E C hln
        obtain ⟨ps, p, e⟩ := R
        rw [← hsl] at hln
        have hn1 : ps.length ≤ 1000 := Nat.le_trans hln.1 (by omega)
        have hn2 : (joinP ps).length ≤ 1000000000 := Nat.le_trans hln.2 (by omega)
        have HC := Lib.hid C
        have HE := Lib.hid E
        have HSE : Hid ((⟨(joinP ps).toArray⟩ : ByteArray).data.toList = joinP ps) := Lib.hid rfl
        clear C E hln hsl g1 g2 g3
        by_cases he : e = 0
        · subst he
          have HJ := Lib.hid (fun w base v h => join_any ps v base w h hn1 hn2)
          generalize joinP ps = J at HE HJ HSE
          obtain ⟨K, hK⟩ : ∃ K : ByteArray, K = ⟨J.toArray⟩ := ⟨_, rfl⟩
          have HJ2 : Hid (∀ w base v, Pts w base v ps → Calls Try.prog 43 #[v] w fun e w' => e = .returned (.string K) ∧ Below w.heap.size w w') := Lib.hid (by rw [hK]; exact HJ.out)
          have HKJ : Hid (K.data.toList = J) := Lib.hid (by rw [hK])
          clear HJ HSE hn1 hn2 hK
          by_cases g : J = s.data.toList
          · have q4 : (K.toList == s.toList) = true := by rw [ByteArray.toList_eq, ByteArray.toList_eq, HKJ.out, g]; simp
            have R : Hid (true = vld t s.data.toList) := Lib.hid (by rw [HE.out]; simp [g])
            clear g
            go_enter Try.func37, Try.ntmps37
            go_wp2_with fail
            refine HC.out.mono ?_
            rintro e w1 ⟨v, rfl, hp, hb⟩
            go_wp2_with fail
            refine (HJ2.out _ _ _ hp).mono ?_
            rintro e w2 ⟨rfl, hb2⟩
            go_wp2
            go_ret
            exact ⟨ret_b R.out, hb.trans (hb2.mono hb.size)⟩
          · have q4 : (K.toList == s.toList) = false := by rw [ByteArray.toList_eq, ByteArray.toList_eq, HKJ.out]; simpa using g
            have R : Hid (false = vld t s.data.toList) := Lib.hid (by rw [HE.out]; simp [g])
            clear g
            go_enter Try.func37, Try.ntmps37
            go_wp2_with fail
            refine HC.out.mono ?_
            rintro e w1 ⟨v, rfl, hp, hb⟩
            go_wp2_with fail
            refine (HJ2.out _ _ _ hp).mono ?_
            rintro e w2 ⟨rfl, hb2⟩
            go_wp2
            go_ret
            exact ⟨ret_b R.out, hb.trans (hb2.mono hb.size)⟩
        · have q4 : (e == 0) = false := by simpa using he
          have R : Hid (false = vld t s.data.toList) := Lib.hid (by rw [HE.out]; simp [he])
          clear he
          go_enter Try.func37, Try.ntmps37
          go_wp2_with fail
          refine HC.out.mono ?_
          rintro e w1 ⟨v, rfl, hp, hb⟩
          go_wp2
          go_ret
          exact ⟨ret_b R.out, hb⟩
end Go.Proofs.Ytflpceaaelampaa

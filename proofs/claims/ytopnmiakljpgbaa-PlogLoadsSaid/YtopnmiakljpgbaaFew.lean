/-
  What the laws take of a log: its first entries, with the beginnings of their data.
-/
import Derived.Test.YtopnmiakljpgbaaAwake
namespace Go.Proofs.Ytopnmiakljpgbaa
open Go.RowKit
theorem size_list (s : ByteArray) : s.size = s.data.toList.length := by
  show s.data.size = _; simp
def ctake (s : ByteArray) (n : Nat) : ByteArray := ⟨(s.data.toList.take n).toArray⟩
theorem ctake_all {s : ByteArray} {n : Nat} (h : s.size ≤ n) : ctake s n = s := by
  unfold ctake
  rw [List.take_of_length_le (by rw [← size_list]; exact h)]
theorem ctake_size (s : ByteArray) (n : Nat) : (ctake s n).size = min n s.size := by
  rw [size_list, size_list]
  unfold ctake
  simp
theorem sub_str (s : ByteArray) (i j : Nat) : s.extract i j = ⟨((s.data.toList.take j).drop i).toArray⟩ := by
  apply ByteArray.ext
  apply Array.toList_inj.1
  rw [ByteArray.data_extract, Array.toList_extract]
  simp [List.extract_eq_take_drop, List.drop_take]
theorem pc_to (b : ByteArray) (n : Nat) (hn : n ≤ b.size) (k : IntKind) : ∀ w : World, (Instr.slice 9 (.string b) none (some (.int k (n : Int))) none).run Try.prog w = .ok (.string (ctake b n)) w := fun w => by
  have h := run_slice_string_h (P := Try.prog) w 9 b Try.underlying9 k (n : Int) (by omega) (by omega)
  rw [h, sub_str]
  simp [ctake]
theorem pc_from (b : ByteArray) (n : Nat) (hn : n ≤ b.size) (k : IntKind) : ∀ w : World, (Instr.slice 9 (.string b) (some (.int k (n : Int))) none none).run Try.prog w = .ok (str (b.data.toList.drop n)) w := fun w => by
  have h := run_slice_string_l (P := Try.prog) w 9 b Try.underlying9 k (n : Int) (by omega) (by omega)
  rw [h, sub_str]
  have : b.data.toList.take b.size = b.data.toList := List.take_of_length_le (by simp)
  rw [this]; rfl
/-- An entry with the beginning of its data. -/
def cutE (e : En) : En := ⟨e.term, e.kind, ctake e.data 60⟩
def fewL (L : List En) : List En := (L.take 40).map cutE
theorem fewL_length (L : List En) : (fewL L).length = min 40 L.length := by unfold fewL; simp
theorem rdE_one (w : World) (y : En) : RdE (w.alloc (.cells #[it y.term, it y.kind, .string y.data] 31)) (.slice (some ⟨w.heap.size, 0, none⟩) 1 1) [y] := rdE_new w [y] (by simp)
theorem rdE_two (w : World) (o : Obj) (y : En) : RdE ((w.alloc o).alloc (.cells #[it y.term, it y.kind, .string y.data] 31)) (.slice (some ⟨w.heap.size + 1, 0, none⟩) 1 1) [y] := by
  have h := rdE_one (w.alloc o) y
  rw [alloc_size] at h
  exact h
set_option maxRecDepth 100000 in
set_option maxHeartbeats 3200000 in
theorem few_any {w : World} {v : Value} {L : List En} (hv : RdE w v L) :
    Calls Try.prog 39 #[v] w fun e w' => ∃ v', e = .returned v' ∧ OwnE w' w.heap.size v' (fewL L) ∧ Below w.heap.size w w' := by
  obtain ⟨va, vc, rfl, _⟩ := hv.shape
  have HV := Lib.hid hv
  obtain ⟨n, hn⟩ : ∃ n, n = L.length := ⟨_, rfl⟩
  have HN := Lib.hid hn
  rw [← hn] at HV ⊢
  clear hv hn
  go_enter Try.func39, Try.ntmps39
  go_wp2
  go_loopw [3, 4, 5] (fun ov i _ wr => ∃ k : Nat, k ≤ n ∧ k ≤ 40 ∧ i = it (k : Int) ∧ OwnE wr w.heap.size ov ((L.take k).map cutE) ∧ Below w.heap.size w wr) (fun _ i _ _ => n - (intOf i).toNat)
  case atStart => exact ⟨0, by omega, by omega, rfl, ownE_nil _ _, Below.refl _ _⟩
  case round =>
    obtain ⟨k, hk, hk2, rfl, ho, hbr⟩ := hrel
    by_cases hlt : k < n ∧ k < 40
    · have q : (k : Int) < (n : Int) := by omega
      have q2 : (k : Int) < 40 := by omega
      obtain ⟨x, hx⟩ : ∃ x, L[k]? = some x := ⟨_, List.getElem?_eq_getElem (by have := HN.out; omega)⟩
      obtain ⟨e1, g, o, rfl, hg, c0, c1, c2⟩ := HV.out.at hx
      have c0 := (hbr.cell (p := ⟨g, o + k * 3, none⟩) hg).trans c0
      have c1 := (hbr.cell (p := ⟨g, o + k * 3 + 1, none⟩) hg).trans c1
      have c2 := (hbr.cell (p := ⟨g, o + k * 3 + 2, none⟩) hg).trans c2
      obtain ⟨oa, oc, rfl, _⟩ := ho.rd.shape
      have hlen : ((L.take k).map cutE).length = k := by simp; have := HN.out; omega
      rw [hlen] at ho ⊢
      have HBR := Lib.hid hbr
      have HO := Lib.hid ho
      have HL := Lib.hid hlen
      have HX := Lib.hid hx
      have hend : (L.take k).map cutE ++ [cutE x] = (L.take (k + 1)).map cutE := by rw [take_succ_of hx, List.map_append]; rfl
      obtain ⟨T, hT⟩ : ∃ T, T = (L.take k).map cutE := ⟨_, rfl⟩
      rw [← hT] at HO HL hend
      have HE := Lib.hid hend
      clear e1 hbr ho hx hlen hend hT
      by_cases hd : x.data.size ≤ 60
      · have q3 : decide ((60 : Int) < (x.data.size : Int)) = false := by simp; omega
        have q4 : decide (60 < x.data.size) = false := by simp; omega
        have hy : cutE x = x := by unfold cutE; rw [ctake_all hd]
        have hb1 := one_new wr (.cells #[it x.term, it x.kind, .string x.data] 31)
        have hb2 := one_new (wr.alloc (.cells #[it x.term, it x.kind, .string x.data] 31)) (.cells #[it x.term, it x.kind, .string x.data] 31)
        have HB2 := Lib.hid (HBR.out.trans ((hb1.trans (hb2.mono hb1.size)).mono HBR.out.size))
        have HO2 := Lib.hid ((HO.out.below hb1).below hb2)
        have HR2 := Lib.hid (rdE_two wr (.cells #[it x.term, it x.kind, .string x.data] 31) x)
        rw [hy] at HE
        have HN0 : Hid (T.length + [x].length ≤ 1000000) := Lib.hid (by rw [HL.out]; simp; omega)
        clear hb1 hb2 hy
        go_wp2_with (at_builtin; refine wp_app_own rfl (.tmp 28) (.tmp 30) rfl rfl w.heap.size _ T [x] rfl HO2.out _ rfl HR2.out HN0.out HB2.out.size ?_)
        intro v' w1 ho1 hb1
        rw [HE.out] at ho1
        have HO1 := Lib.hid ho1
        have HB1 := Lib.hid (HB2.out.trans hb1)
        clear ho1 hb1
        go_wp2
        go_roundw
        case rel => exact ⟨k + 1, by omega, by omega, by go_num, HO1.out, HB1.out⟩
        case measure => simp [intOf]; omega
      · have q3 : (60 : Int) < (x.data.size : Int) := by omega
        have q4 : 60 < x.data.size := by omega
        have hy : cutE x = ⟨x.term, x.kind, x.data.extract 0 60⟩ := by unfold cutE; rw [sub_str]; rfl
        have hb1 := one_new wr (.cells #[it x.term, it x.kind, .string (x.data.extract 0 60)] 31)
        have hb2 := one_new (wr.alloc (.cells #[it x.term, it x.kind, .string (x.data.extract 0 60)] 31)) (.cells #[it x.term, it x.kind, .string (x.data.extract 0 60)] 31)
        have HB2 := Lib.hid (HBR.out.trans ((hb1.trans (hb2.mono hb1.size)).mono HBR.out.size))
        have HO2 := Lib.hid ((HO.out.below hb1).below hb2)
        have HR2 := Lib.hid (rdE_two wr (.cells #[it x.term, it x.kind, .string (x.data.extract 0 60)] 31) ⟨x.term, x.kind, x.data.extract 0 60⟩)
        rw [hy] at HE
        have HN0 : Hid (T.length + [(⟨x.term, x.kind, x.data.extract 0 60⟩ : En)].length ≤ 1000000) := Lib.hid (by rw [HL.out]; simp; omega)
        clear hb1 hb2 hy hd
        go_wp2_with (at_builtin; refine wp_app_own rfl (.tmp 28) (.tmp 30) rfl rfl w.heap.size _ T [⟨x.term, x.kind, x.data.extract 0 60⟩] rfl HO2.out _ rfl HR2.out HN0.out HB2.out.size ?_)
        intro v' w1 ho1 hb1
        rw [HE.out] at ho1
        have HO1 := Lib.hid ho1
        have HB1 := Lib.hid (HB2.out.trans hb1)
        clear ho1 hb1
        go_wp2
        go_roundw
        case rel => exact ⟨k + 1, by omega, by omega, by go_num, HO1.out, HB1.out⟩
        case measure => simp [intOf]; omega
    · have HF : Hid ((L.take k).map cutE = fewL L) := Lib.hid (by
        unfold fewL
        rcases (by omega : k = n ∨ k = 40) with rfl | rfl
        · rw [List.take_of_length_le (by have := HN.out; omega), List.take_of_length_le (by have := HN.out; omega)]
        · rfl)
      rw [HF.out] at ho
      have HO := Lib.hid ho
      have HB := Lib.hid hbr
      clear ho hbr
      by_cases h1 : k < n
      · have q1 : (k : Int) < (n : Int) := by omega
        have q2 : decide ((k : Int) < 40) = false := by simp; omega
        go_wp2
        go_ret
        exact ⟨_, rfl, HO.out, HB.out⟩
      · have q1 : decide ((k : Int) < (n : Int)) = false := by simp; omega
        have q3 : decide (k < n) = false := by simp; omega
        go_wp2
        go_ret
        exact ⟨_, rfl, HO.out, HB.out⟩
section
variable {w : World} {base bt : Int} {a : Option Addr} {n cap : Nat} {L : List En}
theorem small_any (h : RdE w (.slice a n cap) L) :
    Calls Try.prog 11 #[lv base bt (.slice a n cap)] w fun e w' => ∃ v', e = .returned (lv base bt v') ∧ OwnE w' w.heap.size v' (fewL L) ∧ Below w.heap.size w w' := by
  have hn := h.len
  subst hn
  have H3 := Lib.hid (three_new w #[it base, it bt, .slice a L.length cap] #[it 0, it 0, .slice none 0 0] #[it base, it bt, .slice none 0 0] 24 24 24)
  have HF := Lib.hid (fun w' (hb : Below w.heap.size w w') => few_any (h.below hb))
  obtain ⟨m, hmm⟩ : ∃ m, m = L.length := ⟨_, rfl⟩
  rw [← hmm] at H3 HF ⊢
  clear h hmm
  go_enter Try.func11, Try.ntmps11
  go_wp2_with fail
  obtain ⟨wA, hwA⟩ : ∃ wA, wA = ((w.alloc (.cells #[it base, it bt, .slice a m cap] 24)).alloc (.cells #[it 0, it 0, .slice none 0 0] 24)).alloc (.cells #[it base, it bt, .slice none 0 0] 24) := ⟨_, rfl⟩
  rw [← hwA] at H3 ⊢
  obtain ⟨a1, a2, a3, a4, a5⟩ := H3.out
  refine (HF.out wA a5).mono ?_
  rintro e w1 ⟨v, rfl, ho, hb1⟩
  obtain ⟨va, vc, rfl, _⟩ := ho.rd.shape
  have HB := Lib.hid (a5.trans (hb1.mono a5.size))
  have HC2 := Lib.hid (a2.below hb1)
  have HC3 := Lib.hid (a3.below hb1)
  obtain ⟨d0, d1, d2⟩ := c3 HC2.out
  obtain ⟨g0, g1, g2⟩ := f3 HC2.out
  obtain ⟨e0, e1, e2⟩ := c3 HC3.out
  obtain ⟨f0, f1, f2⟩ := f3 HC3.out
  have HO := Lib.hid ho
  have HA := Lib.hid a4
  obtain ⟨z, hz⟩ : ∃ z, z = (fewL L).length := ⟨_, rfl⟩
  rw [← hz] at HO ⊢
  clear ho hb1 a1 a2 a3 a4 a5 hwA hz
  go_wp2
  refine bodyPost_ret (resL rfl rfl (set3_ce (HC2.out.other (by omega) _ (i := 2)) _ _ _)) rfl ?_
  exact ⟨_, rfl, ((HO.out.set (by have := HA.out; omega) _).set3 (by have := HA.out; omega) _ _ _).weak (by have := HA.out; omega), set3_below (HB.out.setCell (p := ⟨w.heap.size + 2, 2, none⟩) (by show w.heap.size ≤ w.heap.size + 2; omega) _) (Nat.le_succ _) _ _ _⟩
theorem sound_any (w : World) :
    Calls Try.prog 12 #[lv base bt (.slice a n cap)] w fun e w' => e = .returned (.bool (decide (-1000 ≤ base ∧ base ≤ 1125899906842624))) ∧ Below w.heap.size w w' := by
  by_cases h1 : -1000 ≤ base
  · by_cases h2 : base ≤ 1125899906842624
    · go_enter Try.func12, Try.ntmps12
      go_wp2
      go_ret
      exact ⟨congrArg (fun b => Ending.returned (Value.bool b)) (by simp [h1, h2]), one_new _ _⟩
    · have q : decide (base ≤ 1125899906842624) = false := by simpa using h2
      go_enter Try.func12, Try.ntmps12
      go_wp2
      go_ret
      exact ⟨congrArg (fun b => Ending.returned (Value.bool b)) (by simp), one_new _ _⟩
  · have q : decide (-1000 ≤ base) = false := by simpa using h1
    go_enter Try.func12, Try.ntmps12
    go_wp2
    go_ret
    exact ⟨congrArg (fun b => Ending.returned (Value.bool b)) (by simp), one_new _ _⟩
end
end Go.Proofs.Ytopnmiakljpgbaa

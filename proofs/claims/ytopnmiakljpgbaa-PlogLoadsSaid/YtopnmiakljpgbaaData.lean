/-
  Voters as bytes: Data, the program's and the document's.
-/
import Derived.Test.YtopnmiakljpgbaaOne
namespace Go.Proofs.Ytopnmiakljpgbaa
open Go.RowKit
def lowB (n : Int) : UInt8 := UInt8.ofNat (n % 256).toNat
def dataB (L : List Int) : Bs := L.map lowB
theorem wrap_low (n : Int) : IntKind.u8.wrap n = ((lowB n).toNat : Int) := by
  unfold IntKind.wrap lowB
  simp only [IntKind.bits, IntKind.signed, Bool.false_eq_true, if_false, Bool.false_and]
  have h : (n % 256).toNat < 256 := by omega
  rw [UInt8.toNat_ofNat']
  omega
theorem take_succ_of {α : Type} {L : List α} {k : Nat} {x : α} (h : L[k]? = some x) : L.take (k + 1) = L.take k ++ [x] := by
  obtain ⟨h1, h2⟩ := List.getElem?_eq_some_iff.1 h
  rw [List.take_succ_eq_append_getElem h1, h2]
set_option maxRecDepth 100000 in
set_option maxHeartbeats 1600000 in
theorem data_any {w : World} {v : Value} {L : List Int} (hv : RdN w v L) (hl : L.length ≤ 1000000) :
    Calls Try.prog 29 #[v] w fun e w' => e = .returned (str (dataB L)) ∧ Below w.heap.size w w' := by
  obtain ⟨va, vc, rfl, _⟩ := hv.shape
  have HV := Lib.hid hv
  obtain ⟨n, hn⟩ : ∃ n, n = L.length := ⟨_, rfl⟩
  have HN := Lib.hid hn
  rw [← hn] at HV hl ⊢
  clear hv hn
  go_enter Try.func29, Try.ntmps29
  go_wp2
  go_loopw [3, 5, 8] (fun ov _ i wr => ∃ k : Nat, k ≤ n ∧ i = it (k : Int) ∧ OwnV wr w.heap.size 5 ov (ub (dataB (L.take k))) ∧ Below w.heap.size w wr) (fun _ _ i _ => n - (intOf i).toNat)
  case atStart => exact ⟨0, by omega, rfl, OwnV.nil _ _ _, Below.refl _ _⟩
  case round =>
    obtain ⟨k, hk, rfl, ho, hbr⟩ := hrel
    by_cases hlt : k < n
    · have q : (k : Int) < (n : Int) := by omega
      obtain ⟨x, hx⟩ : ∃ x, L[k]? = some x := ⟨_, List.getElem?_eq_getElem (by have := HN.out; omega)⟩
      obtain ⟨e1, g, o, rfl, hg, c0⟩ := HV.out.at hx
      have c0 := (hbr.cell (p := ⟨g, o + k, none⟩) hg).trans c0
      have hw := wrap_low x
      have HB := Lib.hid hbr
      have hs := HB.out.size
      obtain ⟨oa, oc, rfl, _⟩ := ho.shape
      have hlen : (ub (dataB (L.take k))).length = k := by simp [dataB]; have := HN.out; omega
      rw [hlen] at ho ⊢
      have HO := Lib.hid ho
      have HL := Lib.hid hlen
      have HX := Lib.hid hx
      clear e1 hbr ho hx hlen
      go_wp2_with (at_builtin; refine wp_app_one 75 5 _ 1 Try.underlying75 info5 rfl (by decide) rfl (.tmp 12) (.tmp 15) rfl w.heap.size _ (ub (dataB (L.take k))) rfl HO.out _ rfl rfl (by have := HL.out; omega) hs ?_)
      intro v' w1 ho1 hb1
      have e : ub (dataB (L.take k)) ++ [.int .u8 ((lowB x).toNat : Int)] = ub (dataB (L.take (k + 1))) := by
        rw [take_succ_of HX.out]; simp [dataB]
      rw [e] at ho1
      have HO1 := Lib.hid ho1
      have HB1 := Lib.hid (HB.out.trans hb1)
      clear ho1 hb1 e
      go_wp2
      go_roundw
      case rel => exact ⟨k + 1, by omega, by go_num, HO1.out, HB1.out⟩
      case measure => simp [intOf]; omega
    · have q : decide ((k : Int) < (n : Int)) = false := by simp; omega
      have hkn : L.take k = L := List.take_of_length_le (by have := HN.out; omega)
      rw [hkn] at ho
      have hr := row_back ho
      have HB := Lib.hid hbr
      clear ho hbr
      go_wp2
      go_ret
      exact ⟨rfl, HB.out⟩
set_option maxRecDepth 100000 in
set_option maxHeartbeats 1600000 in
theorem rdata_any {w : World} {v : Value} {L : List Int} (hv : RdN w v L) (hl : L.length ≤ 1000000) :
    Calls Try.prog 30 #[v] w fun e w' => e = .returned (str (dataB L)) ∧ Below w.heap.size w w' := by
  obtain ⟨va, vc, rfl, _⟩ := hv.shape
  have HV := Lib.hid hv
  obtain ⟨n, hn⟩ : ∃ n, n = L.length := ⟨_, rfl⟩
  have HN := Lib.hid hn
  rw [← hn] at HV hl ⊢
  clear hv hn
  go_enter Try.func30, Try.ntmps30
  go_wp2
  go_loopw [3, 4] (fun ov i wr => ∃ k : Nat, k ≤ n ∧ i = it (k : Int) ∧ OwnV wr w.heap.size 5 ov (ub (dataB (L.take k))) ∧ Below w.heap.size w wr) (fun _ i _ => n - (intOf i).toNat)
  case atStart => exact ⟨0, by omega, rfl, OwnV.nil _ _ _, Below.refl _ _⟩
  case round =>
    obtain ⟨k, hk, rfl, ho, hbr⟩ := hrel
    by_cases hlt : k < n
    · have q : (k : Int) < (n : Int) := by omega
      obtain ⟨x, hx⟩ : ∃ x, L[k]? = some x := ⟨_, List.getElem?_eq_getElem (by have := HN.out; omega)⟩
      obtain ⟨e1, g, o, rfl, hg, c0⟩ := HV.out.at hx
      have c0 := (hbr.cell (p := ⟨g, o + k, none⟩) hg).trans c0
      have hw := wrap_low x
      have HB := Lib.hid hbr
      have hs := HB.out.size
      obtain ⟨oa, oc, rfl, _⟩ := ho.shape
      have hlen : (ub (dataB (L.take k))).length = k := by simp [dataB]; have := HN.out; omega
      rw [hlen] at ho ⊢
      have HO := Lib.hid ho
      have HL := Lib.hid hlen
      have HX := Lib.hid hx
      clear e1 hbr ho hx hlen
      go_wp2_with (at_builtin; refine wp_app_one 75 5 _ 1 Try.underlying75 info5 rfl (by decide) rfl (.tmp 11) (.tmp 17) rfl w.heap.size _ (ub (dataB (L.take k))) rfl HO.out _ rfl rfl (by have := HL.out; omega) hs ?_)
      intro v' w1 ho1 hb1
      have e : ub (dataB (L.take k)) ++ [.int .u8 ((lowB x).toNat : Int)] = ub (dataB (L.take (k + 1))) := by
        rw [take_succ_of HX.out]; simp [dataB]
      rw [e] at ho1
      have HO1 := Lib.hid ho1
      have HB1 := Lib.hid (HB.out.trans hb1)
      clear ho1 hb1 e
      go_wp2
      go_roundw
      case rel => exact ⟨k + 1, by omega, by go_num, HO1.out, HB1.out⟩
      case measure => simp [intOf]; omega
    · have q : decide ((k : Int) < (n : Int)) = false := by simp; omega
      have hkn : L.take k = L := List.take_of_length_le (by have := HN.out; omega)
      rw [hkn] at ho
      have hr := row_back ho
      have HB := Lib.hid hbr
      clear ho hbr
      go_wp2
      go_ret
      exact ⟨rfl, HB.out⟩
end Go.Proofs.Ytopnmiakljpgbaa

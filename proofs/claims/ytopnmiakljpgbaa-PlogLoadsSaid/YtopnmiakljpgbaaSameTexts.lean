/-
  Two lists of texts that are the same.
-/
import Derived.Test.YtopnmiakljpgbaaNow
namespace Go.Proofs.Ytopnmiakljpgbaa
open Go.RowKit
theorem OwnV.rdV {w : World} {base : Nat} {e : TypeId} {v : Value} {xs : List Value} (h : OwnV w base e v xs) : RdV w v xs := by
  have hc := @World.ownsRow.cells w base e 1 _ _ _ h
  rcases h.2 with ⟨rfl, h0⟩ | ⟨g, cap, cur, rfl, hbg, hg, hnc, hcm, hcs, htake⟩
  · have hL : xs = [] := List.eq_nil_of_length_eq_zero h0
    subst hL
    exact ⟨none, 0, rfl, Nat.le_refl _, Nat.zero_le _, .inl rfl⟩
  · refine ⟨_, cap, rfl, hnc, hcm, .inr ⟨g, 0, rfl, fun i x hx => ?_⟩⟩
    have := hc (g := g) rfl i x hx
    rw [add_any] at this
    exact this
theorem RdV.below {w w' : World} {v : Value} {L : List Value} (h : RdV w v L) (hb : Below w.heap.size w w') : RdV w' v L := by
  obtain ⟨a, cap, e, h1, h2, h3⟩ := h
  refine ⟨a, cap, e, h1, h2, h3.imp id fun ⟨g, k, e, hc⟩ => ⟨g, k, e, fun i s hs => ?_⟩⟩
  have := hc i s hs
  exact (hb.cell (p := ⟨g, k + i, none⟩) (w.block_lt_of_cell? _ this)).trans this
theorem RdV.at {w : World} {a : Option Addr} {n cap : Nat} {L : List Value} (h : RdV w (.slice a n cap) L) {k : Nat} {x : Value} (hk : L[k]? = some x) :
    n = L.length ∧ ∃ g o, a = some ⟨g, o, none⟩ ∧ g < w.heap.size ∧ w.cell? ⟨g, o + k, none⟩ = some x := by
  obtain ⟨a', cap', he, _, _, h3⟩ := h
  cases he
  rcases h3 with rfl | ⟨g, o, rfl, hc⟩
  · simp at hk
  · exact ⟨rfl, g, o, rfl, w.block_lt_of_cell? _ (hc k x hk), hc k x hk⟩
theorem RdV.shape {w : World} {v : Value} {L : List Value} (h : RdV w v L) : ∃ a cap, v = .slice a L.length cap ∧ L.length ≤ cap ∧ cap ≤ maxLen := let ⟨a, cap, e, h1, h2, _⟩ := h; ⟨a, cap, e, h1, h2⟩
set_option maxRecDepth 100000 in
set_option maxHeartbeats 3200000 in
theorem sameTexts_any {w : World} {v u : Value} {T : List ByteArray} (hv : RdV w v (T.map .string)) (hu : RdV w u (T.map .string)) (hl : T.length ≤ 1000000) :
    Calls Try.prog 34 #[v, u] w fun e w' => e = .returned (.bool true) ∧ Below w.heap.size w w' := by
  obtain ⟨va, vc, rfl, _⟩ := hv.shape
  obtain ⟨ua, uc, rfl, _⟩ := hu.shape
  rw [List.length_map] at hv hu ⊢
  have HV := Lib.hid hv
  have HU := Lib.hid hu
  obtain ⟨n, hn⟩ : ∃ n, n = T.length := ⟨_, rfl⟩
  have HN := Lib.hid hn
  rw [← hn] at HU HV hl ⊢
  clear hv hu hn
  go_enter Try.func34, Try.ntmps34
  go_wp2
  go_loopw [5] (fun i wr => ∃ k : Nat, k ≤ n ∧ i = it (k : Int) ∧ Below w.heap.size w wr) (fun i _ => n - (intOf i).toNat)
  case atStart => exact ⟨0, by omega, rfl, Below.refl _ _⟩
  case round =>
    obtain ⟨k, hk, rfl, hbr⟩ := hrel
    by_cases hlt : k < n
    · have q : (k : Int) < (n : Int) := by omega
      have q2 : decide (k < n) = true := by simp; omega
      obtain ⟨s, hs⟩ : ∃ s, T[k]? = some s := ⟨_, List.getElem?_eq_getElem (by have := HN.out; omega)⟩
      have hs' : (T.map Value.string)[k]? = some (.string s) := by rw [List.getElem?_map, hs]; rfl
      obtain ⟨e1, g, o, rfl, hg, c1⟩ := HV.out.at hs'
      obtain ⟨e2, g2, o2, rfl, hg2, c2⟩ := HU.out.at hs'
      have c1 := (hbr.cell (p := ⟨g, o + k, none⟩) hg).trans c1
      have c2 := (hbr.cell (p := ⟨g2, o2 + k, none⟩) hg2).trans c2
      have HBR := Lib.hid hbr
      clear hbr hs hs' e1 e2
      go_wp2_with fail
      go_quiet (fail)
      go_wp2
      go_roundw
      case rel => exact ⟨k + 1, by omega, by go_num, HBR.out.trans ((below_drewN _ _).mono HBR.out.size)⟩
      case measure => simp [intOf]; omega
    · have q : decide ((k : Int) < (n : Int)) = false := by simp; omega
      have q2 : decide (k < n) = false := by simp; omega
      have HBR := Lib.hid hbr
      clear hbr
      go_wp2
      go_ret
      exact ⟨rfl, HBR.out⟩
end Go.Proofs.Ytopnmiakljpgbaa

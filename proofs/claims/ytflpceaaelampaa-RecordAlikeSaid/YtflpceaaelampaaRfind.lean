/-
  What the document's find answers; nothing is changed.
-/
import Derived.Test.YtflpceaaelampaaRk
namespace Go.Proofs.Ytflpceaaelampaa
open Go.RowKit
theorem row_at {w : World} {base e k size : Nat} {a : Option Addr} {n cap : Nat} {xs : List Value} (h : w.ownsRow base e size (.slice a n cap) k xs) (hk : 0 < k) :
    ∃ g, a = some ⟨g, 0, none⟩ ∧ g < w.heap.size ∧ ∀ j u, xs[j]? = some u → w.cell? ⟨g, j, none⟩ = some u := by
  have hc := @World.ownsRow.cells w base e size _ k xs h
  rcases h.2 with ⟨_, h0⟩ | ⟨g, cap', cur, e', hb, hg, _⟩
  · omega
  · injection e' with e1 e2 e3
    subst e1
    refine ⟨g, rfl, (Array.getElem?_eq_some_iff.1 hg).1, fun j u hj => ?_⟩
    have := hc (g := g) rfl j u hj
    rw [show (⟨g, 0, none⟩ : Addr).add j = ⟨g, j, none⟩ by unfold Addr.add; split <;> simp_all] at this
    exact this
def fdI : Option Nat → Int
  | some a => (a : Int)
  | none => -1
theorem find_take {L : Kn} {n : Bs} {k : Nat} {p : Bs × Nat} (h : find (L.take k) n = none) (hp : L[k]? = some p) : (p.1 = n → find L n = some p.2) ∧ (¬ p.1 = n → find (L.take (k + 1)) n = none) := by
  obtain ⟨hk, e⟩ := List.getElem?_eq_some_iff.1 hp
  have e1 : L.take (k + 1) = L.take k ++ [(p.1, p.2)] := by rw [List.take_succ_eq_append_getElem hk, e]
  refine ⟨fun hn => ?_, fun hn => ?_⟩
  · have e2 : L = L.take (k + 1) ++ L.drop (k + 1) := (List.take_append_drop _ _).symm
    have h3 : find (L.take (k + 1)) n = some p.2 := by rw [e1, find_snoc, h, if_pos hn]
    rw [e2]
    unfold find at h3 ⊢
    rw [List.find?_append]
    cases hf : (L.take (k + 1)).find? (fun p => p.1 == n) with
    | none => rw [hf] at h3; simp at h3
    | some q => rw [hf] at h3; simpa using h3
  · rw [e1, find_snoc, h, if_neg hn]
set_option maxRecDepth 100000 in
set_option maxHeartbeats 8000000 in
theorem rfind_any (t : ByteArray) (S : Nat → Prop) (b : Nat) (B : Bs) (L : Kn) (w : World) (h : RK S b B L w) (hL : L.length ≤ 1000000) (hK : OkK L) :
    Calls Try.prog 74 #[ptr b, .string t] w fun e w' => e = .returned (.int .i64 (fdI (find L t.data.toList))) ∧ w = w' := by
  obtain ⟨lv, hr⟩ := h
  have c1 := hr.blk.cell1
  obtain ⟨a, cap, rfl⟩ := row_slice hr.row
  have hrow := hr.row
  obtain ⟨m, hm⟩ : ∃ m, m = L.length := ⟨_, rfl⟩
  rw [← hm] at hrow c1 hL
  have HR := Lib.hid hrow
  have HM := Lib.hid hm
  have hmi : (m : Int) ≤ 1000000 := by omega
  clear hr hrow hm
  go_enter Try.func74, Try.ntmps74
  go_wp2
  go_loopw [5] (fun i wr => ∃ k : Nat, k ≤ m ∧ i = .int .i64 k ∧ find (L.take k) t.data.toList = none ∧ w = wr) (fun i _ => m - (intOf i).toNat)
  case atStart => exact ⟨0, by omega, rfl, rfl, rfl⟩
  case round =>
    obtain ⟨k, hk, rfl, hf, rfl⟩ := hrel
    by_cases hlt : k < m
    · have q1 : (k : Int) < (m : Int) := by omega
      obtain ⟨p, hp⟩ : ∃ p, L[k]? = some p := ⟨_, List.getElem?_eq_getElem (by rw [← HM.out]; exact hlt)⟩
      obtain ⟨g, rfl, hg, hc⟩ := row_at HR.out (by omega)
      obtain ⟨z1, z2⟩ := lc_get L k p hp
      rw [Nat.mul_comm] at z1 z2
      have d0 := hc _ _ z1
      have d1 := hc _ _ z2
      obtain ⟨f1, f2⟩ := find_take hf hp
      have F1 := Lib.hid f1
      have F2 := Lib.hid f2
      have ha : p.2 < 16384 := hK p (List.mem_of_getElem? hp)
      obtain ⟨x, a⟩ := p
      obtain ⟨y, hy⟩ : ∃ y : ByteArray, y = ⟨x.toArray⟩ := ⟨_, rfl⟩
      have hyx : y.data.toList = x := by rw [hy]
      rw [show str (x, a).1 = .string y by rw [hy]] at d0
      have HY := Lib.hid hyx
      clear z1 z2 hc f1 f2 hf hp hy hyx
      by_cases e : x = t.data.toList
      · have q2 : (y.toList == t.toList) = true := by rw [ByteArray.toList_eq, ByteArray.toList_eq, HY.out, e]; simp
        have E := Lib.hid (F1.out e)
        clear e
        go_wp2
        refine bodyPost_ret (results_tmp rfl _ _ _) rfl ?_
        exact ⟨by rw [E.out]; rfl, rfl⟩
      · have q2 : (y.toList == t.toList) = false := by rw [ByteArray.toList_eq, ByteArray.toList_eq, HY.out]; simpa using e
        have E := Lib.hid (F2.out e)
        clear e
        go_wp2
        go_roundw
        case rel => exact ⟨k + 1, by omega, by go_num, E.out, trivial⟩
        case measure => simp [intOf]; omega
    · have q1 : decide ((k : Int) < (m : Int)) = false := by simp; omega
      have e : L.take k = L := List.take_of_length_le (by rw [← HM.out]; omega)
      rw [e] at hf
      have HF := Lib.hid hf
      clear hf e
      go_wp2
      go_ret
      exact ⟨by rw [HF.out]; rfl, rfl⟩
end Go.Proofs.Ytflpceaaelampaa

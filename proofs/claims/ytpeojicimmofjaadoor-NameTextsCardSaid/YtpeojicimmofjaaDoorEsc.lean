/-
  What escapeByte hands back, for every byte; and what an append to a box leaves.
-/
import Derived.Test.YtpeojicimmofjaaDoorFromLast
import Derived.Test.YtpeojicimmofjaaDoorTextMath
import Derived.Deep.AppendLies
namespace Go.Proofs.YtpeojicimmofjaaDoor
open Go.RowKit
theorem esc_two {b : UInt8} (h : b.toNat = 46 ∨ b.toNat = 92) : esc b = [92, b] := by unfold esc; rw [if_pos h]
theorem esc_one {b : UInt8} (h : ¬ (b.toNat = 46 ∨ b.toNat = 92)) (h2 : ¬ (b.toNat < 33 ∨ 126 < b.toNat)) : esc b = [b] := by unfold esc; rw [if_neg h, if_neg h2]
theorem esc_four {b : UInt8} (h : ¬ (b.toNat = 46 ∨ b.toNat = 92)) (h2 : b.toNat < 33 ∨ 126 < b.toNat) : esc b = [92, UInt8.ofNat (48 + b.toNat / 100), UInt8.ofNat (48 + b.toNat / 10 % 10), UInt8.ofNat (48 + b.toNat % 10)] := by unfold esc; rw [if_neg h, if_pos h2]
/-- New bytes. -/
def NewB (w w' : World) (v : Value) (l : Bs) : Prop := v = .slice (some ⟨w.heap.size, 0, none⟩) l.length l.length ∧ w' = w.alloc (.cells (ub l).toArray 5)
theorem newB_news {w w' : World} {v : Value} {l : Bs} (h : NewB w w' v l) : ∀ j u, (ub l)[j]? = some u → w'.cell? ((⟨w.heap.size, 0, none⟩ : Addr).add j) = some u := by
  obtain ⟨_, rfl⟩ := h
  exact World.news_of_block (cs := (ub l).toArray) (t := 5) (fr := (0, 0)) (heap_alloc_new w _)
set_option maxRecDepth 100000 in
set_option maxHeartbeats 1600000 in
theorem escape_any (b : UInt8) (w : World) :
    Calls Tryd.prog 22 #[.int .u8 (b.toNat : Int)] w fun e w' => ∃ v, e = .returned v ∧ NewB w w' v (esc b) := by
  have hb := b.toNat_lt
  by_cases h : b.toNat = 46 ∨ b.toNat = 92
  · have he := esc_two h
    rw [he]
    obtain ⟨c, hc⟩ : ∃ c, c = b.toNat := ⟨_, rfl⟩
    have HC := Lib.hid hc
    rw [← hc] at hb h ⊢
    clear hc he
    rcases h with rfl | rfl
    · go_enter Tryd.func22, Tryd.ntmps22
      go_wp2
      go_ret
      exact ⟨_, rfl, rfl, by rw [show ub [92, b] = [.int .u8 92, .int .u8 46] by simp [← HC.out]]⟩
    · go_enter Tryd.func22, Tryd.ntmps22
      go_wp2
      go_ret
      exact ⟨_, rfl, rfl, by rw [show ub [92, b] = [.int .u8 92, .int .u8 92] by simp [← HC.out]]⟩
  · by_cases h2 : b.toNat < 33 ∨ 126 < b.toNat
    · have he := esc_four h h2
      rw [he]
      have e1 : (UInt8.ofNat (48 + b.toNat / 100)).toNat = 48 + b.toNat / 100 := by simp; omega
      have e2 : (UInt8.ofNat (48 + b.toNat / 10 % 10)).toNat = 48 + b.toNat / 10 % 10 := by simp; omega
      have e3 : (UInt8.ofNat (48 + b.toNat % 10)).toNat = 48 + b.toNat % 10 := by simp; omega
      have HU : Hid (ub [92, UInt8.ofNat (48 + b.toNat / 100), UInt8.ofNat (48 + b.toNat / 10 % 10), UInt8.ofNat (48 + b.toNat % 10)] = [.int .u8 92, .int .u8 (48 + (b.toNat : Int) / 100), .int .u8 (48 + (b.toNat : Int) / 10 % 10), .int .u8 (48 + (b.toNat : Int) % 10)]) := Lib.hid (by
        simp only [ub, List.map_cons, List.map_nil, e1, e2, e3]
        simp)
      clear he e1 e2 e3
      obtain ⟨c, hc⟩ : ∃ c, c = b.toNat := ⟨_, rfl⟩
      rw [← hc] at hb h h2
      have HC := Lib.hid hc
      rw [← hc] at HU ⊢
      have q1 : ((c : Int) == 46) = false := by simp; omega
      have q2 : ((c : Int) == 92) = false := by simp; omega
      have qb : (c : Int) < 256 := by omega
      clear hc
      rcases h2 with h2 | h2
      · have q3 : (c : Int) < 33 := by omega
        clear h h2
        go_enter Tryd.func22, Tryd.ntmps22
        go_wp2
        go_ret
        exact ⟨_, rfl, rfl, by rw [HU.out]⟩
      · have q3 : decide ((c : Int) < 33) = false := by simp; omega
        have q4 : (126 : Int) < (c : Int) := by omega
        clear h h2
        go_enter Tryd.func22, Tryd.ntmps22
        go_wp2
        go_ret
        exact ⟨_, rfl, rfl, by rw [HU.out]⟩
    · have he := esc_one h h2
      rw [he]
      obtain ⟨c, hc⟩ : ∃ c, c = b.toNat := ⟨_, rfl⟩
      have HC := Lib.hid hc
      rw [← hc] at hb h h2 ⊢
      have q1 : ((c : Int) == 46) = false := by simp; omega
      have q2 : ((c : Int) == 92) = false := by simp; omega
      have q3 : decide ((c : Int) < 33) = false := by simp; omega
      have q4 : decide ((126 : Int) < (c : Int)) = false := by simp; omega
      clear hc he h h2
      go_enter Tryd.func22, Tryd.ntmps22
      go_wp2
      go_ret
      exact ⟨_, rfl, rfl, by rw [show ub [b] = [.int .u8 (c : Int)] by simp [← HC.out]]⟩
theorem newB_below {w w' : World} {v : Value} {l : Bs} (h : NewB w w' v l) : Below w.heap.size w w' := by
  obtain ⟨_, rfl⟩ := h
  exact (Below.refl _ _).alloc (Nat.le_refl _) _
theorem ub_one' (l : Bs) : ∀ u ∈ ub l, u.oneCell' = true := by
  intro u hu
  obtain ⟨b, _, rfl⟩ := List.mem_map.1 hu
  rfl
/-- What an append to a box leaves. -/
theorem after_app {w W w2 w3 : World} {r B base n n' t e : Nat} {v v' : Value} {xs ys : List Value} (hte : t ≠ e) (hv : Boxed W r t v) (hrow : W.ownsRow base e 1 v n xs) (hb2 : Below W.heap.size W w2) (hsb : base ≤ W.heap.size)
    (hown' : w3.ownsRow base e 1 v' n' ys) (hgrow : w2.grownBy w3 v.ownBlock) (hwr : w.heap.size ≤ r) (hwb : w.heap.size ≤ base) (hBb : B < base) (hBr : B ≠ r) (hB : Below w.heap.size w W) :
    (w3.cell? ⟨r, 0, none⟩ = some v ∧ w3.frozen? ⟨r, 0, none⟩ = false) ∧ KeepsOthers W (w3.setCell ⟨r, 0, none⟩ v') ∧ KpB B W (w3.setCell ⟨r, 0, none⟩ v') ∧ Boxed (w3.setCell ⟨r, 0, none⟩ v') r t v' ∧
      (w3.setCell ⟨r, 0, none⟩ v').ownsRow base e 1 v' n' ys ∧ base ≤ (w3.setCell ⟨r, 0, none⟩ v').heap.size ∧ Below w.heap.size w (w3.setCell ⟨r, 0, none⟩ v') := by
  have hv2 : Boxed w2 r t v := (hb2.block _ hv.lt).trans hv
  have hrow2 := row_below hrow hb2
  have hs2 := hb2.size
  have hs := hB.size
  have hs3 := hgrow.size
  have hv3 : Boxed w3 r t v := hv2.kept hgrow (hv2.not_row hte hrow2)
  refine ⟨⟨hv3.cell, hv3.frozen⟩, (keeps_below hb2).trans ((KeepsOthers.of_grownBy hgrow fun j o ej hj => ?_).trans (KeepsOthers.setCell _ _ _)), kpB_t (kpB_below hb2 (by omega)) (kpB_t (fun u hu => ?_) (kpB_set hBr v')), hv3.set v', hown'.kept (grownBy_setCell' w3 r v') (.inr (hv3.not_row hte hown').symm), by rw [World.size_setCell]; omega, ?_⟩
  · rcases hrow2.2 with ⟨rfl, _⟩ | ⟨g, cap, cur, rfl, _, hgb, _⟩
    · simp [Value.ownBlock] at ej
    · obtain rfl : g = j := by simpa [Value.ownBlock] using ej
      rw [hgb] at hj; cases hj; rfl
  · exact World.grownBy.cell hgrow hu (fun e' => by have := (World.ownsRow.lt hrow2 _ e'.symm).1; simp at this; omega)
  · exact ((hB.trans (hb2.mono hs)).grown hgrow (by omega) (fun j ej => Nat.le_trans hwb (row_from hrow2 j ej))).setCell (p := ⟨r, 0, none⟩) hwr v'
end Go.Proofs.YtpeojicimmofjaaDoor

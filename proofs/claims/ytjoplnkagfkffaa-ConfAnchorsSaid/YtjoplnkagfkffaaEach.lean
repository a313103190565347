/-
  The visitor of labels: what it hands to a loop's body, one by one; for every text and every body.
-/
import Derived.Test.YtjoplnkagfkffaaProg
import Derived.Test.YtjoplnkagfkffaaItems
import Derived.RangeFuncNested
import Derived.RangeFuncBound
import Derived.RangeFuncCalls
import Derived.RangeFuncLeaves
import Derived.RangeFuncBox
import Derived.Shelf.Abstract
import Derived.Shelf.RegionOpen
import Derived.WalkKit
import Derived.OwnWalkIn
import Derived.TacticsInMore
import Derived.LoopNIn
import Derived.LoopIn
import Derived.Maps.AppendAt
import Derived.Lib.Hide
import Derived.BigFrameIn
import Derived.BigFrame
namespace Go.Proofs.Ytjoplnkagfkffaa
open Go.RowKit Go.Shelf
attribute [local go_sem] Oper.semAt_some
abbrev encI (x : Item) : Array Value := #[.string x.1.1, .int .i64 (x.1.2 : Int)]
/-- One cell holds what it held. -/
def KpB (B : Nat) (A C : World) : Prop := ∀ v, A.cell? ⟨B, 0, none⟩ = some v → C.cell? ⟨B, 0, none⟩ = some v
theorem kpB_t {B : Nat} {A C D : World} (h : KpB B A C) (k : KpB B C D) : KpB B A D := fun v e => k v (h v e)
theorem kpB_b {B : Nat} {w : World} (W : World) (l : Nat) (o o' : Obj) (_ : w.heap.size ≤ l) (hl : W.heap[l]? = some o) (ho : o.isCells = false) (_ : o.isWalk = false) : KpB B W (W.putObj l o') :=
  fun _ e => cell_kept e (grownBy_putObj' W l o') (fun r e => by cases e; exact ⟨o, hl, ho⟩)
theorem kpB_below {B n₀ : Nat} {A C : World} (h : Below n₀ A C) (hB : B < n₀) : KpB B A C := fun _ e => (h.cell (p := ⟨B, 0, none⟩) hB).trans e
theorem kpB_refl (B : Nat) (A : World) : KpB B A A := fun _ e => e
theorem kpB_set {B : Nat} {A : World} {r : Nat} (h : B ≠ r) (v : Value) : KpB B A (A.setCell ⟨r, 0, none⟩ v) := fun u e => by
  rw [← e]; exact World.cell?_setCell_other _ _ _ _ (fun hh => h (congrArg Addr.block hh).symm)
set_option maxRecDepth 100000 in
set_option maxHeartbeats 1600000 in
theorem each1_in (F : Fence) (n : Nat) (h43 : F.fn 60) (hro : F.round = none) (hn : 1 ≤ n) (l B : Nat) (s : ByteArray) (hs : s.size ≤ 140737488351232) (J Jx : List Item → World → Prop)
    (hY : ∀ pre x W, J pre W → pre.length < (labs s.data.toList).length → YieldAt F (n - 1) Try.prog l (encI x) W fun e W' =>
      (e = .returned (.bool true) ∧ J (pre ++ [x]) W' ∧ KpB B W W') ∨ (e = .returned (.bool false) ∧ Jx (pre ++ [x]) W'))
    (W : World) (hc : W.cell? ⟨B, 0, none⟩ = some (.string s)) (h0 : J [] W) :
    CallsIn F n Try.prog 60 #[.func (.yield l) #[] #[], .pointer (some ⟨B, 0, none⟩)] W fun e W' => (∃ v, e = .returned v) ∧
      ((∃ ys, ys = items 0 (labs s.data.toList) ∧ J ys W') ∨ (∃ pre, (∃ k, k ≤ (labs s.data.toList).length ∧ pre = items 0 ((labs s.data.toList).take k)) ∧ Jx pre W')) := by
  have HY := Lib.hid hY
  clear hY
  refine callsIn_of_wp Try.func60 rfl h43 ?_ hro
  simp only [Try.ntmps60, List.size_toArray, List.length_cons, List.length_nil, Nat.reduceAdd, Nat.reduceSub, Array.replicate_succ, Array.replicate_zero, List.push_toArray, List.append_toArray, List.nil_append, List.cons_append]
  gi_wp2
  gi_loopw [3] (fun i wr => ∃ (pre rst : List Bs), labs s.data.toList = pre ++ rst ∧ (enc pre).length ≤ s.size ∧ i = .int .i64 ((enc pre).length : Int) ∧ wr.cell? ⟨B, 0, none⟩ = some (.string s) ∧ J (items 0 pre) wr)
    (fun i _ => s.size - (intOf i).toNat)
  case atStart => exact ⟨[], _, rfl, Nat.zero_le _, rfl, hc, h0⟩
  case round =>
    clear hc h0
    obtain ⟨pre, rst, hl, hle, rfl, hc, hJ⟩ := hrel
    have hsp := split s.data.toList
    have hok := labs_ok s.data.toList
    rw [hl] at hsp hok
    cases rst with
    | nil =>
      simp only [List.append_nil] at hl hsp
      have hr := stop_rest s pre _ hsp.symm (rest_step _)
      have HL := Lib.hid hl
      clear hl hsp hok
      generalize hp : (enc pre).length = p at hle hr ⊢
      clear hp
      by_cases hlt : p < s.size
      · have hr' := hr hlt
        have hdd : (p : Int) < (s.size : Int) := by omega
        obtain ⟨c, hc'⟩ : ∃ c, s[p].toNat = c := ⟨_, rfl⟩
        have hcb : (c : Int) < 256 := by have := s[p].toNat_lt; omega
        rw [hc'] at hr'
        clear hr
        by_cases g1 : c = 0
        · subst g1
          clear hr'
          gi_wp2
          refine bodyPost_ret (results_none rfl _ _ _) rfl ?_
          exact ⟨⟨_, rfl⟩, .inl ⟨_, by rw [HL.out], hJ⟩⟩
        · have q1 : ((c : Int) == 0) = false := by simp; omega
          by_cases g2 : 63 < c
          · have q2 : (63 : Int) < (c : Int) := by omega
            clear hr'
            gi_wp2
            refine bodyPost_ret (results_none rfl _ _ _) rfl ?_
            exact ⟨⟨_, rfl⟩, .inl ⟨_, by rw [HL.out], hJ⟩⟩
          · have q2 : decide ((63 : Int) < (c : Int)) = false := by simp; omega
            have q3 : (s.size : Int) - (p : Int) ≤ (c : Int) := by omega
            clear hr'
            gi_wp2
            refine bodyPost_ret (results_none rfl _ _ _) rfl ?_
            exact ⟨⟨_, rfl⟩, .inl ⟨_, by rw [HL.out], hJ⟩⟩
      · have hdd : (s.size : Int) ≤ (p : Int) := by omega
        clear hr
        gi_wp2
        go_end0
        exact ⟨⟨_, rfl⟩, .inl ⟨_, by rw [HL.out], hJ⟩⟩
    | cons x rst =>
      have hx : OkL x := hok x (by simp)
      rw [enc_append, enc_cons, List.append_assoc, List.append_assoc] at hsp
      obtain ⟨hlt, hb, hle2, hex⟩ := go_rest s pre x _ hsp.symm hx
      have hs1 := items_snoc 0 pre x
      have hs2 := item_str (0 + (enc pre).length) x hx
      obtain ⟨fn, tmps, assign, body, hy, hR⟩ := HY.out _ (item (0 + (enc pre).length) x) wr hJ (by rw [items_length, hl]; simp)
      dsimp only [encI] at hy
      rw [hs2] at hy
      have hs3 : (item (0 + (enc pre).length) x).1.2 = (enc pre).length + 1 + x.length := by simp [item]
      rw [hs3] at hy
      have H1 := Lib.hid hs1
      have HL := Lib.hid hl
      have HE := Lib.hid (enc_snoc_length pre x)
      have HR := Lib.hid hR
      obtain ⟨hx1, hx2⟩ := hx
      clear hs1 hs2 hs3 hl hsp hok hR
      generalize hp : (enc pre).length = p at hle hlt hb hle2 hex hy HE H1 HR ⊢
      clear hp
      generalize hm : x.length = m at hb hle2 hex hy HE hx1 hx2 ⊢
      have q0 : (p : Int) < (s.size : Int) := by omega
      have q1 : ((m : Int) == 0) = false := by simp; omega
      have q2 : decide ((63 : Int) < (m : Int)) = false := by simp; omega
      have q3 : decide ((s.size : Int) - (p : Int) ≤ (m : Int)) = false := by simp; omega
      have HM := Lib.hid hm
      have hmb : (m : Int) ≤ 63 := by omega
      have hsl : ∀ w, (Instr.slice 9 (.string s) (some (.int .i64 ((p : Int) + 1))) (some (.int .i64 ((p : Int) + 1 + (m : Int)))) none).run Try.prog w = .ok (.string ⟨x.toArray⟩) w := fun w => by
        have h := run_slice_string (P := Try.prog) w 9 s .i64 .i64 ((p : Int) + 1) ((p : Int) + 1 + (m : Int)) Try.underlying9 (by omega) (by omega) (by omega)
        rw [h, ← hex]
        congr 3 <;> omega
      have hcast : ((p + 1 + m : Nat) : Int) = (p : Int) + 1 + (m : Int) := by omega
      rw [hcast] at hy
      clear hm hcast hex
      gi_wp2
      refine HR.out.mono ?_
      rintro e W3 (⟨rfl, hJ3, hk3⟩ | ⟨rfl, hJx3⟩)
      · have hc3 : W3.cell? ⟨B, 0, none⟩ = some (.string s) := hk3 _ hc
        rw [← H1.out] at hJ3
        clear hy hsl hc hJ
        gi_wp2
        go_roundw
        case rel => exact ⟨pre ++ [x], rst, by rw [HL.out]; simp, by rw [HE.out]; exact hle2, by rw [HE.out]; go_num, hc3, hJ3⟩
        case measure => simp [intOf]; omega
      · rw [← H1.out] at hJx3
        clear hy hsl hc hJ
        gi_wp2
        refine bodyPost_ret (results_none rfl _ _ _) rfl ?_
        exact ⟨⟨_, rfl⟩, .inr ⟨_, ⟨(pre ++ [x]).length, by rw [HL.out]; simp, by rw [HL.out, show pre ++ x :: rst = (pre ++ [x]) ++ rst by simp, List.take_left' rfl]⟩, hJx3⟩⟩
set_option maxHeartbeats 1000000 in
/-- each(n): the text is boxed; the function value captures the box. -/
theorem each_in (F : Fence) (n : Nat) (h36 : F.fn 39) (hro : F.round = none) (s : ByteArray) (w : World) :
    CallsIn F n Try.prog 39 #[.string s] w fun e w' => e = .returned (.func (.func 60) #[] #[.pointer (some ⟨w.heap.size, 0, none⟩)]) ∧ w' = w.alloc (.cells #[.string s] 9) := by
  refine callsIn_of_wp Try.func39 rfl h36 ?_ hro
  simp only [Try.ntmps39, List.size_toArray, List.length_cons, List.length_nil, Nat.reduceAdd, Nat.reduceSub, Array.replicate_succ, Array.replicate_zero, List.push_toArray, List.append_toArray, List.nil_append, List.cons_append]
  gi_wp2
  go_ret
  exact ⟨rfl, rfl⟩
/-- What comes of the labels of a text when all of them have come; or some. -/
def AllOf (s : ByteArray) (ys : List Item) : Prop := ys = items 0 (labs s.data.toList)
def PartOf (s : ByteArray) (pre : List Item) : Prop := ∃ k, k ≤ (labs s.data.toList).length ∧ pre = items 0 ((labs s.data.toList).take k)
theorem each_stops (F : Fence) (n : Nat) (h43 : F.fn 60) (hro : F.round = none) (hn : 1 ≤ n) (B : Nat) (s : ByteArray) (hs : s.size ≤ 140737488351232) (w : World) (hBn : B < w.heap.size)
    (hc : w.cell? ⟨B, 0, none⟩ = some (.string s)) :
    SeqStopsK F n Try.prog 60 #[.pointer (some ⟨B, 0, none⟩)] encI (KpB B) (AllOf s) (PartOf s) (labs s.data.toList).length w := fun l J Jx W hW _ _ hY h0 => by
  have hc' := (hW.cell (p := ⟨B, 0, none⟩) hBn).trans hc
  exact each1_in F n h43 hro hn l B s hs J Jx hY W hc' h0
end Go.Proofs.Ytjoplnkagfkffaa

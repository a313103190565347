/-
  The visitor of records: what it hands to a loop's body, one by one; and what Records answers.
-/
import Derived.Test.YtpiiknbjllgaoaaWRec
import Derived.RangeFuncNested
import Derived.RangeFuncBound
import Derived.RangeFuncCalls
import Derived.RangeFuncLeaves
import Derived.RangeFuncBox
import Derived.Shelf.Abstract
import Derived.Shelf.RegionOpen
import Derived.OwnWalkIn
import Derived.TacticsInMore
import Derived.LoopNIn
import Derived.LoopIn
import Derived.BigFrameIn
namespace Go.Proofs.Ytpiiknbjllgaoaa
open Go.RowKit Go.Shelf
attribute [local go_sem] Oper.semAt_some
/-- A record's text. -/
abbrev Item := { x : Bs // x.length ≤ 60000 }
abbrev encI (x : Item) : Array Value := #[str x.1]
def items (L : List Bs) : List Item := L.filterMap fun x => if h : x.length ≤ 60000 then some ⟨x, h⟩ else none
theorem items_cons {x : Bs} {L : List Bs} (h : x.length ≤ 60000) : items (x :: L) = ⟨x, h⟩ :: items L := by
  unfold items; rw [List.filterMap_cons]; simp [h]
theorem items_append (A B : List Bs) : items (A ++ B) = items A ++ items B := by unfold items; rw [List.filterMap_append]
theorem items_map {L : List Bs} (h : Fit L) : (items L).map (fun x => x.1) = L := by
  induction L with
  | nil => rfl
  | cons x L ih => rw [items_cons (h x (by simp)), List.map_cons, ih h.tail]
theorem items_length {L : List Bs} (h : Fit L) : (items L).length = L.length := by
  have := congrArg List.length (items_map h)
  rwa [List.length_map] at this
/-- One cell holds what it held. -/
def KpB (B : Nat) (A C : World) : Prop := ∀ v, A.cell? ⟨B, 0, none⟩ = some v → C.cell? ⟨B, 0, none⟩ = some v
theorem kpB_t {B : Nat} {A C D : World} (h : KpB B A C) (k : KpB B C D) : KpB B A D := fun v e => k v (h v e)
theorem kpB_b {B : Nat} {w : World} (W : World) (l : Nat) (o o' : Obj) (_ : w.heap.size ≤ l) (hl : W.heap[l]? = some o) (ho : o.isCells = false) (_ : o.isWalk = false) : KpB B W (W.putObj l o') :=
  fun _ e => cell_kept e (grownBy_putObj' W l o') (fun r e => by cases e; exact ⟨o, hl, ho⟩)
theorem kpB_below {B n₀ : Nat} {A C : World} (h : Below n₀ A C) (hB : B < n₀) : KpB B A C := fun _ e => (h.cell (p := ⟨B, 0, none⟩) hB).trans e
theorem kpB_refl (B : Nat) (A : World) : KpB B A A := fun _ e => e
theorem kpB_set {B : Nat} {A : World} {r : Nat} (h : B ≠ r) (v : Value) : KpB B A (A.setCell ⟨r, 0, none⟩ v) := fun u e => by
  rw [← e]; exact World.cell?_setCell_other _ _ _ _ (fun hh => h (congrArg Addr.block hh).symm)
/-- Where the records stand that are still to come. -/
theorem each_step {b : Bs} {pre : List Bs} {r t : Bs} (hb : b = rcsB pre ++ r) (hl : recs b = pre ++ recs r) (hf : fstB r = some t) : b = rcsB (pre ++ [t]) ++ r.drop (8 + t.length) ∧ recs b = (pre ++ [t]) ++ recs (r.drop (8 + t.length)) ∧ t.length ≤ 60000 ∧ 8 + t.length ≤ r.length := by
  obtain ⟨e, ht⟩ := fst_some hf
  refine ⟨?_, ?_, ht, fst_len hf⟩
  · rw [rcs_append, hb]
    conv => lhs; rw [e]
    simp only [rcsB, List.append_nil, List.append_assoc]
  · rw [hl, recs_some hf, List.append_assoc]; rfl
def strLen : Value → Nat
  | .string t => t.size
  | _ => 0
theorem below_drewN' (w : World) (n : Nat) : Below w.heap.size w (w.drewN n) := below_drewN w n
set_option maxRecDepth 100000 in
set_option maxHeartbeats 3200000 in
theorem each1_in (n : Nat) (hn : 1 ≤ n) (l B : Nat) (s : ByteArray) (hs : s.size ≤ 1000000000) (J Jx : List Item → World → Prop) (W0 : World) (hAb : AbidesFrom W0.heap.size J)
    (hY : ∀ pre x W, J pre W → pre.length < (recs s.data.toList).length → YieldAt Fence.wide (n - 1) Try.prog l (encI x) W fun e W' =>
      (e = .returned (.bool true) ∧ J (pre ++ [x]) W' ∧ KpB B W W') ∨ (e = .returned (.bool false) ∧ Jx (pre ++ [x]) W'))
    (hc : W0.cell? ⟨B, 0, none⟩ = some (.string s)) (h0 : J [] W0) :
    CallsIn Fence.wide n Try.prog 54 #[.func (.yield l) #[] #[], ptr B] W0 fun e W' => (∃ v, e = .returned v) ∧
      ((∃ ys, ys = items (recs s.data.toList) ∧ J ys W') ∨ (∃ pre, True ∧ Jx pre W')) := by
  have HY := Lib.hid hY
  have HA : Hid (∀ pre W W', J pre W → Below W.heap.size W W' → J pre W') := Lib.hid (fun pre W W' h hb => hAb pre W W' none h ⟨hb.os, hb.tape, hb.output, hb.size, fun k hk _ => hb.block k hk⟩ (fun r e => by cases e))
  clear hY hAb
  refine callsIn_of_wp Try.func54 rfl trivial ?_ rfl
  simp only [Try.ntmps54, List.size_toArray, List.length_cons, List.length_nil, Nat.reduceAdd, Nat.reduceSub, Array.replicate_succ, Array.replicate_zero, List.push_toArray, List.append_toArray, List.nil_append, List.cons_append]
  gi_wp2
  gi_loopw [3, 4, 5] (fun v _t _ok wr => ∃ (pre : List Bs) (r : Bs), s.data.toList = rcsB pre ++ r ∧ recs s.data.toList = pre ++ recs r ∧ v = str r ∧ J (items pre) wr)
    (fun v _ _ _ => strLen v)
  case atStart => exact ⟨[], s.data.toList, rfl, rfl, rfl, h0⟩
  case round =>
    clear hc h0
    obtain ⟨pre, r, hb, hl, rfl, hJ⟩ := hrel
    have hfit : Fit (recs s.data.toList) := by obtain ⟨_, _, _, h⟩ := recs_split s.data.toList; exact h
    have hrl : r.length ≤ 1000000000 := by
      have := congrArg List.length hb
      rw [List.length_append, ← size_list] at this
      omega
    have HJ := Lib.hid hJ
    have HB := Lib.hid hb
    have HL := Lib.hid hl
    have HF := Lib.hid hfit
    have HW := Lib.hid (wfirst_any ⟨r.toArray⟩ (by rw [ba_size]; exact hrl) wr)
    clear hJ hb hl hfit
    gi_wp2_with fail
    refine ⟨trivial, ?_⟩
    refine (callsIn_wide.2 HW.out).mono ?_
    rintro e W1 ⟨⟨t, ok, rfl, hft⟩, hb1⟩
    cases ok with
    | false =>
      have hfn : fstB r = none := hft
      have HJ1 := Lib.hid (HA.out _ _ _ HJ.out hb1)
      have HN : Hid (recs s.data.toList = pre) := Lib.hid (by rw [HL.out, recs_none hfn, List.append_nil])
      clear hft hb1
      gi_wp2
      refine ⟨fun _ h => (by cases h), ?_⟩
      gi_wp2
      refine bodyPost_ret (results_none rfl _ _ _) rfl ?_
      exact ⟨⟨_, rfl⟩, .inl ⟨_, by rw [HN.out], HJ1.out⟩⟩
    | true =>
      have hfs : fstB r = some t := hft
      obtain ⟨e1, e2, ht, hlen⟩ := each_step HB.out HL.out hfs
      have hfp : Fit pre := fun x hx => HF.out x (by rw [HL.out]; exact List.mem_append_left _ hx)
      have hpl : (items pre).length < (recs s.data.toList).length := by rw [items_length hfp, e2]; simp
      have HI : Hid (items (pre ++ [t]) = items pre ++ [⟨t, ht⟩]) := Lib.hid (by rw [items_append, items_cons ht]; rfl)
      have hsl := pc_from ⟨r.toArray⟩ (8 + t.length) (by rw [ba_size]; exact hlen) .i64
      have hcast : ((8 + t.length : Nat) : Int) = 8 + (t.length : Int) := by omega
      rw [hcast] at hsl
      have hsl : ∀ w, (Instr.slice 9 (str r) (some (.int .i64 (8 + (t.length : Int)))) none none).run Try.prog w = .ok (str (r.drop (8 + t.length))) w := hsl
      have hsz : (⟨t.toArray⟩ : ByteArray).size = t.length := ba_size t
      have htl : (t.length : Int) ≤ 60000 := by omega
      obtain ⟨fn, tmps, assign, body, hy, hR⟩ := HY.out _ ⟨t, ht⟩ W1 (HA.out _ _ _ HJ.out hb1) hpl
      have HR := Lib.hid hR
      have E1 := Lib.hid e1
      have E2 := Lib.hid e2
      have HLE := Lib.hid hlen
      clear hft hfs hb1 e1 e2 hR hfp hpl hcast hlen
      gi_wp2
      refine HR.out.mono ?_
      rintro e W3 (⟨rfl, hJ3, _⟩ | ⟨rfl, hJx3⟩)
      · rw [← HI.out] at hJ3
        clear hy
        gi_wp2
        go_roundw
        case rel => exact ⟨pre ++ [t], r.drop (8 + t.length), E1.out, E2.out, rfl, hJ3⟩
        case measure =>
          show (⟨(r.drop (8 + t.length)).toArray⟩ : ByteArray).size < (⟨r.toArray⟩ : ByteArray).size
          rw [ba_size, ba_size, List.length_drop]
          have := HLE.out
          omega
      · rw [← HI.out] at hJx3
        clear hy hsl
        gi_wp2
        refine bodyPost_ret (results_none rfl _ _ _) rfl ?_
        exact ⟨⟨_, rfl⟩, .inr ⟨_, trivial, hJx3⟩⟩
set_option maxHeartbeats 1000000 in
/-- each(b): the bytes are boxed; the function value captures the box. -/
theorem each_in (n : Nat) (s : ByteArray) (w : World) :
    CallsIn Fence.wide n Try.prog 33 #[.string s] w fun e w' => e = .returned (.func (.func 54) #[] #[ptr w.heap.size]) ∧ w' = w.alloc (.cells #[.string s] 9) := by
  refine callsIn_of_wp Try.func33 rfl trivial ?_ rfl
  simp only [Try.ntmps33, List.size_toArray, List.length_cons, List.length_nil, Nat.reduceAdd, Nat.reduceSub, Array.replicate_succ, Array.replicate_zero, List.push_toArray, List.append_toArray, List.nil_append, List.cons_append]
  gi_wp2
  go_ret
  exact ⟨rfl, rfl⟩
def AllOf (s : ByteArray) (ys : List Item) : Prop := ys = items (recs s.data.toList)
theorem each_stops (n : Nat) (hn : 1 ≤ n) (B : Nat) (s : ByteArray) (hs : s.size ≤ 1000000000) (w : World) (hBn : B < w.heap.size) (hc : w.cell? ⟨B, 0, none⟩ = some (.string s)) :
    SeqStopsK Fence.wide n Try.prog 54 #[ptr B] encI (KpB B) (AllOf s) (fun _ => True) (recs s.data.toList).length w := fun l J Jx W hW hA _ hY h0 => by
  have hc' := (hW.cell (p := ⟨B, 0, none⟩) hBn).trans hc
  exact each1_in n hn l B s hs J Jx W hA hY hc' h0
end Go.Proofs.Ytpiiknbjllgaoaa

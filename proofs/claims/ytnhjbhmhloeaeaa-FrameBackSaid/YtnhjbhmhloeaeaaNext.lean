/-
  What a reader's Next answers and leaves.
-/
import Derived.Test.YtnhjbhmhloeaeaaRange
namespace Go.Proofs.Ytnhjbhmhloeaeaa
open Go.RowKit Go.Shelf
attribute [local go_sem] Oper.semAt_some
set_option maxHeartbeats 1000000 in
theorem each_in (n : Nat) (b : Nat) (w : World) :
    CallsIn Fence.wide n Try.prog 18 #[ptr b] w fun e w' => e = .returned (.func (.func 19) #[] #[ptr w.heap.size]) ∧ w' = w.alloc (.cells #[ptr b] 32) := by
  refine callsIn_of_wp Try.func18 rfl trivial ?_ rfl
  simp only [Try.ntmps18, List.size_toArray, List.length_cons, List.length_nil, Nat.reduceAdd, Nat.reduceSub, Array.replicate_succ, Array.replicate_zero, List.push_toArray, List.append_toArray, List.nil_append, List.cons_append]
  gi_wp2
  go_ret
  exact ⟨rfl, rfl⟩
/-- The reader's own blocks are there. -/
theorem Rd.now {S : Nat → Prop} {b : Nat} {R : Bs} {w : World} (h : Rd S b R w) : ∃ S' : Nat → Prop, (∀ k, S' k → S k ∧ k < w.heap.size) ∧ Rd S' b R w :=
  let ⟨v, t, h⟩ := h
  ⟨fun k => S k ∧ k < w.heap.size, fun _ hk => hk, v, t, h.blk, h.row, fun k hk => ⟨h.rowS k hk, h.row.lt k hk⟩, ⟨h.own, h.blk.lt⟩, h.le⟩
/-- Two boxes for what is answered. -/
def Ans (r : Nat) (s : Value) (is : Bool) (W : World) : Prop := Boxed W r 9 s ∧ Boxed W (r + 1) 4 (.bool is)
theorem Ans.tr {r : Nat} {s : Value} {is : Bool} {S : Nat → Prop} {A C : World} (h : Ans r s is A) (ht : Tr S A C) (h0 : ¬ S r) (h1 : ¬ S (r + 1)) : Ans r s is C := ⟨ht.boxed h.1 h0, ht.boxed h.2 h1⟩
theorem Ans.kept {r : Nat} {s : Value} {is : Bool} {A C : World} {row : Option Nat} (h : Ans r s is A) (hg : A.grownBy C row) (hr : ∀ r, row = some r → ∃ o : Obj, A.heap[r]? = some o ∧ o.isCells = false) : Ans r s is C := ⟨cells_kept hg hr h.1, cells_kept hg hr h.2⟩
theorem ownFrom_tr {n : Nat} {S : Nat → Prop} {w : World} {β : Type} (hn : w.heap.size ≤ n) : OwnFrom n (fun (_ : β) W => Tr S w W) := fun _ _ _ _ hs hg hr =>
  hs.grown hg (fun k e => .inr (by have := (hr k e).1; omega))
theorem Ans.set {r : Nat} {s : Value} {is : Bool} {A : World} (h : Ans r s is A) (s' : Value) (is' : Bool) : Ans r s' is' ((A.setCell ⟨r, 0, none⟩ s').setCell ⟨r + 1, 0, none⟩ (.bool is')) :=
  ⟨(h.1.set s').other (by omega) _, (h.2.other (by omega) _).set _⟩
/-- What the two boxes say behind the loop. -/
theorem ans_ret {r D : Nat} {s : Bs} {is : Bool} {W : World} (h : Ans r (str s) is W) (hK : W.heap[D]? = some (.deferred (some []))) (tmps : Array Value) (h2 : tmps.getD 2 undef = ptr r) (h3 : tmps.getD 3 undef = ptr (r + 1)) :
    (results Try.f13 tmps).run Try.prog (W.putObj D (.deferred none)) = .ok (.tuple #[str s, .bool is]) (W.putObj D (.deferred none)) := by
  have hg := grownBy_putObj' W D (.deferred none)
  have hr : ∀ r, some D = some r → ∃ o : Obj, W.heap[r]? = some o ∧ o.isCells = false := fun r e => by cases e; exact ⟨_, hK, rfl⟩
  have hA := h.kept hg hr
  have c0 := hA.1.cell
  have c1 := hA.2.cell
  have h2' : tmps[2]?.getD undef = ptr r := by simpa using h2
  have h3' : tmps[3]?.getD undef = ptr (r + 1) := by simpa using h3
  simp [results, Try.f13, go_sem, c0, c1, h2', h3']
set_option maxRecDepth 100000 in
set_option maxHeartbeats 2000000 in
theorem next_in (n : Nat) (hn : 3 ≤ n) (S : Nat → Prop) (b : Nat) (R : Bs) (w : World) (h : Rd S b R w) (hB : R.length ≤ 1000000000) :
    CallsIn Fence.wide n Try.prog 13 #[ptr b] w fun e w' => e = .returned (.tuple #[str (hd R), .bool (fl R != 0)]) ∧ Rd S b (tl R) w' ∧ Tr (· = b) w w' := by
  have h1 : 1 ≤ n := by omega
  obtain ⟨S', hS', h'⟩ := h.now
  have HS := Lib.hid hS'
  replace h := h'
  clear h' hS'
  refine callsIn_of_wp_marks Try.func13 rfl trivial ?_ rfl
  simp only [Try.ntmps13, List.size_toArray, List.length_cons, List.length_nil, Nat.reduceAdd, Nat.reduceSub, Array.replicate_succ, Array.replicate_zero, List.push_toArray, List.append_toArray, List.nil_append, List.cons_append]
  gi_wp2_with fail
  refine ⟨trivial, ?_⟩
  refine (each_in (n - 1) b _).mono ?_
  rintro e w' ⟨rfl, rfl⟩
  gi_wp2_with fail
  have hlb := h.lt
  have hA0 : Ans w.heap.size (.string ⟨#[]⟩) false (((w.alloc (.cells #[.string ⟨#[]⟩] 9)).alloc (.cells #[.bool false] 4)).alloc (.cells #[ptr b] 32)) :=
    ⟨((Boxed.new w 9 _).alloc _).alloc _, by have := (Boxed.new (w.alloc (.cells #[.string ⟨#[]⟩] 9)) 4 (.bool false)).alloc (.cells #[ptr b] 32); rwa [World.size_alloc] at this⟩
  have hB0 : Boxed (((w.alloc (.cells #[.string ⟨#[]⟩] 9)).alloc (.cells #[.bool false] 4)).alloc (.cells #[ptr b] 32)) (w.heap.size + 1 + 1) 32 (ptr b) := by
    have := Boxed.new ((w.alloc (.cells #[.string ⟨#[]⟩] 9)).alloc (.cells #[.bool false] 4)) 32 (ptr b)
    rwa [World.size_alloc, World.size_alloc] at this
  have hbel : Below w.heap.size w (((w.alloc (.cells #[.string ⟨#[]⟩] 9)).alloc (.cells #[.bool false] 4)).alloc (.cells #[ptr b] 32)) :=
    (((Below.refl _ w).alloc (Nat.le_refl _) _).alloc (by simp) _).alloc (by simp; omega) _
  have hsz : (((w.alloc (.cells #[.string ⟨#[]⟩] 9)).alloc (.cells #[.bool false] 4)).alloc (.cells #[ptr b] 32)).heap.size = w.heap.size + 3 := by simp
  generalize (((w.alloc (.cells #[.string ⟨#[]⟩] 9)).alloc (.cells #[.bool false] 4)).alloc (.cells #[ptr b] 32)) = W0 at hA0 hB0 hbel hsz ⊢
  refine range_each (b := b) (B := w.heap.size + 1 + 1) (S := S') (by omega) rfl rfl
    (fun R' W => R' = R ∧ Ans w.heap.size (.string ⟨#[]⟩) false W ∧ Tr (· = b) w W)
    (fun c W => c = .ret ∧ Ans w.heap.size (str (hd R)) true W ∧ fl R ≠ 0 ∧ Rd S' b (tl R) W ∧ Tr (· = b) w W)
    (fun R' A C hA _ ht => ⟨hA.1, hA.2.1.tr ht (by omega) (by omega), hA.2.2.then ht⟩)
    (fun R' A C row hA hg hr => ⟨hA.1, hA.2.1.kept hg (fun r e => (hr r e).2), ownFrom_tr (β := Unit) (n := W0.heap.size) (by omega) () A C row hA.2.2 hg hr⟩)
    (fun c u A C row hA hg hr => ⟨hA.1, hA.2.1.kept hg (fun r e => (hr r e).2), hA.2.2.1, hA.2.2.2.1.kept hg (fun r e => (hr r e).2), ownFrom_tr (β := Unit) (n := W0.heap.size) (by omega) () A C row hA.2.2.2.2 hg hr⟩)
    R ⟨hB, h.below hbel, hB0, rfl, hA0, Tr.of_below hbel⟩
    (fun x => { tmps := #[ptr b, undef, .pointer (some ⟨w.heap.size, 0, none⟩), .pointer (some ⟨w.heap.size + 1, 0, none⟩), str x, ptr b, .func (.func 19) #[] #[ptr (w.heap.size + 1 + 1)], str x, undef], defers := [] }) ?assign ?body ?done ?stop
  case assign =>
    intro l x W K hK
    gi_wp2
    exact hK
  case body =>
    rintro l R' W hf hl hr hbx ⟨rfl, hA, ht⟩
    have c0 := hA.1.cell
    have f0 := hA.1.frozen
    have c1 := hA.2.cell
    have f1 := hA.2.frozen
    have HA := Lib.hid hA
    have HT := Lib.hid ht
    have HR := Lib.hid hr
    have HF := Lib.hid hf
    clear hA ht hr hf h
    gi_wp2
    have hk : KeepsFrom W0.heap.size W ((W.setCell ⟨w.heap.size, 0, none⟩ (str (hd R'))).setCell ⟨w.heap.size + 1, 0, none⟩ (.bool true)) := (((KeepsOthers.setCell _ _ _)).trans (KeepsOthers.setCell _ _ _)).from _
    have ht2 := ((Tr.refl (fun k => w.heap.size ≤ k) W).setCell (b := w.heap.size) (i := 0) (.inl (Nat.le_refl _)) (str (hd R'))).setCell (b := w.heap.size + 1) (i := 0) (.inl (by omega)) (.bool true)
    exact ⟨hk, rfl, HA.out.set _ _, HF.out, HR.out.tr ht2 (fun k _ hk => by have := (HS.out k hk).2; omega), (HT.out.setCell (.inr (Nat.le_refl _)) _).setCell (.inr (by omega)) _⟩
  case done =>
    rintro D R' W hD hf ⟨hl, hr, hbx, rfl, hA, ht⟩ hK
    have c0 := hA.1.cell
    have f0 := hA.1.frozen
    have c1 := hA.2.cell
    have f1 := hA.2.frozen
    have HA := Lib.hid hA
    have HT := Lib.hid ht
    have HR := Lib.hid hr
    have HF := Lib.hid hf
    have HK := Lib.hid hK
    clear hA ht hr hf h hK
    gi_wp2
    have hA2 := HA.out.set (str []) false
    have hk2 := ((KeepsOthers.setCell W ⟨w.heap.size, 0, none⟩ (str [])).trans (KeepsOthers.setCell _ ⟨w.heap.size + 1, 0, none⟩ (.bool false))).same D _ HK.out rfl
    have ht2 := ((Tr.refl (fun k => w.heap.size ≤ k) W).setCell (b := w.heap.size) (i := 0) (.inl (Nat.le_refl _)) (str [])).setCell (b := w.heap.size + 1) (i := 0) (.inl (by omega)) (.bool false)
    have hr2 := HR.out.tr ht2 (fun k _ hk => by have := (HS.out k hk).2; omega)
    have ht3 : Tr (· = b) w _ := (HT.out.setCell (b := w.heap.size) (i := 0) (.inr (Nat.le_refl _)) (str [])).setCell (b := w.heap.size + 1) (i := 0) (.inr (by omega)) (.bool false)
    refine ⟨by simp, .inl ⟨_, _, rfl, run_takeDeferred hk2, ?_⟩⟩
    have hg := grownBy_putObj' ((W.setCell ⟨w.heap.size, 0, none⟩ (str [])).setCell ⟨w.heap.size + 1, 0, none⟩ (.bool false)) D (.deferred none)
    have e1 : hd R' = [] := by unfold hd; rw [HF.out]; rfl
    have e2 : tl R' = R' := by unfold tl; rw [HF.out]; rfl
    exact ⟨_, ans_ret hA2 hk2 _ rfl rfl, by rw [e1, HF.out]; rfl, by rw [e2]; exact (hr2.kept hg (fun r e => by cases e; exact ⟨_, hk2, rfl⟩)).mono (fun k hk => (HS.out k hk).1), ht3.grown hg (fun k e => by cases e; exact .inr (by omega))⟩
  case stop =>
    rintro D c W hD ⟨rfl, hA, hf, hr, ht⟩ hK
    gi_wp2
    refine ⟨by simp, .inl ⟨_, _, rfl, run_takeDeferred hK, ?_⟩⟩
    have hg := grownBy_putObj' W D (.deferred none)
    exact ⟨_, ans_ret hA hK _ rfl rfl, by rw [show (fl R != 0) = true by simpa using hf], (hr.kept hg (fun r e => by cases e; exact ⟨_, hK, rfl⟩)).mono (fun k hk => (HS.out k hk).1), ht.grown hg (fun k e => by cases e; exact .inr (by omega))⟩
theorem next_any (S : Nat → Prop) (b : Nat) (R : Bs) (w : World) (h : Rd S b R w) (hB : R.length ≤ 1000000000) :
    Calls Try.prog 13 #[ptr b] w fun e w' => e = .returned (.tuple #[str (hd R), .bool (fl R != 0)]) ∧ Rd S b (tl R) w' ∧ Tr (· = b) w w' :=
  (callsIn_wide (n := 3)).1 (next_in 3 (by omega) S b R w h hB)
end Go.Proofs.Ytnhjbhmhloeaeaa

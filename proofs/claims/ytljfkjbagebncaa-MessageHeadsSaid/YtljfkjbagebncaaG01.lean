/-
  Math: The plain mathematics of names: labels one behind the other, each behind its length; nothing of the program is imported.
  Items: The labels of a text with the places behind them, as they come one by one; no program is imported.
  Each: The visitor of labels: what it hands to a loop's body, one by one; for every text and every body.
-/
import Derived.Test.YtljfkjbagebncaaProg
import Derived.RangeFuncNested
import Derived.RangeFuncBound
import Derived.RangeFuncCalls
import Derived.RangeFuncLeaves
import Derived.RangeFuncBox
import Derived.Shelf.Abstract
import Derived.Shelf.RegionOpen
import Derived.WalkKit
import Derived.OwnWalkIn
import Derived.TacticsInMore
import Derived.LoopNIn
import Derived.LoopIn
import Derived.Maps.AppendAt
import Derived.Lib.Hide
import Derived.BigFrameIn
import Derived.BigFrame

/- Math -/
namespace Go.Proofs.Ytljfkjbagebncaa
abbrev Bs := List UInt8
/-- How long the whole label is that bytes begin with; 0: there is none. -/
def step : Bs → Nat
  | [] => 0
  | c :: r => if c.toNat ≤ 63 ∧ c.toNat ≤ r.length then c.toNat else 0
/-- A label behind its length. -/
def enc1 (x : Bs) : Bs := UInt8.ofNat x.length :: x
def enc (ls : List Bs) : Bs := ls.flatMap enc1
def OkL (x : Bs) : Prop := 1 ≤ x.length ∧ x.length ≤ 63
instance (x : Bs) : Decidable (OkL x) := by unfold OkL; infer_instance
def labsF : Nat → Bs → List Bs
  | 0, _ => []
  | f + 1, l => if step l = 0 then [] else (l.drop 1).take (step l) :: labsF f (l.drop (1 + step l))
def restF : Nat → Bs → Bs
  | 0, l => l
  | f + 1, l => if step l = 0 then l else restF f (l.drop (1 + step l))
/-- The labels that bytes begin with. -/
def labs (l : Bs) : List Bs := labsF l.length l
/-- What stands behind them. -/
def rest (l : Bs) : Bs := restF l.length l
theorem step_le63 (l : Bs) : step l ≤ 63 := by
  cases l with
  | nil => simp [step]
  | cons c r => simp only [step]; split <;> omega
theorem step_lt (l : Bs) (h : step l ≠ 0) : 1 + step l ≤ l.length := by
  cases l with
  | nil => simp [step] at h
  | cons c r =>
    simp only [step] at h ⊢
    split at h
    · simp only [List.length_cons]; split <;> omega
    · omega
theorem step_head (l : Bs) (h : step l ≠ 0) : l = enc1 ((l.drop 1).take (step l)) ++ l.drop (1 + step l) := by
  cases l with
  | nil => simp [step] at h
  | cons c r =>
    have hs : step (c :: r) = c.toNat ∧ c.toNat ≤ 63 ∧ c.toNat ≤ r.length := by
      simp only [step] at h ⊢
      split at h
      · rename_i hc; rw [if_pos hc]; exact ⟨rfl, hc⟩
      · omega
    obtain ⟨e, h1, h2⟩ := hs
    rw [e, Nat.add_comm 1]
    simp only [List.drop_succ_cons, List.drop_zero, enc1, List.cons_append, List.length_take, Nat.min_eq_left h2, List.take_append_drop]
    congr 1
    apply UInt8.toNat_inj.1
    simp
theorem step_enc1 (x r : Bs) (h : OkL x) : step (enc1 x ++ r) = x.length := by
  obtain ⟨h1, h2⟩ := h
  have e : (UInt8.ofNat x.length).toNat = x.length := by simp; omega
  simp only [enc1, List.cons_append, step, e, List.length_append]
  rw [if_pos (by omega)]
theorem split_F (f : Nat) : ∀ l : Bs, l.length ≤ f → enc (labsF f l) ++ restF f l = l ∧ (∀ x ∈ labsF f l, OkL x) ∧ step (restF f l) = 0 := by
  induction f with
  | zero =>
    intro l hl
    obtain rfl : l = [] := List.length_eq_zero_iff.1 (by omega)
    simp [labsF, restF, enc, step]
  | succ f ih =>
    intro l hl
    simp only [labsF, restF]
    by_cases h : step l = 0
    · simp [h, enc]
    · simp only [if_neg h]
      have h1 := step_lt l h
      obtain ⟨i1, i2, i3⟩ := ih (l.drop (1 + step l)) (by simp; omega)
      refine ⟨?_, ?_, i3⟩
      · conv => rhs; rw [step_head l h]
        simp only [enc, List.flatMap_cons, List.append_assoc] at i1 ⊢
        rw [i1]
      · intro x hx
        rcases List.mem_cons.1 hx with rfl | hx
        · have := step_le63 l
          have e : ((l.drop 1).take (step l)).length = step l := by simp; omega
          exact ⟨by rw [e]; omega, by rw [e]; omega⟩
        · exact i2 x hx
theorem split (l : Bs) : enc (labs l) ++ rest l = l := (split_F l.length l (Nat.le_refl _)).1
theorem labs_ok (l : Bs) : ∀ x ∈ labs l, OkL x := (split_F l.length l (Nat.le_refl _)).2.1
theorem rest_step (l : Bs) : step (rest l) = 0 := (split_F l.length l (Nat.le_refl _)).2.2
theorem join_F (f : Nat) : ∀ (ls : List Bs) (r : Bs), (∀ x ∈ ls, OkL x) → step r = 0 → (enc ls ++ r).length ≤ f → labsF f (enc ls ++ r) = ls ∧ restF f (enc ls ++ r) = r := by
  induction f with
  | zero =>
    intro ls r h1 h2 h3
    have e : enc ls ++ r = [] := List.length_eq_zero_iff.1 (by omega)
    rw [e]
    obtain ⟨e1, rfl⟩ := List.append_eq_nil_iff.1 e
    cases ls with
    | nil => exact ⟨rfl, rfl⟩
    | cons x ls => simp [enc, enc1] at e1
  | succ f ih =>
    intro ls r h1 h2 h3
    simp only [labsF, restF]
    cases ls with
    | nil => simp [enc, h2]
    | cons x ls =>
      have hx := h1 x (by simp)
      have e : enc (x :: ls) ++ r = enc1 x ++ (enc ls ++ r) := by simp [enc]
      rw [e] at h3 ⊢
      rw [step_enc1 x _ hx]
      have hx1 := hx.1
      rw [if_neg (by omega), if_neg (by omega)]
      have d1 : (enc1 x ++ (enc ls ++ r)).drop (1 + x.length) = enc ls ++ r := by
        rw [Nat.add_comm]; simp [enc1]
      have d2 : ((enc1 x ++ (enc ls ++ r)).drop 1).take x.length = x := by simp [enc1]
      rw [d1, d2]
      obtain ⟨i1, i2⟩ := ih ls r (fun y hy => h1 y (by simp [hy])) h2 (by simp [enc1] at h3 ⊢; omega)
      rw [i1, i2]
      exact ⟨rfl, rfl⟩
theorem labs_join (ls : List Bs) (r : Bs) (h1 : ∀ x ∈ ls, OkL x) (h2 : step r = 0) : labs (enc ls ++ r) = ls := (join_F _ ls r h1 h2 (Nat.le_refl _)).1
theorem rest_join (ls : List Bs) (r : Bs) (h1 : ∀ x ∈ ls, OkL x) (h2 : step r = 0) : rest (enc ls ++ r) = r := (join_F _ ls r h1 h2 (Nat.le_refl _)).2
theorem enc_append (a b : List Bs) : enc (a ++ b) = enc a ++ enc b := by simp [enc]
theorem enc_cons (x : Bs) (b : List Bs) : enc (x :: b) = enc1 x ++ enc b := by simp [enc]
theorem enc1_length (x : Bs) : (enc1 x).length = x.length + 1 := by simp [enc1]
theorem enc_snoc_length (a : List Bs) (x : Bs) : (enc (a ++ [x])).length = (enc a).length + 1 + x.length := by
  rw [enc_append, enc_cons, List.length_append, List.length_append, enc1_length]; simp [enc]; omega
theorem length_le_enc (ls : List Bs) : ls.length ≤ (enc ls).length := by
  induction ls with
  | nil => simp
  | cons x ls ih => rw [enc_cons, List.length_append, enc1_length]; simp; omega
/-- A name, of whatever length. -/
def IsN (l : Bs) : Prop := rest l = [0]
instance (l : Bs) : Decidable (IsN l) := by unfold IsN; infer_instance
/-- What Check answers. -/
def chk (l : Bs) : Int := if rest l = [0] then (if 255 < l.length then 11 else 0) else 10
theorem chk_zero {l : Bs} : chk l = 0 ↔ rest l = [0] ∧ l.length ≤ 255 := by
  unfold chk
  by_cases h : rest l = [0]
  · rw [if_pos h]; by_cases h2 : 255 < l.length
    · rw [if_pos h2]; omega
    · rw [if_neg h2]; simp [h]; omega
  · rw [if_neg h]; simp [h]
end Go.Proofs.Ytljfkjbagebncaa

/- Items -/
namespace Go.Proofs.Ytljfkjbagebncaa
/-- A label as bytes, with the place behind it: what comes of the labels from a place on. -/
abbrev Item := { x : ByteArray × Nat // x.1.size ≤ 63 }
def item (p : Nat) (x : Bs) : Item := ⟨(⟨(x.take 63).toArray⟩, p + 1 + x.length), by
  show (List.toArray (x.take 63)).size ≤ 63
  simp; omega⟩
def items : Nat → List Bs → List Item
  | _, [] => []
  | p, x :: r => item p x :: items (p + 1 + x.length) r
theorem items_append (a b : List Bs) : ∀ p, items p (a ++ b) = items p a ++ items (p + (enc a).length) b := by
  induction a with
  | nil => intro p; simp [items, enc]
  | cons x a ih =>
    intro p
    simp only [List.cons_append, items, ih, enc_cons, List.length_append, enc1_length]
    have e : p + 1 + x.length + (enc a).length = p + (x.length + 1 + (enc a).length) := by omega
    rw [e]
theorem items_length (a : List Bs) : ∀ p, (items p a).length = a.length := by
  induction a with
  | nil => intro p; rfl
  | cons x a ih => intro p; simp [items, ih]
theorem items_snoc (p : Nat) (a : List Bs) (x : Bs) : items p (a ++ [x]) = items p a ++ [item (p + (enc a).length) x] := by
  rw [items_append]; rfl
theorem item_str (p : Nat) (x : Bs) (h : OkL x) : (item p x).1.1 = ⟨x.toArray⟩ := by
  show (⟨(x.take 63).toArray⟩ : ByteArray) = _
  rw [List.take_of_length_le h.2]
theorem size_list (s : ByteArray) : s.size = s.data.toList.length := by
  show s.data.size = _; simp
theorem get_list (s : ByteArray) (k : Nat) (h : k < s.size) : s[k] = s.data.toList[k]'(by rw [← size_list]; exact h) := rfl
/-- Where the labels stop. -/
theorem at_rest (s : ByteArray) (pre : List Bs) (r : Bs) (e : s.data.toList = enc pre ++ r) (h : (enc pre).length < s.size) : ∃ c t, r = c :: t ∧ s[(enc pre).length] = c ∧ s.size = (enc pre).length + 1 + t.length := by
  have h1 : s.size = (enc pre).length + r.length := by rw [size_list, e, List.length_append]
  cases r with
  | nil => simp at h1; omega
  | cons c t =>
    refine ⟨c, t, rfl, ?_, by simp at h1; omega⟩
    rw [get_list s _ h]
    simp [e]
theorem stop_rest (s : ByteArray) (pre : List Bs) (r : Bs) (e : s.data.toList = enc pre ++ r) (hr : step r = 0) (h : (enc pre).length < s.size) : s[(enc pre).length].toNat = 0 ∨ 63 < s[(enc pre).length].toNat ∨ s.size - (enc pre).length ≤ s[(enc pre).length].toNat := by
  obtain ⟨c, t, rfl, h1, h2⟩ := at_rest s pre r e h
  rw [h1]
  simp only [step] at hr
  split at hr
  · exact Or.inl hr
  · omega
theorem go_rest (s : ByteArray) (pre : List Bs) (x r : Bs) (e : s.data.toList = enc pre ++ (enc1 x ++ r)) (hx : OkL x) : ∃ h : (enc pre).length < s.size, s[(enc pre).length].toNat = x.length ∧ (enc pre).length + 1 + x.length ≤ s.size ∧ s.extract ((enc pre).length + 1) ((enc pre).length + 1 + x.length) = ⟨x.toArray⟩ := by
  have h1 : s.size = (enc pre).length + (1 + x.length + r.length) := by rw [size_list, e]; simp [enc1]; omega
  have h0 : (enc pre).length < s.size := by omega
  refine ⟨h0, ?_, by omega, ?_⟩
  · rw [get_list s _ h0]
    have := hx.2
    simp [e, enc1]
    omega
  · apply ByteArray.ext
    apply Array.toList_inj.1
    rw [ByteArray.data_extract, Array.toList_extract, e]
    simp [List.extract, enc1]
end Go.Proofs.Ytljfkjbagebncaa

/- Each -/
namespace Go.Proofs.Ytljfkjbagebncaa
open Go.RowKit Go.Shelf
attribute [local go_sem] Oper.semAt_some
abbrev encI (x : Item) : Array Value := #[.string x.1.1, .int .i64 (x.1.2 : Int)]
/-- One cell holds what it held. -/
def KpB (B : Nat) (A C : World) : Prop := ∀ v, A.cell? ⟨B, 0, none⟩ = some v → C.cell? ⟨B, 0, none⟩ = some v
theorem kpB_t {B : Nat} {A C D : World} (h : KpB B A C) (k : KpB B C D) : KpB B A D := fun v e => k v (h v e)
theorem kpB_b {B : Nat} {w : World} (W : World) (l : Nat) (o o' : Obj) (_ : w.heap.size ≤ l) (hl : W.heap[l]? = some o) (ho : o.isCells = false) (_ : o.isWalk = false) : KpB B W (W.putObj l o') :=
  fun _ e => cell_kept e (grownBy_putObj' W l o') (fun r e => by cases e; exact ⟨o, hl, ho⟩)
theorem kpB_below {B n₀ : Nat} {A C : World} (h : Below n₀ A C) (hB : B < n₀) : KpB B A C := fun _ e => (h.cell (p := ⟨B, 0, none⟩) hB).trans e
theorem kpB_refl (B : Nat) (A : World) : KpB B A A := fun _ e => e
theorem kpB_set {B : Nat} {A : World} {r : Nat} (h : B ≠ r) (v : Value) : KpB B A (A.setCell ⟨r, 0, none⟩ v) := fun u e => by
  rw [← e]; exact World.cell?_setCell_other _ _ _ _ (fun hh => h (congrArg Addr.block hh).symm)
set_option maxRecDepth 100000 in
set_option maxHeartbeats 1600000 in
theorem each1_in (F : Fence) (n : Nat) (h43 : F.fn 111) (hro : F.round = none) (hn : 1 ≤ n) (l B : Nat) (s : ByteArray) (hs : s.size ≤ 140737488351232) (J Jx : List Item → World → Prop)
    (hY : ∀ pre x W, J pre W → pre.length < (labs s.data.toList).length → YieldAt F (n - 1) Try.prog l (encI x) W fun e W' =>
      (e = .returned (.bool true) ∧ J (pre ++ [x]) W' ∧ KpB B W W') ∨ (e = .returned (.bool false) ∧ Jx (pre ++ [x]) W'))
    (W : World) (hc : W.cell? ⟨B, 0, none⟩ = some (.string s)) (h0 : J [] W) :
    CallsIn F n Try.prog 111 #[.func (.yield l) #[] #[], .pointer (some ⟨B, 0, none⟩)] W fun e W' => (∃ v, e = .returned v) ∧
      ((∃ ys, ys = items 0 (labs s.data.toList) ∧ J ys W') ∨ (∃ pre, (∃ k, k ≤ (labs s.data.toList).length ∧ pre = items 0 ((labs s.data.toList).take k)) ∧ Jx pre W')) := by
  have HY := Lib.hid hY
  clear hY
  refine callsIn_of_wp Try.func111 rfl h43 ?_ hro
  simp only [Try.ntmps111, List.size_toArray, List.length_cons, List.length_nil, Nat.reduceAdd, Nat.reduceSub, Array.replicate_succ, Array.replicate_zero, List.push_toArray, List.append_toArray, List.nil_append, List.cons_append]
  gi_wp2
  gi_loopw [3] (fun i wr => ∃ (pre rst : List Bs), labs s.data.toList = pre ++ rst ∧ (enc pre).length ≤ s.size ∧ i = .int .i64 ((enc pre).length : Int) ∧ wr.cell? ⟨B, 0, none⟩ = some (.string s) ∧ J (items 0 pre) wr)
    (fun i _ => s.size - (intOf i).toNat)
  case atStart => exact ⟨[], _, rfl, Nat.zero_le _, rfl, hc, h0⟩
  case round =>
    clear hc h0
    obtain ⟨pre, rst, hl, hle, rfl, hc, hJ⟩ := hrel
    have hsp := split s.data.toList
    have hok := labs_ok s.data.toList
    rw [hl] at hsp hok
    cases rst with
    | nil =>
      simp only [List.append_nil] at hl hsp
      have hr := stop_rest s pre _ hsp.symm (rest_step _)
      have HL := Lib.hid hl
      clear hl hsp hok
      generalize hp : (enc pre).length = p at hle hr ⊢
      clear hp
      by_cases hlt : p < s.size
      · have hr' := hr hlt
        have hdd : (p : Int) < (s.size : Int) := by omega
        obtain ⟨c, hc'⟩ : ∃ c, s[p].toNat = c := ⟨_, rfl⟩
        have hcb : (c : Int) < 256 := by have := s[p].toNat_lt; omega
        rw [hc'] at hr'
        clear hr
        by_cases g1 : c = 0
        · subst g1
          clear hr'
          gi_wp2
          refine bodyPost_ret (results_none rfl _ _ _) rfl ?_
          exact ⟨⟨_, rfl⟩, .inl ⟨_, by rw [HL.out], hJ⟩⟩
        · have q1 : ((c : Int) == 0) = false := by simp; omega
          by_cases g2 : 63 < c
          · have q2 : (63 : Int) < (c : Int) := by omega
            clear hr'
            gi_wp2
            refine bodyPost_ret (results_none rfl _ _ _) rfl ?_
            exact ⟨⟨_, rfl⟩, .inl ⟨_, by rw [HL.out], hJ⟩⟩
          · have q2 : decide ((63 : Int) < (c : Int)) = false := by simp; omega
            have q3 : (s.size : Int) - (p : Int) ≤ (c : Int) := by omega
            clear hr'
            gi_wp2
            refine bodyPost_ret (results_none rfl _ _ _) rfl ?_
            exact ⟨⟨_, rfl⟩, .inl ⟨_, by rw [HL.out], hJ⟩⟩
      · have hdd : (s.size : Int) ≤ (p : Int) := by omega
        clear hr
        gi_wp2
        go_end0
        exact ⟨⟨_, rfl⟩, .inl ⟨_, by rw [HL.out], hJ⟩⟩
    | cons x rst =>
      have hx : OkL x := hok x (by simp)
      rw [enc_append, enc_cons, List.append_assoc, List.append_assoc] at hsp
      obtain ⟨hlt, hb, hle2, hex⟩ := go_rest s pre x _ hsp.symm hx
      have hs1 := items_snoc 0 pre x
      have hs2 := item_str (0 + (enc pre).length) x hx
      obtain ⟨fn, tmps, assign, body, hy, hR⟩ := HY.out _ (item (0 + (enc pre).length) x) wr hJ (by rw [items_length, hl]; simp)
      dsimp only [encI] at hy
      rw [hs2] at hy
      have hs3 : (item (0 + (enc pre).length) x).1.2 = (enc pre).length + 1 + x.length := by simp [item]
      rw [hs3] at hy
      have H1 := Lib.hid hs1
      have HL := Lib.hid hl
      have HE := Lib.hid (enc_snoc_length pre x)
      have HR := Lib.hid hR
      obtain ⟨hx1, hx2⟩ := hx
      clear hs1 hs2 hs3 hl hsp hok hR
      generalize hp : (enc pre).length = p at hle hlt hb hle2 hex hy HE H1 HR ⊢
      clear hp
      generalize hm : x.length = m at hb hle2 hex hy HE hx1 hx2 ⊢
      have q0 : (p : Int) < (s.size : Int) := by omega
      have q1 : ((m : Int) == 0) = false := by simp; omega
      have q2 : decide ((63 : Int) < (m : Int)) = false := by simp; omega
      have q3 : decide ((s.size : Int) - (p : Int) ≤ (m : Int)) = false := by simp; omega
      have HM := Lib.hid hm
      have hmb : (m : Int) ≤ 63 := by omega
      have hsl : ∀ w, (Instr.slice 9 (.string s) (some (.int .i64 ((p : Int) + 1))) (some (.int .i64 ((p : Int) + 1 + (m : Int)))) none).run Try.prog w = .ok (.string ⟨x.toArray⟩) w := fun w => by
        have h := run_slice_string (P := Try.prog) w 9 s .i64 .i64 ((p : Int) + 1) ((p : Int) + 1 + (m : Int)) Try.underlying9 (by omega) (by omega) (by omega)
        rw [h, ← hex]
        congr 3 <;> omega
      have hcast : ((p + 1 + m : Nat) : Int) = (p : Int) + 1 + (m : Int) := by omega
      rw [hcast] at hy
      clear hm hcast hex
      gi_wp2
      refine HR.out.mono ?_
      rintro e W3 (⟨rfl, hJ3, hk3⟩ | ⟨rfl, hJx3⟩)
      · have hc3 : W3.cell? ⟨B, 0, none⟩ = some (.string s) := hk3 _ hc
        rw [← H1.out] at hJ3
        clear hy hsl hc hJ
        gi_wp2
        go_roundw
        case rel => exact ⟨pre ++ [x], rst, by rw [HL.out]; simp, by rw [HE.out]; exact hle2, by rw [HE.out]; go_num, hc3, hJ3⟩
        case measure => simp [intOf]; omega
      · rw [← H1.out] at hJx3
        clear hy hsl hc hJ
        gi_wp2
        refine bodyPost_ret (results_none rfl _ _ _) rfl ?_
        exact ⟨⟨_, rfl⟩, .inr ⟨_, ⟨(pre ++ [x]).length, by rw [HL.out]; simp, by rw [HL.out, show pre ++ x :: rst = (pre ++ [x]) ++ rst by simp, List.take_left' rfl]⟩, hJx3⟩⟩
set_option maxHeartbeats 1000000 in
/-- each(n): the text is boxed; the function value captures the box. -/
theorem each_in (F : Fence) (n : Nat) (h36 : F.fn 84) (hro : F.round = none) (s : ByteArray) (w : World) :
    CallsIn F n Try.prog 84 #[.string s] w fun e w' => e = .returned (.func (.func 111) #[] #[.pointer (some ⟨w.heap.size, 0, none⟩)]) ∧ w' = w.alloc (.cells #[.string s] 9) := by
  refine callsIn_of_wp Try.func84 rfl h36 ?_ hro
  simp only [Try.ntmps84, List.size_toArray, List.length_cons, List.length_nil, Nat.reduceAdd, Nat.reduceSub, Array.replicate_succ, Array.replicate_zero, List.push_toArray, List.append_toArray, List.nil_append, List.cons_append]
  gi_wp2
  go_ret
  exact ⟨rfl, rfl⟩
/-- What comes of the labels of a text when all of them have come; or some. -/
def AllOf (s : ByteArray) (ys : List Item) : Prop := ys = items 0 (labs s.data.toList)
def PartOf (s : ByteArray) (pre : List Item) : Prop := ∃ k, k ≤ (labs s.data.toList).length ∧ pre = items 0 ((labs s.data.toList).take k)
theorem each_stops (F : Fence) (n : Nat) (h43 : F.fn 111) (hro : F.round = none) (hn : 1 ≤ n) (B : Nat) (s : ByteArray) (hs : s.size ≤ 140737488351232) (w : World) (hBn : B < w.heap.size)
    (hc : w.cell? ⟨B, 0, none⟩ = some (.string s)) :
    SeqStopsK F n Try.prog 111 #[.pointer (some ⟨B, 0, none⟩)] encI (KpB B) (AllOf s) (PartOf s) (labs s.data.toList).length w := fun l J Jx W hW _ _ hY h0 => by
  have hc' := (hW.cell (p := ⟨B, 0, none⟩) hBn).trans hc
  exact each1_in F n h43 hro hn l B s hs J Jx hY W hc' h0
end Go.Proofs.Ytljfkjbagebncaa

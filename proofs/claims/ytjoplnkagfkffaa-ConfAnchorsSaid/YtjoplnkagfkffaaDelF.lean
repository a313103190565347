/-
  The first flush for which a test holds; all for which it doesn't.
-/
import Derived.Test.YtjoplnkagfkffaaElems
namespace Go.Proofs.Ytjoplnkagfkffaa
open Go.RowKit
abbrev Fl'.v (f : Fl') : Value := .agg #[it f.ep, .string f.zone]
/-- The first place at which a test holds; the length, where it holds nowhere. -/
def fidx {α : Type} (p : α → Bool) : List α → Nat
  | [] => 0
  | x :: r => if p x then 0 else fidx p r + 1
theorem fidx_le {α : Type} (p : α → Bool) (L : List α) : fidx p L ≤ L.length := by
  induction L with
  | nil => exact Nat.le_refl _
  | cons x r ih => unfold fidx; split <;> simp <;> omega
theorem fidx_lt {α : Type} {p : α → Bool} {L : List α} {i : Nat} {x : α} (h : L[i]? = some x) (hi : i < fidx p L) : p x = false := by
  induction L generalizing i with
  | nil => simp at h
  | cons y r ih =>
    unfold fidx at hi
    split at hi
    · omega
    · rename_i hy
      cases i with
      | zero => have : y = x := by simpa using h
                subst this; simpa using hy
      | succ i => exact ih (by simpa using h) (by omega)
theorem fidx_at {α : Type} {p : α → Bool} {L : List α} {i : Nat} {x : α} (h : L[i]? = some x) (hi : i ≤ fidx p L) (hp : p x = true) : fidx p L = i := by
  have h1 : ¬ i < fidx p L := fun hlt => by rw [fidx_lt h hlt] at hp; cases hp
  omega
theorem fidx_more {α : Type} {p : α → Bool} {L : List α} {i : Nat} {x : α} (h : L[i]? = some x) (hi : i ≤ fidx p L) (hp : p x = false) : i + 1 ≤ fidx p L := by
  rcases Nat.lt_or_ge i (fidx p L) with h1 | h1
  · exact h1
  · exfalso
    have e : fidx p L = i := by omega
    clear h1 hi
    induction L generalizing i with
    | nil => simp at h
    | cons y r ih =>
      unfold fidx at e
      split at e
      · subst e
        have : y = x := by simpa using h
        subst this
        rename_i hy; rw [hy] at hp; cases hp
      · cases i with
        | zero => omega
        | succ i => exact ih (by simpa using h) (by omega)
theorem at2 {α : Type} {E : El α} {w : World} {a : Option Addr} {n cap : Nat} {L : List α} (h : RdX E w (.slice a n cap) L) (hk : E.k = 2) {i : Nat} {x : α} {u v : Value} (hi : L[i]? = some x) (he : E.enc x = [u, v]) :
    ∃ g o, a = some ⟨g, o, none⟩ ∧ g < w.heap.size ∧ w.cell? ⟨g, o + i * 2, none⟩ = some u ∧ w.cell? ⟨g, o + i * 2 + 1, none⟩ = some v := by
  obtain ⟨_, g, o, ha, hg, hc⟩ := h.at hi
  rw [hk, he] at hc
  exact ⟨g, o, ha, hg, hc 0 (by omega), hc 1 (by omega)⟩
theorem at1 {α : Type} {E : El α} {w : World} {a : Option Addr} {n cap : Nat} {L : List α} (h : RdX E w (.slice a n cap) L) (hk : E.k = 1) {i : Nat} {x : α} {u : Value} (hi : L[i]? = some x) (he : E.enc x = [u]) :
    ∃ g o, a = some ⟨g, o, none⟩ ∧ g < w.heap.size ∧ w.cell? ⟨g, o + i, none⟩ = some u := by
  obtain ⟨_, g, o, ha, hg, hc⟩ := h.at hi
  rw [hk, he] at hc
  have := hc 0 (by omega)
  rw [Nat.mul_one] at this
  exact ⟨g, o, ha, hg, this⟩
/-- What such a search answers. -/
def fiI {α : Type} (p : α → Bool) (L : List α) : Int := if fidx p L < L.length then (fidx p L : Int) else -1
set_option maxRecDepth 100000 in
set_option maxHeartbeats 3200000 in
theorem idxF_any {w : World} {a : Option Addr} {n cap : Nat} {L : List Fl'} (h : RdX elF w (.slice a n cap) L) (hl : L.length ≤ 1000000) (g : FuncId) (cb : Array Value) (p : Fl' → Bool)
    (hN : ∀ args w, (callFunc g args).run Try.prog w = .ok (.enter g args) w)
    (hp : ∀ W, ∀ x ∈ L, Below w.heap.size w W → Calls Try.prog g (#[x.v] ++ cb) W fun e W' => e = .returned (.bool (p x)) ∧ Below W.heap.size W W') :
    Calls Try.prog 72 #[.slice a n cap, .func (.func g) #[] cb] w fun e w' => e = .returned (it (fiI p L)) ∧ Below w.heap.size w w' := by
  have hn := h.len
  have HR := Lib.hid h
  have HP := Lib.hid hp
  have HN := Lib.hid hn
  have hl' : n ≤ 1000000 := by omega
  clear h hp hl hn
  go_enter Try.func72, Try.ntmps72
  go_wp2
  go_loopw [8] (fun i wr => ∃ k : Nat, k ≤ n ∧ i = it (k : Int) ∧ k ≤ fidx p L ∧ Below w.heap.size w wr) (fun i _ => n - (intOf i).toNat)
  case atStart => exact ⟨0, by omega, rfl, Nat.zero_le _, Below.refl _ _⟩
  case round =>
    obtain ⟨k, hk, rfl, hf, hb⟩ := hrel
    have HB := Lib.hid hb
    have HF := Lib.hid hf
    by_cases hlt : k < n
    · have q1 : (k : Int) < (n : Int) := by omega
      obtain ⟨x, hx⟩ : ∃ x, L[k]? = some x := ⟨_, List.getElem?_eq_getElem (by rw [← HN.out]; exact hlt)⟩
      obtain ⟨b, o, rfl, hg, c0, c1⟩ := at2 HR.out rfl hx rfl
      have c0 := (hb.cell (p := ⟨b, o + k * 2, none⟩) hg).trans c0
      have c1 := (hb.cell (p := ⟨b, o + k * 2 + 1, none⟩) hg).trans c1
      have HC := Lib.hid (HP.out wr x (List.mem_of_getElem? hx) hb)
      have HX := Lib.hid hx
      clear hb hf hx
      go_wp2_with fail
      refine HC.out.mono ?_
      rintro e w2 ⟨rfl, hb2⟩
      have HB2 := Lib.hid (HB.out.trans (hb2.mono HB.out.size))
      clear hb2
      cases hpx : p x with
      | true =>
        have HE := Lib.hid (fidx_at HX.out HF.out hpx)
        go_wp2
        go_ret
        have e : fiI p L = (k : Int) := by unfold fiI; rw [HE.out, if_pos (by rw [← HN.out]; exact hlt)]
        exact ⟨by rw [e]; rfl, HB2.out⟩
      | false =>
        have HE := Lib.hid (fidx_more HX.out HF.out hpx)
        go_wp2
        go_roundw
        case rel => exact ⟨k + 1, by omega, by go_num, HE.out, HB2.out⟩
        case measure => simp [intOf]; omega
    · have q1 : decide ((k : Int) < (n : Int)) = false := by simp; omega
      clear hb hf
      go_wp2
      go_ret
      have e : fiI p L = -1 := by unfold fiI; rw [if_neg (by have := HF.out; have := HN.out; omega)]
      exact ⟨by rw [e]; rfl, HB.out⟩
theorem run_zeroK {α : Type} (E : El α) (w : World) : (zeroValue E.e).run Try.prog w = .ok E.z w := by
  obtain ⟨i, hi, hz0, hz1, hz2⟩ := info_parts E.hinf
  simp [zeroValue, typeInfo, hi, hz0]
theorem setCells_ce {b : Nat} {T : TypeId} : ∀ (vs : List Value) (o : Nat) (w : World) (cs : Array Value), Ce w b T cs → ∃ cs', Ce (w.setCells b o vs) b T cs' ∧ cs'.size = cs.size ∧ ∀ i, i < o → cs'[i]? = cs[i]?
  | [], _, _, cs, h => ⟨cs, h, rfl, fun _ _ => rfl⟩
  | v :: r, o, w, cs, h => by
    obtain ⟨cs', h1, h2, h3⟩ := setCells_ce r (o + 1) _ _ (h.set v (i := o))
    refine ⟨cs', h1, by rw [h2]; simp, fun i hi => ?_⟩
    rw [h3 i (by omega), Array.getElem?_setIfInBounds_ne (by omega)]
theorem setCells_tr (b : Nat) : ∀ (vs : List Value) (o : Nat) (w : World), Tr (· = b) w (w.setCells b o vs)
  | [], _, w => Tr.refl _ w
  | v :: r, o, w => ((Tr.refl (· = b) w).setCell (i := o) (.inl rfl) v).then (setCells_tr b r (o + 1) _)
theorem run_clearK {α : Type} (E : El α) (hz : ∀ n, ∀ u ∈ (Builtin.zeroCells E.z.cells n).toList, u.oneCell' = true) (w : World) (ty : TypeId) {g o n c : Nat} {cs : Array Value} (hn : 0 < n) (h : Ce w g E.e cs) (hs : o + n * E.k ≤ cs.size) :
    (Builtin.clear_ #[E.t] ty #[.slice (some ⟨g, o, none⟩) n c]).run Try.prog w = .ok (.tuple #[]) (w.setCells g o (Builtin.zeroCells E.z.cells n).toList) := by
  have hl : (Builtin.zeroCells E.z.cells n).toList.length = n * E.k := by simp [Builtin.zeroCells, E.hzc]
  have hst := run_storeCells_cells (P := Try.prog) g o (Builtin.zeroCells E.z.cells n).toList 0 w (fun j hj => by rw [h.cell, Array.getElem?_eq_getElem (by omega)]; rfl) (fun j _ => h.frozen _) (hz n)
  simp only [Nat.add_zero] at hst
  obtain ⟨m, rfl⟩ : ∃ m, n = m + 1 := ⟨n - 1, by omega⟩
  simp [Builtin.clear_, run_underlying E.ht, run_zeroK E, hst]
/-- Where the search has come to j: what was kept so far stands ahead, what is still to be looked at from j on. -/
def Mid {α : Type} (E : El α) (w : World) (g cap n : Nat) (K L : List α) (j : Nat) : Prop := ∃ cur, Ce w g E.e cur ∧ cur.size = cap * E.k ∧ (∀ (i : Nat) u, (E.fl K)[i]? = some u → cur[i]? = some u) ∧ (∀ i, j * E.k ≤ i → i < n * E.k → cur[i]? = (E.fl L)[i]?)
theorem Mid.lt {α : Type} {E : El α} {w : World} {g cap n : Nat} {K L : List α} {j : Nat} (h : Mid E w g cap n K L j) : g < w.heap.size := let ⟨_, h, _⟩ := h; h.lt
theorem Mid.below {α : Type} {E : El α} {w w' : World} {g cap n : Nat} {K L : List α} {j : Nat} (h : Mid E w g cap n K L j) (hb : Below w.heap.size w w') : Mid E w' g cap n K L j := let ⟨c, h, r⟩ := h; ⟨c, h.below hb, r⟩
theorem Mid.skip {α : Type} {E : El α} {w : World} {g cap n : Nat} {K L : List α} {j : Nat} (h : Mid E w g cap n K L j) : Mid E w g cap n K L (j + 1) := let ⟨c, h, h1, h2, h3⟩ := h; ⟨c, h, h1, h2, fun i hi => h3 i (by rw [Nat.succ_mul] at hi; omega)⟩
theorem Mid.get {α : Type} {E : El α} {w : World} {g cap n : Nat} {K L : List α} {j : Nat} (h : Mid E w g cap n K L j) (hk : E.k = 2) (hj : j < n) {x : α} (hx : L[j]? = some x) {u v : Value} (he : E.enc x = [u, v]) :
    w.cell? ⟨g, j * 2, none⟩ = some u ∧ w.cell? ⟨g, j * 2 + 1, none⟩ = some v := by
  obtain ⟨cur, h0, _, _, h3⟩ := h
  have e0 := El.fl_at hx 0 E.h0
  have e1 := El.fl_at hx 1 (by rw [hk]; decide)
  rw [hk, he] at e0 e1
  rw [hk] at h3
  rw [h0.cell, h0.cell, h3 _ (by omega) (by omega), h3 _ (by omega) (by omega)]
  exact ⟨e0, e1⟩
theorem Mid.any {α : Type} {E : El α} {w : World} {g cap n : Nat} {K L : List α} {j i : Nat} (h : Mid E w g cap n K L j) (hk : E.k = 2) (hi : i < cap) :
    (∃ u v, w.cell? ⟨g, i * 2, none⟩ = some u ∧ w.cell? ⟨g, i * 2 + 1, none⟩ = some v) ∧ w.frozen? ⟨g, i * 2, none⟩ = false ∧ w.frozen? ⟨g, i * 2 + 1, none⟩ = false := by
  obtain ⟨cur, h0, h1, _, _⟩ := h
  rw [hk] at h1
  refine ⟨⟨cur[i * 2]'(by omega), cur[i * 2 + 1]'(by omega), ?_, ?_⟩, h0.frozen _, h0.frozen _⟩
  · rw [h0.cell, Array.getElem?_eq_getElem]
  · rw [h0.cell, Array.getElem?_eq_getElem]
theorem Mid.put {α : Type} {E : El α} {w : World} {g cap n : Nat} {K L : List α} {j i : Nat} (h : Mid E w g cap n K L j) (hk : E.k = 2) (hi : i = K.length) (hj : i < j) (hn : j < n) (hc : n ≤ cap) {x : α} {u v : Value} (he : E.enc x = [u, v]) :
    Mid E ((w.setCell ⟨g, i * 2, none⟩ u).setCell ⟨g, i * 2 + 1, none⟩ v) g cap n (K ++ [x]) L (j + 1) := by
  obtain ⟨cur, h0, h1, h2, h3⟩ := h
  subst hi
  have hl := El.fl_length (E := E) K
  rw [hk] at h1 h3 hl
  refine ⟨_, (h0.set u (i := K.length * 2)).set v (i := K.length * 2 + 1), by rw [Array.size_setIfInBounds, Array.size_setIfInBounds, hk]; exact h1, fun q y hq => ?_, fun q hq1 hq2 => ?_⟩
  · have e : E.fl (K ++ [x]) = E.fl K ++ [u, v] := by rw [El.fl_append, El.fl_cons, he]; rfl
    rw [e] at hq
    by_cases hq1 : q < K.length * 2
    · rw [List.getElem?_append_left (by omega)] at hq
      rw [Array.getElem?_setIfInBounds_ne (by omega), Array.getElem?_setIfInBounds_ne (by omega)]
      exact h2 q y hq
    · rw [List.getElem?_append_right (by omega), hl] at hq
      by_cases hq2 : q = K.length * 2
      · subst hq2
        rw [Array.getElem?_setIfInBounds_ne (by omega), Array.getElem?_setIfInBounds_self_of_lt (by omega)]
        simpa using hq
      · by_cases hq3 : q = K.length * 2 + 1
        · subst hq3
          rw [Array.getElem?_setIfInBounds_self_of_lt (by rw [Array.size_setIfInBounds]; omega)]
          simpa using hq
        · exfalso
          have := (List.getElem?_eq_some_iff.1 hq).1
          simp at this
          omega
  · rw [hk] at hq1 hq2
    rw [Array.getElem?_setIfInBounds_ne (by omega), Array.getElem?_setIfInBounds_ne (by omega)]
    exact h3 q (by omega) (by omega)
theorem Mid.tr_put {S : Nat → Prop} {w0 w : World} {g i : Nat} {u v : Value} (h : Tr S w0 w) (hS : S g) : Tr S w0 ((w.setCell ⟨g, i * 2, none⟩ u).setCell ⟨g, i * 2 + 1, none⟩ v) := (h.setCell (.inl hS) u).setCell (.inl hS) v
theorem filt_snoc {α : Type} {p : α → Bool} {L : List α} {j : Nat} {x : α} (h : L[j]? = some x) : (L.take (j + 1)).filter p = (L.take j).filter p ++ (if p x then [x] else []) := by
  rw [List.take_add_one, h, List.filter_append]
  congr 1
  cases hp : p x <;> simp [hp]
theorem filt_len {α : Type} {p : α → Bool} {L : List α} {j : Nat} : ((L.take j).filter p).length ≤ j := by
  have := List.length_filter_le p (L.take j)
  rw [List.length_take] at this
  omega
theorem fidx_take {α : Type} {p : α → Bool} {L : List α} {j : Nat} (h : j ≤ fidx p L) : (L.take j).filter (fun x => !p x) = L.take j := by
  rw [List.filter_eq_self]
  intro x hx
  obtain ⟨i, hi, e⟩ := List.mem_iff_getElem.1 hx
  rw [List.length_take] at hi
  rw [List.getElem_take] at e
  have := fidx_lt (p := p) (L := L) (i := i) (x := x) (by rw [← e]; exact List.getElem?_eq_getElem _) (by omega)
  simp [this]
theorem own_mid {α : Type} {E : El α} {w : World} {base : Nat} {g n cap : Nat} {L : List α} (h : OwnX E w base (.slice (some ⟨g, 0, none⟩) n cap) L) (k : Nat) (hk : k ≤ L.length) : n = L.length ∧ base ≤ g ∧ n ≤ cap ∧ cap ≤ maxLen ∧ Mid E w g cap n (L.take k) L k := by
  have hn := h.rd.len
  subst hn
  rcases h.2 with ⟨e, _⟩ | ⟨g', cap', cur, e, hb, hg, h1, h2, h3, h4⟩
  · cases e
  · cases e
    have hc : ∀ i, i < L.length * E.k → cur[i]? = (E.fl L)[i]? := fun i hi => by
      rw [← h4, List.getElem?_take, if_pos hi, Array.getElem?_toList]
    refine ⟨rfl, hb, h1, h2, cur, hg, h3, fun i u hu => ?_, fun i _ hi => hc i hi⟩
    rw [El.fl_take, List.getElem?_take] at hu
    split at hu
    · rename_i h5
      rw [hc i (Nat.lt_of_lt_of_le h5 (Nat.mul_le_mul_right _ hk))]
      exact hu
    · cases hu
theorem own_form {α : Type} {E : El α} {w : World} {base : Nat} {v : Value} {L : List α} (h : OwnX E w base v L) : (v = .slice none 0 0 ∧ L = []) ∨ ∃ g cap, v = .slice (some ⟨g, 0, none⟩) L.length cap := by
  rcases h.2 with ⟨e, h0⟩ | ⟨g', cap', cur, e, _⟩
  · exact .inl ⟨e, List.eq_nil_of_length_eq_zero h0⟩
  · exact .inr ⟨g', cap', e⟩
/-- Cut off behind what was kept, a row of one's own. -/
theorem mid_own {α : Type} {E : El α} {w : World} {base g cap n : Nat} {K L : List α} {j : Nat} (h : Mid E w g cap n K L j) (hb : base ≤ g) (hk : K.length ≤ cap) (hm : cap ≤ maxLen) {cs : List Value} {o : Nat} (ho : K.length * E.k ≤ o) :
    OwnX E (w.setCells g o cs) base (.slice (some ⟨g, 0, none⟩) K.length cap) K := by
  obtain ⟨cur, h0, h1, h2, _⟩ := h
  obtain ⟨cs', c1, c2, c3⟩ := setCells_ce cs o w cur h0
  refine ⟨El.fl_length K, .inr ⟨g, cap, cs', rfl, hb, c1, hk, hm, by rw [c2, h1], ?_⟩⟩
  have hlt : K.length * E.k ≤ cs'.toList.length := by
    have e : cs'.toList.length = cap * E.k := by rw [Array.length_toList, c2, h1]
    rw [e]; exact Nat.mul_le_mul_right _ hk
  apply List.ext_getElem
  · rw [List.length_take, El.fl_length]; omega
  · intro i hi1 hi2
    rw [El.fl_length] at hi2
    rw [List.getElem_take]
    have e1 : cs'[i]? = some ((E.fl K)[i]'(by rw [El.fl_length]; exact hi2)) := by
      rw [c3 i (by omega)]
      exact h2 i _ (List.getElem?_eq_getElem _)
    rw [← Option.some_inj, ← e1]
    rw [Array.getElem_toList, ← Array.getElem?_eq_getElem]
theorem zonesF (n : Nat) : ∀ u ∈ (Builtin.zeroCells elF.z.cells n).toList, u.oneCell' = true := by
  intro u hu
  unfold Builtin.zeroCells at hu
  rw [Array.toList_map, List.mem_map] at hu
  obtain ⟨i, _, rfl⟩ := hu
  have hs : elF.z.cells = #[.int .i64 0, .string ⟨#[]⟩] := rfl
  rw [hs]
  have : i % 2 < 2 := Nat.mod_lt _ (by decide)
  show (#[.int .i64 0, .string ⟨#[]⟩] : Array Value)[i % 2]!.oneCell' = true
  rcases (by omega : i % 2 = 0 ∨ i % 2 = 1) with h | h <;> rw [h] <;> rfl
theorem slice_fromF {g n cap i : Nat} (hi : i < n) (hc : n ≤ cap) (w : World) : (Instr.slice 27 (.slice (some ⟨g, 0, none⟩) n cap) (some (it (i : Int))) none none).run Try.prog w = .ok (.slice (some ⟨g, i * 2, none⟩) (n - i) (cap - i)) w := by
  obtain ⟨j, hj, hz0, hz1, hz2⟩ := info_parts infoF
  have h4 : i ≤ n := by omega
  have h5 : ¬ cap = i := by omega
  simp [Instr.slice, Instr.sliceBounds, Instr.sliceBound, run_underlying Try.underlying27, sizeOf, typeInfo, hj, asIntOf, h4, h5, hz1, add_any]
theorem slice_tillF {g n cap i : Nat} (hi : i ≤ cap) (w : World) : (Instr.slice 27 (.slice (some ⟨g, 0, none⟩) n cap) none (some (it (i : Int))) none).run Try.prog w = .ok (.slice (some ⟨g, 0, none⟩) i cap) w := by
  obtain ⟨j, hj, hz0, hz1, hz2⟩ := info_parts infoF
  simp [Instr.slice, Instr.sliceBounds, Instr.sliceBound, run_underlying Try.underlying27, sizeOf, typeInfo, hj, asIntOf, hi, add_any]
set_option maxRecDepth 100000 in
set_option maxHeartbeats 3200000 in
theorem delF_any {w : World} {base : Nat} {v : Value} {L : List Fl'} (h : OwnX elF w base v L) (hl : L.length ≤ 1000000) (g : FuncId) (cb : Array Value) (p : Fl' → Bool)
    (hN : ∀ args w, (callFunc g args).run Try.prog w = .ok (.enter g args) w)
    (hp : ∀ W, ∀ x ∈ L, Tr (fun b => v.ownBlock = some b) w W → Calls Try.prog g (#[x.v] ++ cb) W fun e W' => e = .returned (.bool (p x)) ∧ Below W.heap.size W W') :
    Calls Try.prog 55 #[v, .func (.func g) #[] cb] w fun e w' => ∃ v', e = .returned v' ∧ OwnX elF w' base v' (L.filter fun x => !p x) ∧ v'.ownBlock = v.ownBlock ∧ Tr (fun b => v.ownBlock = some b) w w' := by
  obtain ⟨a, cap, hv, hlc, hcm⟩ := h.shape
  have HI := Lib.hid (idxF_any (n := L.length) (cap := cap) (a := a) (hv ▸ h.rd) hl g cb p hN (fun W x hx hb => hp W x hx (Tr.of_below hb)))
  by_cases hf : fidx p L < L.length
  case neg =>
    have hall : L.filter (fun x => !p x) = L := by
      have := fidx_take (p := p) (L := L) (j := L.length) (by omega)
      rwa [List.take_length] at this
    rw [hall]
    have e : fiI p L = -1 := if_neg hf
    rw [e] at HI
    have H := Lib.hid h
    subst hv
    clear h hp hf e hall
    generalize L.length = n at *
    go_enter Try.func55, Try.ntmps55
    go_wp2_with fail
    refine HI.out.mono ?_
    rintro e w2 ⟨rfl, hb⟩
    have HB := Lib.hid hb
    clear hb
    go_wp2
    go_ret
    exact ⟨_, rfl, H.out.below HB.out, rfl, Tr.of_below HB.out⟩
  case pos =>
    have e : fiI p L = (fidx p L : Int) := if_pos hf
    rw [e] at HI
    rcases own_form h with ⟨_, rfl⟩ | ⟨b, cap', hv'⟩
    · simp at hf
    obtain rfl : cap' = cap := by rw [hv] at hv'; cases hv'; rfl
    obtain rfl : a = some ⟨b, 0, none⟩ := by rw [hv] at hv'; cases hv'; rfl
    clear hv'
    subst hv
    obtain ⟨_, hbb, _, _, hm⟩ := own_mid h (fidx p L) (by omega)
    have HTK := Lib.hid (fidx_take (p := p) (L := L) (Nat.le_refl _))
    have HX : Hid (∃ x, L[fidx p L]? = some x ∧ p x = true) := Lib.hid (by
      obtain ⟨x, hx⟩ : ∃ x, L[fidx p L]? = some x := ⟨_, List.getElem?_eq_getElem hf⟩
      refine ⟨x, hx, ?_⟩
      cases hpx : p x with
      | true => rfl
      | false => have := fidx_more hx (Nat.le_refl _) hpx; omega)
    obtain ⟨k0, hk0⟩ : ∃ k0, k0 = fidx p L := ⟨_, rfl⟩
    obtain ⟨n, hn⟩ : ∃ n, n = L.length := ⟨_, rfl⟩
    have HP := Lib.hid hp
    have HM := Lib.hid hm
    have HN := Lib.hid hn
    have HBB := Lib.hid hbb
    have HCM := Lib.hid hcm
    rw [← hk0] at HI HTK HX hf HM
    rw [← hn] at HI hf hlc hl HM HP ⊢
    clear h hp hm hn hk0 hbb hcm e
    have hw0 : wrap64 ((k0 : Int) + 1) = (k0 : Int) + 1 := by unfold wrap64; omega
    go_enter Try.func55, Try.ntmps55
    go_wp2_with fail
    refine HI.out.mono ?_
    rintro e w2 ⟨rfl, hb⟩
    have HB := Lib.hid hb
    have HM2 := Lib.hid (HM.out.below hb)
    have hk1 : ((k0 : Int) == -1) = false := by simp
    clear hb
    have HKL : Hid (((L.take (k0 + 1)).filter fun x => !p x) = L.take k0) := Lib.hid (by
      obtain ⟨x, hx, hpx⟩ := HX.out
      rw [filt_snoc hx, hpx, HTK.out]; simp)
    have HK0 : Hid ((L.take k0).length = k0) := Lib.hid (by rw [List.length_take]; have := HN.out; omega)
    clear HTK HX
    go_wp2
    go_loopw [5, 6] (fun i j wr => ∃ jj q : Nat, k0 < jj ∧ jj ≤ n ∧ j = it (jj : Int) ∧ i = it (q : Int) ∧ q = ((L.take jj).filter fun x => !p x).length ∧ q < jj ∧ Mid elF wr b cap' n ((L.take jj).filter fun x => !p x) L jj ∧ Tr (· = b) w wr) (fun _ j _ => n - (intOf j).toNat)
    case atStart =>
      refine ⟨k0 + 1, k0, by omega, by omega, by go_num, rfl, by rw [HKL.out, HK0.out], by omega, by rw [HKL.out]; exact HM2.out.skip, Tr.of_below HB.out⟩
    case round =>
      obtain ⟨jj, q, hj0, hjn, rfl, rfl, hq, hqj, hm, htr⟩ := hrel
      have HM := Lib.hid hm
      have HT := Lib.hid htr
      have HQ := Lib.hid hq
      clear HM2 HB HI
      by_cases hlt : jj < n
      · have q1 : (jj : Int) < (n : Int) := by omega
        obtain ⟨x, hx⟩ : ∃ x, L[jj]? = some x := ⟨_, List.getElem?_eq_getElem (by rw [← HN.out]; exact hlt)⟩
        obtain ⟨c0, c1⟩ := hm.get rfl hlt hx rfl
        have hcap : jj < cap' := by omega
        have HXX := Lib.hid hx
        have hbA := one_new wr (.cells #[it x.ep, .string x.zone] 48)
        have HBA := Lib.hid hbA
        have HC := Lib.hid (HP.out (wr.alloc (.cells #[it x.ep, .string x.zone] 48)) x (List.mem_of_getElem? hx) (((HT.out.then (Tr.of_below hbA)).mono (fun k hk => by rw [hk]; rfl))))
        clear hx hm htr hq hbA
        go_wp2_with fail
        refine HC.out.mono ?_
        rintro e w3 ⟨rfl, hb3⟩
        have HB3 := Lib.hid (HBA.out.trans (hb3.mono HBA.out.size))
        have HM3 := Lib.hid (HM.out.below HB3.out)
        have HD3 : Hid (Ce w3 wr.heap.size 48 #[it x.ep, .string x.zone]) := Lib.hid ((Ce.new wr 48 #[it x.ep, .string x.zone]).below hb3)
        have HT3 := Lib.hid (HT.out.then (Tr.of_below HB3.out))
        obtain ⟨⟨u0, u1, d0, d1⟩, e0, e1⟩ := HM3.out.any (i := q) rfl (by omega)
        have d2 : w3.cell? ⟨wr.heap.size, 0, none⟩ = some (it x.ep) := by rw [HD3.out.cell]; rfl
        have d3 : w3.cell? ⟨wr.heap.size, 1, none⟩ = some (.string x.zone) := by rw [HD3.out.cell]; rfl
        clear hb3 c0 c1
        cases hpx : p x with
        | true =>
          have HE : Hid (((L.take (jj + 1)).filter fun x => !p x) = (L.take jj).filter fun x => !p x) := Lib.hid (by rw [filt_snoc HXX.out, hpx]; simp)
          clear d0 d1 d2 d3 e0 e1
          go_wp2
          go_roundw
          case rel => exact ⟨jj + 1, q, by omega, by omega, by go_num, rfl, by rw [HE.out]; exact HQ.out, by omega, by rw [HE.out]; exact HM3.out.skip, HT3.out⟩
          case measure => simp [intOf]; omega
        | false =>
          have HE : Hid (((L.take (jj + 1)).filter fun x => !p x) = ((L.take jj).filter fun x => !p x) ++ [x]) := Lib.hid (by rw [filt_snoc HXX.out, hpx]; simp)
          have q2 : (q : Int) < (n : Int) := by omega
          have HM4 := Lib.hid (HM3.out.put rfl HQ.out hqj hlt (by omega) (x := x) rfl)
          go_wp2
          go_roundw
          case rel => exact ⟨jj + 1, q + 1, by omega, by omega, by go_num, by go_num, by rw [HE.out, List.length_append, ← HQ.out]; rfl, by omega, by rw [HE.out]; exact HM4.out, Mid.tr_put HT3.out rfl⟩
          case measure => simp [intOf]; omega
      · have q1 : decide ((jj : Int) < (n : Int)) = false := by simp; omega
        have hqn : q < n := by omega
        obtain ⟨cur, h0, h1, _⟩ := HM.out
        have r1 := fun w => slice_fromF (g := b) hqn hlc w
        have r2 := fun w => slice_tillF (g := b) (n := n) (cap := cap') (i := q) (by omega) w
        have r3 : (Builtin.clear_ #[27] 0 #[.slice (some ⟨b, q * 2, none⟩) (n - q) (cap' - q)]).run Try.prog wr = .ok (.tuple #[]) (wr.setCells b (q * 2) (Builtin.zeroCells elF.z.cells (n - q)).toList) := run_clearK elF zonesF wr 0 (g := b) (o := q * 2) (n := n - q) (c := cap' - q) (by omega) h0 (by rw [h1]; show q * 2 + (n - q) * 2 ≤ cap' * 2; omega)
        have HJ : Hid (((L.take jj).filter fun x => !p x) = L.filter fun x => !p x) := Lib.hid (by rw [List.take_of_length_le (by have := HN.out; omega)])
        have HMO := Lib.hid (mid_own (cs := (Builtin.zeroCells elF.z.cells (n - q)).toList) (o := q * 2) HM.out HBB.out (by rw [← HQ.out]; omega) HCM.out (by rw [← HQ.out]; exact Nat.le_refl _))
        have HTO := Lib.hid (HT.out.then (setCells_tr b (Builtin.zeroCells elF.z.cells (n - q)).toList (q * 2) wr))
        obtain ⟨Z, hZ⟩ : ∃ Z, Z = (Builtin.zeroCells elF.z.cells (n - q)).toList := ⟨_, rfl⟩
        rw [← hZ] at r3 HMO HTO
        clear h0 h1 hm htr hq hZ
        go_wp2
        go_ret
        exact ⟨_, rfl, by have := HMO.out; rw [← HQ.out, HJ.out] at this; exact this, rfl, HTO.out.mono (fun k hk => by show some b = some k; rw [hk])⟩
end Go.Proofs.Ytjoplnkagfkffaa

/-
  No text of a call that came in is longer than what a reading may hold.
-/
import Derived.Test.YtocmgdhhlofajaaOps
import Derived.SizedLaws
namespace Go.Proofs.Ytocmgdhhlofajaa
open Go.ChangeShapes Go.WideShapes Go.ChangeAt Go.RowKit Go.Deep
theorem text_size {H : Type} {enc : TypeId × Value → H} {W : World} {a : Addr} {n : Nat} {cs : List Value} {x : DataW H × List MemPlace}
    (hc : W.cells? 0 a 5 = some cs) (h : DataW.trod enc Try.prog W 0 (fun _ => true) true n 32 cs = some x) {s : ByteArray} (hs : W.cell? (a.add 4) = some (.string s)) :
    s.size ∈ x.1.weights Try.prog 32 := by
  obtain ⟨_, hl, hat⟩ := World.cells?_some hc
  obtain ⟨xs, n', _, hx, _, hlen, hf⟩ := DataW.trod_struct Try.underlying32 h
  match cs, hl with
  | [c0, c1, c2, c3, c4], _ =>
    match xs, hlen with
    | [y0, y1, y2, y3, y4], _ =>
      have e9 : Try.prog.cellsOf 9 = 1 := by kernel_rfl
      have g4 : DataW.trod enc Try.prog W 0 (fun _ => true) true n' 9 (([c0, c1, c2, c3, c4].drop 4).take (Try.prog.cellsOf 9)) = some y4 := hf 4 _ rfl
      simp only [e9, List.drop_succ_cons, List.drop_zero, List.take_succ_cons, List.take_zero] at g4
      obtain ⟨k4, r4, z4, w4⟩ := DataW.trod_string Try.underlying9 g4
      have hc4 : W.cell? (a.add 4) = some c4 := by rw [hat 4 (by decide)]; rfl
      rw [hc4] at hs
      have e4 : c4 = .string s := Option.some.inj hs
      subst e4
      have e5 : k4 = s := by
        have := r4
        simp at this
        exact this.symm
      subst e5
      subst hx
      subst z4
      rw [List.map_cons, List.map_cons, List.map_cons, List.map_cons, List.map_cons, List.map_nil]
      unfold DataW.weights
      rw [Try.underlying32]
      simp only [List.map_cons, List.map_nil, DataW.weightsEach, List.mem_append]
      refine .inr (.inr (.inr (.inr (.inl ?_))))
      simp only [DataW.weights, List.mem_singleton, Array.length_toList]
      rfl
theorem weightsAll_mem {H : Type} {P : Program} {e : TypeId} {d : DataW H} {n : Nat} (hn : n ∈ d.weights P e) : ∀ {ds : List (DataW H)}, d ∈ ds → n ∈ DataW.weightsAll P e ds
  | [], h => by cases h
  | x :: xs, h => by
    simp only [DataW.weightsAll, List.mem_append]
    rcases List.mem_cons.1 h with rfl | h
    · exact .inl hn
    · exact .inr (weightsAll_mem hn h)
theorem texts_of {H : Type} {enc : TypeId × Value → H} {W : World} {a0 : Option Addr} {len cap fuel : Nat} {x : DataW H × List MemPlace}
    (hf : DataW.trod enc Try.prog W 0 (fun _ => true) true fuel 22 [.slice a0 len cap] = some x) :
    ∀ b off, a0 = some ⟨b, off, none⟩ → ∀ k, k < len → ∀ s, W.cell? ⟨b, off + k * 5 + 4, none⟩ = some (.string s) → s.size ∈ x.1.weights Try.prog 22 := by
  intro b off ha k hk s hs
  rcases open_slice Try.underlying22 hf with ⟨hcs, _⟩ | ⟨a, len', cap', m, n, D, Pl, hcs, _, hl, _, hm, hx, hi⟩
  · simp at hcs
    omega
  · simp at hcs
    obtain ⟨rfl, rfl, rfl⟩ := hcs
    simp only [if_true] at hm
    cases ha
    rw [cellsOf32] at hi
    obtain ⟨cs', hc, ht⟩ := hi k (by omega)
    have hs' : W.cell? (((⟨b, off, none⟩ : Addr).add (k * 5)).add 4) = some (.string s) := by simp only [add_lit]; exact hs
    have hw := text_size hc ht hs'
    subst hx
    show s.size ∈ DataW.weights Try.prog 22 (DataW.slice _ _)
    unfold DataW.weights
    rw [Try.underlying22]
    simp only [List.mem_cons, List.mem_append]
    exact .inr (.inl (weightsAll_mem hw (List.mem_map.2 ⟨k, List.mem_range.2 hk, rfl⟩)))
end Go.Proofs.Ytocmgdhhlofajaa

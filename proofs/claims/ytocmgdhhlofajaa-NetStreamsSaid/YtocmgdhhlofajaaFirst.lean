/-
  The function that tells, of items in order, which are the first of their way.
-/
import Derived.Test.YtocmgdhhlofajaaWay
import Derived.Test.YtocmgdhhlofajaaChosen
namespace Go.Proofs.Ytocmgdhhlofajaa
open Go.RowKit Go.Maps
def cnt (pre : List It) (c t : Int) : Nat := (pre.filter fun y => !isD y && y.conn == c && y.dst == t).length
theorem cnt_snoc (pre : List It) (x : It) (c t : Int) : cnt (pre ++ [x]) c t = cnt pre c t + if (!isD x && x.conn == c && x.dst == t) = true then 1 else 0 := by
  unfold cnt
  rw [List.filter_append, List.length_append]
  congr 1
  cases h : (!isD x && x.conn == c && x.dst == t) <;> simp [h]
theorem cnt_le (pre : List It) (c t : Int) : cnt pre c t ≤ pre.length := List.length_filter_le _ _
theorem free_d {pre : List It} {x : It} (h : isD x = true) : free pre x = true := by
  unfold free bars
  simp [h]
theorem free_w {pre : List It} {x : It} (h : isD x = false) : free pre x = ((cnt pre x.conn x.dst : Int) + 1 == 1) := by
  have e : (fun y => bars x y) = (fun y => !isD y && y.conn == x.conn && y.dst == x.dst) := by
    funext y
    simp [bars, h]
  have h1 : pre.any (bars x) = true ↔ cnt pre x.conn x.dst ≠ 0 := by
    show pre.any (fun y => bars x y) = true ↔ _
    rw [e, List.any_eq_true]
    unfold cnt
    rw [← Nat.pos_iff_ne_zero, List.length_filter_pos_iff]
  unfold free
  by_cases g : cnt pre x.conn x.dst = 0
  · have : pre.any (bars x) = false := by
      cases h2 : pre.any (bars x)
      · rfl
      · exact absurd g (h1.1 h2)
    rw [this, g]
    rfl
  · rw [h1.2 g]
    have h3 : ¬ ((cnt pre x.conn x.dst : Int) + 1 = 1) := by omega
    simp [h3]
/-- The map M counts the items of each way. -/
def Cnt (w : World) (M : Nat) (pre : List It) : Prop :=
  ∃ D : DataW Unit, OwnM w M pre.length D ∧ IsMap D ∧ ∀ c t kl, keyOf Try.prog 85 (.agg #[.int .i64 c, .int .i64 t]) = some kl → D.atKey kl (.lit (.int .i64 0)) = .lit (.int .i64 (cnt pre c t : Int))
theorem Cnt.lt {w : World} {M : Nat} {pre : List It} (h : Cnt w M pre) : M < w.heap.size := let ⟨_, h, _⟩ := h; h.lt
theorem Cnt.tr {S : Nat → Prop} {w w' : World} {M : Nat} {pre : List It} (h : Cnt w M pre) (ht : Tr S w w') (hS : ¬ S M) : Cnt w' M pre := by
  obtain ⟨D, ⟨es, clock, hb, r⟩, h2⟩ := h
  exact ⟨D, ⟨es, clock, (ht.block M (Array.getElem?_eq_some_iff.1 hb).1 hS).trans hb, r⟩, h2⟩
theorem Cnt.skip {w : World} {M : Nat} {pre : List It} (h : Cnt w M pre) {x : It} (hx : isD x = true) : Cnt w M (pre ++ [x]) := by
  obtain ⟨D, h1, h2, h3⟩ := h
  refine ⟨D, h1.mono (by simp), h2, fun c t kl hk => ?_⟩
  rw [h3 c t kl hk, cnt_snoc]
  simp [hx]
theorem cnt_new (w : World) : Cnt (w.alloc (.map #[] 0)) w.heap.size [] :=
  ⟨.map [], World.ownsMap_made _ _ _ _, isMap_empty, fun _ _ _ _ => rfl⟩
/-- One item more of its way. -/
theorem Cnt.put {w : World} {M : Nat} {pre : List It} (h : Cnt w M pre) {x : It} (hx : isD x = false) (hc : I64 x.conn) (ht : I64 x.dst) (hn : pre.length < 1000000) :
    ∃ (st : Nat) (w1 w2 : World), (Instr.lookup 83 (.map (some M)) (.agg #[.int .i64 x.conn, .int .i64 x.dst]) false).run Try.prog w = .ok (.int .i64 (cnt pre x.conn x.dst : Int)) w ∧
      (Instr.mapEntry 83 (.map (some M)) (.agg #[.int .i64 x.conn, .int .i64 x.dst])).run Try.prog w = .ok (.tuple #[.int .i64 (cnt pre x.conn x.dst : Int), .int .i64 st]) w1 ∧
      (Instr.lookup 83 (.map (some M)) (.agg #[.int .i64 x.conn, .int .i64 x.dst]) false).run Try.prog w1 = .ok (.int .i64 (cnt pre x.conn x.dst : Int)) w1 ∧
      (Instr.entryStore 83 (.map (some M)) (.int .i64 st) (.int .i64 ((cnt pre x.conn x.dst : Int) + 1))).run Try.prog w1 = .ok () w2 ∧
      (Instr.lookup 83 (.map (some M)) (.agg #[.int .i64 x.conn, .int .i64 x.dst]) false).run Try.prog w2 = .ok (.int .i64 ((cnt pre x.conn x.dst : Int) + 1)) w2 ∧
      Tr (· = M) w w1 ∧ Tr (· = M) w w2 ∧ Cnt w2 M (pre ++ [x]) := by
  obtain ⟨D, h1, h2, h3⟩ := h
  obtain ⟨kl, hk⟩ := key_of x.conn x.dst hc ht
  obtain ⟨c, st, w1, hat, l1, m1, l2, g1, hs⟩ := ent_law h1 hn hk
  have e0 := h3 _ _ _ hk
  rw [hat] at e0
  have e1 : c = (cnt pre x.conn x.dst : Int) := by
    injection e0 with e0
    injection e0
  subst e1
  have hle := cnt_le pre x.conn x.dst
  obtain ⟨w2, s1, o2, g2⟩ := hs ((cnt pre x.conn x.dst : Int) + 1) (by unfold I64; omega)
  have K : Keyed Try.prog 85 := Keyed.of_law klaw
  have hTr : ∀ {a b : World}, a.grownBy b (some M) → Tr (· = M) a b := fun h => ⟨h.os, h.tape, h.output, h.size, fun k hk hs => h.block k hk (fun e => hs (by injection e))⟩
  obtain ⟨c', l3, hat3, _⟩ := o2.lookup_int K Try.underlying83 Try.underlying3 (zero3 w2) hk
  rw [atKey_put_same h2 (K.key hk)] at hat3
  have e2 : c' = (cnt pre x.conn x.dst : Int) + 1 := by
    injection hat3 with hat3
    injection hat3 with _ hat3
    exact hat3.symm
  subst e2
  refine ⟨st, w1, w2, l1, m1, l2, s1, l3, hTr g1, (hTr g1).then (hTr g2), _, by rw [List.length_append]; exact o2, h2.put _ _, fun c t kl' hk' => ?_⟩
  by_cases e : kl' = kl
  · subst e
    have := klaw.inj hk hk'
    simp at this
    obtain ⟨rfl, rfl⟩ := this
    rw [atKey_put_same h2 (K.key hk), cnt_snoc]
    simp [hx]
  · rw [atKey_put_other e, h3 c t kl' hk', cnt_snoc]
    have hne : (!isD x && x.conn == c && x.dst == t) = false := by
      cases hb : (!isD x && x.conn == c && x.dst == t)
      · rfl
      · simp [hx] at hb
        obtain ⟨rfl, rfl⟩ := hb
        rw [hk] at hk'
        exact absurd (Option.some.inj hk').symm e
    rw [hne]
    rfl
end Go.Proofs.Ytocmgdhhlofajaa

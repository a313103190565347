/-
  Datagrams with unlike bodies: how many of each are under way.
-/
import Derived.Test.YtocmgdhhlofajaaLostMath
namespace Go.Proofs.Ytocmgdhhlofajaa
/-- The body of the datagram q. -/
def bodyQ (q : Nat) : ByteArray := ⟨#[UInt8.ofNat q]⟩
/-- One of the datagrams 1 to k. -/
def Mine (k : Nat) (x : It) : Prop := ∃ q : Nat, 1 ≤ q ∧ q ≤ k ∧ x.kind = 1 ∧ x.frm = (q : Int) ∧ x.dst = (q : Int) + 1 ∧ x.body = bodyQ q
/-- How many of a datagram are under way. -/
def cof (s : St) (i : Nat) : Nat := (s.its.filter (fun x => x.frm == (i : Int))).length
theorem cof_add (s : St) (x : It) (i : Nat) : cof (add s x) i = cof s i + if (x.frm == (i : Int)) = true then 1 else 0 := by
  unfold cof add
  rw [List.filter_append, List.length_append]
  congr 1
  show (List.filter (fun x => x.frm == (i : Int)) [x.no (s.puts + 1)]).length = _
  cases h : (x.frm == (i : Int))
  · have : ((x.no (s.puts + 1)).frm == (i : Int)) = false := h
    simp [this]
  · have : ((x.no (s.puts + 1)).frm == (i : Int)) = true := h
    simp [this]
/-- What the first loop knows: the datagrams below i were sent. -/
structure D1 (i : Nat) (s : St) : Prop where
  g : Good s
  its : s.its.length = i
  puts : s.puts = i
  opens : s.opens = 0
  mine : ∀ x ∈ s.its, Mine i x
  one : ∀ j, cof s j ≤ 1
theorem d1_zero : D1 0 St.empty := ⟨good_empty, rfl, rfl, rfl, fun x hx => absurd hx (by simp [St.empty]), fun j => by simp [cof, St.empty]⟩
theorem D1.next {i : Nat} {s : St} (h : D1 i s) (hi : i < 40) : D1 (i + 1) (sendS s ((i + 1 : Nat) : Int) (((i + 1 : Nat) : Int) + 1) (bodyQ (i + 1))) := by
  have hf : full s = false := by unfold full; rw [h.its]; simp; omega
  have e : sendS s ((i + 1 : Nat) : Int) (((i + 1 : Nat) : Int) + 1) (bodyQ (i + 1)) = add s (sendI ((i + 1 : Nat) : Int) (((i + 1 : Nat) : Int) + 1) (bodyQ (i + 1))) := by unfold sendS; rw [hf]; rfl
  have hg := good_send h.g (f := ((i + 1 : Nat) : Int)) (t := ((i + 1 : Nat) : Int) + 1) (b := bodyQ (i + 1)) (by unfold I64; omega)
  rw [e] at hg ⊢
  refine ⟨hg, by simp [add, h.its], by simp [add, h.puts], h.opens, ?_, ?_⟩
  · intro x hx
    rcases List.mem_append.1 hx with hx | hx
    · obtain ⟨q, h1, h2, r⟩ := h.mine x hx
      exact ⟨q, h1, by omega, r⟩
    · obtain rfl := List.mem_singleton.1 hx
      exact ⟨i + 1, by omega, Nat.le_refl _, rfl, rfl, rfl, rfl⟩
  · intro j
    rw [cof_add]
    by_cases hj : j = i + 1
    · have h0 : cof s j = 0 := by
        unfold cof
        rw [List.length_eq_zero_iff, List.filter_eq_nil_iff]
        intro x hx
        obtain ⟨q, h1, h2, _, h3, _⟩ := h.mine x hx
        rw [h3, hj]
        simp
        omega
      rw [h0]
      split <;> omega
    · have hne : ((sendI ((i + 1 : Nat) : Int) (((i + 1 : Nat) : Int) + 1) (bodyQ (i + 1))).frm == (j : Int)) = false := by
        show (((i + 1 : Nat) : Int) == (j : Int)) = false
        simp
        omega
      rw [hne]
      exact h.one j
/-- What the second and the third loop know: t came, dr were dropped, db doubled, c of each came. -/
structure D2 (k t dr db : Nat) (c : Nat → Nat) (s : St) : Prop where
  g : Good s
  mine : ∀ x ∈ s.its, Mine k x
  sum : s.its.length + t + dr = k + db
  puts : s.puts = k + db
  opens : s.opens = 0
  each : ∀ i, c i + cof s i ≤ 1 + db
theorem D1.second {k : Nat} {s : St} (h : D1 k s) : D2 k 0 0 0 (fun _ => 0) s :=
  ⟨h.g, h.mine, by rw [h.its], h.puts, h.opens, fun i => by have := h.one i; show 0 + cof s i ≤ 1 + 0; omega⟩
theorem cof_take_le (s : St) (x : It) (i : Nat) : cof (takeS s (some x)) i ≤ cof s i := by
  unfold cof
  show ((s.its.filter _).filter _).length ≤ _
  rw [List.filter_filter]
  have e : (s.its.filter fun y => (y.frm == (i : Int)) && !(y.num == x.num)) = (s.its.filter fun y => (y.frm == (i : Int))).filter fun y => !(y.num == x.num) := by
    rw [List.filter_filter]
    congr 1
    funext y
    exact Bool.and_comm _ _
  rw [e]
  exact List.length_filter_le _ _
theorem cof_take {s : St} (hg : Good s) {x : It} (hx : x ∈ s.its) {q : Nat} (hq : x.frm = (q : Int)) : cof (takeS s (some x)) q + 1 = cof s q := by
  unfold cof
  show ((s.its.filter _).filter _).length + 1 = _
  rw [List.filter_filter]
  have e : (s.its.filter fun y => (y.frm == (q : Int)) && !(y.num == x.num)) = (s.its.filter fun y => (y.frm == (q : Int))).filter fun y => !(y.num == x.num) := by
    rw [List.filter_filter]
    congr 1
    funext y
    exact Bool.and_comm _ _
  rw [e]
  exact less_of (hg.nums.sublist List.filter_sublist) (List.mem_filter.2 ⟨hx, by simp [hq]⟩)
/-- One more of q. -/
def upd (c : Nat → Nat) (q v : Nat) : Nat → Nat := fun i => if i = q then v else c i
theorem D2.taken {k t dr db : Nat} {c : Nat → Nat} {s : St} (h : D2 k t dr db c s) {x : It} (hx : x ∈ s.its) {q : Nat} (hq : x.frm = (q : Int)) : D2 k (t + 1) dr db (upd c q (c q + 1)) (takeS s (some x)) := by
  have h1 := take_its h.g hx
  have h2 := h.sum
  refine ⟨good_take h.g, fun y hy => h.mine y (List.mem_filter.1 hy).1, by omega, h.puts, h.opens, fun i => ?_⟩
  unfold upd
  split
  · rename_i e
    subst e
    have := cof_take h.g hx hq
    have := h.each i
    omega
  · have := cof_take_le s x i
    have := h.each i
    omega
theorem D2.dropped {k t dr db : Nat} {c : Nat → Nat} {s : St} (h : D2 k t dr db c s) {x : It} (hx : x ∈ s.its) : D2 k t (dr + 1) db c (takeS s (some x)) := by
  have h1 := take_its h.g hx
  have h2 := h.sum
  refine ⟨good_take h.g, fun y hy => h.mine y (List.mem_filter.1 hy).1, by omega, h.puts, h.opens, fun i => ?_⟩
  have := cof_take_le s x i
  have := h.each i
  omega
theorem D2.doubled {k t dr db : Nat} {c : Nat → Nat} {s : St} (h : D2 k t dr db c s) (hk : k + db ≤ 200) {p : Int} (hp : dblB s p = true) : D2 k t dr (db + 1) c (dblS s p) := by
  unfold dblB at hp
  unfold dblS
  cases ho : pick (dgs s) p with
  | none => rw [ho] at hp; simp at hp
  | some x =>
    have hm := (dgs_mem (pick_mem ho)).1
    have hl := h.g.lenI
    have hpu := h.puts
    have hf : full s = false := by unfold full; simp; omega
    show D2 k t dr (db + 1) c (if full s = true then s else add s x)
    rw [hf, if_neg (by simp)]
    have h2 := h.sum
    refine ⟨good_add h.g (h.g.way x hm).1 (h.g.way x hm).2.1 (h.g.way x hm).2.2, ?_, by simp [add]; omega, by simp [add]; omega, h.opens, fun i => ?_⟩
    · intro y hy
      rcases List.mem_append.1 hy with hy | hy
      · exact h.mine y hy
      · obtain rfl := List.mem_singleton.1 hy
        obtain ⟨q, r⟩ := h.mine x hm
        exact ⟨q, r⟩
    · rw [cof_add]
      have := h.each i
      split <;> omega
theorem dbl_not {s : St} {p : Int} (hp : dblB s p = false) : dblS s p = s := by
  unfold dblB at hp
  unfold dblS
  cases ho : pick (dgs s) p with
  | none => rfl
  | some x =>
    rw [ho] at hp
    have hf : full s = true := by simpa using hp
    simp [hf]
end Go.Proofs.Ytocmgdhhlofajaa

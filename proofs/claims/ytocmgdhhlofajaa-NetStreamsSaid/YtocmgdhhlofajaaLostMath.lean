/-
  What is left when a node, and all datagrams, are lost.
-/
import Derived.Test.YtocmgdhhlofajaaMath
namespace Go.Proofs.Ytocmgdhhlofajaa
theorem clo_mem {n : Int} {x : It} : ∀ {ls : List Lk} {s : St}, x ∈ (clo n s ls).its → x ∈ s.its ∨ ∃ l ∈ ls, ∃ t, otherL l n = some t ∧ x.frm = n ∧ x.kind = 4 ∧ x.dst = t ∧ x.conn = l.num
  | [], _, h => .inl h
  | l :: ls, s, h => by
    unfold clo at h
    rw [List.foldl_cons] at h
    cases ho : otherL l n with
    | none =>
      rw [ho] at h
      rcases clo_mem (n := n) (ls := ls) (s := s) h with h | ⟨k, hk, r⟩
      · exact .inl h
      · exact .inr ⟨k, by simp [hk], r⟩
    | some t =>
      rw [ho] at h
      rcases clo_mem (n := n) (ls := ls) (s := add s (closedI n t l.num)) h with h | ⟨k, hk, r⟩
      · rcases List.mem_append.1 h with h | h
        · exact .inl h
        · obtain rfl := List.mem_singleton.1 h
          exact .inr ⟨l, by simp, t, ho, rfl, rfl, rfl, rfl⟩
      · exact .inr ⟨k, by simp [hk], r⟩
/-- No item tells the end of a connection. -/
def K3 (s : St) : Prop := ∀ x ∈ s.its, x.kind ≠ 4
theorem k3_add {s : St} (h : K3 s) {x : It} (hx : x.kind ≠ 4) : K3 (add s x) := by
  intro y hy
  rcases List.mem_append.1 hy with hy | hy
  · exact h y hy
  · obtain rfl := List.mem_singleton.1 hy
    exact hx
theorem k3_send {s : St} (h : K3 s) {f t : Int} {b : ByteArray} : K3 (sendS s f t b) := by
  unfold sendS
  split
  · exact h
  · exact k3_add h (x := sendI f t b) (show (1 : Int) ≠ 4 by decide)
theorem k3_open {s : St} (h : K3 s) {f t : Int} : K3 (openS s f t) := by
  unfold openS
  split
  · exact h
  · exact k3_add (s := ⟨s.its, _, _, _⟩) h (show (2 : Int) ≠ 4 by decide)
theorem k3_write {s : St} (h : K3 s) {c f : Int} {b : ByteArray} : K3 (writeS s c f b) := by
  unfold writeS
  split
  · exact h
  · split
    · exact h
    · exact k3_add h (show (3 : Int) ≠ 4 by decide)
/-- What may be left of a lost node. -/
def Ok (k : Int) (x : It) : Prop := x.dst ≠ k ∧ ((x.frm == k) = (x.kind == 4))
theorem lost_ok {s : St} (hg : Good s) (h3 : K3 s) {k : Int} : ∀ x ∈ (loseS s k).its, Ok k x := by
  intro x hx
  rcases clo_mem (n := k) (ls := s.lks) hx with hx | ⟨l, hl, t, ho, hf, hk, hd, _⟩
  · obtain ⟨hm, ht⟩ := List.mem_filter.1 hx
    have h4 := h3 x hm
    have ht2 : ¬ x.frm = k ∧ ¬ x.dst = k := by simpa [touch] using ht
    have e1 : (x.frm == k) = false := by simpa using ht2.1
    have e2 : (x.kind == 4) = false := by simpa using h4
    exact ⟨ht2.2, e1.trans e2.symm⟩
  · have e1 : (x.frm == k) = true := by simpa using hf
    have e2 : (x.kind == 4) = true := by simpa using hk
    refine ⟨?_, e1.trans e2.symm⟩
    have he := (hg.ends l hl).1
    rw [hd]
    unfold otherL at ho
    split at ho
    · rename_i ha
      cases ho
      intro e
      exact he (by rw [ha, e])
    · rename_i ha
      split at ho
      · cases ho
        exact ha
      · cases ho
theorem send_len (s : St) (f t : Int) (b : ByteArray) : (sendS s f t b).its.length ≤ s.its.length + 1 ∧ (sendS s f t b).puts ≤ s.puts + 1 ∧ (sendS s f t b).opens = s.opens ∧ (sendS s f t b).lks = s.lks := by
  unfold sendS
  split
  · exact ⟨by omega, by omega, rfl, rfl⟩
  · exact ⟨by simp [add], by simp [add], rfl, rfl⟩
theorem open_len (s : St) (f t : Int) : (openS s f t).its.length ≤ s.its.length + 1 ∧ (openS s f t).puts ≤ s.puts + 1 ∧ (openS s f t).opens ≤ s.opens + 1 := by
  unfold openS
  split
  · exact ⟨by omega, by omega, by omega⟩
  · exact ⟨by simp [add], by simp [add], by simp [add]⟩
theorem write_len (s : St) (c f : Int) (b : ByteArray) : (writeS s c f b).its.length ≤ s.its.length + 1 ∧ (writeS s c f b).puts ≤ s.puts + 1 ∧ (writeS s c f b).opens = s.opens := by
  unfold writeS
  split
  · exact ⟨by omega, by omega, rfl⟩
  · split
    · exact ⟨by omega, by omega, rfl⟩
    · exact ⟨by simp [add], by simp [add], rfl⟩
theorem lose_len (s : St) (n : Int) : (loseS s n).its.length ≤ s.its.length + s.lks.length ∧ (loseS s n).puts ≤ s.puts + s.lks.length ∧ (loseS s n).opens = s.opens ∧ (loseS s n).lks.length ≤ s.lks.length := by
  have h := clo_its n s.lks ⟨s.its.filter (fun x => !touch n x), s.lks, s.puts, s.opens⟩
  have hf := List.length_filter_le (fun x => !touch n x) s.its
  refine ⟨?_, h.2.2.2.1, rfl, List.length_filter_le _ _⟩
  have := h.2.2.2.2
  show (clo n ⟨s.its.filter (fun x => !touch n x), s.lks, s.puts, s.opens⟩ s.lks).its.length ≤ _
  simp only at this
  omega
/-- One item less. -/
theorem less_of {L : List It} (hn : L.Pairwise (fun x y => x.num < y.num)) {x : It} (hx : x ∈ L) : (L.filter (fun y => !(y.num == x.num))).length + 1 = L.length := by
  induction L with
  | nil => cases hx
  | cons a L ih =>
    obtain ⟨h1, h2⟩ := List.pairwise_cons.1 hn
    rcases List.mem_cons.1 hx with rfl | hx
    · have : L.filter (fun y => !(y.num == x.num)) = L := by
        rw [List.filter_eq_self]
        intro y hy
        have := h1 y hy
        have : y.num ≠ x.num := by omega
        simp [this]
      rw [List.filter_cons, this]
      simp
    · have h3 := h1 x hx
      have h4 : a.num ≠ x.num := by omega
      have e : (!(a.num == x.num)) = true := by simp [h4]
      rw [List.filter_cons, if_pos e, List.length_cons, List.length_cons, ih h2 hx]
theorem take_its {s : St} (hg : Good s) {x : It} (hx : x ∈ s.its) : (takeS s (some x)).its.length + 1 = s.its.length := less_of hg.nums hx
theorem take_dgs {s : St} (hg : Good s) {x : It} (hx : x ∈ dgs s) : (dgs (takeS s (some x))).length + 1 = (dgs s).length := by
  have e : dgs (takeS s (some x)) = (dgs s).filter (fun y => !(y.num == x.num)) := by
    show (s.its.filter _).filter isD = (s.its.filter isD).filter _
    rw [List.filter_filter, List.filter_filter]
    congr 1
    funext y
    exact Bool.and_comm _ _
  rw [e]
  exact less_of (hg.nums.sublist List.filter_sublist) hx
theorem ready_nil_its {s : St} (h : ready s = []) : s.its = [] := by
  unfold ready at h
  cases hi : s.its with
  | nil => rfl
  | cons x xs =>
    rw [hi] at h
    simp [cho, free] at h
theorem pick_none {l : List It} {p : Int} (h : pick l p = none) : l = [] := by
  cases hl : l with
  | nil => rfl
  | cons x xs =>
    obtain ⟨y, hy, _⟩ := pick_some (l := l) (by rw [hl]; simp) p
    rw [h] at hy
    cases hy
end Go.Proofs.Ytocmgdhhlofajaa

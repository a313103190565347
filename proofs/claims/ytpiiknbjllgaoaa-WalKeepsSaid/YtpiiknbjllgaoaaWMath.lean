/-
  Records of a log as mathematics: what stands for a text, what is read of bytes, what is left of them when they are cut off or one byte is turned; no statement is proved here.
-/
import Derived.Test.YtpiiknbjllgaoaaCTurn
import Derived.Test.YtpiiknbjllgaoaaMath
namespace Go.Proofs.Ytpiiknbjllgaoaa

def fourB (n : Nat) : Bs := [UInt8.ofNat (n / 16777216), UInt8.ofNat (n / 65536), UInt8.ofNat (n / 256), UInt8.ofNat n]
def numB (l : Bs) : Nat := l.foldl (fun n b => n * 256 + b.toNat) 0
theorem fourB_length (n : Nat) : (fourB n).length = 4 := rfl
theorem num_four (n : Nat) (h : n < 4294967296) : numB (fourB n) = n := by
  simp only [numB, fourB, List.foldl_cons, List.foldl_nil, UInt8.toNat_ofNat']
  omega
theorem four_num (l : Bs) (h : l.length = 4) : fourB (numB l) = l := by
  match l, h with
  | [a, b, c, d], _ =>
    have ha := a.toNat_lt
    have hb := b.toNat_lt
    have hc := c.toNat_lt
    have hd := d.toNat_lt
    have e : ∀ (x : UInt8) (n : Nat), n % 256 = x.toNat → UInt8.ofNat n = x := by
      intro x n hx
      apply UInt8.toNat_inj.1
      rw [UInt8.toNat_ofNat']
      exact hx
    simp only [numB, fourB, List.foldl_cons, List.foldl_nil]
    rw [e a _ (by omega), e b _ (by omega), e c _ (by omega), e d _ (by omega)]
theorem num_lt (l : Bs) (h : l.length = 4) : numB l < 4294967296 := by
  match l, h with
  | [a, b, c, d], _ =>
    have ha := a.toNat_lt
    have hb := b.toNat_lt
    have hc := c.toNat_lt
    have hd := d.toNat_lt
    simp only [numB, List.foldl_cons, List.foldl_nil]
    omega
theorem four_inj {a b : Nat} (ha : a < 4294967296) (hb : b < 4294967296) (h : fourB a = fourB b) : a = b := by
  rw [← num_four a ha, h, num_four b hb]

/-- The bytes of a record. -/
def rcB (s : Bs) : Bs := fourB s.length ++ (fourB (cs (fourB s.length ++ s)) ++ s)
theorem rcB_length (s : Bs) : (rcB s).length = 8 + s.length := by
  simp only [rcB, List.length_append, fourB_length]; omega
/-- With what b begins. -/
def fstB (b : Bs) : Option Bs :=
  if 8 ≤ b.length ∧ numB (b.take 4) ≤ 60000 ∧ numB (b.take 4) ≤ b.length - 8 ∧ cs (b.take 4 ++ (b.drop 8).take (numB (b.take 4))) = numB ((b.drop 4).take 4) then some ((b.drop 8).take (numB (b.take 4))) else none
theorem fst_rc (s r : Bs) (h : s.length ≤ 60000) : fstB (rcB s ++ r) = some s := by
  have t4 : (rcB s ++ r).take 4 = fourB s.length := by
    rw [rcB, List.append_assoc, List.take_left' (fourB_length _)]
  have d4 : (rcB s ++ r).drop 4 = fourB (cs (fourB s.length ++ s)) ++ (s ++ r) := by
    rw [rcB, List.append_assoc, List.drop_left' (fourB_length _), List.append_assoc]
  have d8 : (rcB s ++ r).drop 8 = s ++ r := by
    rw [show 8 = 4 + 4 from rfl, ← List.drop_drop, d4, List.drop_left' (fourB_length _)]
  have hn : numB ((rcB s ++ r).take 4) = s.length := by rw [t4, num_four _ (by omega)]
  unfold fstB
  rw [hn, d8, d4, t4, List.take_left' rfl, List.take_left' (fourB_length _), num_four _ (cs_lt _), if_pos]
  refine ⟨?_, h, ?_, rfl⟩
  · rw [List.length_append, rcB_length]; omega
  · rw [List.length_append, rcB_length]; omega
theorem fst_some {b s : Bs} (h : fstB b = some s) : b = rcB s ++ b.drop (8 + s.length) ∧ s.length ≤ 60000 := by
  unfold fstB at h
  split at h
  · rename_i hc
    obtain ⟨h8, hn, hl, hcs⟩ := hc
    have t4l : (b.take 4).length = 4 := by rw [List.length_take]; omega
    have d4l : ((b.drop 4).take 4).length = 4 := by rw [List.length_take, List.length_drop]; omega
    have hs := Option.some.inj h
    have hsl : s.length = numB (b.take 4) := by rw [← hs, List.length_take, List.length_drop]; omega
    refine ⟨?_, by omega⟩
    have e1 : fourB s.length = b.take 4 := by rw [hsl, four_num _ t4l]
    have e2 : fourB (cs (fourB s.length ++ s)) = (b.drop 4).take 4 := by rw [e1, ← hs, hcs, four_num _ d4l]
    have e3 : b = b.take 4 ++ ((b.drop 4).take 4 ++ ((b.drop 8).take s.length ++ b.drop (8 + s.length))) := by
      conv => lhs; rw [← List.take_append_drop 4 b]
      congr 1
      conv => lhs; rw [← List.take_append_drop 4 (b.drop 4)]
      congr 1
      rw [List.drop_drop]
      conv => lhs; rw [← List.take_append_drop s.length (b.drop (4 + 4))]
      rw [List.drop_drop]
    conv => lhs; rw [e3]
    rw [rcB, e2, e1, List.append_assoc, List.append_assoc]
    congr 3
    rw [hsl]; exact hs
  · cases h
theorem fst_short {b : Bs} (h : b.length < 8) : fstB b = none := by
  unfold fstB; rw [if_neg]; intro hc; omega
theorem fst_len {b s : Bs} (h : fstB b = some s) : 8 + s.length ≤ b.length := by
  have h1 := congrArg List.length (fst_some h).1
  rw [List.length_append, rcB_length] at h1
  omega

/-- All with which b begins. -/
def recsF : Nat → Bs → List Bs
  | 0, _ => []
  | k + 1, b => match fstB b with
    | none => []
    | some s => s :: recsF k (b.drop (8 + s.length))
def recs (b : Bs) : List Bs := recsF b.length b
theorem recsF_more (k : Nat) : ∀ (j : Nat) (b : Bs), b.length ≤ k → b.length ≤ j → recsF k b = recsF j b := by
  induction k with
  | zero =>
    intro j b hb _
    have : fstB b = none := fst_short (by omega)
    cases j with
    | zero => rfl
    | succ j => simp only [recsF, this]
  | succ k ih =>
    intro j b hk hj
    cases hf : fstB b with
    | none =>
      cases j with
      | zero => simp only [recsF, hf]
      | succ j => simp only [recsF, hf]
    | some s =>
      have hl := fst_len hf
      cases j with
      | zero => omega
      | succ j =>
        simp only [recsF, hf]
        rw [ih j _ (by rw [List.length_drop]; omega) (by rw [List.length_drop]; omega)]
theorem recs_none {b : Bs} (h : fstB b = none) : recs b = [] := by
  unfold recs
  cases b.length with
  | zero => rfl
  | succ k => simp only [recsF, h]
theorem recs_some {b s : Bs} (h : fstB b = some s) : recs b = s :: recs (b.drop (8 + s.length)) := by
  have hl := fst_len h
  unfold recs
  obtain ⟨k, hk⟩ : ∃ k, b.length = k + 1 := ⟨b.length - 1, by omega⟩
  rw [hk]
  simp only [recsF, h]
  rw [recsF_more k _ _ (by rw [List.length_drop]; omega) (Nat.le_refl _)]
/-- Records of texts. -/
def rcsB : List Bs → Bs
  | [] => []
  | s :: L => rcB s ++ rcsB L
theorem rcs_append (A B : List Bs) : rcsB (A ++ B) = rcsB A ++ rcsB B := by
  induction A with
  | nil => rfl
  | cons s A ih => simp only [List.cons_append, rcsB, ih, List.append_assoc]
/-- Texts of which each may be a record. -/
def Fit (L : List Bs) : Prop := ∀ s ∈ L, s.length ≤ 60000
theorem Fit.tail {s : Bs} {L : List Bs} (h : Fit (s :: L)) : Fit L := fun x hx => h x (List.mem_cons_of_mem _ hx)
theorem Fit.append {A B : List Bs} (h : Fit A) (k : Fit B) : Fit (A ++ B) := fun x hx => (List.mem_append.1 hx).elim (h x) (k x)
theorem Fit.take {L : List Bs} (h : Fit L) (k : Nat) : Fit (L.take k) := fun x hx => h x (List.mem_of_mem_take hx)
theorem recs_app (L : List Bs) (h : Fit L) (r : Bs) : recs (rcsB L ++ r) = L ++ recs r := by
  induction L with
  | nil => rfl
  | cons s L ih =>
    have hf : fstB (rcsB (s :: L) ++ r) = some s := by
      rw [rcsB, List.append_assoc]; exact fst_rc s _ (h s (by simp))
    rw [recs_some hf, rcsB, List.append_assoc, List.drop_left' (rcB_length s), ih h.tail]
    rfl
theorem recs_rcs (L : List Bs) (h : Fit L) : recs (rcsB L) = L := by
  have := recs_app L h []
  have e : recs ([] : Bs) = [] := rfl
  rw [e, List.append_nil, List.append_nil] at this
  exact this
theorem recs_split (b : Bs) : ∃ r, b = rcsB (recs b) ++ r ∧ fstB r = none ∧ Fit (recs b) := by
  obtain ⟨n, hn⟩ : ∃ n, b.length ≤ n := ⟨_, Nat.le_refl _⟩
  induction n generalizing b with
  | zero =>
    have hf : fstB b = none := fst_short (by omega)
    refine ⟨b, ?_, hf, ?_⟩
    · rw [recs_none hf]; rfl
    · rw [recs_none hf]; intro x hx; cases hx
  | succ n ih =>
    cases hf : fstB b with
    | none =>
      refine ⟨b, ?_, hf, ?_⟩
      · rw [recs_none hf]; rfl
      · rw [recs_none hf]; intro x hx; cases hx
    | some s =>
      have hl := fst_len hf
      obtain ⟨e, hs⟩ := fst_some hf
      obtain ⟨r, h1, h2, h3⟩ := ih (b.drop (8 + s.length)) (by rw [List.length_drop]; omega)
      refine ⟨r, ?_, h2, ?_⟩
      · rw [recs_some hf, rcsB, List.append_assoc, ← h1]; exact e
      · rw [recs_some hf]; intro x hx
        rcases List.mem_cons.1 hx with rfl | hx
        · exact hs
        · exact h3 x hx
theorem rcs_len (b : Bs) : (rcsB (recs b)).length ≤ b.length := by
  obtain ⟨r, h, _⟩ := recs_split b
  have := congrArg List.length h
  rw [List.length_append] at this
  omega
theorem rcs_take (b : Bs) : b.take (rcsB (recs b)).length = rcsB (recs b) := by
  obtain ⟨r, h, _⟩ := recs_split b
  have := congrArg (List.take (rcsB (recs b)).length) h
  rwa [List.take_left' rfl] at this

/-- How many of the records are whole in so many bytes. -/
def wh : List Bs → Nat → Nat
  | [], _ => 0
  | s :: L, k => if 8 + s.length ≤ k then wh L (k - (8 + s.length)) + 1 else 0
theorem wh_le (L : List Bs) (k : Nat) : wh L k ≤ L.length := by
  induction L generalizing k with
  | nil => exact Nat.le_refl _
  | cons s L ih =>
    simp only [wh, List.length_cons]
    split
    · exact Nat.succ_le_succ (ih _)
    · exact Nat.zero_le _
theorem wh_len (L : List Bs) (k : Nat) : (rcsB (L.take (wh L k))).length ≤ k := by
  induction L generalizing k with
  | nil => simp [wh, rcsB]
  | cons s L ih =>
    simp only [wh]
    split
    · rename_i h
      have := ih (k - (8 + s.length))
      simp only [List.take_succ_cons, rcsB, List.length_append, rcB_length]
      omega
    · simp [rcsB]
theorem wh_next (L : List Bs) (k : Nat) (h : wh L k < L.length) : k < (rcsB (L.take (wh L k + 1))).length := by
  induction L generalizing k with
  | nil => simp [wh] at h
  | cons s L ih =>
    simp only [wh] at h ⊢
    split at h
    · rename_i h8
      rw [if_pos h8]
      have := ih (k - (8 + s.length)) (by simpa using h)
      simp only [List.take_succ_cons, rcsB, List.length_append, rcB_length]
      omega
    · rename_i h8
      rw [if_neg h8]
      simp only [List.take_succ_cons, List.take_zero, rcsB, List.length_append, rcB_length]
      omega
theorem wh_mono (L : List Bs) {j k : Nat} (h : j ≤ k) : wh L j ≤ wh L k := by
  induction L generalizing j k with
  | nil => exact Nat.le_refl _
  | cons s L ih =>
    simp only [wh]
    by_cases h1 : 8 + s.length ≤ j
    · rw [if_pos h1, if_pos (by omega)]
      exact Nat.succ_le_succ (ih (by omega))
    · rw [if_neg h1]; exact Nat.zero_le _
theorem wh_firm (L : List Bs) (n : Nat) (hn : n ≤ L.length) {k : Nat} (h : (rcsB (L.take n)).length ≤ k) : n ≤ wh L k := by
  induction L generalizing n k with
  | nil => simp at hn; omega
  | cons s L ih =>
    cases n with
    | zero => exact Nat.zero_le _
    | succ n =>
      simp only [List.take_succ_cons, rcsB, List.length_append, rcB_length] at h
      simp only [wh]
      rw [if_pos (by omega)]
      exact Nat.succ_le_succ (ih n (by simpa using hn) (by omega))
theorem cut_none (s : Bs) (hs : s.length ≤ 60000) {k : Nat} (h : k < 8 + s.length) : fstB ((rcB s).take k) = none := by
  by_cases h8 : k < 8
  · exact fst_short (by rw [List.length_take]; omega)
  · unfold fstB
    have t4 : ((rcB s).take k).take 4 = fourB s.length := by
      rw [List.take_take, Nat.min_eq_left (by omega), rcB, List.take_left' (fourB_length _)]
    rw [t4, num_four _ (by omega), if_neg]
    rintro ⟨_, _, h3, _⟩
    rw [List.length_take, rcB_length] at h3
    omega
theorem cuts (L : List Bs) (h : Fit L) (k : Nat) (hk : k ≤ (rcsB L).length) : recs ((rcsB L).take k) = L.take (wh L k) := by
  induction L generalizing k with
  | nil =>
    simp only [rcsB, List.take_nil]
    exact recs_none (fst_short (by simp))
  | cons s L ih =>
    simp only [wh]
    have hs := h s (by simp)
    split
    · rename_i h8
      obtain ⟨j, rfl⟩ : ∃ j, k = (8 + s.length) + j := ⟨k - (8 + s.length), by omega⟩
      have hj : j ≤ (rcsB L).length := by simp only [rcsB, List.length_append, rcB_length] at hk; omega
      have e : (rcsB (s :: L)).take ((8 + s.length) + j) = rcsB [s] ++ (rcsB L).take j := by
        simp only [rcsB, List.append_nil]
        rw [List.take_append, rcB_length, List.take_of_length_le (by rw [rcB_length]; omega)]
        congr 2; omega
      rw [e, recs_app [s] (fun x hx => by simp at hx; subst hx; exact hs), ih h.tail j hj, show 8 + s.length + j - (8 + s.length) = j by omega]
      rfl
    · rename_i h8
      rw [List.take_zero]
      have e : (rcsB (s :: L)).take k = (rcB s).take k := by
        rw [rcsB, List.take_append_of_le_length (by rw [rcB_length]; omega)]
      rw [e]
      exact recs_none (cut_none s hs (by omega))

/-- A byte turned gives another sum. -/
theorem cs_set (l : Bs) (j : Nat) (h : j < l.length) (x : UInt8) (hx : x ≠ 0) : cs (l.set j (l[j] ^^^ x)) ≠ cs l := by
  have hx0 : x.toNat ≠ 0 := fun e => hx (UInt8.toNat_inj.1 e)
  have key : ∀ o : Nat, fd o (l.set j (l[j] ^^^ x)) = fd o l → False := by
    intro o e
    rw [fd_eq, fd_eq, List.length_set, nm_set l j h x, ← Nat.xor_assoc, stn_xor] at e
    have e2 := xor_cancel_zero e
    have e3 : 8 * l.length = 8 * j + (8 * l.length - 8 * j) := by omega
    rw [e3, stn_add, stn_shl] at e2
    exact stn_pos _ (by have := x.toNat_lt; omega) hx0 e2
  intro e
  exact key _ (nt_inj e)
theorem xor_ne (a x : UInt8) (h : x ≠ 0) : a ^^^ x ≠ a := by
  intro e
  apply h
  have e2 : a ^^^ (a ^^^ x) = a ^^^ a := by rw [e]
  rwa [← UInt8.xor_assoc, UInt8.xor_self, UInt8.zero_xor] at e2
theorem turned_none (s r : Bs) (hs : s.length ≤ 60000) (j : Nat) (h4 : 4 ≤ j) (hj : j < (rcB s).length) (x : UInt8) (hx : x ≠ 0) : fstB ((rcB s).set j ((rcB s)[j] ^^^ x) ++ r) = none := by
  cases hf : fstB ((rcB s).set j ((rcB s)[j] ^^^ x) ++ r) with
  | none => rfl
  | some s' =>
    exfalso
    obtain ⟨e, hs'⟩ := fst_some hf
    have hl := rcB_length s
    have t4 : (rcB s).take 4 = fourB s.length := by rw [rcB, List.take_left' (fourB_length _)]
    have e4 : fourB s'.length = fourB s.length := by
      have := congrArg (List.take 4) e
      rw [List.take_append_of_le_length (by rw [List.length_set]; omega), List.take_set, List.set_eq_of_length_le (by rw [List.length_take]; omega), t4,
        List.take_append_of_le_length (by rw [rcB_length]; omega), rcB, List.take_left' (fourB_length _)] at this
      exact this.symm
    have hsl : s'.length = s.length := four_inj (by omega) (by omega) e4
    have eB : (rcB s).set j ((rcB s)[j] ^^^ x) = rcB s' := by
      have := congrArg (List.take (8 + s.length)) e
      rw [List.take_left' (by rw [List.length_set, hl]), List.take_left' (by rw [rcB_length, hsl])] at this
      exact this
    by_cases h8 : j < 8
    · -- the sum is turned
      have hss : s' = s := by
        have := congrArg (List.drop 8) eB
        rw [List.drop_set_of_lt (by omega)] at this
        have d8 : ∀ t : Bs, (rcB t).drop 8 = t := fun t => by
          rw [rcB, ← List.append_assoc, List.drop_left' (by simp [fourB_length])]
        rw [d8, d8] at this
        exact this.symm
      rw [hss] at eB
      have := congrArg (fun l => l[j]?) eB
      simp only [List.getElem?_set_self hj, List.getElem?_eq_getElem hj] at this
      exact xor_ne _ _ hx (Option.some.inj this)
    · obtain ⟨i, rfl⟩ : ∃ i, j = 8 + i := ⟨j - 8, by omega⟩
      have hi : i < s.length := by omega
      have d8 : ∀ t : Bs, (rcB t).drop 8 = t := fun t => by
        rw [rcB, ← List.append_assoc, List.drop_left' (by simp [fourB_length])]
      have hat : (rcB s)[8 + i] = s[i] := by
        have h1 : (rcB s)[8 + i]? = s[i]? := by
          conv => rhs; rw [← d8 s]
          rw [List.getElem?_drop]
        rw [List.getElem?_eq_getElem hj, List.getElem?_eq_getElem hi] at h1
        exact Option.some.inj h1
      have e8 : s.set i (s[i] ^^^ x) = s' := by
        have := congrArg (List.drop 8) eB
        rw [List.drop_set, if_neg (by omega), d8, d8, hat, show 8 + i - 8 = i by omega] at this
        exact this
      have t8 : ∀ t : Bs, ((rcB t).drop 4).take 4 = fourB (cs (fourB t.length ++ t)) := fun t => by
        rw [rcB, List.drop_left' (fourB_length _), List.take_left' (fourB_length _)]
      have ec : fourB (cs (fourB s.length ++ s)) = fourB (cs (fourB s'.length ++ s')) := by
        rw [← t8 s, ← t8 s', ← eB, List.drop_set, if_neg (by omega), List.take_set, List.set_eq_of_length_le (by rw [List.length_take]; omega)]
      have ec2 := four_inj (cs_lt _) (cs_lt _) ec
      rw [hsl, ← e8] at ec2
      have := cs_set (fourB s.length ++ s) (4 + i) (by rw [List.length_append, fourB_length]; omega) x hx
      apply this
      rw [List.set_append_right _ _ (by rw [fourB_length]; omega), List.getElem_append_right (by rw [fourB_length]; omega)]
      simp only [fourB_length, show 4 + i - 4 = i by omega]
      exact ec2.symm
theorem flip_eq (l : Bs) (h : 0 < l.length) : flip l = l.set (l.length - 1) (l[l.length - 1] ^^^ 255) := by
  have hne : l ≠ [] := by intro e; rw [e] at h; simp at h
  unfold flip
  rw [List.getLast?_eq_getElem?, List.getElem?_eq_getElem (by omega)]
  dsimp only
  rw [List.set_eq_take_append_cons_drop, if_pos (by omega), List.drop_of_length_le (by omega), ← List.dropLast_eq_take]
theorem flip_append (a l : Bs) (h : 0 < l.length) : flip (a ++ l) = a ++ flip l := by
  rw [flip_eq _ (by rw [List.length_append]; omega), flip_eq l h, List.set_append_right _ _ (by rw [List.length_append]; omega)]
  congr 1
  have e : (a ++ l).length - 1 - a.length = l.length - 1 := by rw [List.length_append]; omega
  rw [List.getElem_append_right (by rw [List.length_append]; omega)]
  simp only [e]
theorem torn_none (s : Bs) (hs : s.length ≤ 60000) {k : Nat} (_ : 0 < k) (h : k ≤ 8 + s.length) : fstB (flip ((rcB s).take k)) = none := by
  have hl : ((rcB s).take k).length = k := by rw [List.length_take, rcB_length]; omega
  by_cases h8 : k < 8
  · exact fst_short (by rw [flip_length, hl]; omega)
  · by_cases he : k = 8 + s.length
    · have et : (rcB s).take k = rcB s := List.take_of_length_le (by rw [rcB_length]; omega)
      rw [et, flip_eq _ (by rw [rcB_length]; omega)]
      have := turned_none s [] hs ((rcB s).length - 1) (by rw [rcB_length]; omega) (by rw [rcB_length]; omega) 255 (by decide)
      rw [List.append_nil] at this
      exact this
    · unfold fstB
      have t4 : (flip ((rcB s).take k)).take 4 = fourB s.length := by
        rw [flip_eq _ (by omega), List.take_set, List.set_eq_of_length_le (by rw [List.length_take, hl]; omega), List.take_take, Nat.min_eq_left (by omega), rcB, List.take_left' (fourB_length _)]
      rw [t4, num_four _ (by omega), if_neg]
      rintro ⟨_, _, h3, _⟩
      rw [flip_length, hl] at h3
      omega
theorem torn (L : List Bs) (h : Fit L) (k : Nat) (h0 : 0 < k) (hk : k ≤ (rcsB L).length) : recs (flip ((rcsB L).take k)) = L.take (wh L (k - 1)) := by
  induction L generalizing k with
  | nil => simp [rcsB] at hk; omega
  | cons s L ih =>
    simp only [wh]
    have hs := h s (by simp)
    by_cases h8 : 8 + s.length ≤ k - 1
    · rw [if_pos h8]
      obtain ⟨j, rfl⟩ : ∃ j, k = (8 + s.length) + j := ⟨k - (8 + s.length), by omega⟩
      have hj : j ≤ (rcsB L).length := by simp only [rcsB, List.length_append, rcB_length] at hk; omega
      have e : (rcsB (s :: L)).take ((8 + s.length) + j) = rcsB [s] ++ (rcsB L).take j := by
        simp only [rcsB, List.append_nil]
        rw [List.take_append, rcB_length, List.take_of_length_le (by rw [rcB_length]; omega)]
        congr 2; omega
      rw [e, flip_append _ _ (by rw [List.length_take]; omega), recs_app [s] (fun x hx => by simp at hx; subst hx; exact hs), ih h.tail j (by omega) hj, show 8 + s.length + j - 1 - (8 + s.length) = j - 1 by omega]
      rfl
    · rw [if_neg h8, List.take_zero]
      have e : (rcsB (s :: L)).take k = (rcB s).take k := by
        rw [rcsB, List.take_append_of_le_length (by rw [rcB_length]; omega)]
      rw [e]
      exact recs_none (torn_none s hs h0 (by omega))
end Go.Proofs.Ytpiiknbjllgaoaa

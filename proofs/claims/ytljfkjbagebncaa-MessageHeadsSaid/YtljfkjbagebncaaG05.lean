/-
  PMath: The plain mathematics of package pack: numbers of bytes, names with pointers, and what a packer puts; nothing of the program is imported.
-/
import Derived.Test.YtljfkjbagebncaaG01

/- PMath -/
namespace Go.Proofs.Ytljfkjbagebncaa
/-! ### Numbers -/
def numB (l : Bs) : Nat := l.foldl (fun a c => a * 256 + c.toNat) 0
theorem numB_snoc (l : Bs) (c : UInt8) : numB (l ++ [c]) = numB l * 256 + c.toNat := by simp [numB]
theorem numB_lt (l : Bs) : numB l < 256 ^ l.length := by
  suffices h : ∀ (k : Nat) (m : Bs), m.length = k → numB m < 256 ^ k from h _ l rfl
  intro k
  induction k with
  | zero => intro m hm; rw [List.length_eq_zero_iff.1 hm]; decide
  | succ k ih =>
    intro m hm
    rcases List.eq_nil_or_concat m with rfl | ⟨a, x, rfl⟩
    · simp at hm
    · rw [List.concat_eq_append] at hm ⊢
      rw [numB_snoc, Nat.pow_succ]
      have := ih a (by simp at hm; omega)
      have h2 := x.toNat_lt
      omega
/-- What Byte, Word and Long answer: the number, the place behind it, the error. -/
def piE (s : Bs) (at' n : Int) : Bool := decide (0 ≤ at' ∧ 0 ≤ n ∧ n ≤ (s.length : Int) - at')
def piS (s : Bs) (at' n : Int) : Bs := if piE s at' n then (s.drop at'.toNat).take n.toNat else []
def piP (s : Bs) (at' n : Int) : Int := if piE s at' n then at' + n else 0
def piR (s : Bs) (at' n : Int) : Int := if piE s at' n then 0 else 10
/-! ### Names that are read -/
abbrev Res := Bs × Nat × Nat
/-- Reading goes on at a place; st: where the part began; aft: the place behind the first pointer; acc: what has come. -/
def nm (s : Bs) (p st : Nat) (aft : Option Nat) (acc : Bs) : Res :=
  if _h : p < s.length then
    let c := (s.getD p 0).toNat
    if c = 0 then (acc ++ [0], aft.getD (p + 1), 0)
    else if 192 ≤ c then
      if p + 1 < s.length then
        let t := (c - 192) * 256 + (s.getD (p + 1) 0).toNat
        if _h2 : t < st then nm s t t (some (aft.getD (p + 2))) acc else ([], 0, 10)
      else ([], 0, 10)
    else if 63 < c then ([], 0, 10)
    else if p + 1 + c ≤ s.length then
      if acc.length + 1 + c + 1 ≤ 255 then nm s (p + 1 + c) st aft (acc ++ (s.drop p).take (1 + c)) else ([], 0, 11)
    else ([], 0, 10)
  else ([], 0, 10)
termination_by (st, s.length - p)
theorem nm_end (s : Bs) (p st : Nat) (aft : Option Nat) (acc : Bs) (h : ¬ p < s.length) : nm s p st aft acc = ([], 0, 10) := by
  rw [nm, dif_neg h]
theorem nm_zero (s : Bs) (p st : Nat) (aft : Option Nat) (acc : Bs) (h : p < s.length) (hc : (s.getD p 0).toNat = 0) : nm s p st aft acc = (acc ++ [0], aft.getD (p + 1), 0) := by
  rw [nm, dif_pos h]; simp only [hc]; rfl
theorem nm_short (s : Bs) (p st : Nat) (aft : Option Nat) (acc : Bs) (h : p < s.length) (hc : 192 ≤ (s.getD p 0).toNat) (h1 : ¬ p + 1 < s.length) : nm s p st aft acc = ([], 0, 10) := by
  rw [nm, dif_pos h]; simp only
  rw [if_neg (by omega), if_pos hc, if_neg h1]
theorem nm_far (s : Bs) (p st : Nat) (aft : Option Nat) (acc : Bs) (h : p < s.length) (hc : 192 ≤ (s.getD p 0).toNat) (h1 : p + 1 < s.length) (h2 : ¬ ((s.getD p 0).toNat - 192) * 256 + (s.getD (p + 1) 0).toNat < st) : nm s p st aft acc = ([], 0, 10) := by
  rw [nm, dif_pos h]; simp only
  rw [if_neg (by omega), if_pos hc, if_pos h1, dif_neg h2]
theorem nm_ptr (s : Bs) (p st : Nat) (aft : Option Nat) (acc : Bs) (h : p < s.length) (hc : 192 ≤ (s.getD p 0).toNat) (h1 : p + 1 < s.length) (t : Nat) (ht : ((s.getD p 0).toNat - 192) * 256 + (s.getD (p + 1) 0).toNat = t) (h2 : t < st) : nm s p st aft acc = nm s t t (some (aft.getD (p + 2))) acc := by
  subst ht
  conv => lhs; rw [nm, dif_pos h]
  simp only
  rw [if_neg (by omega), if_pos hc, if_pos h1, dif_pos h2]
theorem nm_odd (s : Bs) (p st : Nat) (aft : Option Nat) (acc : Bs) (h : p < s.length) (hc : (s.getD p 0).toNat < 192) (h1 : 63 < (s.getD p 0).toNat) : nm s p st aft acc = ([], 0, 10) := by
  rw [nm, dif_pos h]; simp only
  rw [if_neg (by omega), if_neg (by omega), if_pos h1]
theorem nm_cut (s : Bs) (p st : Nat) (aft : Option Nat) (acc : Bs) (h : p < s.length) (h0 : (s.getD p 0).toNat ≠ 0) (h1 : (s.getD p 0).toNat ≤ 63) (h2 : ¬ p + 1 + (s.getD p 0).toNat ≤ s.length) : nm s p st aft acc = ([], 0, 10) := by
  rw [nm, dif_pos h]; simp only
  rw [if_neg h0, if_neg (by omega), if_neg (by omega), if_neg h2]
theorem nm_long (s : Bs) (p st : Nat) (aft : Option Nat) (acc : Bs) (h : p < s.length) (h0 : (s.getD p 0).toNat ≠ 0) (h1 : (s.getD p 0).toNat ≤ 63) (h2 : p + 1 + (s.getD p 0).toNat ≤ s.length) (h3 : ¬ acc.length + 1 + (s.getD p 0).toNat + 1 ≤ 255) : nm s p st aft acc = ([], 0, 11) := by
  rw [nm, dif_pos h]; simp only
  rw [if_neg h0, if_neg (by omega), if_neg (by omega), if_pos h2, if_neg h3]
theorem nm_lab (s : Bs) (p st : Nat) (aft : Option Nat) (acc : Bs) (h : p < s.length) (h0 : (s.getD p 0).toNat ≠ 0) (h1 : (s.getD p 0).toNat ≤ 63) (h2 : p + 1 + (s.getD p 0).toNat ≤ s.length) (h3 : acc.length + 1 + (s.getD p 0).toNat + 1 ≤ 255) : nm s p st aft acc = nm s (p + 1 + (s.getD p 0).toNat) st aft (acc ++ (s.drop p).take (1 + (s.getD p 0).toNat)) := by
  conv => lhs; rw [nm, dif_pos h]
  simp only
  rw [if_neg h0, if_neg (by omega), if_neg (by omega), if_pos h2, if_pos h3]
/-- What Name answers at a place that may be below 0. -/
def nmI (s : Bs) (p : Int) : Res := if p < 0 then ([], 0, 10) else nm s p.toNat p.toNat none []
/-! ### Names that are put -/
abbrev Kn := List (Bs × Nat)
def find (L : Kn) (n : Bs) : Option Nat := (L.find? fun p => p.1 == n).map (·.2)
def word (n : Nat) : Bs := [UInt8.ofNat (n / 256), UInt8.ofNat n]
def more (B : Bs) (L : Kn) (n : Bs) : Kn := if B.length < 16384 then L ++ [(n, B.length)] else L
def putN (pts : Bool) : Bs → Kn → List Bs → Bs × Kn
  | B, L, [] => (B ++ [0], L)
  | B, L, x :: xs =>
    match find L (enc (x :: xs) ++ [0]) with
    | some a => if pts then (B ++ word (49152 + a), L) else putN pts (B ++ enc1 x) L xs
    | none => putN pts (B ++ enc1 x) (more B L (enc (x :: xs) ++ [0])) xs
theorem putN_nil (pts : Bool) (B : Bs) (L : Kn) : putN pts B L [] = (B ++ [0], L) := rfl
theorem putN_point (B : Bs) (L : Kn) (x : Bs) (xs : List Bs) (a : Nat) (h : find L (enc (x :: xs) ++ [0]) = some a) : putN true B L (x :: xs) = (B ++ word (49152 + a), L) := by simp [putN, h]
theorem putN_pass (B : Bs) (L : Kn) (x : Bs) (xs : List Bs) (a : Nat) (h : find L (enc (x :: xs) ++ [0]) = some a) : putN false B L (x :: xs) = putN false (B ++ enc1 x) L xs := by simp [putN, h]
theorem putN_new (pts : Bool) (B : Bs) (L : Kn) (x : Bs) (xs : List Bs) (h : find L (enc (x :: xs) ++ [0]) = none) : putN pts B L (x :: xs) = putN pts (B ++ enc1 x) (more B L (enc (x :: xs) ++ [0])) xs := by simp [putN, h]
theorem find_mem {L : Kn} {n : Bs} {a : Nat} (h : find L n = some a) : (n, a) ∈ L := by
  unfold find at h
  obtain ⟨p, hp, rfl⟩ := Option.map_eq_some_iff.1 h
  have h1 := List.find?_some hp
  have h2 := List.mem_of_find?_eq_some hp
  simp at h1
  rw [← h1]; exact h2
theorem find_snoc (L : Kn) (m : Bs) (a : Nat) (n : Bs) : find (L ++ [(m, a)]) n = match find L n with | some b => some b | none => if m = n then some a else none := by
  unfold find
  rw [List.find?_append]
  cases hL : L.find? (fun p => p.1 == n) with
  | some b => simp
  | none =>
    by_cases e : m = n
    · simp [e]
    · simp [e]
theorem find_snoc_some {L : Kn} {m : Bs} {a : Nat} {n : Bs} {b : Nat} (h : find L n = some b) : find (L ++ [(m, a)]) n = some b := by rw [find_snoc, h]
theorem find_more_some {B : Bs} {L : Kn} {m n : Bs} {b : Nat} (h : find L n = some b) : find (more B L m) n = some b := by
  unfold more; split
  · exact find_snoc_some h
  · exact h
theorem find_putN {pts : Bool} {n : Bs} {b : Nat} : ∀ (ls : List Bs) (B : Bs) (L : Kn), find L n = some b → find (putN pts B L ls).2 n = some b := by
  intro ls
  induction ls with
  | nil => intro B L h; exact h
  | cons x xs ih =>
    intro B L h
    cases hf : find L (enc (x :: xs) ++ [0]) with
    | some a =>
      cases pts with
      | true => rw [putN_point _ _ _ _ _ hf]; exact h
      | false => rw [putN_pass _ _ _ _ _ hf]; exact ih _ _ h
    | none => rw [putN_new _ _ _ _ _ hf]; exact ih _ _ (find_more_some h)
/-- All known places are below 4000 (hexadecimal). -/
def OkK (L : Kn) : Prop := ∀ p ∈ L, p.2 < 16384
theorem OkK.find {L : Kn} (h : OkK L) {n : Bs} {a : Nat} (hf : find L n = some a) : a < 16384 := h _ (find_mem hf)
theorem okK_nil : OkK [] := by intro p hp; simp at hp
theorem okK_more {B : Bs} {L : Kn} {n : Bs} (h : OkK L) : OkK (more B L n) := by
  unfold more; split
  · intro p hp
    rcases List.mem_append.1 hp with hp | hp
    · exact h p hp
    · rw [List.mem_singleton.1 hp]; assumption
  · exact h
theorem word_length (n : Nat) : (word n).length = 2 := rfl
theorem more_length (B : Bs) (L : Kn) (n : Bs) : (more B L n).length ≤ L.length + 1 := by unfold more; split <;> simp
theorem putN_ok {pts : Bool} : ∀ (ls : List Bs) (B : Bs) (L : Kn), OkK L → OkK (putN pts B L ls).2 := by
  intro ls
  induction ls with
  | nil => intro B L h; exact h
  | cons x xs ih =>
    intro B L h
    cases hf : find L (enc (x :: xs) ++ [0]) with
    | some a =>
      cases pts with
      | true => rw [putN_point _ _ _ _ _ hf]; exact h
      | false => rw [putN_pass _ _ _ _ _ hf]; exact ih _ _ h
    | none => rw [putN_new _ _ _ _ _ hf]; exact ih _ _ (okK_more h)
theorem putN_len {pts : Bool} : ∀ (ls : List Bs) (B : Bs) (L : Kn), (∀ x ∈ ls, 1 ≤ x.length) → B.length + 1 ≤ (putN pts B L ls).1.length ∧ (putN pts B L ls).1.length ≤ B.length + (enc ls).length + 1 ∧ (putN pts B L ls).2.length + B.length ≤ L.length + (putN pts B L ls).1.length := by
  intro ls
  induction ls with
  | nil => intro B L _; simp [putN_nil, enc]
  | cons x xs ih =>
    intro B L hx
    have h1 := hx x (by simp)
    have e1 : (enc (x :: xs)).length = x.length + 1 + (enc xs).length := by rw [enc_cons, List.length_append, enc1_length]
    have ih' := fun B L => ih B L (fun y hy => hx y (by simp [hy]))
    cases hf : find L (enc (x :: xs) ++ [0]) with
    | some a =>
      cases pts with
      | true => rw [putN_point _ _ _ _ _ hf]; simp only [List.length_append, word_length]; omega
      | false =>
        rw [putN_pass _ _ _ _ _ hf]
        obtain ⟨i1, i2, i3⟩ := ih' (B ++ enc1 x) L
        rw [List.length_append, enc1_length] at i1 i2 i3
        omega
    | none =>
      rw [putN_new _ _ _ _ _ hf]
      obtain ⟨i1, i2, i3⟩ := ih' (B ++ enc1 x) (more B L (enc (x :: xs) ++ [0]))
      rw [List.length_append, enc1_length] at i1 i2 i3
      have := more_length B L (enc (x :: xs) ++ [0])
      omega
theorem putN_false_len : ∀ (ls : List Bs) (B : Bs) (L : Kn), (putN false B L ls).1.length = B.length + (enc ls).length + 1 := by
  intro ls
  induction ls with
  | nil => intro B L; simp [putN_nil, enc]
  | cons x xs ih =>
    intro B L
    have e1 : (enc (x :: xs)).length = x.length + 1 + (enc xs).length := by rw [enc_cons, List.length_append, enc1_length]
    cases hf : find L (enc (x :: xs) ++ [0]) with
    | some a => rw [putN_pass _ _ _ _ _ hf, ih, List.length_append, enc1_length]; omega
    | none => rw [putN_new _ _ _ _ _ hf, ih, List.length_append, enc1_length]; omega
/-- A name that was put is known. -/
theorem putN_known {pts : Bool} (x : Bs) (xs : List Bs) (B : Bs) (L : Kn) (hB : B.length < 16384) : ∃ a, find (putN pts B L (x :: xs)).2 (enc (x :: xs) ++ [0]) = some a := by
  cases hf : find L (enc (x :: xs) ++ [0]) with
  | some a => exact ⟨a, find_putN _ _ _ hf⟩
  | none =>
    rw [putN_new _ _ _ _ _ hf]
    refine ⟨B.length, find_putN _ _ _ ?_⟩
    unfold more
    rw [if_pos hB, find_snoc, hf]
    simp
/-- What Name of a packer leaves: the bytes, what is known, the error. -/
def pkB (pts : Bool) (B : Bs) (L : Kn) (n : Bs) : Bs := if chk n = 0 then (putN pts B L (labs n)).1 else B
def pkL (pts : Bool) (B : Bs) (L : Kn) (n : Bs) : Kn := if chk n = 0 then (putN pts B L (labs n)).2 else L
theorem name_split {n : Bs} (h : chk n = 0) : enc (labs n) ++ [0] = n := by
  have := split n
  rw [(chk_zero.1 h).1] at this
  exact this
end Go.Proofs.Ytljfkjbagebncaa

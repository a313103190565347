/-
  BackMath: What was put is read again: plain mathematics of names with pointers.
-/
import Derived.Test.YtljfkjbagebncaaG05

/- BackMath -/
namespace Go.Proofs.Ytljfkjbagebncaa
/-- From a place on the bytes read as these labels; all pointers lead ahead of where their part began; then the place behind. -/
inductive Rds (B : Bs) : Nat → Nat → List Bs → Nat → Prop
  | zero (p st : Nat) (h : p < B.length) (h0 : (B.getD p 0).toNat = 0) : Rds B p st [] (p + 1)
  | ptr (p st t : Nat) (ls : List Bs) (q : Nat) (h : p + 1 < B.length) (hc : 192 ≤ (B.getD p 0).toNat) (ht : ((B.getD p 0).toNat - 192) * 256 + (B.getD (p + 1) 0).toNat = t) (hs : t < st) (r : Rds B t t ls q) : Rds B p st ls (p + 2)
  | lab (p st : Nat) (x : Bs) (ls : List Bs) (q : Nat) (hx : OkL x) (h : p + 1 + x.length ≤ B.length) (e : (B.drop p).take (1 + x.length) = enc1 x) (r : Rds B (p + 1 + x.length) st ls q) : Rds B p st (x :: ls) q
theorem getD_app (B X : Bs) (p : Nat) (h : p < B.length) : (B ++ X).getD p 0 = B.getD p 0 := by
  simp [List.getD_eq_getElem?_getD, List.getElem?_append_left h]
theorem take_app (B X : Bs) (p n : Nat) (h : p + n ≤ B.length) : ((B ++ X).drop p).take n = (B.drop p).take n := by
  rw [List.drop_append_of_le_length (by omega), List.take_append_of_le_length (by simp; omega)]
theorem Rds.app {B : Bs} (X : Bs) {p st : Nat} {ls : List Bs} {q : Nat} (h : Rds B p st ls q) : Rds (B ++ X) p st ls q := by
  induction h with
  | zero p st h h0 => exact .zero p st (by rw [List.length_append]; omega) (by rw [getD_app B X p h]; exact h0)
  | ptr p st t ls q h hc ht hs r ih =>
    have e1 := getD_app B X p (by omega)
    have e2 := getD_app B X (p + 1) h
    exact .ptr p st t ls q (by rw [List.length_append]; omega) (by rw [e1]; exact hc) (by rw [e1, e2]; exact ht) hs ih
  | lab p st x ls q hx h e r ih => exact .lab p st x ls q hx (by rw [List.length_append]; omega) (by rw [take_app B X p _ (by omega)]; exact e) ih
theorem Rds.mono {B : Bs} {p st st' : Nat} {ls : List Bs} {q : Nat} (h : Rds B p st ls q) (hs : st ≤ st') : Rds B p st' ls q := by
  induction h with
  | zero p st h h0 => exact .zero p st' h h0
  | ptr p st t ls q h hc ht hst r ih => exact .ptr p st' t ls q h hc ht (by omega) r
  | lab p st x ls q hx h e r ih => exact .lab p st' x ls q hx h e (ih hs)
theorem head_of {B x : Bs} {p : Nat} (hx : OkL x) (h : p + 1 + x.length ≤ B.length) (e : (B.drop p).take (1 + x.length) = enc1 x) : (B.getD p 0).toNat = x.length := by
  rw [List.drop_eq_getElem_cons (by omega), Nat.add_comm, List.take_succ_cons] at e
  unfold enc1 at e
  injection e with e1 e2
  have e3 : B.getD p 0 = B[p] := by simp [show p < B.length by omega]
  rw [e3, e1]
  have := hx.2
  simp; omega
theorem Rds.read {B : Bs} {p st : Nat} {ls : List Bs} {q : Nat} (h : Rds B p st ls q) : ∀ (aft : Option Nat) (acc : Bs), acc.length + (enc ls).length + 1 ≤ 255 → nm B p st aft acc = (acc ++ enc ls ++ [0], aft.getD q, 0) := by
  induction h with
  | zero p st h h0 => intro aft acc _; rw [nm_zero B p st aft acc h h0]; simp [enc]
  | ptr p st t ls q h hc ht hs r ih =>
    intro aft acc hl
    rw [nm_ptr B p st aft acc (by omega) hc h t ht hs, ih _ _ hl]
    rfl
  | lab p st x ls q hx h e r ih =>
    intro aft acc hl
    have hh := head_of hx h e
    have hx1 := hx.1
    have hx2 := hx.2
    rw [enc_cons, List.length_append, enc1_length] at hl
    rw [nm_lab B p st aft acc (by omega) (by omega) (by omega) (by omega) (by omega), hh, e, ih _ _ (by rw [List.length_append, enc1_length]; omega), enc_cons]
    simp
theorem enc_inj {a b : List Bs} (ha : ∀ x ∈ a, OkL x) (hb : ∀ x ∈ b, OkL x) (h : enc a ++ [0] = enc b ++ [0]) : a = b := by
  have h1 := labs_join a [0] ha (by decide)
  have h2 := labs_join b [0] hb (by decide)
  rw [h] at h1
  exact h1.symm.trans h2
/-- A suffix that may be read from its place on. -/
def Sfx (B : Bs) (r : Bs) (a : Nat) : Prop := a < 16384 ∧ a < B.length ∧ ∃ ls q, r = enc ls ++ [0] ∧ (∀ x ∈ ls, OkL x) ∧ Rds B a a ls q
theorem Sfx.app {B r : Bs} {a : Nat} (X : Bs) (h : Sfx B r a) : Sfx (B ++ X) r a := by
  obtain ⟨h1, h2, ls, q, e, ho, hr⟩ := h
  exact ⟨h1, by rw [List.length_append]; omega, ls, q, e, ho, hr.app X⟩
theorem word_get (B : Bs) (a : Nat) (h : a < 16384) : (((B ++ word (49152 + a)).getD B.length 0).toNat = 192 + a / 256) ∧ (((B ++ word (49152 + a)).getD (B.length + 1) 0).toNat = a % 256) := by
  have e1 : (B ++ word (49152 + a)).getD B.length 0 = UInt8.ofNat ((49152 + a) / 256) := by
    simp [List.getD_eq_getElem?_getD, word]
  have e2 : (B ++ word (49152 + a)).getD (B.length + 1) 0 = UInt8.ofNat (49152 + a) := by
    rw [List.getD_eq_getElem?_getD, List.getElem?_append_right (by omega)]
    simp [word]
  rw [e1, e2]
  constructor
  · simp; omega
  · simp
theorem put_rds {pts : Bool} {st : Nat} : ∀ (ls : List Bs) (B : Bs) (L : Kn), (∀ x ∈ ls, OkL x) → st ≤ B.length →
    (∀ r a, (r, a) ∈ L → (a < st ∧ Sfx B r a) ∨ (enc ls).length + 1 < r.length) →
    (∃ X, (putN pts B L ls).1 = B ++ X) ∧ Rds (putN pts B L ls).1 B.length st ls (putN pts B L ls).1.length ∧ (∀ r a, (r, a) ∈ (putN pts B L ls).2 → (r, a) ∈ L ∨ Sfx (putN pts B L ls).1 r a) := by
  intro ls
  induction ls with
  | nil =>
    intro B L _ _ _
    refine ⟨⟨[0], rfl⟩, ?_, fun r a h => .inl h⟩
    rw [putN_nil]
    have h := Rds.zero (B := B ++ [0]) B.length st (by simp) (by simp [List.getD_eq_getElem?_getD])
    rw [show (B ++ [(0 : UInt8)]).length = B.length + 1 by simp]
    exact h
  | cons x xs ih =>
    intro B L hok hst H
    have hx := hok x (by simp)
    have hxs : ∀ y ∈ xs, OkL y := fun y hy => hok y (by simp [hy])
    have hle : (enc (x :: xs)).length = x.length + 1 + (enc xs).length := by rw [enc_cons, List.length_append, enc1_length]
    have lab : ∀ B' X q, B' = (B ++ enc1 x) ++ X → Rds B' (B ++ enc1 x).length st xs q → Rds B' B.length st (x :: xs) q := by
      intro B' X q e hr
      rw [List.length_append, enc1_length] at hr
      refine .lab _ _ _ _ _ hx ?_ ?_ (by rw [Nat.add_assoc, Nat.add_comm 1]; exact hr)
      · rw [e]; simp [enc1]; omega
      · rw [e, List.append_assoc, List.drop_append_of_le_length (Nat.le_refl _), List.drop_length, List.nil_append, List.take_append_of_le_length (by rw [enc1_length]; omega), List.take_of_length_le (by rw [enc1_length]; omega)]
    cases hf : find L (enc (x :: xs) ++ [0]) with
    | some a =>
      have hm := find_mem hf
      have hS : a < st ∧ Sfx B (enc (x :: xs) ++ [0]) a := by
        rcases H _ _ hm with h | h
        · exact h
        · simp at h
      obtain ⟨has, ha, haB, ls', q, e, ho, hr⟩ := hS
      obtain rfl := enc_inj hok ho e
      cases pts with
      | true =>
        rw [putN_point _ _ _ _ _ hf]
        obtain ⟨w1, w2⟩ := word_get B a ha
        refine ⟨⟨_, rfl⟩, ?_, fun r b h => .inl h⟩
        have := Rds.ptr (B := B ++ word (49152 + a)) B.length st a (x :: xs) q (by simp [word]) (by rw [w1]; omega) (by rw [w1, w2]; omega) has (hr.app _)
        rw [show (B ++ word (49152 + a)).length = B.length + 2 by simp [word]]
        exact this
      | false =>
        rw [putN_pass _ _ _ _ _ hf]
        obtain ⟨⟨X, e1⟩, h2, h3⟩ := ih (B ++ enc1 x) L hxs (by rw [List.length_append]; omega) (fun r b hb => by
          rcases H r b hb with h | h
          · exact .inl ⟨h.1, h.2.app _⟩
          · exact .inr (by omega))
        exact ⟨⟨enc1 x ++ X, by rw [e1, List.append_assoc]⟩, lab _ X _ e1 h2, h3⟩
    | none =>
      rw [putN_new _ _ _ _ _ hf]
      obtain ⟨⟨X, e1⟩, h2, h3⟩ := ih (B ++ enc1 x) (more B L (enc (x :: xs) ++ [0])) hxs (by rw [List.length_append]; omega) (fun r b hb => by
        have hb' : (r, b) ∈ L ∨ (r, b) = (enc (x :: xs) ++ [0], B.length) := by
          unfold more at hb; split at hb
          · rcases List.mem_append.1 hb with h | h
            · exact .inl h
            · exact .inr (List.mem_singleton.1 h)
          · exact .inl hb
        rcases hb' with h | h
        · rcases H r b h with h | h
          · exact .inl ⟨h.1, h.2.app _⟩
          · exact .inr (by omega)
        · injection h with h1 h2
          rw [h1, List.length_append]; simp; right; omega)
      have hR := lab _ X _ e1 h2
      refine ⟨⟨enc1 x ++ X, by rw [e1, List.append_assoc]⟩, hR, fun r b hb => ?_⟩
      rcases h3 r b hb with h | h
      · unfold more at h
        split at h
        · rename_i hB
          rcases List.mem_append.1 h with h | h
          · exact .inl h
          · have := List.mem_singleton.1 h
            injection this with h1 h2
            subst h1 h2
            refine .inr ⟨hB, ?_, x :: xs, _, rfl, hok, hR.mono hst⟩
            rw [e1]; simp [enc1]
        · exact .inl h
      · exact .inr h
/-- All that is known may be read. -/
def KOk (B : Bs) (L : Kn) : Prop := ∀ r a, (r, a) ∈ L → Sfx B r a
theorem kok_nil : KOk [] [] := by intro r a h; simp at h
theorem KOk.app {B : Bs} {L : Kn} (X : Bs) (h : KOk B L) : KOk (B ++ X) L := fun r a hr => (h r a hr).app X
theorem KOk.okK {B : Bs} {L : Kn} (h : KOk B L) : OkK L := fun p hp => (h p.1 p.2 hp).1
/-- A name that was put: the name, its place, the place behind it. -/
abbrev Rec := Bs × Nat × Nat
def Good (B : Bs) (L : Kn) (rs : List Rec) : Prop := KOk B L ∧ ∀ r ∈ rs, chk r.1 = 0 ∧ Rds B r.2.1 r.2.1 (labs r.1) r.2.2
theorem good_nil : Good [] [] [] := ⟨kok_nil, by simp⟩
theorem Good.raw {B : Bs} {L : Kn} {rs : List Rec} (X : Bs) (h : Good B L rs) : Good (B ++ X) L rs := ⟨h.1.app X, fun r hr => ⟨(h.2 r hr).1, (h.2 r hr).2.app X⟩⟩
theorem Good.put {pts : Bool} {B : Bs} {L : Kn} {rs : List Rec} {n : Bs} (h : Good B L rs) (g : chk n = 0) : Good (pkB pts B L n) (pkL pts B L n) (rs ++ [(n, B.length, (pkB pts B L n).length)]) := by
  unfold pkB pkL
  rw [if_pos g, if_pos g]
  obtain ⟨⟨X, e⟩, h2, h3⟩ := put_rds (pts := pts) (st := B.length) (labs n) B L (labs_ok n) (Nat.le_refl _) (fun r a hr => .inl ⟨(h.1 r a hr).2.1, h.1 r a hr⟩)
  refine ⟨fun r a hr => ?_, fun r hr => ?_⟩
  · rcases h3 r a hr with h4 | h4
    · rw [e]; exact (h.1 r a h4).app X
    · exact h4
  · rcases List.mem_append.1 hr with hr | hr
    · rw [e]; exact ⟨(h.2 r hr).1, (h.2 r hr).2.app X⟩
    · rw [List.mem_singleton.1 hr]
      exact ⟨g, h2⟩
theorem Good.read {B : Bs} {L : Kn} {rs : List Rec} (h : Good B L rs) {r : Rec} (hr : r ∈ rs) : nmI B (r.2.1 : Int) = (r.1, r.2.2, 0) := by
  obtain ⟨g, h2⟩ := h.2 r hr
  have e := name_split g
  have hl := (chk_zero.1 g).2
  unfold nmI
  rw [if_neg (by omega), Int.toNat_natCast, h2.read none [] (by have := congrArg List.length e; rw [List.length_append] at this; simp at this ⊢; omega), List.nil_append, e]
  rfl
end Go.Proofs.Ytljfkjbagebncaa

/-
  Flags: The bits of a header: what reading and writing one of them leaves.
  WrH: What putting a header leaves.
-/
import Derived.Test.YtljfkjbagebncaaG22
import Derived.RegionTactic
import Derived.Laws.BitsAllLaws
import Derived.Test.YtljfkjbagebncaaG25

/- Flags -/
namespace Go.Proofs.Ytljfkjbagebncaa
open Go.RowKit
theorem below_set {w : World} {b i : Nat} (v : Value) {S : Nat → Prop} (hb : S b) : Tr S w (w.setCell ⟨b, i, none⟩ v) := (Tr.refl S w).setCell (.inl hb) v
theorem and_one (a : Nat) (ha : a < 65536) : bits .and .u16 (a : Int) 1 = ((a % 2 : Nat) : Int) := by
  have h := u16_and_nat a 1 ha (by decide)
  rw [Nat.and_one_is_mod] at h
  exact h
theorem and_15 (a : Nat) (ha : a < 65536) : bits .and .u16 (a : Int) 15 = ((a % 16 : Nat) : Int) := by
  have h := u16_and_nat a 15 ha (by decide)
  have e : a &&& 15 = a % 16 := Nat.and_two_pow_sub_one_eq_mod a 4
  rw [e] at h
  exact h
theorem int_div (n k : Nat) : ((n : Int) / (k : Int)) = ((n / k : Nat) : Int) := by simp
set_option maxHeartbeats 1600000 in
theorem readBit_any (n : Nat) (hn : n < 65536) (at_ : Nat) (ha : at_ = 15 ∨ at_ = 10 ∨ at_ = 9 ∨ at_ = 8 ∨ at_ = 7) (i : Nat) (hi : i < 12) (fb b : Nat) (cs : Array Value) (hs : cs.size = 12) (w : World) (hf : Ce w fb 72 #[.int .u16 (n : Int)]) (hm : Ce w b 26 cs) :
    Calls Try.prog 42 #[ptr fb, .int .i64 (at_ : Int), .pointer (some ⟨b, i, none⟩)] w fun e w' => (∃ v, e = .returned v) ∧ w' = w.setCell ⟨b, i, none⟩ (.bool (decide (n / 2 ^ at_ % 2 = 1))) := by
  have x0 := hf.cell 0
  have x1 := hm.cell i
  have f1 := hm.frozen i
  obtain ⟨c, hc⟩ : ∃ c, cs[i]? = some c := ⟨_, Array.getElem?_eq_getElem (by omega)⟩
  rw [hc] at x1
  simp at x0
  have HN : Hid (∀ k : Nat, (bits .and .u16 (((n / k : Nat) : Int)) 1 == 1) = decide (n / k % 2 = 1)) := Lib.hid fun k => by
    rw [and_one (n / k) (Nat.lt_of_le_of_lt (Nat.div_le_self _ _) hn)]
    rw [Bool.eq_iff_iff]; simp; omega
  clear hc hf hm hs hn hi
  rcases ha with rfl | rfl | rfl | rfl | rfl
  all_goals
    go_enter Try.func42, Try.ntmps42
    go_wp2
    go_end0
    refine ⟨⟨_, rfl⟩, ?_⟩
    congr 2
  · exact (HN.out 32768)
  · exact (HN.out 1024)
  · exact (HN.out 512)
  · exact (HN.out 256)
  · exact (HN.out 128)
set_option maxHeartbeats 1600000 in
theorem readNumber_any (n : Nat) (hn : n < 65536) (at_ : Nat) (ha : at_ = 11 ∨ at_ = 0) (i : Nat) (hi : i < 12) (fb b : Nat) (cs : Array Value) (hs : cs.size = 12) (w : World) (hf : Ce w fb 72 #[.int .u16 (n : Int)]) (hm : Ce w b 26 cs) :
    Calls Try.prog 43 #[ptr fb, .int .i64 (at_ : Int), .pointer (some ⟨b, i, none⟩)] w fun e w' => (∃ v, e = .returned v) ∧ w' = w.setCell ⟨b, i, none⟩ (.int .i64 ((n / 2 ^ at_ % 16 : Nat) : Int)) := by
  have x0 := hf.cell 0
  have x1 := hm.cell i
  have f1 := hm.frozen i
  obtain ⟨c, hc⟩ : ∃ c, cs[i]? = some c := ⟨_, Array.getElem?_eq_getElem (by omega)⟩
  rw [hc] at x1
  simp at x0
  have b1 : bits .and .u16 ((n : Int) / 2048) 15 = ((n / 2048 % 16 : Nat) : Int) := and_15 (n / 2048) (by omega)
  have b2 : bits .and .u16 (n : Int) 15 = ((n % 16 : Nat) : Int) := and_15 n hn
  clear hc hf hm hs hi
  rcases ha with rfl | rfl
  all_goals
    go_enter Try.func43, Try.ntmps43
    go_wp2
    go_end0
    refine ⟨⟨_, rfl⟩, ?_⟩
    congr 2
  all_goals simp
set_option maxHeartbeats 1600000 in
theorem writeBit_any (n : Nat) (hn : n < 65536) (at_ : Nat) (ha : at_ = 15 ∨ at_ = 10 ∨ at_ = 9 ∨ at_ = 8 ∨ at_ = 7) (i : Nat) (x : Bool) (fb b : Nat) (w : World) (hf : Ce w fb 72 #[.int .u16 (n : Int)]) (hm : w.cell? ⟨b, i, none⟩ = some (.bool x)) :
    Calls Try.prog 86 #[ptr fb, .int .i64 (at_ : Int), .pointer (some ⟨b, i, none⟩)] w fun e w' => (∃ v, e = .returned v) ∧ Ce w' fb 72 #[.int .u16 ((if x then n ||| 2 ^ at_ else n : Nat) : Int)] ∧ Tr (· = fb) w w' := by
  have x0 := hf.cell 0
  have f0 := hf.frozen 0
  simp at x0
  have b1 : Hid (∀ k : Nat, k < 65536 → bits .or .u16 (n : Int) (k : Int) = ((n ||| k : Nat) : Int)) := Lib.hid fun k hk => u16_or_nat n k hn hk
  have HF := Lib.hid hf
  clear hf
  rcases ha with rfl | rfl | rfl | rfl | rfl
  all_goals
    cases x
    · go_enter Try.func86, Try.ntmps86
      go_wp2
      go_end0
      exact ⟨⟨_, rfl⟩, HF.out, Tr.refl _ _⟩
    · go_enter Try.func86, Try.ntmps86
      go_wp2
      go_region
      go_end0
      refine ⟨⟨_, rfl⟩, ?_, (below_set _ (S := (· = fb)) rfl).drew⟩
      refine (HF.out.set (i := 0) _).trans ?_
      simp only [if_true]
      first | rw [← b1.out (2 ^ 15) (by decide)] | rw [← b1.out (2 ^ 10) (by decide)] | rw [← b1.out (2 ^ 9) (by decide)] | rw [← b1.out (2 ^ 8) (by decide)] | rw [← b1.out (2 ^ 7) (by decide)]
      rfl
set_option maxHeartbeats 1600000 in
theorem writeNumber_any (n : Nat) (hn : n < 65536) (at_ : Nat) (ha : at_ = 11 ∨ at_ = 0) (i k : Nat) (hk : k < 16) (fb b : Nat) (w : World) (hf : Ce w fb 72 #[.int .u16 (n : Int)]) (hm : w.cell? ⟨b, i, none⟩ = some (.int .i64 (k : Int))) :
    Calls Try.prog 87 #[ptr fb, .int .i64 (at_ : Int), .pointer (some ⟨b, i, none⟩)] w fun e w' => (∃ v, e = .returned v) ∧ Ce w' fb 72 #[.int .u16 ((n ||| (k * 2 ^ at_) : Nat) : Int)] ∧ Tr (· = fb) w w' := by
  have x0 := hf.cell 0
  have f0 := hf.frozen 0
  simp at x0
  have hki : 0 ≤ (k : Int) ∧ (k : Int) < 16 := by omega
  have b1 : Hid (∀ k : Nat, k < 65536 → bits .or .u16 (n : Int) (k : Int) = ((n ||| k : Nat) : Int)) := Lib.hid fun k hk => u16_or_nat n k hn hk
  have HF := Lib.hid hf
  have HK := Lib.hid hk
  clear hf hk hn
  rcases ha with rfl | rfl
  all_goals
    go_enter Try.func87, Try.ntmps87
    go_wp2
    go_region
    go_end0
    refine ⟨⟨_, rfl⟩, ?_, (below_set _ (S := (· = fb)) rfl).drew⟩
    refine (HF.out.set (i := 0) _).trans ?_
  · rw [← b1.out (k * 2 ^ 11) (by have := HK.out; omega)]; simp
  · rw [← b1.out (k * 2 ^ 0) (by have := HK.out; omega)]; simp
/-- The bit at a place of a number. -/
def bt (n k : Nat) : Bool := decide (n / 2 ^ k % 2 = 1)
structure EF (w0 : World) (fb b n : Nat) (cs : Array Value) (w : World) : Prop where
  f : Ce w fb 72 #[.int .u16 (n : Int)]
  m : Ce w b 26 cs
  t : Tr (· = b) w0 w
  s : cs.size = 12
theorem EF.bit {w0 w : World} {fb b n : Nat} {cs : Array Value} (h : EF w0 fb b n cs w) (hn : n < 65536) (hne : fb ≠ b) (at_ i : Nat) (ha : at_ = 15 ∨ at_ = 10 ∨ at_ = 9 ∨ at_ = 8 ∨ at_ = 7) (hi : i < 12) :
    Calls Try.prog 42 #[ptr fb, .int .i64 (at_ : Int), .pointer (some ⟨b, i, none⟩)] w fun e w' => (∃ v, e = .returned v) ∧ EF w0 fb b n (cs.setIfInBounds i (.bool (bt n at_))) w' :=
  (readBit_any n hn at_ ha i hi fb b cs h.s w h.f h.m).mono fun e w' ⟨h1, h2⟩ => by
    subst h2
    exact ⟨h1, h.f.other hne _, h.m.set _, h.t.setCell (.inl rfl) _, by rw [Array.size_setIfInBounds]; exact h.s⟩
theorem EF.num {w0 w : World} {fb b n : Nat} {cs : Array Value} (h : EF w0 fb b n cs w) (hn : n < 65536) (hne : fb ≠ b) (at_ i : Nat) (ha : at_ = 11 ∨ at_ = 0) (hi : i < 12) :
    Calls Try.prog 43 #[ptr fb, .int .i64 (at_ : Int), .pointer (some ⟨b, i, none⟩)] w fun e w' => (∃ v, e = .returned v) ∧ EF w0 fb b n (cs.setIfInBounds i (.int .i64 ((n / 2 ^ at_ % 16 : Nat) : Int))) w' :=
  (readNumber_any n hn at_ ha i hi fb b cs h.s w h.f h.m).mono fun e w' ⟨h1, h2⟩ => by
    subst h2
    exact ⟨h1, h.f.other hne _, h.m.set _, h.t.setCell (.inl rfl) _, by rw [Array.size_setIfInBounds]; exact h.s⟩
set_option maxRecDepth 100000 in
set_option maxHeartbeats 6400000 in
theorem eachRead_any (n : Nat) (hn : n < 65536) (id : Nat) (r a t d v : Bool) (op cd : Int) (q x y z : Sl) (fb b : Nat) (hne : fb ≠ b) (w : World) (hf : Ce w fb 72 #[.int .u16 (n : Int)]) (hm : Ce w b 26 (mc id r a t d v op cd q x y z)) :
    Calls Try.prog 41 #[ptr b, .func (.func 42) #[ptr fb] #[], .func (.func 43) #[ptr fb] #[]] w fun e w' => (∃ v, e = .returned v) ∧
      Ce w' b 26 (mc id (bt n 15) (bt n 10) (bt n 9) (bt n 8) (bt n 7) ((n / 2 ^ 11 % 16 : Nat) : Int) ((n / 2 ^ 0 % 16 : Nat) : Int) q x y z) ∧ Tr (· = b) w w' := by
  have HN := Lib.hid hn
  have HNE := Lib.hid hne
  have HE0 : Hid (EF w fb b n _ w) := Lib.hid ⟨hf, hm, Tr.refl _ _, rfl⟩
  clear hn hne hf hm
  go_enter Try.func41, Try.ntmps41
  go_wp2_with fail
  refine (HE0.out.bit HN.out HNE.out 15 1 (by decide) (by decide)).mono ?_
  rintro e w1 ⟨⟨v1, rfl⟩, he1⟩
  have HE1 := Lib.hid he1
  clear he1 HE0
  go_wp2_with fail
  refine (HE1.out.num HN.out HNE.out 11 6 (by decide) (by decide)).mono ?_
  rintro e w2 ⟨⟨v2, rfl⟩, he2⟩
  have HE2 := Lib.hid he2
  clear he2 HE1
  go_wp2_with fail
  refine (HE2.out.bit HN.out HNE.out 10 2 (by decide) (by decide)).mono ?_
  rintro e w3 ⟨⟨v3, rfl⟩, he3⟩
  have HE3 := Lib.hid he3
  clear he3 HE2
  go_wp2_with fail
  refine (HE3.out.bit HN.out HNE.out 9 3 (by decide) (by decide)).mono ?_
  rintro e w4 ⟨⟨v4, rfl⟩, he4⟩
  have HE4 := Lib.hid he4
  clear he4 HE3
  go_wp2_with fail
  refine (HE4.out.bit HN.out HNE.out 8 4 (by decide) (by decide)).mono ?_
  rintro e w5 ⟨⟨v5, rfl⟩, he5⟩
  have HE5 := Lib.hid he5
  clear he5 HE4
  go_wp2_with fail
  refine (HE5.out.bit HN.out HNE.out 7 5 (by decide) (by decide)).mono ?_
  rintro e w6 ⟨⟨v6, rfl⟩, he6⟩
  have HE6 := Lib.hid he6
  clear he6 HE5
  go_wp2_with fail
  refine (HE6.out.num HN.out HNE.out 0 7 (by decide) (by decide)).mono ?_
  rintro e w7 ⟨⟨v7, rfl⟩, he7⟩
  have HE7 := Lib.hid he7
  clear he7 HE6
  go_wp2
  go_end0
  exact ⟨⟨_, rfl⟩, HE7.out.m, HE7.out.t⟩
/-- The word that a header's bits are. -/
def flw (r a t d v : Bool) (op cd : Nat) : Nat := r.toNat * 32768 + op * 2048 + a.toNat * 1024 + t.toNat * 512 + d.toNat * 256 + v.toNat * 128 + cd
theorem or_sum {x k i : Nat} (hx : x % 2 ^ k = 0) (hi : i < 2 ^ k) : x ||| i = x + i := by
  have h := Nat.two_pow_add_eq_or_of_lt hi (x / 2 ^ k)
  rw [Nat.mul_div_cancel' (Nat.dvd_of_mod_eq_zero hx)] at h
  exact h.symm
def orIf (n k : Nat) (b : Bool) : Nat := if b then n ||| 2 ^ k else n
theorem orIf_add {n k : Nat} {b : Bool} (h : n % 2 ^ (k + 1) = 0) : orIf n k b = n + b.toNat * 2 ^ k := by
  cases b
  · simp [orIf]
  · simp only [orIf, if_true, Bool.toNat_true, Nat.one_mul]
    exact or_sum h (by rw [Nat.pow_succ]; have := Nat.two_pow_pos k; omega)
theorem orIf_lt {n k : Nat} {b : Bool} (h : n < 65536) (hk : k < 16) : orIf n k b < 65536 := by
  unfold orIf; split
  · exact Nat.or_lt_two_pow (n := 16) h (Nat.pow_lt_pow_right (by decide) hk)
  · exact h
/-- The word, as its bits come. -/
def flq (r a t d v : Bool) (op cd : Nat) : Nat := orIf (orIf (orIf (orIf (orIf 0 15 r ||| op * 2 ^ 11) 10 a) 9 t) 8 d) 7 v ||| cd * 2 ^ 0
theorem flq_eq (r a t d v : Bool) (op cd : Nat) (ho : op < 16) (hc : cd < 16) : flq r a t d v op cd = flw r a t d v op cd := by
  unfold flq flw
  have hb : ∀ b : Bool, b.toNat ≤ 1 := fun b => by cases b <;> simp
  have e1 : orIf 0 15 r = r.toNat * 32768 := by rw [orIf_add (by simp)]; simp
  rw [e1, or_sum (x := r.toNat * 32768) (i := op * 2 ^ 11) (k := 15) (by omega) (by omega)]
  rw [orIf_add (k := 10) (by omega), orIf_add (k := 9) (by omega), orIf_add (k := 8) (by omega), orIf_add (k := 7) (by omega), or_sum (k := 7) (by omega) (by omega)]
  omega
theorem flw_lt (r a t d v : Bool) (op cd : Nat) (ho : op < 16) (hc : cd < 16) : flw r a t d v op cd < 65536 := by
  have hb : ∀ b : Bool, b.toNat ≤ 1 := fun b => by cases b <;> simp
  unfold flw
  have := hb r; have := hb a; have := hb t; have := hb d; have := hb v
  omega
/-- What the walk over the fields knows as they are written. -/
structure EW (w0 : World) (fb b n : Nat) (cs : Array Value) (w : World) : Prop where
  f : Ce w fb 72 #[.int .u16 (n : Int)]
  m : Ce w b 26 cs
  t : Tr (· = fb) w0 w
  n : n < 65536
theorem EW.bit {w0 w : World} {fb b n : Nat} {cs : Array Value} (h : EW w0 fb b n cs w) (hne : fb ≠ b) (at_ i : Nat) (x : Bool) (ha : at_ = 15 ∨ at_ = 10 ∨ at_ = 9 ∨ at_ = 8 ∨ at_ = 7) (hi : cs[i]? = some (.bool x)) :
    Calls Try.prog 86 #[ptr fb, .int .i64 (at_ : Int), .pointer (some ⟨b, i, none⟩)] w fun e w' => (∃ v, e = .returned v) ∧ EW w0 fb b (orIf n at_ x) cs w' :=
  (writeBit_any n h.n at_ ha i x fb b w h.f ((h.m.cell i).trans hi)).mono fun e w' ⟨h1, h2, h3⟩ =>
    ⟨h1, h2, h.m.tr h3 hne.symm, h.t.then h3, orIf_lt h.n (by omega)⟩
theorem EW.num {w0 w : World} {fb b n : Nat} {cs : Array Value} (h : EW w0 fb b n cs w) (hne : fb ≠ b) (at_ i k : Nat) (ha : at_ = 11 ∨ at_ = 0) (hk : k < 16) (hi : cs[i]? = some (.int .i64 (k : Int))) :
    Calls Try.prog 87 #[ptr fb, .int .i64 (at_ : Int), .pointer (some ⟨b, i, none⟩)] w fun e w' => (∃ v, e = .returned v) ∧ EW w0 fb b (n ||| k * 2 ^ at_) cs w' :=
  (writeNumber_any n h.n at_ ha i k hk fb b w h.f ((h.m.cell i).trans hi)).mono fun e w' ⟨h1, h2, h3⟩ =>
    ⟨h1, h2, h.m.tr h3 hne.symm, h.t.then h3, Nat.or_lt_two_pow (n := 16) h.n (by rcases ha with rfl | rfl <;> omega)⟩
set_option maxRecDepth 100000 in
set_option maxHeartbeats 6400000 in
theorem eachWrite_any (id : Nat) (r a t d v : Bool) (op cd : Nat) (ho : op < 16) (hc : cd < 16) (q x y z : Sl) (fb b : Nat) (hne : fb ≠ b) (w : World) (hf : Ce w fb 72 #[.int .u16 0]) (hm : Ce w b 26 (mc id r a t d v (op : Int) (cd : Int) q x y z)) :
    Calls Try.prog 41 #[ptr b, .func (.func 86) #[ptr fb] #[], .func (.func 87) #[ptr fb] #[]] w fun e w' => (∃ v, e = .returned v) ∧
      Ce w' fb 72 #[.int .u16 (flw r a t d v op cd : Int)] ∧ Tr (· = fb) w w' := by
  have HNE := Lib.hid hne
  have HO := Lib.hid ho
  have HC := Lib.hid hc
  have HE0 : Hid (EW w fb b 0 _ w) := Lib.hid ⟨hf, hm, Tr.refl _ _, by decide⟩
  clear hne hf hm ho hc
  go_enter Try.func41, Try.ntmps41
  go_wp2_with fail
  refine (HE0.out.bit HNE.out 15 1 r (by decide) rfl).mono ?_
  rintro e w1 ⟨⟨v1, rfl⟩, he1⟩
  have HE1 := Lib.hid he1
  clear he1 HE0
  go_wp2_with fail
  refine (HE1.out.num HNE.out 11 6 op (by decide) HO.out rfl).mono ?_
  rintro e w2 ⟨⟨v2, rfl⟩, he2⟩
  have HE2 := Lib.hid he2
  clear he2 HE1
  go_wp2_with fail
  refine (HE2.out.bit HNE.out 10 2 a (by decide) rfl).mono ?_
  rintro e w3 ⟨⟨v3, rfl⟩, he3⟩
  have HE3 := Lib.hid he3
  clear he3 HE2
  go_wp2_with fail
  refine (HE3.out.bit HNE.out 9 3 t (by decide) rfl).mono ?_
  rintro e w4 ⟨⟨v4, rfl⟩, he4⟩
  have HE4 := Lib.hid he4
  clear he4 HE3
  go_wp2_with fail
  refine (HE4.out.bit HNE.out 8 4 d (by decide) rfl).mono ?_
  rintro e w5 ⟨⟨v5, rfl⟩, he5⟩
  have HE5 := Lib.hid he5
  clear he5 HE4
  go_wp2_with fail
  refine (HE5.out.bit HNE.out 7 5 v (by decide) rfl).mono ?_
  rintro e w6 ⟨⟨v6, rfl⟩, he6⟩
  have HE6 := Lib.hid he6
  clear he6 HE5
  go_wp2_with fail
  refine (HE6.out.num HNE.out 0 7 cd (by decide) HC.out rfl).mono ?_
  rintro e w7 ⟨⟨v7, rfl⟩, he7⟩
  have HE7 := Lib.hid he7
  clear he7 HE6
  go_wp2
  go_end0
  refine ⟨⟨_, rfl⟩, ?_, HE7.out.t⟩
  rw [← flq_eq r a t d v op cd HO.out HC.out]
  exact HE7.out.f
end Go.Proofs.Ytljfkjbagebncaa

/- WrH -/
namespace Go.Proofs.Ytljfkjbagebncaa
open Go.RowKit
/-- The words of so many lists' lengths. -/
def wl (x y z : Sl) : Nat → Bs
  | 0 => []
  | k + 1 => wl x y z k ++ word (sel x y z k).n
def hdB (id f n : Nat) (x y z : Sl) : Bs := word id ++ word f ++ word n ++ wl x y z 3
theorem wl_length (x y z : Sl) (k : Nat) : (wl x y z k).length = 2 * k := by
  induction k with
  | zero => rfl
  | succ k ih => simp only [wl, List.length_append, word_length, ih]; omega
set_option maxRecDepth 100000 in
set_option maxHeartbeats 12800000 in
theorem putHead_any (id : Nat) (hid : id < 65536) (r a t d v : Bool) (op cd : Nat) (ho : op < 16) (hcd : cd < 16) (q x y z : Sl) (hq : q.n ≤ 65535) (hx : x.n ≤ 65535) (hy : y.n ≤ 65535) (hz : z.n ≤ 65535)
    (S : Nat → Prop) (b : Nat) (B : Bs) (L : Kn) (w : World) (h : PK S b B L w) (hB : B.length ≤ 900000) :
    Calls Try.prog 59 #[ptr b, .agg (mc id r a t d v (op : Int) (cd : Int) q x y z)] w fun e w' => (∃ v, e = .returned v) ∧ Lft S b (B ++ hdB id (flw r a t d v op cd) q.n x y z) L w w' := by
  obtain ⟨k0, k1, kb⟩ := two_boxes w 26 72 (mc id r a t d v (op : Int) (cd : Int) q x y z) #[.int .u16 0]
  have C := eachWrite_any id r a t d v op cd ho hcd q x y z (w.heap.size + 1) w.heap.size (by omega) _ k1 k0
  have hfl := flw_lt r a t d v op cd ho hcd
  have HFIN : Hid (∀ w3 w' X, Below w.heap.size w w3 → Lft (fun k => S k ∧ k < w.heap.size) b X L w3 w' → Lft S b X L w w') := Lib.hid fun w3 w' X hb hl =>
    Lft.pre hb ⟨hl.1.mono fun k hk => by rcases hk with hk | hk; exact .inl hk.1; exact .inr hk, hl.2.mono fun k hk => hk.1⟩
  have HX : Hid (∀ k, (sel x y z k).n ≤ 65535) := Lib.hid fun k => by unfold sel; split; exact hx; split; exact hy; exact hz
  have HPL := Lib.hid h.lt
  have HO := Lib.hid (fun w => of_any id r a t d v (op : Int) (cd : Int) q x y z w)
  obtain ⟨f, hf⟩ : ∃ f, f = flw r a t d v op cd := ⟨_, rfl⟩
  rw [← hf] at C hfl ⊢
  have HK0 := Lib.hid k0
  have HKB := Lib.hid kb
  have HC := Lib.hid C
  have HQN : Hid (q.n < 65536) := Lib.hid (by omega)
  have hqi : (q.n : Int) ≤ 65535 := by omega
  clear k0 k1 kb C h ho hcd hx hy hz hf hq
  go_enter Try.func59, Try.ntmps59
  go_wp2_with fail
  refine HC.out.mono ?_
  rintro e w3 ⟨⟨v3, rfl⟩, f3, t3⟩
  have hb3 : Below w.heap.size w w3 := HKB.out.trans (t3.below HKB.out.size (fun k hk => by rw [hk]; omega))
  have m3 := HK0.out.tr t3 (by omega)
  have Q3 : QP (fun k => S k ∧ k < w.heap.size) w3 b [(w.heap.size, .cells (mc id r a t d v (op : Int) (cd : Int) q x y z) 26), (w.heap.size + 1, .cells #[.int .u16 (f : Int)] 72)] B L w3 :=
    QP.start (HPL.out.below hb3) (fun p hp => by
      rcases List.mem_cons.1 hp with rfl | hp
      · exact ⟨fun hs => by have := hs.2; simp only at this; omega, m3⟩
      · rcases List.mem_cons.1 hp with rfl | hp
        · exact ⟨fun hs => by have := hs.2; simp only at this; omega, f3⟩
        · cases hp)
  have HB3 := Lib.hid hb3
  clear f3 t3 hb3 m3
  have x0 := (Q3.ce (g := w.heap.size) (T := 26) (cs := mc id r a t d v (op : Int) (cd : Int) q x y z) (by simp)).cell 0
  simp at x0
  have H3 := Lib.hid Q3
  clear Q3
  go_wp2_with fail
  refine (QP.call H3.out (fun S' hS => pword_any id hid S' b _ _ _ hS (by omega))).mono ?_
  rintro e w4 ⟨⟨v4, rfl⟩, Q4⟩
  clear x0 H3
  have y0 := (Q4.ce (g := w.heap.size + 1) (T := 72) (cs := #[.int .u16 (f : Int)]) (by simp)).cell 0
  simp at y0
  have H4 := Lib.hid Q4
  clear Q4
  go_wp2_with fail
  refine (QP.call H4.out (fun S' hS => pword_any f hfl S' b _ _ _ hS (by simp only [List.length_append, word_length]; omega))).mono ?_
  rintro e w5 ⟨⟨v5, rfl⟩, Q5⟩
  clear y0 H4
  have x8 := (Q5.ce (g := w.heap.size) (T := 26) (cs := mc id r a t d v (op : Int) (cd : Int) q x y z) (by simp)).cell 8
  simp at x8
  have H5 := Lib.hid Q5
  clear Q5
  go_wp2_with fail
  refine (QP.call H5.out (fun S' hS => pword_any q.n HQN.out S' b _ _ _ hS (by simp only [List.length_append, word_length]; omega))).mono ?_
  rintro e w6 ⟨⟨v6, rfl⟩, Q6⟩
  clear x8 H5
  have HM6 := Lib.hid (Q6.ce (g := w.heap.size) (T := 26) (cs := mc id r a t d v (op : Int) (cd : Int) q x y z) (by simp))
  have H6 := Lib.hid Q6
  clear Q6
  go_wp2_with (first | (refine ld12 (.tmp 3) HM6.out rfl rfl rfl rfl ?_))
  refine (HO.out _).mono ?_
  rintro e w7 ⟨rfl, hb7⟩
  have H7 := Lib.hid (H6.out.under hb7)
  clear hb7
  generalize hB6 : B ++ word id ++ word f ++ word q.n = B6 at H7
  have hl6 : B6.length ≤ 900006 := by rw [← hB6]; simp only [List.length_append, word_length]; omega
  have HB6 := Lib.hid hB6
  clear hB6 H6 HM6 hB
  go_wp2
  go_loopw [25] (fun i wr => ∃ k : Nat, k ≤ 3 ∧ i = .int .i64 k ∧ QP (fun k => S k ∧ k < w.heap.size) w3 b [(w.heap.size, .cells (mc id r a t d v (op : Int) (cd : Int) q x y z) 26), (w.heap.size + 1, .cells #[.int .u16 (f : Int)] 72)] (B6 ++ wl x y z k) L wr) (fun i _ => 3 - (intOf i).toNat)
  case atStart => exact ⟨0, by omega, rfl, by rw [show wl x y z 0 = [] from rfl, List.append_nil]; exact H7.out⟩
  case round =>
    clear H7
    obtain ⟨k, hk, rfl, hq⟩ := hrel
    by_cases hlt : k < 3
    · have q1 : (k : Int) < 3 := by omega
      have hix := fun w => idx3 x y z k hlt w
      have hsn := HX.out k
      have hw : wl x y z (k + 1) = wl x y z k ++ word (sel x y z k).n := rfl
      have hwl := wl_length x y z k
      have HW := Lib.hid hw
      generalize sel x y z k = s at hix hsn HW
      have HSN : Hid (s.n < 65536) := Lib.hid (by omega)
      have hsi : (s.n : Int) ≤ 65535 := by omega
      have HQ := Lib.hid hq
      clear hq hw hsn
      go_wp2_with fail
      refine (QP.call HQ.out (fun S' hS => pword_any s.n HSN.out S' b _ _ _ hS (by simp only [List.length_append, hwl]; omega))).mono ?_
      rintro e w8 ⟨⟨v8, rfl⟩, Q8⟩
      rw [List.append_assoc, ← HW.out] at Q8
      have H8 := Lib.hid Q8
      clear Q8
      go_wp2
      go_roundw
      case rel => exact ⟨k + 1, by omega, by go_num, H8.out⟩
      case measure => simp [intOf]; omega
    · obtain rfl : k = 3 := by omega
      have HE : Hid (B6 ++ wl x y z 3 = B ++ hdB id f q.n x y z) := Lib.hid (by rw [← HB6.out]; simp [hdB])
      rw [HE.out] at hq
      have HQ := Lib.hid hq
      clear hq
      go_wp2
      go_end0
      exact ⟨⟨_, rfl⟩, HFIN.out _ _ _ HB3.out HQ.out.left⟩
end Go.Proofs.Ytljfkjbagebncaa

/-
  Connections: what was written, what came, and what is under way between.
-/
import Derived.Test.YtocmgdhhlofajaaDgMath
namespace Go.Proofs.Ytocmgdhhlofajaa
/-- The texts of items, one behind another. -/
def cat : List It → ByteArray
  | [] => ByteArray.empty
  | x :: xs => x.body ++ cat xs
theorem cat_snoc (x : It) : ∀ L : List It, cat (L ++ [x]) = cat L ++ x.body
  | [] => by simp [cat]
  | y :: L => by
    show y.body ++ cat (L ++ [x]) = y.body ++ cat L ++ x.body
    rw [cat_snoc x L, ByteArray.append_assoc]
/-- An item on a connection to an end. -/
def onQ (c d : Int) (y : It) : Bool := !isD y && y.conn == c && y.dst == d
/-- What is under way on a connection to an end. -/
def qOf (s : St) (c d : Int) : List It := s.its.filter (onQ c d)
theorem cho_mem {α : Type} {p : List α → α → Bool} {x : α} : ∀ {pre L : List α}, x ∈ cho p pre L → ∃ a b, L = a ++ x :: b ∧ p (pre ++ a) x = true
  | _, [], h => by simp [cho] at h
  | pre, y :: L, h => by
    unfold cho at h
    split at h
    · rename_i hp
      rcases List.mem_cons.1 h with rfl | h
      · exact ⟨[], L, rfl, by simpa using hp⟩
      · obtain ⟨a, b, rfl, h2⟩ := cho_mem h
        exact ⟨y :: a, b, rfl, by simpa using h2⟩
    · obtain ⟨a, b, rfl, h2⟩ := cho_mem h
      exact ⟨y :: a, b, rfl, by simpa using h2⟩
theorem take_split {s : St} (hg : Good s) {a b : List It} {x : It} (h : s.its = a ++ x :: b) : (takeS s (some x)).its = a ++ b := by
  show s.its.filter (fun y => !(y.num == x.num)) = a ++ b
  have hn := hg.nums
  rw [h] at hn ⊢
  obtain ⟨h1, h2, h3⟩ := List.pairwise_append.1 hn
  obtain ⟨h4, h5⟩ := List.pairwise_cons.1 h2
  rw [List.filter_append, List.filter_cons, if_neg (by simp)]
  congr 1
  · rw [List.filter_eq_self]
    intro y hy
    have := h3 y hy x (by simp)
    have : y.num ≠ x.num := by omega
    simp [this]
  · rw [List.filter_eq_self]
    intro y hy
    have := h4 y hy
    have : y.num ≠ x.num := by omega
    simp [this]
theorem qOf_first {s : St} (hg : Good s) {x : It} (h : x ∈ ready s) (hd : isD x = false) : qOf s x.conn x.dst = x :: qOf (takeS s (some x)) x.conn x.dst := by
  obtain ⟨a, b, e, hf⟩ := cho_mem h
  unfold qOf
  rw [take_split hg e, e, List.filter_append, List.filter_append, List.filter_cons, if_pos (by simp [onQ, hd])]
  have : a.filter (onQ x.conn x.dst) = [] := by
    rw [List.filter_eq_nil_iff]
    intro y hy hb
    have hf : a.any (bars x) = false := by simpa [free] using hf
    rw [List.any_eq_false] at hf
    refine hf y hy ?_
    simpa [bars, onQ, hd] using hb
  rw [this]
  rfl
theorem qOf_other {s : St} (hg : Good s) {x : It} (h : x ∈ ready s) {c d : Int} (hd : onQ c d x = false) : qOf (takeS s (some x)) c d = qOf s c d := by
  obtain ⟨a, b, e, _⟩ := cho_mem h
  unfold qOf
  rw [take_split hg e, e, List.filter_append, List.filter_append, List.filter_cons, if_neg (by simp [hd])]
theorem qOf_add (s : St) (y : It) (c d : Int) : qOf (add s y) c d = qOf s c d ++ if onQ c d y then [y.no (s.puts + 1)] else [] := by
  show (s.its ++ [y.no (s.puts + 1)]).filter (onQ c d) = _
  rw [List.filter_append]
  have e : onQ c d (y.no (s.puts + 1)) = onQ c d y := rfl
  rw [List.filter_cons, e]
  rfl
/-- How an end of a connection stands. -/
inductive End (o : Option Lk) (q : List It) (w m : ByteArray) : Bool → Prop
  | live : o.isSome = true → w = m ++ cat q → (∀ x ∈ q, x.kind ≠ 4) → End o q w m false
  | shut (x : It) : o = none → q = [x] → x.kind = 4 → x.body = ByteArray.empty → (∃ r, w = m ++ r) → End o q w m false
  | over : o = none → q = [] → (∃ r, w = m ++ r) → End o q w m true
/-- The network beside what was written, what came, and who is at the ends. -/
structure SI (s : St) (W M : Nat → ByteArray) (O : Nat → Bool) (E : Nat → Int) : Prop where
  g : Good s
  o4 : s.opens ≤ 4
  links : ∀ c : Nat, ∀ l, findL s.lks (c : Int) = some l → l.a = E (c * 2) ∧ l.b = E (c * 2 + 1)
  neq : ∀ c, 1 ≤ c → c ≤ s.opens → E (c * 2) ≠ E (c * 2 + 1)
  new : ∀ c, s.opens < c → ∀ e, e < 2 → W (c * 2 + e) = ByteArray.empty ∧ M (c * 2 + e) = ByteArray.empty ∧ O (c * 2 + e) = false ∧ E (c * 2 + e) = 0
  ways : ∀ x ∈ s.its, isD x = false → ∃ c e : Nat, 1 ≤ c ∧ c ≤ s.opens ∧ e < 2 ∧ x.conn = (c : Int) ∧ x.dst = E (c * 2 + e)
  ends : ∀ c, 1 ≤ c → c ≤ s.opens → ∀ e, e < 2 → End (findL s.lks (c : Int)) (qOf s (c : Int) (E (c * 2 + e))) (W (c * 2 + e)) (M (c * 2 + e)) (O (c * 2 + e))
section
variable {s s1 : St} {W M : Nat → ByteArray} {O : Nat → Bool} {E : Nat → Int}
theorem si_zero : SI St.empty (fun _ => ByteArray.empty) (fun _ => ByteArray.empty) (fun _ => false) (fun _ => 0) :=
  ⟨good_empty, by simp [St.empty], fun c l h => by simp [St.empty, findL] at h, fun c h1 h2 => by simp [St.empty] at h2; omega, fun c _ e _ => ⟨rfl, rfl, rfl, rfl⟩, fun x hx => absurd hx (by simp [St.empty]), fun c h1 h2 => by simp [St.empty] at h2; omega⟩
/-- Nothing on connections has changed. -/
theorem SI.same (h : SI s W M O E) (hg : Good s1) (hl : s1.lks = s.lks) (ho : s1.opens = s.opens) (hq : ∀ c d, qOf s1 c d = qOf s c d) (hw : ∀ x ∈ s1.its, isD x = false → ∃ y ∈ s.its, isD y = false ∧ y.conn = x.conn ∧ y.dst = x.dst) : SI s1 W M O E := by
  refine ⟨hg, by rw [ho]; exact h.o4, by rw [hl]; exact h.links, by rw [ho]; exact h.neq, by rw [ho]; exact h.new, ?_, ?_⟩
  · intro x hx hd
    obtain ⟨y, hy, hyd, e1, e2⟩ := hw x hx hd
    rw [ho, ← e1, ← e2]
    exact h.ways y hy hyd
  · intro c h1 h2 e he
    rw [hl, hq]
    rw [ho] at h2
    exact h.ends c h1 h2 e he
theorem SI.dgram (h : SI s W M O E) {y : It} (hd : isD y = true) (hg : Good (add s y)) : SI (add s y) W M O E := by
  refine h.same hg rfl rfl (fun c d => ?_) (fun x hx hxd => ?_)
  · rw [qOf_add, if_neg (by simp [onQ, hd]), List.append_nil]
  · rcases List.mem_append.1 hx with hx | hx
    · exact ⟨x, hx, hxd, rfl, rfl⟩
    · obtain rfl := List.mem_singleton.1 hx
      have : isD y = false := hxd
      rw [hd] at this
      cases this
theorem SI.send (h : SI s W M O E) (f t : Int) (b : ByteArray) (ht : I64 t) : SI (sendS s f t b) W M O E := by
  have hg := good_send h.g (f := f) (b := b) ht
  unfold sendS at hg ⊢
  split
  · exact h
  · rename_i hf
    rw [if_neg hf] at hg
    exact h.dgram (y := sendI f t b) rfl hg
theorem SI.dbl (h : SI s W M O E) (p : Int) : SI (dblS s p) W M O E := by
  have hg := good_dbl h.g (p := p)
  unfold dblS at hg ⊢
  split
  · exact h
  · rename_i x hx
    rw [hx] at hg
    have hk := (dgs_mem (pick_mem hx)).2
    split
    · exact h
    · rename_i hf
      simp only [hf, if_false, Bool.false_eq_true] at hg
      exact h.dgram (by simp [isD, hk]) hg
theorem SI.tookD (h : SI s W M O E) {x : It} (hx : x ∈ ready s) (hd : isD x = true) : SI (takeS s (some x)) W M O E :=
  h.same (good_take h.g) rfl rfl (fun c d => qOf_other h.g hx (by simp [onQ, hd])) (fun y hy hyd => ⟨y, (List.mem_filter.1 hy).1, hyd, rfl, rfl⟩)
theorem upd_ne {α : Type} (f : Nat → α) (q : Nat) (v : α) {i : Nat} (h : i ≠ q) : (fun i => if i = q then v else f i) i = f i := if_neg h
/-- One place has another thing. -/
def put {α : Type} (f : Nat → α) (q : Nat) (v : α) : Nat → α := fun i => if i = q then v else f i
theorem put_same {α : Type} (f : Nat → α) (q : Nat) (v : α) : put f q v q = v := if_pos rfl
theorem put_ne {α : Type} (f : Nat → α) {q i : Nat} (v : α) (h : i ≠ q) : put f q v i = f i := if_neg h
theorem findL_none {s : St} (hg : Good s) {c : Int} (h : (s.opens : Int) < c) : findL s.lks c = none := by
  cases hf : findL s.lks c with
  | none => rfl
  | some l =>
    obtain ⟨hm, hc⟩ := findL_mem hf
    have := (hg.lopen l hm).2
    omega
theorem qOf_none {s : St} (hg : Good s) {c d : Int} (h : (s.opens : Int) < c) : qOf s c d = [] := by
  unfold qOf
  rw [List.filter_eq_nil_iff]
  intro x hx hb
  have := (hg.way x hx).2.2
  have : x.conn = c := by
    have : (isD x = false ∧ x.conn = c) ∧ x.dst = d := by simpa [onQ] using hb
    exact this.1.2
  omega
theorem SI.taken (h : SI s W M O E) {x : It} (hx : x ∈ ready s) (hd : isD x = false) :
    ∃ c e : Nat, 1 ≤ c ∧ c ≤ 4 ∧ e < 2 ∧ x.conn = (c : Int) ∧ x.dst = E (c * 2 + e) ∧ E (c * 2) ≠ E (c * 2 + 1) ∧ O (c * 2 + e) = false ∧ (∃ r, W (c * 2 + e) = M (c * 2 + e) ++ x.body ++ r) ∧
      SI (takeS s (some x)) W (put M (c * 2 + e) (M (c * 2 + e) ++ x.body)) (put O (c * 2 + e) (x.kind == 4)) E := by
  obtain ⟨c, e, h1, h2, he, hc, hdst⟩ := h.ways x (ready_mem hx) hd
  have hq := qOf_first h.g hx hd
  rw [hc, hdst] at hq
  have hen := h.ends c h1 h2 e he
  have key : O (c * 2 + e) = false ∧ (∃ r, W (c * 2 + e) = M (c * 2 + e) ++ x.body ++ r) ∧ End (findL s.lks (c : Int)) (qOf (takeS s (some x)) (c : Int) (E (c * 2 + e))) (W (c * 2 + e)) (M (c * 2 + e) ++ x.body) (x.kind == 4) := by
    rw [hq] at hen
    generalize O (c * 2 + e) = o at hen ⊢
    cases hen with
    | live a b d =>
      refine ⟨rfl, ⟨cat (qOf (takeS s (some x)) (c : Int) (E (c * 2 + e))), by rw [b, ByteArray.append_assoc]; rfl⟩, ?_⟩
      have hk : (x.kind == 4) = false := by simpa using d x (by simp)
      rw [hk]
      exact .live a (by rw [b, ByteArray.append_assoc]; rfl) (fun y hy => d y (by simp [hy]))
    | shut y a b d f g =>
      obtain ⟨r, g⟩ := g
      obtain ⟨rfl, hn⟩ : x = y ∧ qOf (takeS s (some x)) (c : Int) (E (c * 2 + e)) = [] := by simpa using b
      have hk : (x.kind == 4) = true := by simpa using d
      refine ⟨rfl, ⟨r, by rw [f, ByteArray.append_empty, g]⟩, ?_⟩
      rw [hk]
      exact .over a hn ⟨r, by rw [f, ByteArray.append_empty, g]⟩
    | over a b _ => cases b
  have hds : ∀ {k i : Nat}, i < 2 → ¬ (k = c ∧ i = e) → k * 2 + i ≠ c * 2 + e := fun h1 h2 h3 => h2 (by omega)
  refine ⟨c, e, h1, by have := h.o4; omega, he, hc, hdst, h.neq c h1 h2, key.1, key.2.1, good_take h.g, h.o4, h.links, h.neq, ?_, ?_, ?_⟩
  · intro k hk i hi
    have hk : s.opens < k := hk
    have hne := hds (k := k) hi (by omega)
    rw [put_ne _ _ hne, put_ne _ _ hne]
    exact h.new k hk i hi
  · intro y hy hyd
    exact h.ways y (List.mem_filter.1 hy).1 hyd
  · intro k hk1 hk2 i hi
    have hk2 : k ≤ s.opens := hk2
    by_cases hke : k = c ∧ i = e
    · obtain ⟨rfl, rfl⟩ := hke
      rw [put_same, put_same]
      exact key.2.2
    · have hne := hds (k := k) hi hke
      rw [put_ne _ _ hne, put_ne _ _ hne]
      have : qOf (takeS s (some x)) (k : Int) (E (k * 2 + i)) = qOf s (k : Int) (E (k * 2 + i)) := by
        refine qOf_other h.g hx ?_
        have hnn : ¬ (x.conn = (k : Int) ∧ x.dst = E (k * 2 + i)) := by
          rintro ⟨g1, g2⟩
          have hkc : k = c := by omega
          subst hkc
          rw [hdst] at g2
          have hn := h.neq k hk1 hk2
          rcases (by omega : (e = 0 ∧ i = 1) ∨ (e = 1 ∧ i = 0)) with ⟨rfl, rfl⟩ | ⟨rfl, rfl⟩
          · exact hn g2
          · exact hn g2.symm
        simp only [onQ, Bool.and_eq_false_iff, beq_eq_false_iff_ne, ne_eq]
        rcases Decidable.em (x.conn = (k : Int)) with g | g
        · exact .inr fun g2 => hnn ⟨g, g2⟩
        · exact .inl (.inr g)
      rw [this]
      exact h.ends k hk1 hk2 i hi
theorem SI.open (h : SI s W M O E) (a b : Int) (ha : I64 a) (hb : I64 b) (hn : noOpen s a b = false) (h3 : s.opens ≤ 3) :
    SI (openS s a b) W M O (put (put E ((s.opens + 1) * 2) a) ((s.opens + 1) * 2 + 1) b) := by
  have hg := good_open h.g ha hb
  have hab : a ≠ b := by
    intro e
    simp [noOpen, e] at hn
  have e1 : openS s a b = add ⟨s.its, s.lks ++ [⟨((s.opens + 1 : Nat) : Int), a, b⟩], s.puts, s.opens + 1⟩ ⟨0, 2, a, b, ((s.opens + 1 : Nat) : Int), ⟨#[]⟩⟩ := by unfold openS; rw [hn]; rfl
  rw [e1] at hg ⊢
  have hE : ∀ {k i : Nat}, k ≤ s.opens → i < 2 → put (put E ((s.opens + 1) * 2) a) ((s.opens + 1) * 2 + 1) b (k * 2 + i) = E (k * 2 + i) := fun h1 h2 => by
    rw [put_ne _ _ (by omega), put_ne _ _ (by omega)]
  have hE0 : put (put E ((s.opens + 1) * 2) a) ((s.opens + 1) * 2 + 1) b ((s.opens + 1) * 2) = a := by rw [put_ne _ _ (by omega), put_same]
  have hE1 : put (put E ((s.opens + 1) * 2) a) ((s.opens + 1) * 2 + 1) b ((s.opens + 1) * 2 + 1) = b := by rw [put_same]
  have hfd : ∀ {k : Nat}, k ≤ s.opens → findL (s.lks ++ [⟨((s.opens + 1 : Nat) : Int), a, b⟩]) (k : Int) = findL s.lks (k : Int) := fun {k} hk => by
    unfold findL
    rw [List.find?_append]
    have hne : (((s.opens + 1 : Nat) : Int) == (k : Int)) = false := beq_eq_false_iff_ne.2 (by omega)
    have : List.find? (fun l : Lk => l.num == (k : Int)) [⟨((s.opens + 1 : Nat) : Int), a, b⟩] = none := by rw [List.find?_cons, hne]; rfl
    rw [this, Option.or_none]
  have hfn : findL (s.lks ++ [⟨((s.opens + 1 : Nat) : Int), a, b⟩]) ((s.opens + 1 : Nat) : Int) = some ⟨((s.opens + 1 : Nat) : Int), a, b⟩ := by
    have h0 := findL_none h.g (c := ((s.opens + 1 : Nat) : Int)) (by omega)
    unfold findL at h0 ⊢
    rw [List.find?_append, h0]
    simp
  refine ⟨hg, by show s.opens + 1 ≤ 4; omega, ?_, ?_, ?_, ?_, ?_⟩
  · intro c l hl
    have hl : findL (s.lks ++ [⟨((s.opens + 1 : Nat) : Int), a, b⟩]) (c : Int) = some l := hl
    rcases (by omega : c ≤ s.opens ∨ c = s.opens + 1 ∨ s.opens + 1 < c) with hc | rfl | hc
    · rw [hfd hc] at hl
      have := h.links c l hl
      rw [hE hc (i := 1) (by omega), show put (put E ((s.opens + 1) * 2) a) ((s.opens + 1) * 2 + 1) b (c * 2) = E (c * 2) from hE hc (i := 0) (by omega)]
      exact this
    · rw [hfn] at hl
      cases hl
      rw [hE0, hE1]
      exact ⟨rfl, rfl⟩
    · have := findL_none hg (c := (c : Int)) (by show ((s.opens + 1 : Nat) : Int) < _; omega)
      have : findL (s.lks ++ [⟨((s.opens + 1 : Nat) : Int), a, b⟩]) (c : Int) = none := this
      rw [this] at hl
      cases hl
  · intro c h1 h2
    have h2 : c ≤ s.opens + 1 := h2
    rcases (by omega : c ≤ s.opens ∨ c = s.opens + 1) with hc | rfl
    · rw [hE hc (i := 1) (by omega), show put (put E ((s.opens + 1) * 2) a) ((s.opens + 1) * 2 + 1) b (c * 2) = E (c * 2) from hE hc (i := 0) (by omega)]
      exact h.neq c h1 hc
    · rw [hE0, hE1]
      exact hab
  · intro c hc e he
    have hc : s.opens + 1 < c := hc
    rw [put_ne _ _ (by omega), put_ne _ _ (by omega)]
    exact h.new c (by omega) e he
  · intro x hx hd
    show ∃ c e : Nat, 1 ≤ c ∧ c ≤ s.opens + 1 ∧ _
    rcases List.mem_append.1 hx with hx | hx
    · obtain ⟨c, e, h1, h2, h3, h4, h5⟩ := h.ways x hx hd
      exact ⟨c, e, h1, by omega, h3, h4, by rw [hE h2 h3]; exact h5⟩
    · obtain rfl := List.mem_singleton.1 hx
      exact ⟨s.opens + 1, 1, by omega, by omega, by omega, rfl, by rw [hE1]; rfl⟩
  · intro c h1 h2 e he
    have h2 : c ≤ s.opens + 1 := h2
    rw [qOf_add]
    rcases (by omega : c ≤ s.opens ∨ c = s.opens + 1) with hc | rfl
    · rw [hE hc he, if_neg, List.append_nil]
      · show End (findL (s.lks ++ [⟨((s.opens + 1 : Nat) : Int), a, b⟩]) (c : Int)) _ _ _ _
        rw [hfd hc]
        exact h.ends c h1 hc e he
      · simp only [onQ, Bool.and_eq_true, beq_iff_eq]
        rintro ⟨⟨_, g⟩, _⟩
        omega
    · show End (findL (s.lks ++ [⟨((s.opens + 1 : Nat) : Int), a, b⟩]) ((s.opens + 1 : Nat) : Int)) _ _ _ _
      rw [hfn]
      obtain ⟨n1, n2, n3, _⟩ := h.new (s.opens + 1) (by omega) e he
      rw [n1, n2, n3]
      have hq0 : ∀ d, qOf ⟨s.its, s.lks ++ [⟨((s.opens + 1 : Nat) : Int), a, b⟩], s.puts, s.opens + 1⟩ ((s.opens + 1 : Nat) : Int) d = [] := fun d => qOf_none h.g (c := ((s.opens + 1 : Nat) : Int)) (d := d) (by omega)
      rw [hq0, List.nil_append]
      refine .live rfl ?_ ?_
      · split
        · rw [cat, cat, ByteArray.append_empty, ByteArray.empty_append]; rfl
        · rw [cat, ByteArray.append_empty]
      · intro x hx
        split at hx
        · obtain rfl := List.mem_singleton.1 hx
          show (2 : Int) ≠ 4
          decide
        · cases hx
theorem write_not {c f : Int} {b : ByteArray} (h : writeB s c f = false) : writeS s c f b = s := by
  unfold writeB at h
  unfold writeS
  cases hp : peerS s c f with
  | none => rfl
  | some t =>
    rw [hp] at h
    have hf : full s = true := by simpa using h
    simp [hf]
theorem SI.write (h : SI s W M O E) (c e : Nat) (h1 : 1 ≤ c) (he : e < 2) (b : ByteArray) (hw : writeB s (c : Int) (E (c * 2 + e)) = true) :
    SI (writeS s (c : Int) (E (c * 2 + e)) b) (put W (c * 2 + (1 - e)) (W (c * 2 + (1 - e)) ++ b)) M O E ∧ E (c * 2) ≠ E (c * 2 + 1) := by
  have hg := good_write h.g (c := (c : Int)) (f := E (c * 2 + e)) (b := b)
  unfold writeB at hw
  obtain ⟨hp, hf⟩ := Bool.and_eq_true_iff.1 hw
  obtain ⟨t, ht⟩ := Option.isSome_iff_exists.1 hp
  have hf : full s = false := by simpa using hf
  have ht0 := ht
  unfold peerS at ht
  obtain ⟨l, hl, ho⟩ := Option.bind_eq_some_iff.1 ht
  obtain ⟨la, lb⟩ := h.links c l hl
  have hco : c ≤ s.opens := by
    have := (h.g.lopen l (findL_mem hl).1).2
    have := (findL_mem hl).2
    omega
  have hne := h.neq c h1 hco
  have hte : t = E (c * 2 + (1 - e)) := by
    unfold otherL at ho
    rw [la, lb] at ho
    rcases (by omega : e = 0 ∨ e = 1) with rfl | rfl
    · rw [show c * 2 + 0 = c * 2 from rfl, if_pos rfl] at ho
      exact (Option.some.inj ho).symm
    · rw [if_neg hne, if_pos rfl] at ho
      exact (Option.some.inj ho).symm
  have e1 : writeS s (c : Int) (E (c * 2 + e)) b = add s (writeI (c : Int) (E (c * 2 + e)) t b) := by unfold writeS; rw [ht0]; simp [hf]
  rw [e1] at hg ⊢
  refine ⟨⟨hg, h.o4, h.links, h.neq, ?_, ?_, ?_⟩, hne⟩
  · intro k hk i hi
    have hk : s.opens < k := hk
    rw [put_ne _ _ (by omega)]
    exact h.new k hk i hi
  · intro x hx hd
    rcases List.mem_append.1 hx with hx | hx
    · exact h.ways x hx hd
    · obtain rfl := List.mem_singleton.1 hx
      exact ⟨c, 1 - e, h1, hco, by omega, rfl, hte⟩
  · intro k hk1 hk2 i hi
    have hk2 : k ≤ s.opens := hk2
    rw [qOf_add]
    by_cases hke : k = c ∧ i = 1 - e
    · obtain ⟨rfl, rfl⟩ := hke
      rw [put_same, if_pos (by simp [onQ, isD, writeI, hte])]
      have hen := h.ends k hk1 hk2 (1 - e) hi
      generalize O (k * 2 + (1 - e)) = o at hen ⊢
      have hl' : findL (add s (writeI (k : Int) (E (k * 2 + e)) t b)).lks (k : Int) = some l := hl
      rw [hl']
      cases hen with
      | live g1 g2 g3 =>
        refine .live rfl ?_ ?_
        · rw [cat_snoc, ← ByteArray.append_assoc, ← g2]
          rfl
        · intro x hx
          rcases List.mem_append.1 hx with hx | hx
          · exact g3 x hx
          · obtain rfl := List.mem_singleton.1 hx
            show (3 : Int) ≠ 4
            decide
      | shut y g1 _ _ _ _ => rw [hl] at g1; cases g1
      | over g1 _ _ => rw [hl] at g1; cases g1
    · rw [put_ne _ _ (by omega), if_neg, List.append_nil]
      · exact h.ends k hk1 hk2 i hi
      · simp only [onQ, Bool.and_eq_true, beq_iff_eq]
        rintro ⟨⟨_, g1⟩, g2⟩
        have g1 : (c : Int) = (k : Int) := g1
        have g2 : t = E (k * 2 + i) := g2
        have hkc : k = c := by omega
        subst hkc
        rw [hte] at g2
        rcases (by omega : (1 - e = 0 ∧ i = 1) ∨ (1 - e = 1 ∧ i = 0)) with ⟨g3, rfl⟩ | ⟨g3, rfl⟩
        · rw [g3] at g2; exact hne g2
        · rw [g3] at g2; exact hne g2.symm
theorem SI.close (h : SI s W M O E) (c : Nat) : SI (closeS s (c : Int)) W M O E := by
  have hg := good_close h.g (c := (c : Int))
  unfold closeS at hg ⊢
  cases hl : findL s.lks (c : Int) with
  | none => exact h
  | some l =>
    rw [hl] at hg
    obtain ⟨hm, hn⟩ := findL_mem hl
    obtain ⟨la, lb⟩ := h.links c l hl
    have ho := h.g.lopen l hm
    have h1 : 1 ≤ c := by omega
    have hco : c ≤ s.opens := by omega
    have hne := h.neq c h1 hco
    have hfd : ∀ k : Int, k ≠ (c : Int) → findL (s.lks.filter (fun x => !(x == l))) k = findL s.lks k := fun k hk => by
      unfold findL
      rw [List.find?_filter]
      congr 1
      funext y
      by_cases hy : y = l
      · subst hy
        have : (y.num == k) = false := by simp; omega
        simp [this]
      · have : (y == l) = false := by simpa using hy
        simp [this]
        rfl
    have hfn : findL (s.lks.filter (fun x => !(x == l))) (c : Int) = none := by
      unfold findL
      rw [List.find?_eq_none]
      intro y hy hb
      obtain ⟨hy, hyl⟩ := List.mem_filter.1 hy
      have hyl : y ≠ l := by simpa using hyl
      have hyc : y.num = (c : Int) := by simpa using hb
      -- two links of one number are one
      have hp := h.g.lnum
      have : y = l := by
        obtain ⟨i, hi, rfl⟩ := List.mem_iff_getElem.1 hy
        obtain ⟨j, hj, rfl⟩ := List.mem_iff_getElem.1 hm
        rw [List.pairwise_iff_getElem] at hp
        rcases Nat.lt_trichotomy i j with g | g | g
        · have := hp i j hi hj g; omega
        · subst g; rfl
        · have := hp j i hj hi g; omega
      exact hyl this
    have hq0 : ∀ k d : Int, k ≠ (c : Int) → (s.its.filter (fun x => !(x.conn == (c : Int)))).filter (onQ k d) = qOf s k d := fun k d hk => by
      unfold qOf
      rw [List.filter_filter]
      congr 1
      funext y
      by_cases hy : y.conn = (c : Int)
      · have : (y.conn == k) = false := by simp; omega
        simp [onQ, hy]; omega
      · simp [hy]
    have hqn : ∀ d : Int, (s.its.filter (fun x => !(x.conn == (c : Int)))).filter (onQ (c : Int) d) = [] := fun d => by
      rw [List.filter_eq_nil_iff]
      intro y hy hb
      obtain ⟨_, hy⟩ := List.mem_filter.1 hy
      have hy : y.conn ≠ (c : Int) := by simpa using hy
      have : (isD y = false ∧ y.conn = (c : Int)) ∧ y.dst = d := by simpa [onQ] using hb
      exact hy this.1.2
    have hq : ∀ k d : Int, qOf (add (add ⟨s.its.filter (fun x => !(x.conn == (c : Int))), s.lks.filter (fun k => !(k == l)), s.puts, s.opens⟩ (closedI l.b l.a l.num)) (closedI l.a l.b l.num)) k d = (s.its.filter (fun x => !(x.conn == (c : Int)))).filter (onQ k d) ++ (if onQ k d (closedI l.b l.a l.num) then [(closedI l.b l.a l.num).no (s.puts + 1)] else []) ++ (if onQ k d (closedI l.a l.b l.num) then [(closedI l.a l.b l.num).no (s.puts + 1 + 1)] else []) := fun k d => by
      rw [qOf_add, qOf_add]
      rfl
    have hon : ∀ k d f t : Int, onQ k d (closedI f t l.num) = (decide (k = (c : Int)) && decide (d = t)) := fun k d f t => by
      show (!((4 : Int) == 1) && (l.num == k) && (t == d)) = _
      rw [hn]
      by_cases g1 : k = (c : Int)
      · by_cases g2 : d = t
        · simp [g1, g2]
        · have g3 : ¬ t = d := fun e => g2 e.symm
          simp [g1, g2, g3]
      · have g3 : ¬ (c : Int) = k := fun e => g1 e.symm
        simp [g1, g3]
    refine ⟨hg, h.o4, ?_, h.neq, h.new, ?_, ?_⟩
    · intro k x hx
      have hx : findL (s.lks.filter (fun x => !(x == l))) (k : Int) = some x := hx
      by_cases hk : (k : Int) = (c : Int)
      · rw [hk, hfn] at hx; cases hx
      · rw [hfd _ hk] at hx
        exact h.links k x hx
    · intro x hx hd
      show ∃ c e : Nat, 1 ≤ c ∧ c ≤ s.opens ∧ _
      rcases List.mem_append.1 hx with hx | hx
      · rcases List.mem_append.1 hx with hx | hx
        · exact h.ways x (List.mem_filter.1 hx).1 hd
        · obtain rfl := List.mem_singleton.1 hx
          exact ⟨c, 0, h1, hco, by omega, hn, la⟩
      · obtain rfl := List.mem_singleton.1 hx
        exact ⟨c, 1, h1, hco, by omega, hn, lb⟩
    · intro k hk1 hk2 i hi
      have hk2 : k ≤ s.opens := hk2
      rw [hq, hon, hon]
      show End (findL (s.lks.filter (fun x => !(x == l))) (k : Int)) _ _ _ _
      by_cases hk : k = c
      · subst hk
        rw [hfn, hqn, la, lb]
        have hen := h.ends k hk1 hk2 i hi
        have hO : O (k * 2 + i) = false ∧ ∃ r, W (k * 2 + i) = M (k * 2 + i) ++ r := by
          generalize O (k * 2 + i) = o at hen ⊢
          cases hen with
          | live _ g _ => exact ⟨rfl, _, g⟩
          | shut y g1 _ _ _ _ => rw [hl] at g1; cases g1
          | over g1 _ _ => rw [hl] at g1; cases g1
        rw [hO.1]
        rcases (by omega : i = 0 ∨ i = 1) with rfl | rfl
        · have g : ¬ E (k * 2) = E (k * 2 + 1) := hne
          refine .shut ((closedI l.b l.a l.num).no (s.puts + 1)) rfl ?_ rfl rfl hO.2
          simp [g, la, lb]
        · have g : ¬ E (k * 2 + 1) = E (k * 2) := fun e => hne e.symm
          refine .shut ((closedI l.a l.b l.num).no (s.puts + 1 + 1)) rfl ?_ rfl rfl hO.2
          simp [g, la, lb]
      · have hkc : ¬ (k : Int) = (c : Int) := by omega
        rw [hfd _ hkc, hq0 _ _ hkc]
        simp [hkc]
        exact h.ends k hk1 hk2 i hi
end
end Go.Proofs.Ytocmgdhhlofajaa

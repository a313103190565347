/-
  A network: its items, its connections, and what each call makes of it.
-/
namespace Go.Proofs.Ytocmgdhhlofajaa
structure It where
  num : Int
  kind : Int
  frm : Int
  dst : Int
  conn : Int
  body : ByteArray
structure Lk where
  num : Int
  a : Int
  b : Int
deriving DecidableEq
structure St where
  its : List It
  lks : List Lk
  puts : Nat
  opens : Nat
def It.zero : It := ⟨0, 0, 0, 0, 0, ⟨#[]⟩⟩
def It.no (x : It) (n : Nat) : It := ⟨(n : Int), x.kind, x.frm, x.dst, x.conn, x.body⟩
def St.empty : St := ⟨[], [], 0, 0⟩
/-- An item is put in transit. -/
def add (s : St) (x : It) : St := ⟨s.its ++ [x.no (s.puts + 1)], s.lks, s.puts + 1, s.opens⟩
def full (s : St) : Bool := decide (1024 ≤ s.its.length)
def sendI (f t : Int) (b : ByteArray) : It := ⟨0, 1, f, t, 0, b⟩
def sendS (s : St) (f t : Int) (b : ByteArray) : St := if full s then s else add s (sendI f t b)
def noOpen (s : St) (a b : Int) : Bool := decide (256 ≤ s.lks.length) || full s || decide (a = b)
def openS (s : St) (a b : Int) : St := if noOpen s a b then s else add ⟨s.its, s.lks ++ [⟨((s.opens + 1 : Nat) : Int), a, b⟩], s.puts, s.opens + 1⟩ ⟨0, 2, a, b, ((s.opens + 1 : Nat) : Int), ⟨#[]⟩⟩
def findL (ls : List Lk) (c : Int) : Option Lk := ls.find? (fun l => l.num == c)
def otherL (l : Lk) (n : Int) : Option Int := if l.a = n then some l.b else if l.b = n then some l.a else none
def peerS (s : St) (c n : Int) : Option Int := (findL s.lks c).bind (fun l => otherL l n)
def writeI (c f t : Int) (b : ByteArray) : It := ⟨0, 3, f, t, c, b⟩
def writeB (s : St) (c f : Int) : Bool := (peerS s c f).isSome && !full s
def writeS (s : St) (c f : Int) (b : ByteArray) : St := match peerS s c f with
  | none => s
  | some t => if full s then s else add s (writeI c f t b)
def closedI (n t c : Int) : It := ⟨0, 4, n, t, c, ⟨#[]⟩⟩
def closeS (s : St) (c : Int) : St := match findL s.lks c with
  | none => s
  | some l => add (add ⟨s.its.filter (fun x => !(x.conn == c)), s.lks.filter (fun k => !(k == l)), s.puts, s.opens⟩ (closedI l.b l.a l.num)) (closedI l.a l.b l.num)
/-- What tells the other ends of a node's connections. -/
def clo (n : Int) (s : St) (ls : List Lk) : St := ls.foldl (fun s l => match otherL l n with | none => s | some t => add s (closedI n t l.num)) s
def touch (n : Int) (x : It) : Bool := x.frm == n || x.dst == n
def loseS (s : St) (n : Int) : St :=
  let c := clo n ⟨s.its.filter (fun x => !touch n x), s.lks, s.puts, s.opens⟩ s.lks
  ⟨c.its, s.lks.filter (fun l => (otherL l n).isNone), c.puts, s.opens⟩
def loseN (s : St) (n : Int) : Nat := s.its.length - (s.its.filter (fun x => !touch n x)).length
/-- Those that are chosen, in the light of those ahead. -/
def cho {α : Type} (p : List α → α → Bool) : List α → List α → List α
  | _, [] => []
  | pre, x :: xs => if p pre x then x :: cho p (pre ++ [x]) xs else cho p (pre ++ [x]) xs
theorem cho_append {α : Type} (p : List α → α → Bool) : ∀ (pre xs ys : List α), cho p pre (xs ++ ys) = cho p pre xs ++ cho p (pre ++ xs) ys
  | pre, [], ys => by simp [cho]
  | pre, x :: xs, ys => by
    have ih := cho_append p (pre ++ [x]) xs ys
    rw [List.append_assoc] at ih
    simp only [List.cons_append, cho]
    split
    · rw [ih]; simp
    · rw [ih]; simp
theorem cho_snoc {α : Type} (p : List α → α → Bool) (xs : List α) (x : α) : cho p [] (xs ++ [x]) = cho p [] xs ++ if p xs x then [x] else [] := by
  rw [cho_append]
  simp [cho]
theorem cho_take {α : Type} (p : List α → α → Bool) {xs : List α} {k : Nat} {x : α} (h : xs[k]? = some x) : cho p [] (xs.take (k + 1)) = cho p [] (xs.take k) ++ if p (xs.take k) x then [x] else [] := by
  rw [List.take_add_one, h]
  exact cho_snoc p _ _
theorem cho_filter {α : Type} (f : α → Bool) : ∀ (pre xs : List α), cho (fun _ x => f x) pre xs = xs.filter f
  | _, [] => rfl
  | pre, x :: xs => by
    simp only [cho, List.filter_cons, cho_filter f (pre ++ [x]) xs]
theorem cho_len {α : Type} (p : List α → α → Bool) : ∀ (pre xs : List α), (cho p pre xs).length ≤ xs.length
  | _, [] => by simp [cho]
  | pre, x :: xs => by
    have := cho_len p (pre ++ [x]) xs
    simp only [cho]
    split <;> simp <;> omega
theorem cho_sub {α : Type} (p : List α → α → Bool) : ∀ (pre xs : List α), (cho p pre xs).Sublist xs
  | _, [] => by simp [cho]
  | pre, x :: xs => by
    have := cho_sub p (pre ++ [x]) xs
    simp only [cho]
    split
    · exact this.cons_cons x
    · exact this.cons x
def isD (x : It) : Bool := x.kind == 1
/-- One item holds another one back. -/
def bars (x y : It) : Bool := !isD x && !isD y && y.conn == x.conn && y.dst == x.dst
def free (pre : List It) (x : It) : Bool := !pre.any (bars x)
def ready (s : St) : List It := cho free [] s.its
def dgs (s : St) : List It := s.its.filter isD
def pk (p : Int) (n : Nat) : Nat := ((if p < 0 then -(p + 1) else p) % (n : Int)).toNat
def pick (l : List It) (p : Int) : Option It := l[pk p l.length]?
def without (s : St) (x : It) : St := ⟨s.its.filter (fun y => !(y.num == x.num)), s.lks, s.puts, s.opens⟩
def takeS (s : St) (o : Option It) : St := match o with
  | none => s
  | some x => without s x
def dblB (s : St) (p : Int) : Bool := (pick (dgs s) p).isSome && !full s
def dblS (s : St) (p : Int) : St := match pick (dgs s) p with
  | none => s
  | some x => if full s then s else add s x
theorem pk_lt {p : Int} {n : Nat} (h : 0 < n) : pk p n < n := by
  unfold pk
  have h1 := Int.emod_nonneg (if p < 0 then -(p + 1) else p) (show (n : Int) ≠ 0 by omega)
  have h2 := Int.emod_lt_of_pos (if p < 0 then -(p + 1) else p) (show (0 : Int) < n by omega)
  omega
theorem pk_cast {p : Int} {n : Nat} (h : 0 < n) : ((pk p n : Nat) : Int) = (if p < 0 then -(p + 1) else p) % (n : Int) := by
  unfold pk
  have h1 := Int.emod_nonneg (if p < 0 then -(p + 1) else p) (show (n : Int) ≠ 0 by omega)
  omega
theorem pick_nil (p : Int) : pick [] p = none := by simp [pick]
theorem pick_some {l : List It} (h : l ≠ []) (p : Int) : ∃ x, pick l p = some x ∧ x ∈ l := by
  have hl : 0 < l.length := List.length_pos_iff.2 h
  have := pk_lt (p := p) hl
  exact ⟨l[pk p l.length], by simp [pick, this], List.getElem_mem _⟩
/-- A number of an int. -/
def I64 (z : Int) : Prop := -9223372036854775808 ≤ z ∧ z ≤ 9223372036854775807
/-- What always holds. -/
structure Good (s : St) : Prop where
  nums : s.its.Pairwise (fun x y => x.num < y.num)
  put : ∀ x ∈ s.its, 1 ≤ x.num ∧ x.num ≤ (s.puts : Int)
  way : ∀ x ∈ s.its, I64 x.dst ∧ 0 ≤ x.conn ∧ x.conn ≤ (s.opens : Int)
  lnum : s.lks.Pairwise (fun x y => x.num < y.num)
  lopen : ∀ l ∈ s.lks, 1 ≤ l.num ∧ l.num ≤ (s.opens : Int)
  ends : ∀ l ∈ s.lks, l.a ≠ l.b ∧ I64 l.a ∧ I64 l.b
  lenI : s.its.length ≤ s.puts
  lenL : s.lks.length ≤ s.opens
theorem good_empty : Good St.empty := ⟨List.Pairwise.nil, by simp [St.empty], by simp [St.empty], List.Pairwise.nil, by simp [St.empty], by simp [St.empty], by simp [St.empty], by simp [St.empty]⟩
theorem good_add {s : St} (h : Good s) {x : It} (hd : I64 x.dst) (h0 : 0 ≤ x.conn) (h1 : x.conn ≤ (s.opens : Int)) : Good (add s x) := by
  refine ⟨?_, ?_, ?_, h.lnum, h.lopen, h.ends, ?_, h.lenL⟩
  · refine List.pairwise_append.2 ⟨h.nums, List.pairwise_singleton _ _, fun a ha b hb => ?_⟩
    obtain rfl : b = x.no (s.puts + 1) := by simpa using hb
    have := (h.put a ha).2
    show a.num < ((s.puts + 1 : Nat) : Int)
    omega
  · intro y hy
    rcases List.mem_append.1 hy with hy | hy
    · have := h.put y hy
      show _ ∧ y.num ≤ ((s.puts + 1 : Nat) : Int)
      omega
    · obtain rfl : y = x.no (s.puts + 1) := by simpa using hy
      show 1 ≤ ((s.puts + 1 : Nat) : Int) ∧ ((s.puts + 1 : Nat) : Int) ≤ ((s.puts + 1 : Nat) : Int)
      omega
  · intro y hy
    rcases List.mem_append.1 hy with hy | hy
    · exact h.way y hy
    · obtain rfl : y = x.no (s.puts + 1) := by simpa using hy
      exact ⟨hd, h0, h1⟩
  · have := h.lenI
    simp [add]; omega
theorem good_sub {s : St} (h : Good s) {X : List It} {L : List Lk} (hX : X.Sublist s.its) (hL : L.Sublist s.lks) : Good ⟨X, L, s.puts, s.opens⟩ :=
  ⟨h.nums.sublist hX, fun x hx => h.put x (hX.mem hx), fun x hx => h.way x (hX.mem hx), h.lnum.sublist hL, fun x hx => h.lopen x (hL.mem hx), fun x hx => h.ends x (hL.mem hx), Nat.le_trans hX.length_le h.lenI, Nat.le_trans hL.length_le h.lenL⟩
theorem good_send {s : St} (h : Good s) {f t : Int} {b : ByteArray} (ht : I64 t) : Good (sendS s f t b) := by
  unfold sendS
  split
  · exact h
  · exact good_add h ht (Int.le_refl _) (Int.natCast_nonneg _)
theorem good_link {s : St} (h : Good s) {a b : Int} (hab : a ≠ b) (ha : I64 a) (hb : I64 b) : Good ⟨s.its, s.lks ++ [⟨((s.opens + 1 : Nat) : Int), a, b⟩], s.puts, s.opens + 1⟩ := by
  refine ⟨h.nums, h.put, fun x hx => ?_, ?_, ?_, ?_, h.lenI, ?_⟩
  · have := h.way x hx
    show _ ∧ _ ∧ x.conn ≤ ((s.opens + 1 : Nat) : Int)
    exact ⟨this.1, this.2.1, by omega⟩
  · refine List.pairwise_append.2 ⟨h.lnum, List.pairwise_singleton _ _, fun x hx y hy => ?_⟩
    obtain rfl : y = _ := by simpa using hy
    have := (h.lopen x hx).2
    show x.num < ((s.opens + 1 : Nat) : Int)
    omega
  · intro y hy
    rcases List.mem_append.1 hy with hy | hy
    · have := h.lopen y hy
      show _ ∧ y.num ≤ ((s.opens + 1 : Nat) : Int)
      omega
    · obtain rfl : y = _ := by simpa using hy
      show 1 ≤ ((s.opens + 1 : Nat) : Int) ∧ ((s.opens + 1 : Nat) : Int) ≤ ((s.opens + 1 : Nat) : Int)
      omega
  · intro y hy
    rcases List.mem_append.1 hy with hy | hy
    · exact h.ends y hy
    · obtain rfl : y = _ := by simpa using hy
      exact ⟨hab, ha, hb⟩
  · have := h.lenL
    simp; omega
theorem good_open {s : St} (h : Good s) {a b : Int} (ha : I64 a) (hb : I64 b) : Good (openS s a b) := by
  unfold openS
  split
  · exact h
  · rename_i g
    have hab : a ≠ b := by
      intro e
      simp [noOpen, e] at g
    exact good_add (good_link h hab ha hb) hb (by show (0 : Int) ≤ ((s.opens + 1 : Nat) : Int); omega) (Int.le_refl _)
theorem findL_mem {ls : List Lk} {c : Int} {l : Lk} (h : findL ls c = some l) : l ∈ ls ∧ l.num = c := by
  unfold findL at h
  exact ⟨List.mem_of_find?_eq_some h, by have := List.find?_some h; simpa using this⟩
theorem otherL_end {l : Lk} {n t : Int} (h : otherL l n = some t) : t = l.a ∨ t = l.b := by
  unfold otherL at h
  split at h
  · cases h; exact .inr rfl
  · split at h
    · cases h; exact .inl rfl
    · cases h
theorem good_write {s : St} (h : Good s) {c f : Int} {b : ByteArray} : Good (writeS s c f b) := by
  unfold writeS
  split
  · exact h
  · rename_i t ht
    split
    · exact h
    · unfold peerS at ht
      obtain ⟨l, hl, ho⟩ := Option.bind_eq_some_iff.1 ht
      obtain ⟨hm, hc⟩ := findL_mem hl
      have he := h.ends l hm
      have hn := h.lopen l hm
      refine good_add h ?_ ?_ ?_
      · rcases otherL_end ho with e | e
        · rw [show (writeI c f t b).dst = t from rfl, e]; exact he.2.1
        · rw [show (writeI c f t b).dst = t from rfl, e]; exact he.2.2
      · show 0 ≤ c; omega
      · show c ≤ _; omega
theorem good_close {s : St} (h : Good s) {c : Int} : Good (closeS s c) := by
  unfold closeS
  split
  · exact h
  · rename_i l hl
    obtain ⟨hm, hc⟩ := findL_mem hl
    have he := h.ends l hm
    have hn := h.lopen l hm
    have h1 := good_sub h (List.filter_sublist (l := s.its) (p := fun x => !(x.conn == c))) (List.filter_sublist (l := s.lks) (p := fun k => !(k == l)))
    refine good_add (good_add h1 ?_ ?_ ?_) ?_ ?_ ?_
    · exact he.2.1
    · show 0 ≤ l.num; omega
    · show l.num ≤ (s.opens : Int); omega
    · exact he.2.2
    · show 0 ≤ l.num; omega
    · show l.num ≤ (s.opens : Int); omega
theorem clo_its (n : Int) : ∀ (ls : List Lk) (s : St), (clo n s ls).lks = s.lks ∧ (clo n s ls).opens = s.opens ∧ s.puts ≤ (clo n s ls).puts ∧ (clo n s ls).puts ≤ s.puts + ls.length ∧ (clo n s ls).its.length ≤ s.its.length + ls.length
  | [], s => ⟨rfl, rfl, Nat.le_refl _, Nat.le_refl _, Nat.le_refl _⟩
  | l :: ls, s => by
    unfold clo
    rw [List.foldl_cons]
    split
    · have := clo_its n ls s
      unfold clo at this
      exact ⟨this.1, this.2.1, this.2.2.1, by have := this.2.2.2.1; simp; omega, by have := this.2.2.2.2; simp; omega⟩
    · rename_i t _
      have := clo_its n ls (add s (closedI n t l.num))
      unfold clo at this
      refine ⟨this.1, this.2.1, ?_, ?_, ?_⟩
      · have := this.2.2.1
        simp [add] at this ⊢; omega
      · have := this.2.2.2.1
        simp [add] at this ⊢; omega
      · have := this.2.2.2.2
        simp [add] at this ⊢; omega
theorem clo_snoc (n : Int) (s : St) (ls : List Lk) (l : Lk) : clo n s (ls ++ [l]) = match otherL l n with | none => clo n s ls | some t => add (clo n s ls) (closedI n t l.num) := by
  unfold clo
  rw [List.foldl_append]
  rfl
theorem good_clo {n : Int} : ∀ {ls : List Lk} {s : St}, Good s → (∀ l ∈ ls, I64 l.a ∧ I64 l.b ∧ 0 ≤ l.num ∧ l.num ≤ (s.opens : Int)) → Good (clo n s ls)
  | [], s, h, _ => h
  | l :: ls, s, h, hl => by
    unfold clo
    rw [List.foldl_cons]
    have h0 := hl l (by simp)
    split
    · exact good_clo h fun k hk => hl k (by simp [hk])
    · rename_i t ht
      refine good_clo (s := add s (closedI n t l.num)) (good_add h ?_ h0.2.2.1 h0.2.2.2) fun k hk => hl k (by simp [hk])
      rcases otherL_end ht with e | e
      · rw [show (closedI n t l.num).dst = t from rfl, e]; exact h0.1
      · rw [show (closedI n t l.num).dst = t from rfl, e]; exact h0.2.1
theorem good_lose {s : St} (h : Good s) {n : Int} : Good (loseS s n) := by
  have h1 := good_sub h (List.filter_sublist (l := s.its) (p := fun x => !touch n x)) (List.Sublist.refl s.lks)
  have h2 := good_clo (n := n) (ls := s.lks) h1 fun l hl => ⟨(h.ends l hl).2.1, (h.ends l hl).2.2, by have := (h.lopen l hl).1; omega, (h.lopen l hl).2⟩
  have h3 := clo_its n s.lks ⟨s.its.filter (fun x => !touch n x), s.lks, s.puts, s.opens⟩
  have h4 := good_sub h2 (List.Sublist.refl _) (L := s.lks.filter (fun l => (otherL l n).isNone)) (by rw [h3.1]; exact List.filter_sublist)
  rw [h3.2.1] at h4
  exact h4
theorem good_without {s : St} (h : Good s) {x : It} : Good (without s x) := good_sub h List.filter_sublist (List.Sublist.refl _)
theorem good_take {s : St} (h : Good s) {o : Option It} : Good (takeS s o) := by
  unfold takeS
  split
  · exact h
  · exact good_without h
theorem pick_mem {l : List It} {p : Int} {x : It} (h : pick l p = some x) : x ∈ l := List.mem_of_getElem? h
theorem dgs_mem {s : St} {x : It} (h : x ∈ dgs s) : x ∈ s.its ∧ x.kind = 1 := by
  have := List.mem_filter.1 h
  exact ⟨this.1, by simpa [isD] using this.2⟩
theorem ready_mem {s : St} {x : It} (h : x ∈ ready s) : x ∈ s.its := (cho_sub free [] s.its).mem h
theorem good_dbl {s : St} (h : Good s) {p : Int} : Good (dblS s p) := by
  unfold dblS
  split
  · exact h
  · rename_i x hx
    split
    · exact h
    · have hm := (dgs_mem (pick_mem hx)).1
      exact good_add h (h.way x hm).1 (h.way x hm).2.1 (h.way x hm).2.2
end Go.Proofs.Ytocmgdhhlofajaa

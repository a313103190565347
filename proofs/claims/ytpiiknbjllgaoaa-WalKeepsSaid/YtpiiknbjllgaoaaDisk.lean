/-
  A disk in memory: a map from names to files, each with its bytes in a row of its own.
-/
import Derived.Test.YtpiiknbjllgaoaaKit
namespace Go.Proofs.Ytpiiknbjllgaoaa
open Go.RowKit Go.Maps
theorem law9 : Keyed Try.prog 9 := Maps.string_keyed Try.underlying9
theorem zero53 (w : World) : (zeroValue 74).run Try.prog w = .ok nop w := by kernel_rfl
/-- How an element reads: no pointer, or one to a block. -/
def pR : Value → Option (DataW Unit × List MemPlace)
  | .pointer none => some (.nil, [])
  | .pointer (some ⟨b, 0, none⟩) => some (.lit (.int .i64 (b : Int)), [])
  | _ => none
theorem pR_ptr (b : Nat) : pR (ptr b) = some (.lit (.int .i64 (b : Int)), []) := rfl
theorem pR_nil_inv {v : Value} {z : DataW Unit × List MemPlace} (h : pR v = some z) (hz : z.1 = .nil) : v = nop := by
  unfold pR at h
  split at h
  · rfl
  · cases h; cases hz
  · cases h
theorem pR_ptr_inv {v : Value} {z : DataW Unit × List MemPlace} {b : Nat} (h : pR v = some z) (hz : z.1 = .lit (.int .i64 (b : Int))) : v = ptr b := by
  unfold pR at h
  split at h
  · cases h; cases hz
  · cases h
    injection hz with hz
    injection hz with _ hz
    obtain rfl := Int.ofNat.inj hz
    rfl
  · cases h
def ky (n : ByteArray) : Lit := .string n.data.toList
theorem ky_inj {a b : ByteArray} (h : ky a = ky b) : a = b := by
  unfold ky at h
  injection h with h
  cases a; cases b
  simp at h
  rw [h]
theorem ky_of {n : ByteArray} (h : n.size ≤ maxLen) : keyOf Try.prog 9 (.string n) = some (ky n) := WideMaps.keyOf_string_mk Try.underlying9 h
theorem ky_key (n : ByteArray) (h : n.size ≤ maxLen) : WideAt.IsKeyLit (ky n) := law9.key (ky_of h)
/-- A file and where it lies. -/
structure Ge where
  f : Fl
  b : Nat
  v : Value
def findG (G : List Ge) (k : ByteArray) : Option Ge := G.find? fun g => decide (g.f.name = k)
def atG (G : List Ge) (k : ByteArray) : DataW Unit := match findG G k with
  | some g => .lit (.int .i64 (g.b : Int))
  | none => .nil
theorem findG_mem {G : List Ge} {k : ByteArray} {g : Ge} (h : findG G k = some g) : g ∈ G ∧ g.f.name = k := ⟨List.mem_of_find?_eq_some h, by simpa using List.find?_some h⟩
theorem findG_of {G : List Ge} (hn : (G.map fun g => g.f.name).Nodup) {g : Ge} (hg : g ∈ G) : findG G g.f.name = some g := by
  induction G with
  | nil => cases hg
  | cons x r ih =>
    simp only [List.map_cons, List.nodup_cons] at hn
    unfold findG
    rcases List.mem_cons.1 hg with rfl | hg
    · simp
    · have : x.f.name ≠ g.f.name := fun e => hn.1 (by rw [e]; exact List.mem_map.2 ⟨g, hg, rfl⟩)
      rw [List.find?_cons_of_neg (by simpa using this)]
      exact ih hn.2 hg
theorem findG_none {G : List Ge} {k : ByteArray} (h : findG G k = none) : ∀ g ∈ G, g.f.name ≠ k := fun g hg => by simpa using List.find?_eq_none.1 h g hg
theorem findG_none_of {G : List Ge} {k : ByteArray} (h : ∀ g ∈ G, g.f.name ≠ k) : findG G k = none := List.find?_eq_none.2 (fun g hg => by simpa using h g hg)
/-- The map says of each name where its file lies. -/
structure Tied (D : DataW Unit) (G : List Ge) : Prop where
  look : ∀ k, D.atKey (ky k) .nil = atG G k
  has : ∀ kl, Maps.has D kl = true → ∃ g ∈ G, kl = ky g.f.name
  size : Maps.size D = G.length
theorem tied_nil : Tied (.map []) [] := ⟨fun _ => rfl, (fun _ h => by cases h), rfl⟩
abbrev OwnM (w : World) (m n : Nat) (D : DataW Unit) : Prop := w.ownsMap Try.prog 9 pR m n D
/-- A map needs room for what it has alone. -/
theorem own_tight {w : World} {m n : Nat} {D : DataW Unit} (h : OwnM w m n D) : OwnM w m (Maps.size D) D := by
  obtain ⟨es, clock, hb, F, hs, rfl⟩ := h
  exact ⟨es, clock, hb, F, by simp [Maps.size, length_sorted], rfl⟩
theorem own_tr {S : Nat → Prop} {w w' : World} {m n : Nat} {D : DataW Unit} (h : OwnM w m n D) (ht : Tr S w w') (hS : ¬ S m) : OwnM w' m n D := by
  obtain ⟨es, clock, hb, r⟩ := h
  exact ⟨es, clock, (ht.block m (Array.getElem?_eq_some_iff.1 hb).1 hS).trans hb, r⟩
/-- m[name]. -/
theorem look_any {w : World} {m n : Nat} {D : DataW Unit} {G : List Ge} (h : OwnM w m n D) (ht : Tied D G) (k : ByteArray) (hk : k.size ≤ maxLen) :
    (Instr.lookup 62 (.map (some m)) (.string k) false).run Try.prog w = .ok (match findG G k with | some g => ptr g.b | none => nop) w := by
  obtain ⟨v, ps, hr, hv⟩ := h.lookup law9 Try.underlying62 (zero53 w) (zd := .nil) (zp := []) rfl (ky_of hk)
  rw [hr]
  have := ht.look k
  unfold atG at this
  split at this
  · rename_i g hg
    rw [pR_ptr_inv hv this]
  · rename_i hg
    rw [pR_nil_inv hv this]
theorem look_no {w : World} (k : ByteArray) (hk : k.size ≤ maxLen) : (Instr.lookup 62 (.map none) (.string k) false).run Try.prog w = .ok nop w :=
  Maps.look_nil false law9 Try.underlying62 (zero53 w) (ky_of hk)
def noG (G : List Ge) (k : ByteArray) : List Ge := G.filter fun g => decide (g.f.name ≠ k)
theorem noG_none (G : List Ge) (k : ByteArray) : findG (noG G k) k = none := findG_none_of fun g hg => by simpa [noG] using (List.mem_filter.1 hg).2
theorem noG_find {G : List Ge} {k k' : ByteArray} (h : k' ≠ k) : findG (noG G k) k' = findG G k' := by
  induction G with
  | nil => rfl
  | cons x r ih =>
    unfold findG noG at ih ⊢
    by_cases e : x.f.name = k
    · rw [List.filter_cons_of_neg (by simpa using e), List.find?_cons_of_neg (by simp [e]; exact fun e' => h e'.symm)]
      exact ih
    · rw [List.filter_cons_of_pos (by simpa using e)]
      by_cases e' : x.f.name = k'
      · rw [List.find?_cons_of_pos (by simpa using e'), List.find?_cons_of_pos (by simpa using e')]
      · rw [List.find?_cons_of_neg (by simpa using e'), List.find?_cons_of_neg (by simpa using e')]
        exact ih
theorem noG_len {G : List Ge} (hn : (G.map fun g => g.f.name).Nodup) (k : ByteArray) : (noG G k).length + (if (findG G k).isSome then 1 else 0) = G.length := by
  induction G with
  | nil => rfl
  | cons x r ih =>
    simp only [List.map_cons, List.nodup_cons] at hn
    have := ih hn.2
    unfold findG noG at this ⊢
    by_cases e : x.f.name = k
    · have h0 : findG r k = none := findG_none_of fun g hg e' => hn.1 (List.mem_map.2 ⟨g, hg, by rw [e', e]⟩)
      unfold findG at h0
      rw [h0] at this
      rw [List.filter_cons_of_neg (by simpa using e), List.find?_cons_of_pos (by simpa using e)]
      simp at this ⊢
      omega
    · rw [List.filter_cons_of_pos (by simpa using e), List.find?_cons_of_neg (by simpa using e)]
      simp only [List.length_cons]
      omega
theorem has_iff {D : DataW Unit} {G : List Ge} (h : Tied D G) (k : ByteArray) : Maps.has D (ky k) = (findG G k).isSome := by
  have hl := h.look k
  unfold atG at hl
  cases hf : findG G k with
  | none =>
    rw [hf] at hl
    cases hh : Maps.has D (ky k)
    · rfl
    · obtain ⟨g, hg, e⟩ := h.has _ hh
      exact absurd (ky_inj e).symm (findG_none hf g hg)
  | some g =>
    rw [hf] at hl
    cases hh : Maps.has D (ky k)
    · rw [atKey_of_not_has hh] at hl; cases hl
    · rfl
/-- m[name] = a file. -/
theorem Tied.put {D : DataW Unit} {G : List Ge} (h : Tied D G) (hT : Tidy D) (hn : (G.map fun g => g.f.name).Nodup) (g : Ge) (hk : g.f.name.size ≤ maxLen) :
    Tied (D.put (ky g.f.name) (.lit (.int .i64 (g.b : Int)))) (g :: noG G g.f.name) := by
  have hkey := ky_key _ hk
  refine ⟨fun k => ?_, fun kl hkl => ?_, ?_⟩
  · by_cases e : k = g.f.name
    · subst e
      rw [atKey_put_same hT.isMap hkey]
      simp [atG, findG]
    · rw [atKey_put_other (fun e' => e (ky_inj e')), h.look]
      unfold atG
      have : findG (g :: noG G g.f.name) k = findG G k := by
        have h2 := noG_find (G := G) e
        unfold findG at h2 ⊢
        rw [List.find?_cons_of_neg (by simpa using fun e' : g.f.name = k => e e'.symm)]
        exact h2
      rw [this]
  · by_cases e : kl = ky g.f.name
    · exact ⟨g, by simp, e⟩
    · rw [has_put_other e] at hkl
      obtain ⟨x, hx, e'⟩ := h.has _ hkl
      exact ⟨x, List.mem_cons_of_mem _ (List.mem_filter.2 ⟨hx, by simpa using fun e2 => e (by rw [e', e2])⟩), e'⟩
  · rw [size_put hT, has_iff h, h.size, List.length_cons]
    have := noG_len hn g.f.name
    split <;> simp_all <;> omega
/-- delete(m, name). -/
theorem Tied.del {D : DataW Unit} {G : List Ge} (h : Tied D G) (hT : Tidy D) (hn : (G.map fun g => g.f.name).Nodup) (k : ByteArray) : Tied (D.del (ky k)) (noG G k) := by
  refine ⟨fun k' => ?_, fun kl hkl => ?_, ?_⟩
  · by_cases e : k' = k
    · subst e
      rw [atKey_del_same]
      unfold atG
      rw [noG_none]
    · rw [atKey_del_other (fun e' => e (ky_inj e')), h.look]
      unfold atG
      rw [noG_find e]
  · by_cases e : kl = ky k
    · subst e; rw [has_del_same] at hkl; cases hkl
    · rw [has_del_other e] at hkl
      obtain ⟨x, hx, e'⟩ := h.has _ hkl
      exact ⟨x, List.mem_filter.2 ⟨hx, by simpa using fun e2 => e (by rw [e', e2])⟩, e'⟩
  · have h1 := size_del (k := ky k) hT
    rw [has_iff h, h.size] at h1
    have := noG_len hn k
    omega
/-- A file's bytes have turned, and where they lie. -/
theorem Tied.same {D : DataW Unit} {G : List Ge} (h : Tied D G) (c : Ge → Ge) (hc : ∀ g, (c g).f.name = g.f.name ∧ (c g).b = g.b) : Tied D (G.map c) := by
  have e : ∀ k, findG (G.map c) k = (findG G k).map c := by
    intro k
    unfold findG
    rw [List.find?_map]
    congr 1
    congr 1
    funext g
    simp [(hc g).1]
  refine ⟨fun k => ?_, fun kl hkl => ?_, by rw [List.length_map]; exact h.size⟩
  · rw [h.look]
    unfold atG
    rw [e]
    cases findG G k with
    | none => rfl
    | some g => simp [(hc g).2]
  · obtain ⟨g, hg, e'⟩ := h.has _ hkl
    exact ⟨c g, List.mem_map.2 ⟨g, hg, rfl⟩, by rw [e', (hc g).1]⟩
/-- A disk in memory; S: the blocks that are its own. -/
structure DV (S : Nat → Prop) (b : Nat) (d : Dk) (G : List Ge) (mv : Option Nat) (w : World) : Prop where
  blk : w.heap[b]? = some (.cells #[.map mv, .int .i64 (d.room : Int), .int .i64 (d.steps : Int), .int .i64 (d.left : Int), .bool d.off, .bool d.sch] 64 (0, 0))
  perm : (G.map fun g => g.f).Perm d.fs
  nd : (G.map fun g => g.f.name).Nodup
  file : ∀ g ∈ G, FV S g.b g.f.data g.v g.f.dur w ∧ g.f.name.size ≤ 40
  apart : ∀ g ∈ G, ∀ h ∈ G, g.f.name ≠ h.f.name → ∀ k, its g.b g.v k → ¬ its h.b h.v k
  mp : (mv = none ∧ G = []) ∨ ∃ m D, mv = some m ∧ S m ∧ OwnM w m G.length D ∧ Tied D G
  own : S b
def PD (S : Nat → Prop) (b : Nat) (d : Dk) (w : World) : Prop := ∃ G mv, DV S b d G mv w
/-- What a call leaves. -/
def Lft (S : Nat → Prop) (b : Nat) (d : Dk) (w w' : World) : Prop := PD (andNew S w.heap.size) b d w' ∧ Tr S w w'
section
variable {S : Nat → Prop} {b : Nat} {d : Dk} {G : List Ge} {mv : Option Nat} {w : World}
theorem DV.lt (h : DV S b d G mv w) : b < w.heap.size := (Array.getElem?_eq_some_iff.1 h.blk).1
theorem DV.tr {S2 : Nat → Prop} {w' : World} (h : DV S b d G mv w) (ht : Tr S2 w w') (hd : ∀ k, k < w.heap.size → S k → ¬ S2 k) : DV S b d G mv w' := by
  refine ⟨(ht.block b h.lt (hd _ h.lt h.own)).trans h.blk, h.perm, h.nd, fun g hg => ⟨(h.file g hg).1.tr ht hd, (h.file g hg).2⟩, h.apart, ?_, h.own⟩
  rcases h.mp with h | ⟨m, D, e, hs, ho, t⟩
  · exact .inl h
  · exact .inr ⟨m, D, e, hs, own_tr ho ht (hd m ho.lt hs), t⟩
theorem DV.mono {S' : Nat → Prop} (h : DV S b d G mv w) (hS : ∀ k, S k → S' k) : DV S' b d G mv w := by
  refine ⟨h.blk, h.perm, h.nd, fun g hg => ⟨(h.file g hg).1.mono hS, (h.file g hg).2⟩, h.apart, ?_, hS _ h.own⟩
  rcases h.mp with h | ⟨m, D, e, hs, r⟩
  · exact .inl h
  · exact .inr ⟨m, D, e, hS _ hs, r⟩
theorem DV.below {w' : World} (h : DV S b d G mv w) (hb : Below w.heap.size w w') : DV S b d G mv w' := h.tr (S2 := fun _ => False) (Tr.of_below hb) (fun _ _ _ h => h)
theorem DV.cell (h : DV S b d G mv w) (i : Nat) (v : Value) (hv : (#[Value.map mv, .int .i64 (d.room : Int), .int .i64 (d.steps : Int), .int .i64 (d.left : Int), .bool d.off, .bool d.sch] : Array Value)[i]? = some v) : w.cell? ⟨b, i, none⟩ = some v := by
  rw [cell_of_row w b i _ 64 (0, 0) h.blk, hv]
theorem DV.fz (h : DV S b d G mv w) (i : Nat) : w.frozen? ⟨b, i, none⟩ = false := by simp [World.frozen?, h.blk]
/-- Its blocks are apart from the disk's own and the map's. -/
theorem DV.not_b (h : DV S b d G mv w) {g : Ge} (hg : g ∈ G) : ¬ its g.b g.v b := by
  have hf := (h.file g hg).1
  rintro (e | e)
  · have h1 := hf.blk
    have h2 := h.blk
    rw [← e] at h1
    rw [show w.heap[b]? = _ from h1] at h2
    simp at h2
  · rcases hf.row with ⟨e', _⟩ | ⟨g', k, cap, cur, e', hg', _⟩
    · rw [e'] at e; simp [Value.ownBlock] at e
    · rw [e'] at e
      obtain rfl : g' = b := by simpa [Value.ownBlock] using e
      have := h.blk; rw [hg'] at this; simp at this
theorem DV.not_m (h : DV S b d G mv w) {g : Ge} (hg : g ∈ G) {m n : Nat} {D : DataW Unit} (ho : OwnM w m n D) : ¬ its g.b g.v m := by
  have hf := (h.file g hg).1
  obtain ⟨es, clock, hb, _⟩ := ho
  rintro (e | e)
  · have := hf.blk; rw [← e] at this; rw [show w.heap[m]? = _ from this] at hb; simp at hb
  · rcases hf.row with ⟨e', _⟩ | ⟨g', k, cap, cur, e', hg', _⟩
    · rw [e'] at e; simp [Value.ownBlock] at e
    · rw [e'] at e
      obtain rfl : g' = m := by simpa [Value.ownBlock] using e
      rw [hg'] at hb; simp at hb
/-- A file's bytes have turned. -/
theorem DV.upd (h : DV S b d G mv w) {g : Ge} (hg : g ∈ G) {R : Bs} {t : Nat} {w' : World} (hf : Fd (andNew (its g.b g.v) w.heap.size) g.b R t w') (ht : Tr (its g.b g.v) w w') :
    Lft S b { d with fs := updF d.fs g.f.name fun f => ⟨f.name, R, t⟩ } w w' := by
  obtain ⟨v', hv⟩ := hf
  have hS : ∀ k, its g.b g.v k → S k := fun k hk => hk.elim (fun e => e ▸ (h.file g hg).1.own) ((h.file g hg).1.rowS k)
  have same : ∀ x ∈ G, x.f.name = g.f.name → x = g := fun x hx e => by
    have h1 := findG_of h.nd hx
    rw [e, findG_of h.nd hg] at h1
    exact (Option.some.inj h1).symm
  refine ⟨⟨G.map fun x => if x.f.name = g.f.name then ⟨⟨x.f.name, R, t⟩, x.b, v'⟩ else x, mv, ?_⟩, ht.mono hS⟩
  refine ⟨(ht.block b h.lt (h.not_b hg)).trans h.blk, ?_, ?_, ?_, ?_, ?_, .inl h.own⟩
  · have e : (G.map fun x => if x.f.name = g.f.name then (⟨⟨x.f.name, R, t⟩, x.b, v'⟩ : Ge) else x).map (fun x => x.f) = (G.map fun x => x.f).map fun f => if f.name = g.f.name then ⟨f.name, R, t⟩ else f := by
      rw [List.map_map, List.map_map]
      congr 1
      funext x
      simp only [Function.comp]
      split <;> rfl
    rw [e]
    exact h.perm.map _
  · have e : (G.map fun x => if x.f.name = g.f.name then (⟨⟨x.f.name, R, t⟩, x.b, v'⟩ : Ge) else x).map (fun x => x.f.name) = G.map fun x => x.f.name := by
      rw [List.map_map]
      congr 1
      funext x
      simp only [Function.comp]
      split <;> rfl
    rw [e]
    exact h.nd
  · intro y hy
    obtain ⟨x, hx, rfl⟩ := List.mem_map.1 hy
    have hn := (h.file x hx).2
    by_cases e : x.f.name = g.f.name
    · obtain rfl := same x hx e
      rw [if_pos rfl]
      exact ⟨hv.mono fun k hk => hk.elim (fun hk => .inl (hS k hk)) .inr, hn⟩
    · rw [if_neg e]
      refine ⟨?_, hn⟩
      have := ((h.file x hx).1.least.tr ht fun k _ hk => h.apart x hx g hg e k hk)
      exact ⟨this.blk, this.row, fun k hk => .inl ((h.file x hx).1.rowS k hk), .inl (h.file x hx).1.own, this.le⟩
  · have old : ∀ x ∈ G, ∀ k, its x.b x.v k → k < w.heap.size := fun x hx => (h.file x hx).1.lt
    have new : ∀ k, its g.b v' k → its g.b g.v k ∨ w.heap.size ≤ k := fun k hk => hk.elim (fun e => .inl (.inl e)) (hv.rowS k)
    intro y hy z hz
    obtain ⟨x, hx, rfl⟩ := List.mem_map.1 hy
    obtain ⟨u, hu, rfl⟩ := List.mem_map.1 hz
    by_cases e : x.f.name = g.f.name <;> by_cases e' : u.f.name = g.f.name
    · rw [if_pos e, if_pos e']
      intro hne
      exact absurd (e.trans e'.symm) hne
    · obtain rfl := same x hx e
      rw [if_pos rfl, if_neg e']
      intro hne k hk hk'
      rcases new k hk with h1 | h1
      · exact h.apart x hg u hu hne k h1 hk'
      · have := old u hu k hk'; omega
    · obtain rfl := same u hu e'
      rw [if_neg e, if_pos rfl]
      intro hne k hk hk'
      rcases new k hk' with h1 | h1
      · exact h.apart x hx u hg hne k hk h1
      · have := old x hx k hk; omega
    · rw [if_neg e, if_neg e']
      exact h.apart x hx u hu
  · rcases h.mp with ⟨h1, h2⟩ | ⟨m, D, e, hs, ho, t⟩
    · exact .inl ⟨h1, by rw [h2]; rfl⟩
    · refine .inr ⟨m, D, e, .inl hs, by rw [List.length_map]; exact own_tr ho ht (h.not_m hg ho), t.same _ fun x => ?_⟩
      split <;> exact ⟨rfl, rfl⟩
/-- A file gets its name. -/
theorem DV.put (h : DV S b d G mv w) {m : Nat} {D : DataW Unit} (hmv : mv = some m) (hs : S m) (ht : Tied D G) (hT : Tidy D) {w1 : World} {g : Ge} (hk : g.f.name.size ≤ 40) (hf : FV S g.b g.f.data g.v g.f.dur w)
    (hA : ∀ x ∈ G, x.f.name ≠ g.f.name → ∀ k, its g.b g.v k → ¬ its x.b x.v k) (hm : ¬ its g.b g.v m) (ho : OwnM w1 m (G.length + 1) (D.put (ky g.f.name) (.lit (.int .i64 (g.b : Int))))) (hg : w.grownBy w1 (some m)) :
    DV S b { d with fs := g.f :: delF d.fs g.f.name } (g :: noG G g.f.name) mv w1 ∧ Tr S w w1 := by
  subst hmv
  have hTr : Tr (fun k => k = m) w w1 := ⟨hg.os, hg.tape, hg.output, hg.size, fun k hk hs => hg.block k hk (fun e => hs (by cases e; rfl))⟩
  have hom : ∃ D', OwnM w m G.length D' := by
    rcases h.mp with ⟨h1, _⟩ | ⟨m', D', e, _, ho', _⟩
    · cases h1
    · cases e; exact ⟨D', ho'⟩
  obtain ⟨D', hom⟩ := hom
  have hbm : b ≠ m := by
    rintro rfl
    obtain ⟨es, clock, hb, _⟩ := hom
    have := h.blk; rw [hb] at this; simp at this
  have old : ∀ x ∈ noG G g.f.name, x ∈ G ∧ x.f.name ≠ g.f.name := fun x hx => ⟨(List.mem_filter.1 hx).1, by simpa using (List.mem_filter.1 hx).2⟩
  refine ⟨⟨(hTr.block b h.lt hbm).trans h.blk, ?_, ?_, ?_, ?_, .inr ⟨m, _, rfl, hs, ?_, ht.put hT h.nd g (by unfold maxLen; omega)⟩, h.own⟩, hTr.mono fun k e => by subst e; exact hs⟩
  · have e : (noG G g.f.name).map (fun x => x.f) = (G.map fun x => x.f).filter fun f => decide (f.name ≠ g.f.name) := by
      unfold noG; rw [List.filter_map]; rfl
    simp only [List.map_cons, e]
    exact (h.perm.filter _).cons _
  · simp only [List.map_cons, List.nodup_cons]
    refine ⟨fun hm => ?_, h.nd.sublist (List.Sublist.map _ List.filter_sublist)⟩
    obtain ⟨x, hx, e⟩ := List.mem_map.1 hm
    exact (old x hx).2 e
  · intro x hx
    rcases List.mem_cons.1 hx with rfl | hx
    · exact ⟨(hf.least.tr hTr fun k _ hk e => hm (e ▸ hk)).mono fun k hk => hk.elim (fun e => e ▸ hf.own) (hf.rowS k), hk⟩
    · have hfx := (h.file x (old x hx).1)
      exact ⟨(hfx.1.least.tr hTr fun k _ hk e => h.not_m (old x hx).1 hom (e ▸ hk)).mono fun k hk => hk.elim (fun e => e ▸ hfx.1.own) (hfx.1.rowS k), hfx.2⟩
  · intro x hx y hy hne j hj hj'
    rcases List.mem_cons.1 hx with rfl | hx <;> rcases List.mem_cons.1 hy with rfl | hy
    · exact hne rfl
    · exact hA y (old y hy).1 (old y hy).2 j hj hj'
    · exact hA x (old x hx).1 (old x hx).2 j hj' hj
    · exact h.apart x (old x hx).1 y (old y hy).1 hne j hj hj'
  · have h1 := own_tight ho
    rw [(ht.put hT h.nd g (by unfold maxLen; omega)).size] at h1
    exact h1
/-- A file's name is struck. -/
theorem DV.del (h : DV S b d G mv w) {m : Nat} {D : DataW Unit} (hmv : mv = some m) (hs : S m) (ht : Tied D G) (ho0 : OwnM w m G.length D) (k : ByteArray) {w1 : World} (ho : OwnM w1 m G.length (D.del (ky k))) (hg : w.grownBy w1 (some m)) :
    DV S b { d with fs := delF d.fs k } (noG G k) mv w1 ∧ Tr (fun k => k = m) w w1 := by
  subst hmv
  have hTr : Tr (fun k => k = m) w w1 := ⟨hg.os, hg.tape, hg.output, hg.size, fun k hk hs => hg.block k hk (fun e => hs (by cases e; rfl))⟩
  have hT : Tidy D := ho0.tidy law9
  have hbm : b ≠ m := by
    rintro rfl
    obtain ⟨es, clock, hb, _⟩ := ho0
    have := h.blk; rw [hb] at this; simp at this
  have old : ∀ x ∈ noG G k, x ∈ G := fun x hx => (List.mem_filter.1 hx).1
  refine ⟨⟨(hTr.block b h.lt hbm).trans h.blk, ?_, h.nd.sublist (List.Sublist.map _ List.filter_sublist), ?_, fun x hx y hy => h.apart x (old x hx) y (old y hy), .inr ⟨m, _, rfl, hs, ?_, ht.del hT h.nd k⟩, h.own⟩, hTr⟩
  · have e : (noG G k).map (fun x => x.f) = (G.map fun x => x.f).filter fun f => decide (f.name ≠ k) := by
      unfold noG; rw [List.filter_map]; rfl
    rw [e]
    exact h.perm.filter _
  · intro x hx
    have hfx := (h.file x (old x hx))
    exact ⟨(hfx.1.least.tr hTr fun k _ hk e => h.not_m (old x hx) ho0 (e ▸ hk)).mono fun k hk => hk.elim (fun e => e ▸ hfx.1.own) (hfx.1.rowS k), hfx.2⟩
  · have h1 := own_tight ho
    rw [(ht.del hT h.nd k).size] at h1
    exact h1
/-- The disk's own numbers have turned. -/
theorem DV.nums (h : DV S b d G mv w) {d' : Dk} (hfs : d'.fs = d.fs) {w' : World} (ht : Tr (fun k => k = b) w w')
    (hb : w'.heap[b]? = some (.cells #[.map mv, .int .i64 (d'.room : Int), .int .i64 (d'.steps : Int), .int .i64 (d'.left : Int), .bool d'.off, .bool d'.sch] 64 (0, 0))) : DV S b d' G mv w' := by
  refine ⟨hb, by rw [hfs]; exact h.perm, h.nd, fun g hg => ⟨?_, (h.file g hg).2⟩, h.apart, ?_, h.own⟩
  · have hf := (h.file g hg).1
    exact (hf.least.tr ht fun k _ hk e => h.not_b hg (e ▸ hk)).mono fun k hk => hk.elim (fun e => e ▸ hf.own) (hf.rowS k)
  · rcases h.mp with h1 | ⟨m, D, e, hs, ho, t⟩
    · exact .inl h1
    · refine .inr ⟨m, D, e, hs, own_tr ho ht ?_, t⟩
      rintro rfl
      obtain ⟨es, clock, hb', _⟩ := ho
      have := h.blk; rw [hb'] at this; simp at this
theorem PD.lt (h : PD S b d w) : b < w.heap.size := let ⟨_, _, h⟩ := h; h.lt
theorem PD.own (h : PD S b d w) : S b := let ⟨_, _, h⟩ := h; h.own
theorem PD.tr {S2 : Nat → Prop} {w' : World} (h : PD S b d w) (ht : Tr S2 w w') (hd : ∀ k, k < w.heap.size → S k → ¬ S2 k) : PD S b d w' := let ⟨G, mv, h⟩ := h; ⟨G, mv, h.tr ht hd⟩
theorem PD.mono {S' : Nat → Prop} (h : PD S b d w) (hS : ∀ k, S k → S' k) : PD S' b d w := let ⟨G, mv, h⟩ := h; ⟨G, mv, h.mono hS⟩
theorem PD.below {w' : World} (h : PD S b d w) (hb : Below w.heap.size w w') : PD S b d w' := let ⟨G, mv, h⟩ := h; ⟨G, mv, h.below hb⟩
/-- Just blocks that are there. -/
theorem PD.now (h : PD S b d w) : PD (fun k => S k ∧ k < w.heap.size) b d w := by
  obtain ⟨G, mv, h⟩ := h
  refine ⟨G, mv, h.blk, h.perm, h.nd, fun g hg => ⟨(h.file g hg).1.least.mono fun k hk => ⟨hk.elim (fun e => e ▸ (h.file g hg).1.own) ((h.file g hg).1.rowS k), (h.file g hg).1.lt k hk⟩, (h.file g hg).2⟩, h.apart, ?_, ⟨h.own, h.lt⟩⟩
  rcases h.mp with h1 | ⟨m, D, e, hs, ho, t⟩
  · exact .inl h1
  · exact .inr ⟨m, D, e, ⟨hs, ho.lt⟩, ho, t⟩
/-- The files stand in another order. -/
theorem PD.perm {d' : Dk} (h : PD S b d w) (hp : d.fs.Perm d'.fs) (hr : d'.room = d.room ∧ d'.steps = d.steps ∧ d'.left = d.left ∧ d'.off = d.off ∧ d'.sch = d.sch) : PD S b d' w := by
  obtain ⟨G, mv, h⟩ := h
  obtain ⟨h1, h2, h3, h4, h5⟩ := hr
  exact ⟨G, mv, by rw [h1, h2, h3, h4, h5]; exact h.blk, h.perm.trans hp, h.nd, h.file, h.apart, h.mp, h.own⟩
theorem Lft.trans {d1 d2 : Dk} {w1 w2 : World} (h : Lft S b d1 w w1) (k : Lft (andNew S w.heap.size) b d2 w1 w2) : Lft S b d2 w w2 :=
  ⟨k.1.mono fun _ hi => hi.elim id fun e => .inr (Nat.le_trans h.2.size e), h.2.trans k.2 fun _ hi => hi⟩
end
end Go.Proofs.Ytpiiknbjllgaoaa

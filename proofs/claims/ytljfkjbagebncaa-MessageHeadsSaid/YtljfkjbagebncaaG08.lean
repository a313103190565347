/-
  Pk: A packer in memory: its bytes, what it knows, and which blocks are its own; what stays as it was.
  Put: What a packer's Byte, Word, Long, Raw, Len, Bytes and New leave and answer; all else is as it was.
  Learn: What a packer's learn leaves; all else is as it was.
  PName: What a packer's Name leaves and answers; all else is as it was.
  Rk: The document's packer in memory: its bytes, what it lists, and which blocks are its own; what stays as it was.
  Rfind: What the document's find answers; nothing is changed.
-/
import Derived.Test.YtljfkjbagebncaaG03
import Derived.Test.YtljfkjbagebncaaG05
import Derived.Maps.OwnSet
import Derived.Maps.AppendAt
import Derived.Deep.AppendLies
import Derived.Deep.LoopGhost

/- Pk -/
namespace Go.Proofs.Ytljfkjbagebncaa
open Go.RowKit
/-- A block of two cells. -/
def Blk (T : TypeId) (w : World) (B : Nat) (a c : Value) : Prop := w.heap[B]? = some (.cells #[a, c] T (0, 0))
section
variable {T : TypeId} {w : World} {B : Nat} {a b : Value} (h : Blk T w B a b)
include h
theorem Blk.lt : B < w.heap.size := (Array.getElem?_eq_some_iff.1 h).1
theorem Blk.cell0 : w.cell? ⟨B, 0, none⟩ = some a := by simp [World.cell?, show w.heap[B]? = _ from h]
theorem Blk.cell1 : w.cell? ⟨B, 1, none⟩ = some b := by simp [World.cell?, show w.heap[B]? = _ from h]
theorem Blk.frozen0 : w.frozen? ⟨B, 0, none⟩ = false := by simp [World.frozen?, show w.heap[B]? = _ from h]
theorem Blk.frozen1 : w.frozen? ⟨B, 1, none⟩ = false := by simp [World.frozen?, show w.heap[B]? = _ from h]
theorem Blk.set0 (v : Value) : Blk T (w.setCell ⟨B, 0, none⟩ v) B v b := heap_setCell_same w B 0 _ _ v h
theorem Blk.set1 (v : Value) : Blk T (w.setCell ⟨B, 1, none⟩ v) B a v := heap_setCell_same w B 1 _ _ v h
theorem Blk.kept {w' : World} {row : Option Nat} (hg : w.grownBy w' row) (hne : some B ≠ row) : Blk T w' B a b := (hg.block B h.lt hne).trans h
theorem Blk.tr {S : Nat → Prop} {w' : World} (ht : Tr S w w') (hS : ¬ S B) : Blk T w' B a b := (ht.block B h.lt hS).trans h
theorem Blk.not_row {base k e size : Nat} {v : Value} {xs : List Value} (hr : w.ownsRow base e size v k xs) (he : T ≠ e) : some B ≠ v.ownBlock := by
  rcases hr.2 with ⟨rfl, _⟩ | ⟨g, cap, cur, rfl, _, hgb, _⟩
  · simp [Value.ownBlock]
  · intro e'
    obtain rfl : B = g := by simpa [Value.ownBlock] using e'
    rw [show w.heap[B]? = _ from h] at hgb
    simp at hgb
    exact he hgb.2
theorem Blk.row {base k e size : Nat} {v u : Value} {xs : List Value} (hr : w.ownsRow base e size v k xs) (he : T ≠ e) (i : Nat) : (w.setCell ⟨B, i, none⟩ u).ownsRow base e size v k xs :=
  hr.kept (row := some B) ⟨rfl, rfl, rfl, by simp, fun k _ hk => heap_setCell_other w ⟨B, i, none⟩ k u (fun e => hk (by simp [e]))⟩ (.inr (h.not_row hr he).symm)
end
theorem row_tr {S : Nat → Prop} {w w' : World} {base e size k : Nat} {v : Value} {xs : List Value} (hr : w.ownsRow base e size v k xs) (ht : Tr S w w') (hS : ∀ k, v.ownBlock = some k → ¬ S k) : w'.ownsRow base e size v k xs := ht.row hr hS
theorem row_lt {w : World} {base e size n : Nat} {v : Value} {xs : List Value} (h : w.ownsRow base e size v n xs) : ∀ j, v.ownBlock = some j → j < w.heap.size := fun j hj => (World.ownsRow.lt h j hj).2
/-- A map from suffixes to places. -/
abbrev Mo (w : World) (mb n : Nat) (D : DataW Unit) : Prop := w.ownsMap Try.prog 9 (plainElem (H := Unit) Try.prog 22) mb n D
def Says (D : DataW Unit) (L : Kn) : Prop := ∀ m : Bs, Maps.has D (.string m) = (find L m).isSome ∧ ∀ a, find L m = some a → D.atKey (.string m) (.lit (.int .u16 0)) = .lit (.int .u16 (a : Int))
def Mp (w : World) (mb n : Nat) (L : Kn) : Prop := ∃ D, Mo w mb n D ∧ Says D L
theorem Mp.lt {w : World} {mb n : Nat} {L : Kn} (h : Mp w mb n L) : mb < w.heap.size := let ⟨_, h, _⟩ := h; h.lt
theorem Mp.kept {w w' : World} {mb n : Nat} {L : Kn} {row : Option Nat} (h : Mp w mb n L) (hg : w.grownBy w' row) (hne : some mb ≠ row) : Mp w' mb n L := let ⟨D, h, hs⟩ := h; ⟨D, h.kept hg hne, hs⟩
theorem Mp.tr {S : Nat → Prop} {w w' : World} {mb n : Nat} {L : Kn} (h : Mp w mb n L) (ht : Tr S w w') (hS : ¬ S mb) : Mp w' mb n L := by
  obtain ⟨D, h, hs⟩ := h
  have hl := h.lt
  obtain ⟨es, clock, hb, r⟩ := h
  exact ⟨D, ⟨es, clock, (ht.block mb hl hS).trans hb, r⟩, hs⟩
theorem Mp.mono {w : World} {mb n n' : Nat} {L : Kn} (h : Mp w mb n L) (hn : n ≤ n') : Mp w mb n' L := let ⟨D, h, hs⟩ := h; ⟨D, h.mono hn, hs⟩
theorem Mp.not_row {w : World} {mb n : Nat} {L : Kn} (h : Mp w mb n L) {base k e size : Nat} {v : Value} {xs : List Value} (hr : w.ownsRow base e size v k xs) : some mb ≠ v.ownBlock := by
  obtain ⟨D, ⟨es, clock, hb, _⟩, _⟩ := h
  rcases hr.2 with ⟨rfl, _⟩ | ⟨g, cap, cur, rfl, _, hgb, _⟩
  · simp [Value.ownBlock]
  · intro e'
    obtain rfl : mb = g := by simpa [Value.ownBlock] using e'
    rw [hb] at hgb
    cases hgb
theorem Mp.not_blk {w : World} {mb n : Nat} {L : Kn} (h : Mp w mb n L) {T : TypeId} {b : Nat} {x y : Value} (hk : Blk T w b x y) : mb ≠ b := by
  obtain ⟨D, ⟨es, clock, hb, _⟩, _⟩ := h
  rintro rfl
  rw [show w.heap[mb]? = _ from hk] at hb
  cases hb
/-- What stands in the packer's second field. -/
def MpV (S : Nat → Prop) (mv : Value) (n : Nat) (L : Kn) (w : World) : Prop := (mv = .map none ∧ L = []) ∨ ∃ mb, mv = .map (some mb) ∧ S mb ∧ Mp w mb n L
/-- A packer: its two fields, its bytes, what it knows; S: the blocks that are its own. -/
structure PV (S : Nat → Prop) (b : Nat) (B : Bs) (L : Kn) (sv mv : Value) (w : World) : Prop where
  blk : Blk 130 w b sv mv
  row : w.ownsRow 0 5 1 sv B.length (ub B)
  rowS : ∀ k, sv.ownBlock = some k → S k
  own : S b
  map : MpV S mv L.length L w
def PK (S : Nat → Prop) (b : Nat) (B : Bs) (L : Kn) (w : World) : Prop := ∃ sv mv, PV S b B L sv mv w
theorem MpV.tr {S S2 : Nat → Prop} {mv : Value} {n : Nat} {L : Kn} {w w' : World} (h : MpV S mv n L w) (ht : Tr S2 w w') (hd : ∀ k, k < w.heap.size → S k → ¬ S2 k) : MpV S mv n L w' := by
  rcases h with h | ⟨mb, e, hs, hm⟩
  · exact .inl h
  · exact .inr ⟨mb, e, hs, hm.tr ht (hd _ hm.lt hs)⟩
theorem PV.tr {S S2 : Nat → Prop} {b : Nat} {B : Bs} {L : Kn} {sv mv : Value} {w w' : World} (h : PV S b B L sv mv w) (ht : Tr S2 w w') (hd : ∀ k, k < w.heap.size → S k → ¬ S2 k) : PV S b B L sv mv w' :=
  ⟨h.blk.tr ht (hd _ h.blk.lt h.own), h.row |> fun r => row_tr r ht (fun k hk => hd _ (row_lt r k hk) (h.rowS k hk)), h.rowS, h.own, h.map.tr ht hd⟩
theorem PV.below {S : Nat → Prop} {b : Nat} {B : Bs} {L : Kn} {sv mv : Value} {w w' : World} (h : PV S b B L sv mv w) (hb : Below w.heap.size w w') : PV S b B L sv mv w' :=
  h.tr (Tr.of_below (S := fun _ => False) hb) (fun _ _ _ h => h)
theorem PK.tr {S S2 : Nat → Prop} {b : Nat} {B : Bs} {L : Kn} {w w' : World} (h : PK S b B L w) (ht : Tr S2 w w') (hd : ∀ k, k < w.heap.size → S k → ¬ S2 k) : PK S b B L w' := let ⟨sv, mv, h⟩ := h; ⟨sv, mv, h.tr ht hd⟩
theorem PK.below {S : Nat → Prop} {b : Nat} {B : Bs} {L : Kn} {w w' : World} (h : PK S b B L w) (hb : Below w.heap.size w w') : PK S b B L w' := let ⟨sv, mv, h⟩ := h; ⟨sv, mv, h.below hb⟩
theorem PV.mono {S S' : Nat → Prop} {b : Nat} {B : Bs} {L : Kn} {sv mv : Value} {w : World} (h : PV S b B L sv mv w) (hS : ∀ k, S k → S' k) : PV S' b B L sv mv w :=
  ⟨h.blk, h.row, fun k hk => hS k (h.rowS k hk), hS _ h.own, by
    rcases h.map with h | ⟨mb, e, hs, hm⟩
    · exact .inl h
    · exact .inr ⟨mb, e, hS _ hs, hm⟩⟩
theorem PK.mono {S S' : Nat → Prop} {b : Nat} {B : Bs} {L : Kn} {w : World} (h : PK S b B L w) (hS : ∀ k, S k → S' k) : PK S' b B L w := let ⟨sv, mv, h⟩ := h; ⟨sv, mv, h.mono hS⟩
/-- What a call leaves: the packer, in its own blocks and new ones; all else as it was. -/
def Lft (S : Nat → Prop) (b : Nat) (B : Bs) (L : Kn) (w w' : World) : Prop := PK (andNew S w.heap.size) b B L w' ∧ Tr S w w'
theorem Lft.trans {S : Nat → Prop} {b : Nat} {B B' : Bs} {L L' : Kn} {w1 w2 w3 : World} (h : Lft S b B L w1 w2) (k : Lft (andNew S w1.heap.size) b B' L' w2 w3) : Lft S b B' L' w1 w3 := by
  refine ⟨k.1.mono fun i hi => ?_, h.2.trans k.2 fun i hi => hi⟩
  rcases hi with hi | hi
  · exact hi
  · exact .inr (Nat.le_trans h.2.size hi)
theorem Lft.pre {S : Nat → Prop} {b : Nat} {B : Bs} {L : Kn} {w1 w2 w3 : World} (h : Below w1.heap.size w1 w2) (k : Lft S b B L w2 w3) : Lft S b B L w1 w3 :=
  ⟨k.1.mono fun i hi => by
    rcases hi with hi | hi
    · exact .inl hi
    · exact .inr (Nat.le_trans h.size hi), (Tr.of_below h).then k.2⟩
theorem Lft.refl {S : Nat → Prop} {b : Nat} {B : Bs} {L : Kn} {w : World} (h : PK S b B L w) : Lft S b B L w w := ⟨h.mono fun _ => .inl, Tr.refl _ _⟩
theorem Lft.post {S : Nat → Prop} {b : Nat} {B : Bs} {L : Kn} {w1 w2 w3 : World} (h : Lft S b B L w1 w2) (k : Below w2.heap.size w2 w3) : Lft S b B L w1 w3 := ⟨h.1.below k, h.2.then (Tr.of_below k)⟩
/-- Where the bytes grow: what the walk wants, and what is left. -/
theorem PV.append {S : Nat → Prop} {b : Nat} {B l : Bs} {L : Kn} {sv mv v' : Value} {w wa w1 : World} (h : PV S b B L sv mv w) (ha : Below w.heap.size w wa)
    (hown : w1.ownsRow 0 5 1 v' (B.length + l.length) (ub B ++ ub l)) (hg : wa.grownBy w1 sv.ownBlock) (hloc : v'.ownBlock = sv.ownBlock ∨ v'.ownBlock = some wa.heap.size ∨ v'.ownBlock = none) :
    Blk 130 w1 b sv mv ∧ Lft S b (B ++ l) L w (w1.setCell ⟨b, 0, none⟩ v') := by
  have h2 := h.below ha
  have hk1 := h2.blk.kept hg (h2.blk.not_row h2.row (by decide))
  have ht : Tr S w w1 := (Tr.of_below ha).grown hg (fun k hk => .inl (h.rowS k hk))
  refine ⟨hk1, ⟨v', mv, ⟨hk1.set0 v', ?_, ?_, .inl h.own, ?_⟩⟩, ht.setCell (.inl h.own) _⟩
  · have := hk1.row hown (by decide) (u := v') 0
    rw [List.length_append, ub, List.map_append]
    exact this
  · intro k hk
    rcases hloc with e | e | e
    · exact .inl (h.rowS k (by rw [← e]; exact hk))
    · rw [hk] at e; cases e; exact .inr ha.size
    · rw [hk] at e; cases e
  · rcases h2.map with hm | ⟨mb, e, hs, hm⟩
    · exact .inl hm
    · refine .inr ⟨mb, e, .inl hs, ?_⟩
      have m1 := hm.kept hg (hm.not_row h2.row)
      exact m1.tr (S := (· = b)) (Tr.setCell (S := (· = b)) (Tr.refl _ _) (.inl rfl) _) (fun e => m1.not_blk hk1 e)
/-- Where a text's bytes are put behind a row: the new row is the old one's, or new. -/
theorem run_app_string (w : World) (t u ty e : TypeId) (i : TypeInfo) (ht : Try.prog.underlying t = some (.slice e)) (hu : Try.prog.underlying u = some .string) (hi : Try.prog.info? e = some i) (hz : i.zero = some (.int .u8 0))
    (hsize : i.size = 1) (hby : i.bytes = 1) (v : Value) (n : Nat) (xs : List Value) (hown : w.ownsRow 0 e 1 v n xs) (s : ByteArray) (h63 : n + s.size ≤ 1000000000) :
    ∃ v' w', (Builtin.append_ #[t, u] ty #[v, .string s]).run Try.prog w = .ok v' w' ∧ w'.ownsRow 0 e 1 v' (n + s.size) (xs ++ Lib.strCells s) ∧ w.grownBy w' v.ownBlock ∧ (v'.ownBlock = v.ownBlock ∨ v'.ownBlock = some w.heap.size ∨ v'.ownBlock = none) := by
  obtain ⟨v', w', hr, h2, h3, h4⟩ := Lib.run_append_own_string (P := Try.prog) w 0 t u ty e i ht hu hi hz hsize hby v n xs hown s (by unfold maxLen; omega) (by omega) (Nat.zero_le _)
  refine ⟨v', w', hr, h2, h3, ?_⟩
  rcases hown.2 with ⟨rfl, rfl⟩ | ⟨g, cap, cur, rfl, hbg, hg, hnc, hcm, hcs, htake⟩
  · by_cases hm : s.size = 0
    · rw [h4.2 ⟨rfl, hm⟩]; exact .inl rfl
    · have h := run_append_nil_string (P := Try.prog) w t u ty e i (.int .u8 0) ht hu hi hz s (by omega) (by omega) (by rw [hby]; omega)
      rw [h] at hr
      cases hr
      exact .inr (.inl rfl)
  · by_cases hroom : n + s.size ≤ cap
    · have h := Lib.run_append_room_string (P := Try.prog) w t u ty e i ht hu hi hsize g n cap cur hg s hroom (by omega)
      rw [h] at hr
      cases hr
      exact .inl rfl
    · have holds : ∀ j u, xs[j]? = some u → w.cell? ((⟨g, 0, none⟩ : Addr).add j) = some u := World.ownsRow.cells hown (g := g) rfl
      have hxl : xs.length = n := by simpa using hown.1
      have h := Lib.run_append_grow_string (P := Try.prog) w t u ty e i (.int .u8 0) ht hu hi hz ⟨g, 0, none⟩ n cap xs (by rw [hsize]; simpa using hxl) holds s (by omega) (by omega) (by rw [hby]; exact growslice_fits (by omega) (by omega))
      rw [h] at hr
      cases hr
      exact .inr (.inl rfl)
theorem wpList_app_string (w : World) {ops : Array Oper} {rest : List Oper} {o : Oper} {a : Act} {Q : Exit → Act → World → Prop} (hgd : o.guard = none) (sl x : Operand) (t u : TypeId)
    (ho : o.op = .call { callee := .builtin .append, args := #[sl, x], argTypes := #[t, u] })
    (e : TypeId) (i : TypeInfo) (ht : Try.prog.underlying t = some (.slice e)) (hu : Try.prog.underlying u = some .string) (hi : Try.prog.info? e = some i) (hz : i.zero = some (.int .u8 0))
    (hsize : i.size = 1) (hby : i.bytes = 1)
    (v : Value) (n : Nat) (xs : List Value) (hs : a.eval sl = v) (hown : w.ownsRow 0 e 1 v n xs) (s : ByteArray) (hx : a.eval x = .string s) (h63 : n + s.size ≤ 1000000000)
    (h : ∀ v' w', w'.ownsRow 0 e 1 v' (n + s.size) (xs ++ Lib.strCells s) → w.grownBy w' v.ownBlock → (v'.ownBlock = v.ownBlock ∨ v'.ownBlock = some w.heap.size ∨ v'.ownBlock = none) → wpList Try.prog ops Q rest (a.put o.dst v') w') : wpList Try.prog ops Q (o :: rest) a w := by
  refine wpList_plain hgd fun K hK => ?_
  obtain ⟨v', w', hr, h2, h3, h4⟩ := run_app_string w t u o.type e i ht hu hi hz hsize hby v n xs hown s h63
  unfold Oper.wp execOp
  simp only [ho, resolve, invoke, builtin, Sem.run_bind, Sem.run_pure, Result.andThen_ok, List.map_toArray, List.map_cons, List.map_nil, hs, hx, hr]
  exact hK _ _ (h v' w' h2 h3 h4)
end Go.Proofs.Ytljfkjbagebncaa

/- Put -/
namespace Go.Proofs.Ytljfkjbagebncaa
open Go.RowKit
set_option maxRecDepth 100000 in
set_option maxHeartbeats 1600000 in
theorem praw_any (s : ByteArray) (S : Nat → Prop) (b : Nat) (B : Bs) (L : Kn) (w : World) (h : PK S b B L w) (hB : B.length + s.size ≤ 1000000) :
    Calls Try.prog 90 #[ptr b, .string s] w fun e w' => (∃ v, e = .returned v) ∧ Lft S b (B ++ s.data.toList) L w w' := by
  obtain ⟨sv, mv, hp⟩ := h
  have c0 := hp.blk.cell0
  obtain ⟨a, cap, rfl⟩ := row_slice hp.row
  have HP := Lib.hid hp
  have HSZ := Lib.hid (size_list s)
  obtain ⟨n, hn⟩ : ∃ n, n = B.length := ⟨_, rfl⟩
  have HN := Lib.hid hn
  have hrow := hp.row
  rw [← hn] at hrow hB c0 
  have HR := Lib.hid hrow
  clear hp hn hrow
  obtain ⟨i0, hi, hz0, hz1, hz2⟩ := info_parts info5
  go_enter Try.func90, Try.ntmps90
  go_wp2_with (at_builtin; refine wpList_app_string _ rfl (.tmp 10) (.tmp 11) 47 9 rfl 5 i0 Try.underlying47 Try.underlying9 hi hz0 hz1 hz2 _ n _ rfl HR.out s rfl (by omega) ?_)
  intro v' w1 hown hg hloc
  obtain ⟨a', cap', rfl⟩ := row_slice hown
  have A := Lib.hid (HP.out.append (l := s.data.toList) (v' := .slice a' (n + s.size) cap') (Below.refl _ _) (by rw [← HN.out, ← HSZ.out]; exact hown) (by rw [← HN.out]; exact hg) (by rw [← HN.out]; exact hloc))
  have d0 := A.out.1.cell0
  have f0 := A.out.1.frozen0
  clear hown hg hloc c0
  go_wp2
  go_end0
  exact ⟨⟨_, rfl⟩, A.out.2⟩
set_option maxRecDepth 100000 in
set_option maxHeartbeats 1600000 in
theorem put_any (l : Bs) (g c : Nat) (S : Nat → Prop) (b : Nat) (B : Bs) (L : Kn) (w : World) (h : PK S b B L w) (hB : B.length + l.length ≤ 1000000)
    (hc : ∀ j u, (ub l)[j]? = some u → w.cell? ((⟨g, 0, none⟩ : Addr).add j) = some u) :
    Calls Try.prog 91 #[ptr b, .slice (some ⟨g, 0, none⟩) l.length c] w fun e w' => (∃ v, e = .returned v) ∧ Lft S b (B ++ l) L w w' := by
  obtain ⟨sv, mv, hp⟩ := h
  have c0 := hp.blk.cell0
  obtain ⟨a, cap, rfl⟩ := row_slice hp.row
  have HP := Lib.hid hp
  have HC := Lib.hid hc
  obtain ⟨n, hn⟩ : ∃ n, n = B.length := ⟨_, rfl⟩
  have HN := Lib.hid hn
  obtain ⟨m, hm⟩ : ∃ m, m = l.length := ⟨_, rfl⟩
  have HM := Lib.hid hm
  have hrow := hp.row
  rw [← hm] at hB ⊢
  rw [← hn] at hrow hB c0
  have HR := Lib.hid hrow
  clear hp hn hrow hc hm
  obtain ⟨i0, hi, hz0, hz1, hz2⟩ := info_parts info5
  go_enter Try.func91, Try.ntmps91
  go_wp2_with (at_builtin; refine wpList_append_own_at _ rfl (.tmp 10) (.tmp 11) 47 rfl 0 5 i0 (.int .u8 0) 1 1 Try.underlying47 hi hz0 hz1 hz2 rfl (by decide) _ n _ rfl HR.out ⟨g, 0, none⟩ m c (ub l) rfl (by rw [HM.out]; simp [ub]) HC.out (by simp [ub, Value.oneCell']) (by unfold maxLen; omega) (by omega) (Nat.zero_le _) ?_)
  intro v' w1 hown hg _ hloc
  obtain ⟨a', cap', rfl⟩ := row_slice hown
  have A := Lib.hid (HP.out.append (l := l) (v' := .slice a' (n + m) cap') (Below.refl _ _) (by rw [← HN.out, ← HM.out]; exact hown) (by rw [← HN.out]; exact hg) (by rw [← HN.out]; exact hloc.imp id .inl))
  have d0 := A.out.1.cell0
  have f0 := A.out.1.frozen0
  clear hown hg hloc c0
  go_wp2
  go_end0
  exact ⟨⟨_, rfl⟩, A.out.2⟩
theorem bytes_new (w : World) (l : Bs) : ∀ j u, (ub l)[j]? = some u → (w.alloc (.cells (ub l).toArray 5)).cell? ((⟨w.heap.size, 0, none⟩ : Addr).add j) = some u := by
  intro j u hj
  exact World.news_of_block (cs := (ub l).toArray) (t := 5) (fr := (0, 0)) (heap_alloc_new w _) j u (by simpa using hj)
theorem ub_word (x : Nat) (hx : x < 65536) : (ub (word x)).toArray = #[.int .u8 ((x : Int) / 256), .int .u8 ((x : Int) % 256)] := by
  have e1 : (UInt8.ofNat (x / 256)).toNat = x / 256 := by simp; omega
  have e2 : (UInt8.ofNat x).toNat = x % 256 := by simp
  simp only [ub, word, List.map_cons, List.map_nil, e1, e2]
  rfl
/-- A number in four bytes. -/
def long (n : Nat) : Bs := [UInt8.ofNat (n / 16777216), UInt8.ofNat (n / 65536), UInt8.ofNat (n / 256), UInt8.ofNat n]
set_option maxRecDepth 100000 in
set_option maxHeartbeats 1600000 in
theorem pword_any (x : Nat) (hx : x < 65536) (S : Nat → Prop) (b : Nat) (B : Bs) (L : Kn) (w : World) (h : PK S b B L w) (hB : B.length + 2 ≤ 1000000) :
    Calls Try.prog 62 #[ptr b, .int .u16 (x : Int)] w fun e w' => (∃ v, e = .returned v) ∧ Lft S b (B ++ word x) L w w' := by
  have C := put_any (word x) w.heap.size 2 S b B L (w.alloc (.cells (ub (word x)).toArray 5)) (h.below ((Below.refl _ _).alloc (Nat.le_refl _) _)) hB (bytes_new w (word x))
  rw [ub_word x hx] at C
  have HC := Lib.hid C
  have hx1 : (x : Int) < 65536 := by omega
  clear h C
  go_enter Try.func62, Try.ntmps62
  go_wp2_with fail
  refine HC.out.mono ?_
  rintro e w1 ⟨⟨v, rfl⟩, h1⟩
  go_wp2
  go_end0
  exact ⟨⟨_, rfl⟩, h1.pre ((Below.refl _ _).alloc (Nat.le_refl _) _)⟩
theorem ub_long (z : Int) (h1 : 0 ≤ z) (h2 : z < 4294967296) : (ub (long z.toNat)).toArray = #[.int .u8 (z / 16777216), .int .u8 (z / 65536 % 256), .int .u8 (z / 256 % 256), .int .u8 (z % 256)] := by
  have e1 : ((UInt8.ofNat (z.toNat / 16777216)).toNat : Int) = z / 16777216 := by simp; omega
  have e2 : ((UInt8.ofNat (z.toNat / 65536)).toNat : Int) = z / 65536 % 256 := by simp; omega
  have e3 : ((UInt8.ofNat (z.toNat / 256)).toNat : Int) = z / 256 % 256 := by simp; omega
  have e4 : ((UInt8.ofNat z.toNat).toNat : Int) = z % 256 := by simp; omega
  simp only [ub, long, List.map_cons, List.map_nil, e1, e2, e3, e4]
set_option maxRecDepth 100000 in
set_option maxHeartbeats 1600000 in
theorem plong_any (z : Int) (hx1 : 0 ≤ z) (hx2 : z < 4294967296) (S : Nat → Prop) (b : Nat) (B : Bs) (L : Kn) (w : World) (h : PK S b B L w) (hB : B.length + 4 ≤ 1000000) :
    Calls Try.prog 92 #[ptr b, .int .u32 z] w fun e w' => (∃ v, e = .returned v) ∧ Lft S b (B ++ long z.toNat) L w w' := by
  have C := put_any (long z.toNat) w.heap.size 4 S b B L (w.alloc (.cells (ub (long z.toNat)).toArray 5)) (h.below ((Below.refl _ _).alloc (Nat.le_refl _) _)) hB (bytes_new w (long z.toNat))
  rw [ub_long z hx1 hx2] at C
  have HC := Lib.hid C
  clear h C
  go_enter Try.func92, Try.ntmps92
  go_wp2_with fail
  refine HC.out.mono ?_
  rintro e w1 ⟨⟨v, rfl⟩, h1⟩
  go_wp2
  go_end0
  exact ⟨⟨_, rfl⟩, h1.pre ((Below.refl _ _).alloc (Nat.le_refl _) _)⟩
set_option maxRecDepth 100000 in
set_option maxHeartbeats 1600000 in
theorem plen_any (S : Nat → Prop) (b : Nat) (B : Bs) (L : Kn) (w : World) (h : PK S b B L w) :
    Calls Try.prog 58 #[ptr b] w fun e w' => e = .returned (.int .i64 (B.length : Int)) ∧ w = w' := by
  obtain ⟨sv, mv, hp⟩ := h
  have c0 := hp.blk.cell0
  obtain ⟨a, cap, rfl⟩ := row_slice hp.row
  clear hp
  go_enter Try.func58, Try.ntmps58
  go_wp2
  go_ret
  exact ⟨rfl, rfl⟩
set_option maxRecDepth 100000 in
set_option maxHeartbeats 1600000 in
theorem pbytes_any (S : Nat → Prop) (b : Nat) (B : Bs) (L : Kn) (w : World) (h : PK S b B L w) :
    Calls Try.prog 65 #[ptr b] w fun e w' => e = .returned (str B) ∧ w = w' := by
  obtain ⟨sv, mv, hp⟩ := h
  have c0 := hp.blk.cell0
  obtain ⟨a, cap, rfl⟩ := row_slice hp.row
  have hconv := row_back hp.row
  clear hp
  go_enter Try.func65, Try.ntmps65
  go_wp2
  go_ret
  exact ⟨rfl, rfl⟩
theorem pk_new (w : World) (S : Nat → Prop) (hS : S w.heap.size) : PK S w.heap.size [] [] (w.alloc (.cells #[.slice none 0 0, .map none] 130)) :=
  ⟨_, _, ⟨heap_alloc_new w _, World.ownsRow_nil _ _ _ _, fun k hk => by simp [Value.ownBlock] at hk, hS, .inl ⟨rfl, rfl⟩⟩⟩
set_option maxRecDepth 100000 in
set_option maxHeartbeats 1600000 in
theorem new_any (w : World) :
    Calls Try.prog 56 #[] w fun e w' => e = .returned (ptr w.heap.size) ∧ PK (w.heap.size ≤ ·) w.heap.size [] [] w' ∧ Below w.heap.size w w' := by
  have H := Lib.hid (pk_new w (w.heap.size ≤ ·) (Nat.le_refl _))
  go_enter Try.func56, Try.ntmps56
  go_wp2
  go_ret
  exact ⟨rfl, H.out, (Below.refl _ _).alloc (Nat.le_refl _) _⟩
end Go.Proofs.Ytljfkjbagebncaa

/- Learn -/
namespace Go.Proofs.Ytljfkjbagebncaa
open Go.RowKit
open Go.Maps (Keyed)
theorem law9 : Keyed Try.prog 9 := Maps.string_keyed Try.underlying9
theorem zero29 (w : World) : (zeroValue 22).run Try.prog w = .ok (.int .u16 0) w := by kernel_rfl
theorem wf16 {a : Nat} (h : a < 65536) : (Lit.int .u16 (a : Int)).wf = true := by
  simp [Lit.wf, IntKind.min, IntKind.max, IntKind.signed, IntKind.bits]; omega
theorem says_nil : Says (.map []) [] := fun m => ⟨by simp [Maps.has, find], fun a h => by simp [find] at h⟩
theorem says_put {D : DataW Unit} {L : Kn} {n : Bs} {a : Nat} (h : Says D L) (hD : Maps.IsMap D) (hf : find L n = none) : Says (D.put (.string n) (.lit (.int .u16 (a : Int)))) (L ++ [(n, a)]) := by
  intro m
  by_cases e : n = m
  · subst e
    have hk : WideAt.IsKeyLit (.string n) := trivial
    rw [find_snoc, hf]
    refine ⟨by rw [Maps.has_put_same hD hk]; simp, fun b hb => ?_⟩
    have : a = b := by simpa using hb
    subst this
    exact Maps.atKey_put_same hD hk _ _
  · have hne : Lit.string m ≠ Lit.string n := fun h => e (by injection h with h; exact h.symm)
    have e2 : find (L ++ [(n, a)]) m = find L m := by
      rw [find_snoc]
      cases find L m with
      | some b => rfl
      | none => simp [e]
    rw [e2, Maps.has_put_other hne, Maps.atKey_put_other hne]
    exact h m
theorem look_yes {w : World} {mb n a : Nat} {L : Kn} (h : Mp w mb n L) (s : ByteArray) (hs : s.size ≤ maxLen) (hf : find L s.data.toList = some a) :
    (Instr.lookup 128 (.map (some mb)) (.string s) true).run Try.prog w = .ok (.tuple #[.int .u16 (a : Int), .bool true]) w := by
  obtain ⟨D, ho, hsay⟩ := h
  obtain ⟨v, ps, hr, hv⟩ := ho.look_ok law9 Try.underlying128 (zero29 w) (plainElem_int Try.underlying22 (wf16 (a := 0) (by decide))) (WideMaps.keyOf_string_mk Try.underlying9 hs)
  obtain ⟨h1, h2⟩ := hsay s.data.toList
  rw [h2 a hf] at hv
  obtain ⟨c, rfl, hc, _⟩ := plainElem_int_inv Try.underlying22 hv
  have : (a : Int) = c := by simp at hc; exact hc.1
  rw [hr, h1, hf, this]; rfl
theorem look_no {w : World} {mb n : Nat} {L : Kn} (h : Mp w mb n L) (s : ByteArray) (hs : s.size ≤ maxLen) (hf : find L s.data.toList = none) :
    (Instr.lookup 128 (.map (some mb)) (.string s) true).run Try.prog w = .ok (.tuple #[.int .u16 0, .bool false]) w := by
  obtain ⟨D, ho, hsay⟩ := h
  obtain ⟨v, ps, hr, hv⟩ := ho.look_ok law9 Try.underlying128 (zero29 w) (plainElem_int Try.underlying22 (wf16 (a := 0) (by decide))) (WideMaps.keyOf_string_mk Try.underlying9 hs)
  obtain ⟨h1, h2⟩ := hsay s.data.toList
  rw [hf] at h1
  have h3 : Maps.has D (.string s.data.toList) = false := h1
  rw [Maps.atKey_of_not_has h3] at hv
  obtain ⟨c, rfl, hc, _⟩ := plainElem_int_inv Try.underlying22 hv
  have : (0 : Int) = c := by simp at hc; exact hc.1
  rw [hr, h3, ← this]
theorem look_none (w : World) (s : ByteArray) (hs : s.size ≤ maxLen) : (Instr.lookup 128 (.map none) (.string s) true).run Try.prog w = .ok (.tuple #[.int .u16 0, .bool false]) w :=
  Maps.look_nil true law9 Try.underlying128 (zero29 w) (WideMaps.keyOf_string_mk Try.underlying9 hs)
theorem more_far {B : Bs} {L : Kn} {n : Bs} (h : ¬ B.length < 16384) : more B L n = L := by unfold more; rw [if_neg h]
theorem more_near {B : Bs} {L : Kn} {n : Bs} (h : B.length < 16384) : more B L n = L ++ [(n, B.length)] := by unfold more; rw [if_pos h]
/-- Where the map grows: what is left. -/
theorem PV.learnt {S : Nat → Prop} {b mb : Nat} {B : Bs} {L : Kn} {sv : Value} {w w1 : World} {D : DataW Unit} {n : Bs} (h : PV S b B L sv (.map (some mb)) w) (hs : Says D L)
    (ho : Mo w1 mb (L.length + 1) (D.put (.string n) (.lit (.int .u16 (B.length : Int))))) (hg : w.grownBy w1 (some mb)) (hm : S mb) (hmp : Mp w mb L.length L) (hf : find L n = none) (hD : Maps.IsMap D) :
    Lft S b B (L ++ [(n, B.length)]) w w1 := by
  refine ⟨⟨sv, .map (some mb), ⟨h.blk.kept hg (fun e => hmp.not_blk h.blk (by simpa using e.symm)), ?_, fun k hk => .inl (h.rowS k hk), .inl h.own, ?_⟩⟩, (Tr.refl _ _).grown hg (fun k hk => by cases hk; exact .inl hm)⟩
  · exact h.row.kept hg (.inr (fun e => hmp.not_row h.row e.symm))
  · refine .inr ⟨mb, rfl, .inl hm, ?_⟩
    rw [List.length_append]
    exact ⟨_, ho, says_put hs hD hf⟩
theorem eqlSome (mb : Nat) (w : World) : (binOp .eql 128 (.map (some mb)) (.map none)).run Try.prog w = .ok (.bool false) w := by kernel_rfl
theorem eqlNil (w : World) : (binOp .eql 128 (.map none) (.map none)).run Try.prog w = .ok (.bool true) w := by kernel_rfl
set_option maxRecDepth 100000 in
set_option maxHeartbeats 1600000 in
theorem learn_far (s : ByteArray) (S : Nat → Prop) (b : Nat) (B : Bs) (L : Kn) (w : World) (h : PK S b B L w) (hB : ¬ B.length < 16384) (hB2 : B.length ≤ 1000000) :
    Calls Try.prog 89 #[ptr b, .string s] w fun e w' => (∃ v, e = .returned v) ∧ Lft S b B (more B L s.data.toList) w w' := by
  rw [more_far hB]
  obtain ⟨sv, mv, hp⟩ := h
  have c0 := hp.blk.cell0
  obtain ⟨a, cap, rfl⟩ := row_slice hp.row
  have HP : Hid (PK S b B L w) := Lib.hid ⟨_, _, hp⟩
  obtain ⟨n, hn⟩ : ∃ n, n = B.length := ⟨_, rfl⟩
  rw [← hn] at hB hB2 c0
  have q : (16384 : Int) ≤ (n : Int) := by omega
  clear hp hn
  go_enter Try.func89, Try.ntmps89
  go_wp2
  refine bodyPost_ret (results_none rfl _ _ _) rfl ?_
  exact ⟨⟨_, rfl⟩, Lft.refl HP.out⟩
set_option maxRecDepth 100000 in
set_option maxHeartbeats 1600000 in
theorem learn_some (s : ByteArray) (hs : s.size ≤ maxLen) (S : Nat → Prop) (b mb : Nat) (B : Bs) (L : Kn) (sv : Value) (w : World) (hp : PV S b B L sv (.map (some mb)) w) (hm : S mb) (hmp : Mp w mb L.length L) (hB : B.length < 16384) (hL : L.length ≤ 1000000) (hf : find L s.data.toList = none) :
    Calls Try.prog 89 #[ptr b, .string s] w fun e w' => (∃ v, e = .returned v) ∧ Lft S b B (L ++ [(s.data.toList, B.length)]) w w' := by
  have c0 := hp.blk.cell0
  have c1 := hp.blk.cell1
  obtain ⟨a, cap, rfl⟩ := row_slice hp.row
  have HP := Lib.hid hp
  obtain ⟨D, hown, hsay⟩ := hmp
  have HM := Lib.hid (⟨D, hown, hsay⟩ : Mp w mb L.length L)
  have HO := Lib.hid hown
  have HS := Lib.hid hsay
  have HD := Lib.hid hown.isMap
  have HF := Lib.hid hf
  obtain ⟨n, hn⟩ : ∃ n, n = B.length := ⟨_, rfl⟩
  have HN := Lib.hid hn
  rw [← hn] at hB c0
  have q : (n : Int) < 16384 := by omega
  clear hp hn hown hsay hf
  have he := eqlSome mb
  have q' : decide ((16384 : Int) ≤ (n : Int)) = false := by simp; omega
  have x1 : IntKind.u16.wrap (n : Int) = (n : Int) := by simp [IntKind.wrap, IntKind.bits, IntKind.signed]; omega
  go_enter Try.func89, Try.ntmps89
  go_wp2
  go_still_tail 11, (by kernel_rfl)
  change wpList _ _ _ _ _ w.drew
  go_wp2_with (at_mapUpdate; refine wpList_mapUpdate_own _ rfl (.tmp 22) (.tmp 23) (.tmp 29) 128 rfl 9 22 law9 Try.underlying128 _ mb L.length D rfl HO.out.drew (by unfold maxLen; omega) _ _ (.string s.data.toList) rfl rfl (WideMaps.keyOf_string_mk Try.underlying9 hs) (.lit (.int .u16 (n : Int))) [] (plainElem_int Try.underlying22 (wf16 (by omega))) ?_)
  intro w1 hown1 hgrow1
  have A := Lib.hid (HP.out.learnt (n := s.data.toList) (w1 := w1) HS.out (by rw [← HN.out]; exact hown1) ⟨hgrow1.os, hgrow1.tape, hgrow1.output, hgrow1.size, hgrow1.block⟩ hm HM.out HF.out HD.out)
  clear hown1 hgrow1 c0 c1
  go_wp2
  go_end0
  exact ⟨⟨_, rfl⟩, A.out⟩
/-- The packer behind its first map. -/
theorem PV.mapped {S : Nat → Prop} {b : Nat} {B : Bs} {sv mv : Value} {w : World} (h : PV S b B [] sv mv w) :
    PV (andNew S w.heap.size) b B [] sv (.map (some w.heap.size)) ((w.setCell ⟨b, 1, none⟩ (.map (some w.heap.size))).alloc (.map #[] 0)) ∧ Tr S w ((w.setCell ⟨b, 1, none⟩ (.map (some w.heap.size))).alloc (.map #[] 0)) ∧
      Mo ((w.setCell ⟨b, 1, none⟩ (.map (some w.heap.size))).alloc (.map #[] 0)) w.heap.size 0 (.map []) := by
  have hm := World.ownsMap_made (w.setCell ⟨b, 1, none⟩ (.map (some w.heap.size))) Try.prog 9 (plainElem (H := Unit) Try.prog 22)
  rw [World.size_setCell] at hm
  refine ⟨⟨(h.blk.set1 _).tr ((Tr.refl (fun _ => False) _).alloc _) (fun h => h), (h.blk.row h.row (by decide) 1).alloc _, fun k hk => .inl (h.rowS k hk), .inl h.own, .inr ⟨_, rfl, .inr (Nat.le_refl _), ⟨_, hm, says_nil⟩⟩⟩, ((Tr.refl _ _).setCell (.inl h.own) _).alloc _, hm⟩
set_option maxRecDepth 100000 in
set_option maxHeartbeats 1600000 in
theorem learn_nil (s : ByteArray) (hs : s.size ≤ maxLen) (S : Nat → Prop) (b : Nat) (B : Bs) (sv : Value) (w : World) (hp : PV S b B [] sv (.map none) w) (hB : B.length < 16384) :
    Calls Try.prog 89 #[ptr b, .string s] w fun e w' => (∃ v, e = .returned v) ∧ Lft S b B [(s.data.toList, B.length)] w w' := by
  have c0 := hp.blk.cell0
  have c1 := hp.blk.cell1
  have f1 := hp.blk.frozen1
  obtain ⟨a, cap, rfl⟩ := row_slice hp.row
  have hb := hp.blk.lt
  have HP := Lib.hid hp.mapped
  obtain ⟨n, hn⟩ : ∃ n, n = B.length := ⟨_, rfl⟩
  have HN := Lib.hid hn
  rw [← hn] at hB c0
  have q : (n : Int) < 16384 := by omega
  have he := eqlNil
  have hmm := @run_makeMap Try.prog
  have q' : decide ((16384 : Int) ≤ (n : Int)) = false := by simp; omega
  have x1 : IntKind.u16.wrap (n : Int) = (n : Int) := by simp [IntKind.wrap, IntKind.bits, IntKind.signed]; omega
  clear hp hn
  go_enter Try.func89, Try.ntmps89
  go_wp2
  change Code.wp _ _ _ _ ((w.setCell ⟨b, 1, none⟩ (.map (some w.heap.size))).alloc (.map #[] 0))
  obtain ⟨w2, hw2⟩ : ∃ w2, w2 = (w.setCell ⟨b, 1, none⟩ (.map (some w.heap.size))).alloc (.map #[] 0) := ⟨_, rfl⟩
  rw [← hw2]
  have HP2 : Hid (PV (andNew S w.heap.size) b B [] (.slice a B.length cap) (.map (some w.heap.size)) w2 ∧ Tr S w w2 ∧ Mo w2 w.heap.size 0 (.map [])) := Lib.hid (by rw [hw2]; exact HP.out)
  have d0 := HP2.out.1.blk.cell0
  have d1 := HP2.out.1.blk.cell1
  rw [← HN.out] at d0
  clear hw2 c0 c1 f1 hmm he HP
  obtain ⟨mb, hmb⟩ : ∃ mb, mb = w.heap.size := ⟨_, rfl⟩
  rw [← hmb] at d1
  have HMB := Lib.hid hmb
  clear hmb
  go_still_tail 11, (by kernel_rfl)
  change wpList _ _ _ _ _ w2.drew
  go_wp2_with (at_mapUpdate; refine wpList_mapUpdate_own _ rfl (.tmp 22) (.tmp 23) (.tmp 29) 128 rfl 9 22 law9 Try.underlying128 _ mb 0 (.map []) rfl (by rw [HMB.out]; exact HP2.out.2.2.drew) (by unfold maxLen; omega) _ _ (.string s.data.toList) rfl rfl (WideMaps.keyOf_string_mk Try.underlying9 hs) (.lit (.int .u16 (n : Int))) [] (plainElem_int Try.underlying22 (wf16 (by omega))) ?_)
  intro w1 hown1 hgrow1
  have A := Lib.hid (HP2.out.1.learnt (n := s.data.toList) (w1 := w1) says_nil (by rw [← HN.out, ← HMB.out]; exact hown1) (by rw [← HMB.out]; exact ⟨hgrow1.os, hgrow1.tape, hgrow1.output, hgrow1.size, hgrow1.block⟩) (.inr (Nat.le_refl _)) ⟨_, HP2.out.2.2, says_nil⟩ rfl Maps.isMap_empty)
  clear hown1 hgrow1 d0 d1
  go_wp2
  go_end0
  exact ⟨⟨_, rfl⟩, Lft.trans ⟨⟨_, _, HP2.out.1⟩, HP2.out.2.1⟩ A.out⟩
/-- WHAT LEARN LEAVES. -/
theorem learn_any (s : ByteArray) (hs : s.size ≤ 1000000) (S : Nat → Prop) (b : Nat) (B : Bs) (L : Kn) (w : World) (h : PK S b B L w) (hB : B.length ≤ 1000000) (hL : L.length ≤ 1000000) (hf : find L s.data.toList = none) :
    Calls Try.prog 89 #[ptr b, .string s] w fun e w' => (∃ v, e = .returned v) ∧ Lft S b B (more B L s.data.toList) w w' := by
  by_cases hn : B.length < 16384
  · rw [more_near hn]
    obtain ⟨sv, mv, hp⟩ := h
    rcases hp.map with ⟨rfl, rfl⟩ | ⟨mb, rfl, hm, hmp⟩
    · exact learn_nil s (by unfold maxLen; omega) S b B sv w hp hn
    · exact learn_some s (by unfold maxLen; omega) S b mb B L sv w hp hm hmp hn hL hf
  · exact learn_far s S b B L w h hn hB
end Go.Proofs.Ytljfkjbagebncaa

/- PName -/
namespace Go.Proofs.Ytljfkjbagebncaa
open Go.RowKit
theorem or_mark (a : Nat) (ha : a < 16384) : bits .or .u16 49152 (a : Int) = ((49152 + a : Nat) : Int) := by
  have h := u16_or_nat 49152 a (by decide) (by omega)
  have e : 49152 ||| a = 49152 + a := by
    have := Nat.two_pow_add_eq_or_of_lt (i := 14) (by omega : a < 2 ^ 14) 3
    exact this.symm
  rw [e] at h
  exact h
theorem PV.look {S : Nat → Prop} {b : Nat} {B : Bs} {L : Kn} {sv mv : Value} {w : World} (h : PV S b B L sv mv w) (t : ByteArray) (ht : t.size ≤ maxLen) :
    (∀ a, find L t.data.toList = some a → (Instr.lookup 128 mv (.string t) true).run Try.prog w = .ok (.tuple #[.int .u16 (a : Int), .bool true]) w) ∧
    (find L t.data.toList = none → (Instr.lookup 128 mv (.string t) true).run Try.prog w = .ok (.tuple #[.int .u16 0, .bool false]) w) := by
  rcases h.map with ⟨rfl, rfl⟩ | ⟨mb, rfl, _, hm⟩
  · exact ⟨fun a h => by simp [find] at h, fun _ => look_none w t ht⟩
  · exact ⟨fun a h => look_yes hm t ht h, fun h => look_no hm t ht h⟩
set_option maxRecDepth 100000 in
set_option maxHeartbeats 1600000 in
theorem pname_bad (s : ByteArray) (hs : s.size ≤ 140737488351232) (pts : Bool) (b : Nat) (w : World) (g : ¬ chk s.data.toList = 0) :
    Calls Try.prog 61 #[ptr b, .string s, .bool pts] w fun e w' => e = .returned (.int .i64 (chk s.data.toList)) ∧ Below w.heap.size w w' := by
  have q : (chk s.data.toList == 0) = false := by simpa using g
  have q' : (chk s.data.toList != 0) = true := by simpa using g
  clear g
  go_enter Try.func61, Try.ntmps61
  go_wp2_with (go_at_call 53; refine (check_any s hs _).mono ?_; rintro e w1 ⟨rfl, hb1⟩)
  go_ret
  exact ⟨rfl, hb1⟩
/-- What the loop of Name knows. -/
def PnI (S : Nat → Prop) (b : Nat) (pts : Bool) (R : Bs × Kn) (K : Nat) (w : World) (k : Nat) (r : Value) (wr : World) : Prop :=
  ∃ (xs : List Bs) (B : Bs) (L : Kn), k = xs.length ∧ r = str (enc xs ++ [0]) ∧ (∀ x ∈ xs, OkL x) ∧ putN pts B L xs = R ∧ Lft S b B L w wr ∧ OkK L ∧ L.length ≤ B.length ∧ B.length + (enc xs).length ≤ K
theorem first_byte (t : ByteArray) (x : Bs) (r : Bs) (h : t.data.toList = enc1 x ++ r) (hx : OkL x) : ∃ h0 : 0 < t.size, t[0].toNat = x.length ∧ 1 + x.length ≤ t.size ∧ t.extract 0 (1 + x.length) = ⟨(enc1 x).toArray⟩ ∧ t.extract (1 + x.length) t.size = ⟨r.toArray⟩ := by
  have h1 : t.size = 1 + x.length + r.length := by rw [size_list, h]; simp [enc1]; omega
  have h0 : 0 < t.size := by omega
  have hx2 := hx.2
  refine ⟨h0, ?_, by omega, ?_, ?_⟩
  · rw [get_list t 0 h0]
    simp [h, enc1]
    omega
  · apply ByteArray.ext
    apply Array.toList_inj.1
    rw [ByteArray.data_extract, Array.toList_extract, h]
    simp [List.extract, enc1, Nat.add_comm 1]
  · apply ByteArray.ext
    apply Array.toList_inj.1
    rw [ByteArray.data_extract, Array.toList_extract, h, h1]
    simp [List.extract, enc1, Nat.add_comm 1]
set_option maxRecDepth 100000 in
set_option maxHeartbeats 8000000 in
theorem pname_good (s : ByteArray) (pts : Bool) (S : Nat → Prop) (b : Nat) (B0 : Bs) (L0 : Kn) (w : World) (h : PK S b B0 L0 w) (g : chk s.data.toList = 0) (hB0 : B0.length ≤ 900000) (hL0 : L0.length ≤ B0.length) (hK0 : OkK L0) :
    Calls Try.prog 61 #[ptr b, .string s, .bool pts] w fun e w' => e = .returned (.int .i64 0) ∧ Lft S b (putN pts B0 L0 (labs s.data.toList)).1 (putN pts B0 L0 (labs s.data.toList)).2 w w' := by
  obtain ⟨R, hR⟩ : ∃ R, putN pts B0 L0 (labs s.data.toList) = R := ⟨_, rfl⟩
  rw [hR]
  obtain ⟨g1, g2⟩ := chk_zero.1 g
  have hss : s.size ≤ 255 := by rw [size_list]; exact g2
  have hsp := name_split g
  have hen : (enc (labs s.data.toList)).length ≤ 254 := by
    have := congrArg List.length hsp
    rw [List.length_append] at this
    simp only [List.length_singleton] at this
    omega
  have HH := Lib.hid h
  have HR0 := Lib.hid hR
  have HSP := Lib.hid hsp
  have HEN := Lib.hid hen
  have G := Lib.hid g
  clear h hR hsp hen g g1 g2
  go_enter Try.func61, Try.ntmps61
  go_wp2_with (first | (go_at_call 53; refine (check_any s (by omega) _).mono ?_; rintro e w1 ⟨rfl, hb1⟩; rw [G.out]) | (go_at_call 88; refine (copied_any s _).mono ?_; rintro e w2 ⟨rfl, hb2⟩))
  have hL2 : Lft S b B0 L0 w w2 := (Lft.refl HH.out).post hb1 |>.post hb2
  have HL2 := Lib.hid hL2
  clear hb1 hb2 hL2
  go_loopg [8] (labs s.data.toList).length (fun k r wr => PnI S b pts R (B0.length + 254) w k r wr)
  case atStart => exact ⟨labs s.data.toList, B0, L0, rfl, by rw [HSP.out], labs_ok _, HR0.out, HL2.out, hK0, hL0, by have := HEN.out; omega⟩
  case round =>
    obtain ⟨xs, B, L, hk, rfl, hok, hr, hl, hokk, hll, hbk⟩ := hrel
    have HOK := Lib.hid hok
    have HR := Lib.hid hr
    have HL := Lib.hid hl
    have HOKK := Lib.hid hokk
    have HK := Lib.hid hk
    clear hok hr hl hokk hk
    cases xs with
    | nil =>
      have hx : str (enc [] ++ [0]) = .string ⟨#[0]⟩ := rfl
      rw [hx]
      clear hx
      go_wp2_with fail
      refine (praw_any ⟨#[0]⟩ _ _ _ _ _ HL.out.1 (by show B.length + 1 ≤ _; omega)).mono ?_
      rintro e w3 ⟨⟨v3, rfl⟩, hL3⟩
      have R3 := Lib.hid (HL.out.trans hL3)
      have HR2 := Lib.hid (HR.out.symm.trans (putN_nil pts B L))
      clear hL3
      go_wp2
      go_ret
      exact ⟨rfl, by rw [HR2.out]; exact R3.out⟩
    | cons x xs =>
      have hx : OkL x := HOK.out x (by simp)
      obtain ⟨t, ht⟩ : ∃ t : ByteArray, t = ⟨(enc (x :: xs) ++ [0]).toArray⟩ := ⟨_, rfl⟩
      have htl : t.data.toList = enc (x :: xs) ++ [0] := by rw [ht]
      have htl2 : t.data.toList = enc1 x ++ (enc xs ++ [0]) := by rw [htl, enc_cons, List.append_assoc]
      obtain ⟨h0, hsp, hle, hex1, hex2⟩ := first_byte t x _ htl2 hx
      have he1 : (enc1 x).length = x.length + 1 := enc1_length x
      have he2 : (enc (x :: xs)).length = x.length + 1 + (enc xs).length := by rw [enc_cons, List.length_append, he1]
      rw [show str (enc (x :: xs) ++ [0]) = .string t by rw [ht]]
      have hts : t.size = x.length + 2 + (enc xs).length := by rw [size_list, htl, List.length_append, he2]; simp; omega
      have q1 : (t.toList == [0]) = false := by
        rw [ByteArray.toList_eq, beq_eq_false_iff_ne]
        intro h
        have := congrArg List.length h
        rw [← size_list, hts] at this
        simp only [List.length_singleton] at this
        omega
      have q1' : (t.data.toList == [0]) = false := by rw [← ByteArray.toList_eq]; exact q1
      have hx1 := hx.1
      have hx2 := hx.2
      obtain ⟨m, hm⟩ : ∃ m, m = x.length := ⟨_, rfl⟩
      rw [← hm] at hsp hle hex1 hex2 hx1 hx2 he1 he2 hts
      have hsl1 : ∀ w, (Instr.slice 9 (.string t) none (some (.int .i64 (1 + (m : Int)))) none).run Try.prog w = .ok (.string ⟨(enc1 x).toArray⟩) w := fun w => by
        have h := run_slice_string_h (P := Try.prog) w 9 t Try.underlying9 .i64 (1 + (m : Int)) (by omega) (by omega)
        rw [h, ← hex1]
        congr 3
      have hsl2 : ∀ w, (Instr.slice 9 (.string t) (some (.int .i64 (1 + (m : Int)))) none none).run Try.prog w = .ok (str (enc xs ++ [0])) w := fun w => by
        have h := run_slice_string_l (P := Try.prog) w 9 t Try.underlying9 .i64 (1 + (m : Int)) (by omega) (by omega)
        rw [h, show str (enc xs ++ [0]) = .string ⟨(enc xs ++ [0]).toArray⟩ from rfl, ← hex2]
        congr 3
      have htsz : t.size ≤ 1000000 := by rw [hts]; omega
      have hmi : (m : Int) ≤ 63 := by omega
      obtain ⟨sv, mv, hp⟩ := HL.out.1
      obtain ⟨k1, k2⟩ := hp.look t (by unfold maxLen; omega)
      have c1 := hp.blk.cell1
      rw [htl] at k1 k2
      have HE1 := Lib.hid he1
      have HE2 := Lib.hid he2
      have HTL := Lib.hid htl
      have hbm : B.length + m ≤ 1000000 := by omega
      clear ht htl htl2 hle hex1 hex2 he1 he2 hts q1' hm hp hx
      cases hf : find L (enc (x :: xs) ++ [0]) with
      | some a =>
        have ha := HOKK.out.find hf
        have hlook := k1 a hf
        have HF := Lib.hid hf
        clear k1 k2 hf
        cases pts with
        | true =>
          have hor := or_mark a ha
          have HR2 := Lib.hid (HR.out.symm.trans (putN_point _ _ _ _ _ HF.out))
          go_wp2_with fail
          refine (pword_any (49152 + a) (by omega) _ _ _ _ _ HL.out.1 (by omega)).mono ?_
          rintro e w3 ⟨⟨v3, rfl⟩, hL3⟩
          have R3 := Lib.hid (HL.out.trans hL3)
          clear hL3
          go_wp2
          go_ret
          exact ⟨rfl, by rw [HR2.out]; exact R3.out⟩
        | false =>
            go_wp2_with fail
            refine (praw_any ⟨(enc1 x).toArray⟩ _ _ _ _ _ HL.out.1 (by rw [size_list]; have := HE1.out; show B.length + (enc1 x).length ≤ _; omega)).mono ?_
            rintro e w4 ⟨⟨v4, rfl⟩, hL4⟩
            have R4 := Lib.hid (HL.out.trans hL4)
            clear hL4
            go_wp2
            go_roundg xs.length
            case measure => rw [HK.out]; simp
            case rel => exact ⟨xs, B ++ enc1 x, L, rfl, rfl, fun y hy => HOK.out y (by simp [hy]), by have := HR.out; rw [putN_pass _ _ _ _ _ HF.out] at this; exact this, R4.out, HOKK.out, by rw [List.length_append]; omega, by have := HE2.out; have := HE1.out; rw [List.length_append]; omega⟩
      | none =>
        have hlook := k2 hf
        have HF := Lib.hid hf
        clear k1 k2 hf
        go_wp2_with fail
        refine (learn_any t htsz _ _ _ _ _ HL.out.1 (by omega) (by omega) (by rw [HTL.out]; exact HF.out)).mono ?_
        rintro e w3 ⟨⟨v3, rfl⟩, hL3⟩
        rw [HTL.out] at hL3
        have R3 := Lib.hid (HL.out.trans hL3)
        clear hL3 hlook c1
        go_wp2_with fail
        refine (praw_any ⟨(enc1 x).toArray⟩ _ _ _ _ _ R3.out.1 (by rw [size_list]; have := HE1.out; show B.length + (enc1 x).length ≤ _; omega)).mono ?_
        rintro e w4 ⟨⟨v4, rfl⟩, hL4⟩
        have R4 := Lib.hid (R3.out.trans hL4)
        clear hL4
        go_wp2
        go_roundg xs.length
        case measure => rw [HK.out]; simp
        case rel => exact ⟨xs, B ++ enc1 x, more B L (enc (x :: xs) ++ [0]), rfl, rfl, fun y hy => HOK.out y (by simp [hy]), by have := HR.out; rw [putN_new _ _ _ _ _ HF.out] at this; exact this, R4.out, okK_more HOKK.out, by have := more_length B L (enc (x :: xs) ++ [0]); have := HE1.out; rw [List.length_append]; omega, by have := HE2.out; have := HE1.out; rw [List.length_append]; omega⟩
/-- WHAT NAME LEAVES AND ANSWERS. -/
theorem pname_any (s : ByteArray) (hs : s.size ≤ 140737488351232) (pts : Bool) (S : Nat → Prop) (b : Nat) (B : Bs) (L : Kn) (w : World) (h : PK S b B L w) (hB : B.length ≤ 900000) (hL : L.length ≤ B.length) (hK : OkK L) :
    Calls Try.prog 61 #[ptr b, .string s, .bool pts] w fun e w' => e = .returned (.int .i64 (chk s.data.toList)) ∧ Lft S b (pkB pts B L s.data.toList) (pkL pts B L s.data.toList) w w' := by
  by_cases g : chk s.data.toList = 0
  · unfold pkB pkL
    rw [if_pos g, if_pos g, g]
    exact pname_good s pts S b B L w h g hB hL hK
  · unfold pkB pkL
    rw [if_neg g, if_neg g]
    exact (pname_bad s hs pts b w g).mono fun e w' ⟨h1, h2⟩ => ⟨h1, (Lft.refl h).post h2⟩
end Go.Proofs.Ytljfkjbagebncaa

/- Rk -/
namespace Go.Proofs.Ytljfkjbagebncaa
open Go.RowKit
theorem info84 : (Try.prog.info? 143).map (fun i => (i.zero, i.size, i.bytes)) = some (some (.agg #[.string ⟨#[]⟩, .int .i64 0]), 2, 24) := by kernel_rfl
/-- Places as cells. -/
abbrev lc (L : Kn) : List Value := L.flatMap fun p => [str p.1, .int .i64 (p.2 : Int)]
theorem lc_length (L : Kn) : (lc L).length = L.length * 2 := by
  induction L with
  | nil => rfl
  | cons p L ih => simp only [lc, List.flatMap_cons, List.length_append] at ih ⊢; rw [ih]; simp; omega
theorem lc_get (L : Kn) (j : Nat) (p : Bs × Nat) (h : L[j]? = some p) : (lc L)[2 * j]? = some (str p.1) ∧ (lc L)[2 * j + 1]? = some (.int .i64 (p.2 : Int)) := by
  induction L generalizing j with
  | nil => simp at h
  | cons q L ih =>
    have e : lc (q :: L) = str q.1 :: .int .i64 (q.2 : Int) :: lc L := rfl
    rw [e]
    cases j with
    | zero =>
      simp at h
      subst h
      exact ⟨rfl, rfl⟩
    | succ j =>
      have := ih j (by simpa using h)
      rw [show 2 * (j + 1) = 2 * j + 1 + 1 by omega, show 2 * j + 1 + 1 + 1 = (2 * j + 1) + 1 + 1 by omega]
      simpa using this
theorem lc_snoc (L : Kn) (n : Bs) (a : Nat) : lc (L ++ [(n, a)]) = lc L ++ [str n, .int .i64 (a : Int)] := by simp [lc]
/-- The document's packer: the bytes and the places in its two fields; S: the blocks that are its own. -/
structure RV (S : Nat → Prop) (b : Nat) (B : Bs) (L : Kn) (lv : Value) (w : World) : Prop where
  blk : Blk 98 w b (str B) lv
  row : w.ownsRow 0 143 2 lv L.length (lc L)
  rowS : ∀ k, lv.ownBlock = some k → S k
  own : S b
def RK (S : Nat → Prop) (b : Nat) (B : Bs) (L : Kn) (w : World) : Prop := ∃ lv, RV S b B L lv w
theorem RV.tr {S S2 : Nat → Prop} {b : Nat} {B : Bs} {L : Kn} {lv : Value} {w w' : World} (h : RV S b B L lv w) (ht : Tr S2 w w') (hd : ∀ k, k < w.heap.size → S k → ¬ S2 k) : RV S b B L lv w' :=
  ⟨h.blk.tr ht (hd _ h.blk.lt h.own), row_tr h.row ht (fun k hk => hd _ (row_lt h.row k hk) (h.rowS k hk)), h.rowS, h.own⟩
theorem RV.below {S : Nat → Prop} {b : Nat} {B : Bs} {L : Kn} {lv : Value} {w w' : World} (h : RV S b B L lv w) (hb : Below w.heap.size w w') : RV S b B L lv w' :=
  h.tr (Tr.of_below (S := fun _ => False) hb) (fun _ _ _ h => h)
theorem RV.mono {S S' : Nat → Prop} {b : Nat} {B : Bs} {L : Kn} {lv : Value} {w : World} (h : RV S b B L lv w) (hS : ∀ k, S k → S' k) : RV S' b B L lv w := ⟨h.blk, h.row, fun k hk => hS k (h.rowS k hk), hS _ h.own⟩
theorem RK.tr {S S2 : Nat → Prop} {b : Nat} {B : Bs} {L : Kn} {w w' : World} (h : RK S b B L w) (ht : Tr S2 w w') (hd : ∀ k, k < w.heap.size → S k → ¬ S2 k) : RK S b B L w' := let ⟨lv, h⟩ := h; ⟨lv, h.tr ht hd⟩
theorem RK.below {S : Nat → Prop} {b : Nat} {B : Bs} {L : Kn} {w w' : World} (h : RK S b B L w) (hb : Below w.heap.size w w') : RK S b B L w' := let ⟨lv, h⟩ := h; ⟨lv, h.below hb⟩
theorem RK.mono {S S' : Nat → Prop} {b : Nat} {B : Bs} {L : Kn} {w : World} (h : RK S b B L w) (hS : ∀ k, S k → S' k) : RK S' b B L w := let ⟨lv, h⟩ := h; ⟨lv, h.mono hS⟩
theorem RK.lt {S : Nat → Prop} {b : Nat} {B : Bs} {L : Kn} {w : World} (h : RK S b B L w) : RK (fun k => S k ∧ k < w.heap.size) b B L w :=
  let ⟨lv, h⟩ := h; ⟨lv, h.blk, h.row, fun k hk => ⟨h.rowS k hk, row_lt h.row k hk⟩, h.own, h.blk.lt⟩
/-- What a call leaves. -/
def RLft (S : Nat → Prop) (b : Nat) (B : Bs) (L : Kn) (w w' : World) : Prop := RK (andNew S w.heap.size) b B L w' ∧ Tr S w w'
theorem RLft.trans {S : Nat → Prop} {b : Nat} {B B' : Bs} {L L' : Kn} {w1 w2 w3 : World} (h : RLft S b B L w1 w2) (k : RLft (andNew S w1.heap.size) b B' L' w2 w3) : RLft S b B' L' w1 w3 := by
  refine ⟨k.1.mono fun i hi => ?_, h.2.trans k.2 fun i hi => hi⟩
  rcases hi with hi | hi
  · exact hi
  · exact .inr (Nat.le_trans h.2.size hi)
theorem RLft.refl {S : Nat → Prop} {b : Nat} {B : Bs} {L : Kn} {w : World} (h : RK S b B L w) : RLft S b B L w w := ⟨h.mono fun _ => .inl, Tr.refl _ _⟩
theorem RLft.post {S : Nat → Prop} {b : Nat} {B : Bs} {L : Kn} {w1 w2 w3 : World} (h : RLft S b B L w1 w2) (k : Below w2.heap.size w2 w3) : RLft S b B L w1 w3 := ⟨h.1.below k, h.2.then (Tr.of_below k)⟩
/-- Where the text is stored anew. -/
theorem RV.text {S : Nat → Prop} {b : Nat} {B B' : Bs} {L : Kn} {lv : Value} {w w1 : World} (h : RV S b B L lv w) (hb : Below w.heap.size w w1) : RLft S b B' L w (w1.setCell ⟨b, 0, none⟩ (str B')) := by
  have h1 := h.below hb
  exact ⟨⟨lv, h1.blk.set0 _, h1.blk.row h1.row (by decide) 0, fun k hk => .inl (h.rowS k hk), .inl h.own⟩, (Tr.of_below hb).setCell (.inl h.own) _⟩
theorem RV.one {S : Nat → Prop} {b : Nat} {B : Bs} {L : Kn} {lv : Value} {w : World} (h : RV S b B L lv w) (x : UInt8) (o : Obj) : RLft S b (B ++ [x]) L w ((w.setCell ⟨b, 0, none⟩ (.string (⟨B.toArray⟩ ++ ⟨#[x]⟩))).alloc o).drew := by
  have e : (.string (⟨B.toArray⟩ ++ ⟨#[x]⟩) : Value) = str (B ++ [x]) := by
    rw [show (⟨#[x]⟩ : ByteArray) = ⟨[x].toArray⟩ from rfl, cat]
  rw [e]
  exact (h.text (Below.refl _ _)).post (((Below.refl _ _).alloc (Nat.le_refl _) _).drew)
/-- So many bytes of a number, the most significant one first. -/
def nb (v : Nat) : Nat → Bs
  | 0 => []
  | j + 1 => UInt8.ofNat (v / 256 ^ j) :: nb v j
theorem nb_length (v n : Nat) : (nb v n).length = n := by induction n with
  | zero => rfl
  | succ n ih => simp [nb, ih]
theorem nb_one (v : Nat) : nb v 1 = [UInt8.ofNat v] := by simp [nb]
theorem nb_two (v : Nat) : nb v 2 = word v := by simp [nb, word]
theorem nb_four (v : Nat) : nb v 4 = long v := by simp [nb, long]
theorem byte_back (w : World) (x : UInt8) (z : Int) (hz : z = (x.toNat : Int)) : (convert 47 9 (.slice (some ⟨w.heap.size, 0, none⟩) 1 1)).run Try.prog (w.alloc (.cells #[.int .u8 z] 5)).drew = .ok (.string ⟨#[x]⟩) (w.alloc (.cells #[.int .u8 z] 5)).drew :=
  run_convert_bytes_back (P := Try.prog) _ 47 9 5 ⟨w.heap.size, 0, none⟩ 1 [x] Try.underlying47 Try.underlying5 Try.underlying9 (fun j hj => by
    have hj0 : j = 0 := by simp at hj; omega
    subst hj0
    have := cell_one_new w (.int .u8 z) 5 0 (.int .u8 z) rfl
    rw [hz] at this ⊢
    exact this)
set_option maxRecDepth 100000 in
set_option maxHeartbeats 8000000 in
theorem rnum_any (v n : Nat) (hv : v < 4294967296) (hn : n ≤ 4) (S : Nat → Prop) (b : Nat) (B : Bs) (L : Kn) (w : World) (h : RK S b B L w) (hB : B.length ≤ 1000000) :
    Calls Try.prog 66 #[ptr b, .int .i64 (v : Int), .int .i64 (n : Int)] w fun e w' => (∃ v, e = .returned v) ∧ RLft S b (B ++ nb v n) L w w' := by
  have H := Lib.hid (RLft.refl h)
  have hvi : (v : Int) < 4294967296 := by omega
  clear h
  go_enter Try.func66, Try.ntmps66
  go_wp2
  go_loopw [6] (fun i wr => ∃ (j : Nat) (B' : Bs), j ≤ n ∧ i = .int .i64 ((j : Int) - 1) ∧ RLft S b B' L w wr ∧ B' ++ nb v j = B ++ nb v n ∧ B'.length ≤ B.length + n) (fun i _ => (intOf i + 1).toNat)
  case atStart => exact ⟨n, B, Nat.le_refl _, rfl, H.out, rfl, by omega⟩
  case round =>
    obtain ⟨j, B', hj, rfl, hl, he, hB'⟩ := hrel
    have HL := Lib.hid hl
    have HE := Lib.hid he
    clear hl he
    rcases (by omega : j = 0 ∨ j = 1 ∨ j = 2 ∨ j = 3 ∨ j = 4) with rfl | rfl | rfl | rfl | rfl
    · rw [show (((0 : Nat) : Int) - 1) = -1 from rfl]
      go_wp2
      go_end0
      exact ⟨⟨_, rfl⟩, by rw [← HE.out]; simpa [nb] using HL.out⟩
    · rw [show (((1 : Nat) : Int) - 1) = 0 from rfl]
      obtain ⟨lv, hr⟩ := HL.out.1
      have c0 := hr.blk.cell0
      have f0 := hr.blk.frozen0
      have hbl := hr.blk.lt
      have hbn : b ≠ wr.heap.size := by omega
      have HR := Lib.hid hr
      have hone := byte_back wr (UInt8.ofNat (v)) ((v : Int) % 256) (by simp)
      have hadd : ∀ w, (Op.stringOp .add ⟨B'.toArray⟩ ⟨#[UInt8.ofNat (v)]⟩).run Try.prog w = .ok (.string (⟨B'.toArray⟩ ++ ⟨#[UInt8.ofNat (v)]⟩)) w := fun w => run_string_add_sum w _ _ (by rw [size_list]; show B'.length + 1 ≤ _; omega)
      clear hr
      go_wp2
      go_region
      go_wp2
      go_roundw
      case rel => exact ⟨0, B' ++ [UInt8.ofNat (v)], by omega, rfl, HL.out.trans (HR.out.one _ _), by rw [← HE.out]; simp [nb], by rw [List.length_append]; have h := congrArg List.length HE.out; rw [List.length_append, List.length_append, nb_length, nb_length] at h; simp; omega⟩
      case measure => simp [intOf]
    · rw [show (((2 : Nat) : Int) - 1) = 1 from rfl]
      obtain ⟨lv, hr⟩ := HL.out.1
      have c0 := hr.blk.cell0
      have f0 := hr.blk.frozen0
      have hbl := hr.blk.lt
      have hbn : b ≠ wr.heap.size := by omega
      have HR := Lib.hid hr
      have hone := byte_back wr (UInt8.ofNat (v / 256)) ((v : Int) / 256 % 256) (by simp)
      have hadd : ∀ w, (Op.stringOp .add ⟨B'.toArray⟩ ⟨#[UInt8.ofNat (v / 256)]⟩).run Try.prog w = .ok (.string (⟨B'.toArray⟩ ++ ⟨#[UInt8.ofNat (v / 256)]⟩)) w := fun w => run_string_add_sum w _ _ (by rw [size_list]; show B'.length + 1 ≤ _; omega)
      clear hr
      go_wp2
      go_region
      go_wp2
      go_roundw
      case rel => exact ⟨1, B' ++ [UInt8.ofNat (v / 256)], by omega, rfl, HL.out.trans (HR.out.one _ _), by rw [← HE.out]; simp [nb], by rw [List.length_append]; have h := congrArg List.length HE.out; rw [List.length_append, List.length_append, nb_length, nb_length] at h; simp; omega⟩
      case measure => simp [intOf]
    · rw [show (((3 : Nat) : Int) - 1) = 2 from rfl]
      obtain ⟨lv, hr⟩ := HL.out.1
      have c0 := hr.blk.cell0
      have f0 := hr.blk.frozen0
      have hbl := hr.blk.lt
      have hbn : b ≠ wr.heap.size := by omega
      have HR := Lib.hid hr
      have hone := byte_back wr (UInt8.ofNat (v / 65536)) ((v : Int) / 65536 % 256) (by simp)
      have hadd : ∀ w, (Op.stringOp .add ⟨B'.toArray⟩ ⟨#[UInt8.ofNat (v / 65536)]⟩).run Try.prog w = .ok (.string (⟨B'.toArray⟩ ++ ⟨#[UInt8.ofNat (v / 65536)]⟩)) w := fun w => run_string_add_sum w _ _ (by rw [size_list]; show B'.length + 1 ≤ _; omega)
      clear hr
      go_wp2
      go_region
      go_wp2
      go_roundw
      case rel => exact ⟨2, B' ++ [UInt8.ofNat (v / 65536)], by omega, rfl, HL.out.trans (HR.out.one _ _), by rw [← HE.out]; simp [nb], by rw [List.length_append]; have h := congrArg List.length HE.out; rw [List.length_append, List.length_append, nb_length, nb_length] at h; simp; omega⟩
      case measure => simp [intOf]
    · rw [show (((4 : Nat) : Int) - 1) = 3 from rfl]
      obtain ⟨lv, hr⟩ := HL.out.1
      have c0 := hr.blk.cell0
      have f0 := hr.blk.frozen0
      have hbl := hr.blk.lt
      have hbn : b ≠ wr.heap.size := by omega
      have HR := Lib.hid hr
      have hone := byte_back wr (UInt8.ofNat (v / 16777216)) ((v : Int) / 16777216) (by simp; omega)
      have hadd : ∀ w, (Op.stringOp .add ⟨B'.toArray⟩ ⟨#[UInt8.ofNat (v / 16777216)]⟩).run Try.prog w = .ok (.string (⟨B'.toArray⟩ ++ ⟨#[UInt8.ofNat (v / 16777216)]⟩)) w := fun w => run_string_add_sum w _ _ (by rw [size_list]; show B'.length + 1 ≤ _; omega)
      clear hr
      go_wp2
      go_region
      go_wp2
      go_roundw
      case rel => exact ⟨3, B' ++ [UInt8.ofNat (v / 16777216)], by omega, rfl, HL.out.trans (HR.out.one _ _), by rw [← HE.out]; simp [nb], by rw [List.length_append]; have h := congrArg List.length HE.out; rw [List.length_append, List.length_append, nb_length, nb_length] at h; simp; omega⟩
      case measure => simp [intOf]
end Go.Proofs.Ytljfkjbagebncaa

/- Rfind -/
namespace Go.Proofs.Ytljfkjbagebncaa
open Go.RowKit
theorem row_at {w : World} {base e k size : Nat} {a : Option Addr} {n cap : Nat} {xs : List Value} (h : w.ownsRow base e size (.slice a n cap) k xs) (hk : 0 < k) :
    ∃ g, a = some ⟨g, 0, none⟩ ∧ g < w.heap.size ∧ ∀ j u, xs[j]? = some u → w.cell? ⟨g, j, none⟩ = some u := by
  have hc := @World.ownsRow.cells w base e size _ k xs h
  rcases h.2 with ⟨_, h0⟩ | ⟨g, cap', cur, e', hb, hg, _⟩
  · omega
  · injection e' with e1 e2 e3
    subst e1
    refine ⟨g, rfl, (Array.getElem?_eq_some_iff.1 hg).1, fun j u hj => ?_⟩
    have := hc (g := g) rfl j u hj
    rw [show (⟨g, 0, none⟩ : Addr).add j = ⟨g, j, none⟩ by unfold Addr.add; split <;> simp_all] at this
    exact this
def fdI : Option Nat → Int
  | some a => (a : Int)
  | none => -1
theorem find_take {L : Kn} {n : Bs} {k : Nat} {p : Bs × Nat} (h : find (L.take k) n = none) (hp : L[k]? = some p) : (p.1 = n → find L n = some p.2) ∧ (¬ p.1 = n → find (L.take (k + 1)) n = none) := by
  obtain ⟨hk, e⟩ := List.getElem?_eq_some_iff.1 hp
  have e1 : L.take (k + 1) = L.take k ++ [(p.1, p.2)] := by rw [List.take_succ_eq_append_getElem hk, e]
  refine ⟨fun hn => ?_, fun hn => ?_⟩
  · have e2 : L = L.take (k + 1) ++ L.drop (k + 1) := (List.take_append_drop _ _).symm
    have h3 : find (L.take (k + 1)) n = some p.2 := by rw [e1, find_snoc, h, if_pos hn]
    rw [e2]
    unfold find at h3 ⊢
    rw [List.find?_append]
    cases hf : (L.take (k + 1)).find? (fun p => p.1 == n) with
    | none => rw [hf] at h3; simp at h3
    | some q => rw [hf] at h3; simpa using h3
  · rw [e1, find_snoc, h, if_neg hn]
set_option maxRecDepth 100000 in
set_option maxHeartbeats 8000000 in
theorem rfind_any (t : ByteArray) (S : Nat → Prop) (b : Nat) (B : Bs) (L : Kn) (w : World) (h : RK S b B L w) (hL : L.length ≤ 1000000) (hK : OkK L) :
    Calls Try.prog 96 #[ptr b, .string t] w fun e w' => e = .returned (.int .i64 (fdI (find L t.data.toList))) ∧ w = w' := by
  obtain ⟨lv, hr⟩ := h
  have c1 := hr.blk.cell1
  obtain ⟨a, cap, rfl⟩ := row_slice hr.row
  have hrow := hr.row
  obtain ⟨m, hm⟩ : ∃ m, m = L.length := ⟨_, rfl⟩
  rw [← hm] at hrow c1 hL
  have HR := Lib.hid hrow
  have HM := Lib.hid hm
  have hmi : (m : Int) ≤ 1000000 := by omega
  clear hr hrow hm
  go_enter Try.func96, Try.ntmps96
  go_wp2
  go_loopw [5] (fun i wr => ∃ k : Nat, k ≤ m ∧ i = .int .i64 k ∧ find (L.take k) t.data.toList = none ∧ w = wr) (fun i _ => m - (intOf i).toNat)
  case atStart => exact ⟨0, by omega, rfl, rfl, rfl⟩
  case round =>
    obtain ⟨k, hk, rfl, hf, rfl⟩ := hrel
    by_cases hlt : k < m
    · have q1 : (k : Int) < (m : Int) := by omega
      obtain ⟨p, hp⟩ : ∃ p, L[k]? = some p := ⟨_, List.getElem?_eq_getElem (by rw [← HM.out]; exact hlt)⟩
      obtain ⟨g, rfl, hg, hc⟩ := row_at HR.out (by omega)
      obtain ⟨z1, z2⟩ := lc_get L k p hp
      rw [Nat.mul_comm] at z1 z2
      have d0 := hc _ _ z1
      have d1 := hc _ _ z2
      obtain ⟨f1, f2⟩ := find_take hf hp
      have F1 := Lib.hid f1
      have F2 := Lib.hid f2
      have ha : p.2 < 16384 := hK p (List.mem_of_getElem? hp)
      obtain ⟨x, a⟩ := p
      obtain ⟨y, hy⟩ : ∃ y : ByteArray, y = ⟨x.toArray⟩ := ⟨_, rfl⟩
      have hyx : y.data.toList = x := by rw [hy]
      rw [show str (x, a).1 = .string y by rw [hy]] at d0
      have HY := Lib.hid hyx
      clear z1 z2 hc f1 f2 hf hp hy hyx
      by_cases e : x = t.data.toList
      · have q2 : (y.toList == t.toList) = true := by rw [ByteArray.toList_eq, ByteArray.toList_eq, HY.out, e]; simp
        have E := Lib.hid (F1.out e)
        clear e
        go_wp2
        refine bodyPost_ret (results_tmp rfl _ _ _) rfl ?_
        exact ⟨by rw [E.out]; rfl, rfl⟩
      · have q2 : (y.toList == t.toList) = false := by rw [ByteArray.toList_eq, ByteArray.toList_eq, HY.out]; simpa using e
        have E := Lib.hid (F2.out e)
        clear e
        go_wp2
        go_roundw
        case rel => exact ⟨k + 1, by omega, by go_num, E.out, trivial⟩
        case measure => simp [intOf]; omega
    · have q1 : decide ((k : Int) < (m : Int)) = false := by simp; omega
      have e : L.take k = L := List.take_of_length_le (by rw [← HM.out]; omega)
      rw [e] at hf
      have HF := Lib.hid hf
      clear hf e
      go_wp2
      go_ret
      exact ⟨by rw [HF.out]; rfl, rfl⟩
end Go.Proofs.Ytljfkjbagebncaa

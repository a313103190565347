/-
  HeadM: What Head answers, for every text. No older memory is changed.
  ReadM: What Read answers, for every text. No older memory is changed.
-/
import Derived.Test.YtljfkjbagebncaaG26
import Derived.Test.YtljfkjbagebncaaG23
import Derived.Test.YtljfkjbagebncaaG30

/- HeadM -/
namespace Go.Proofs.Ytljfkjbagebncaa
open Go.RowKit
def zeroM : Ms := ⟨0, false, false, false, false, false, 0, 0, [], [], [], []⟩
/-- The word of bits. -/
def hw (s : Bs) : Nat := numB (piS s 2 2)
/-- A message with a header's fields. -/
def rHd (s : Bs) (qs : List Qn) (an au ex : List Rc) : Ms :=
  ⟨numB (piS s 0 2), bt (hw s) 15, bt (hw s) 10, bt (hw s) 9, bt (hw s) 8, bt (hw s) 7, ((hw s / 2 ^ 11 % 16 : Nat) : Int), ((hw s / 2 ^ 0 % 16 : Nat) : Int), qs, an, au, ex⟩
def mhead (s : Bs) : Ms × Int := if s.length < 12 then (zeroM, 10) else (rHd s [] [] [] [], 0)
abbrev zcs : Array Value := mc 0 false false false false false 0 0 nl nl nl nl
/-- What Head hands back. -/
def HPost (w : World) (x : Ms × Int) (e : Ending) (w' : World) : Prop := e = .returned (.tuple #[.agg (x.1.cells nl nl nl nl), .int .i64 x.2]) ∧ Below w.heap.size w w'
set_option maxRecDepth 100000 in
set_option maxHeartbeats 12800000 in
theorem mhead_any (s : ByteArray) (hs : s.size ≤ 1000000) (w : World) : Calls Try.prog 16 #[.string s] w (HPost w (mhead s.data.toList)) := by
  obtain ⟨R, hR⟩ : ∃ R, R = mhead s.data.toList := ⟨_, rfl⟩
  rw [← hR]
  have hsz := size_list s
  by_cases g : s.size < 12
  · have HR : Hid (R = (zeroM, 10)) := Lib.hid (by rw [hR]; exact if_pos (by omega))
    have gi : (s.size : Int) < 12 := by omega
    have k0 := Ce.new w 26 zcs
    have hb := one_box w (.cells zcs 26)
    have HK := Lib.hid k0
    have HB := Lib.hid hb
    clear hR hsz k0 hb g hs
    go_enter Try.func16, Try.ntmps16
    go_wp2
    refine bodyPost_ret (res12t rfl rfl HK.out) rfl ?_
    exact ⟨by rw [HR.out]; rfl, HB.out⟩
  · obtain ⟨n, hn⟩ : ∃ n, n = hw s.data.toList := ⟨_, rfl⟩
    obtain ⟨id, hid⟩ : ∃ id, id = numB (piS s.data.toList 0 2) := ⟨_, rfl⟩
    obtain ⟨o, ho⟩ : ∃ o, o = n / 2 ^ 11 % 16 := ⟨_, rfl⟩
    obtain ⟨c, hc0⟩ : ∃ c, c = n / 2 ^ 0 % 16 := ⟨_, rfl⟩
    have HR : Hid (R = (⟨id, bt n 15, bt n 10, bt n 9, bt n 8, bt n 7, (o : Int), (c : Int), [], [], [], []⟩, 0)) := Lib.hid (by rw [hR, ho, hc0, hn, hid]; exact if_neg (by omega))
    have HOC : Hid (o = n / 2 ^ 11 % 16 ∧ c = n / 2 ^ 0 % 16) := Lib.hid ⟨ho, hc0⟩
    clear ho hc0
    have gi : decide ((s.size : Int) < 12) = false := by simp; omega
    have hn2 : n < 65536 := by rw [hn]; exact numB_pi s.data.toList 2 2
    have C0 := fun w => word_any s (by omega) 0 (by omega) w
    have C2 := fun w => word_any s (by omega) 2 (by omega) w
    unfold nuV at C0 C2
    rw [← hid] at C0
    rw [show numB (piS s.data.toList 2 2) = n from hn.symm] at C2
    have HC0 := Lib.hid C0
    have HC2 := Lib.hid C2
    have HT := Lib.hid (three_boxes w 26 26 72 zcs (mc id false false false false false 0 0 nl nl nl nl) #[.int .u16 (n : Int)])
    have HN := Lib.hid hn2
    clear hR hsz C0 C2 g hs hn hid hn2
    go_enter Try.func16, Try.ntmps16
    go_wp2_with fail
    refine (HC0.out _).mono ?_
    rintro e w' ⟨rfl, rfl⟩
    go_wp2_with fail
    refine (HC2.out _).mono ?_
    rintro e w' ⟨rfl, rfl⟩
    go_wp2_with fail
    obtain ⟨K0, K1, K2, KB⟩ := HT.out
    generalize World.alloc _ _ = W at K0 K1 K2 KB ⊢
    have HK0 := Lib.hid K0
    have HKB := Lib.hid KB
    have hc := eachRead_any n HN.out id false false false false false 0 0 nl nl nl nl (w.heap.size + 1 + 1) (w.heap.size + 1) (by omega) W K2 K1
    rw [← HOC.out.1, ← HOC.out.2] at hc
    clear K0 K1 K2 KB HT
    refine hc.mono ?_
    rintro e w5 ⟨⟨v5, rfl⟩, h5, t5⟩
    have HK5 := Lib.hid h5
    have HZ5 := Lib.hid (HK0.out.tr t5 (by omega))
    have HB5 := Lib.hid (HKB.out.trans (t5.below HKB.out.size (fun k hk => by rw [hk]; omega)))
    clear h5 t5
    go_wp2_with (first | (refine ld12 (.tmp 4) HK5.out rfl rfl rfl rfl ?_) | (refine st12 (.tmp 2) _ HZ5.out rfl rfl rfl rfl rfl ?_))
    refine bodyPost_ret (res12t rfl rfl (HZ5.out.row (mc id (bt n 15) (bt n 10) (bt n 9) (bt n 8) (bt n 7) (o : Int) (c : Int) nl nl nl nl))) rfl ?_
    exact ⟨by rw [HR.out]; rfl, below_row HB5.out (Nat.le_refl _) _⟩
end Go.Proofs.Ytljfkjbagebncaa

/- ReadM -/
namespace Go.Proofs.Ytljfkjbagebncaa
open Go.RowKit
/-- How many elements of a kind there are. -/
def cnt (s : Bs) (k : Nat) : Nat := numB (piS s ((4 + 2 * k : Nat) : Int) 2)
theorem cnt_lt (s : Bs) (k : Nat) : cnt s k < 65536 := numB_pi s _ 2
set_option maxHeartbeats 1600000 in
theorem count_any (s : ByteArray) (hs : s.size ≤ 1000000) (k : Nat) (hk : k ≤ 3) (w : World) :
    Calls Try.prog 32 #[.string s, .int .i64 (k : Int)] w fun e w' => e = .returned (.int .u16 (cnt s.data.toList k : Int)) ∧ w = w' := by
  have C := fun w => word_any s (by omega) ((4 + 2 * k : Nat) : Int) (by omega) w
  unfold nuV at C
  rw [show numB (piS s.data.toList ((4 + 2 * k : Nat) : Int) 2) = cnt s.data.toList k from rfl] at C
  rw [show ((4 + 2 * k : Nat) : Int) = 4 + 2 * (k : Int) by omega] at C
  have HC := Lib.hid C
  have hki : (k : Int) ≤ 3 := by omega
  clear C hs hk
  go_enter Try.func32, Try.ntmps32
  go_wp2_with fail
  refine (HC.out _).mono ?_
  rintro e w' ⟨rfl, rfl⟩
  go_wp2
  go_ret
  exact ⟨rfl, rfl⟩
theorem gl_bd {T : Type} {get : Int → T × Int × Int} {N : Int} (h : ∀ a, 0 ≤ (get a).2.1 ∧ (get a).2.1 ≤ N) : ∀ (k : Nat) (a : Int), 0 ≤ a ∧ a ≤ N → 0 ≤ (gl get k a).2.1 ∧ (gl get k a).2.1 ≤ N := by
  intro k
  induction k with
  | zero => intro a ha; exact ha
  | succ k ih =>
    intro a ha
    have hN : 0 ≤ N := by omega
    simp only [gl]
    split
    · split
      · exact ih _ (h a)
      · simpa using hN
    · simpa using hN
/-- The questions that a text has; how far reading has come, and the error, behind so many lists; the lists. -/
def rQ (s : Bs) : List Qn × Int × Int := gl (qg s) (cnt s 0) 12
def rA (s : Bs) : Nat → Int × Int
  | 0 => (rQ s).2
  | k + 1 => if (rA s k).2 = 0 then (gl (gt s) (cnt s (k + 1)) (rA s k).1).2 else rA s k
def rL (s : Bs) (k : Nat) : List Rc := if (rA s k).2 = 0 then (gl (gt s) (cnt s (k + 1)) (rA s k).1).1 else []
/-- What Read answers. -/
def mread (s : Bs) : Ms × Int :=
  if 4096 < s.length then (zeroM, 11) else if s.length < 12 then (zeroM, 10)
  else if (rA s 3).2 ≠ 0 then (zeroM, (rA s 3).2)
  else if (rA s 3).1 ≠ (s.length : Int) then (zeroM, 10)
  else (rHd s (rQ s).1 (rL s 0) (rL s 1) (rL s 2), 0)
theorem rA_bd (s : Bs) (hs : 12 ≤ s.length) (k : Nat) : 0 ≤ (rA s k).1 ∧ (rA s k).1 ≤ (s.length : Int) := by
  induction k with
  | zero => exact gl_bd (qg_bd s) _ _ (by omega)
  | succ k ih =>
    simp only [rA]
    split
    · exact gl_bd (gt_place s) _ _ ih
    · exact ih
/-- What Read hands back. -/
def RPost (w : World) (x : Ms × Int) (e : Ending) (w' : World) : Prop := ∃ q a b c : Sl, e = .returned (.tuple #[.agg (x.1.cells q a b c), .int .i64 x.2]) ∧ Lay w' x.1 q a b c ∧ Below w.heap.size w w'
theorem rpost_zero {w w' : World} {R : Ms × Int} {x : Int} (h : R = (zeroM, x)) (hb : Below w.heap.size w w') : RPost w R (.returned (.tuple #[.agg zcs, .int .i64 x])) w' := by
  rw [h]; exact ⟨nl, nl, nl, nl, rfl, ⟨rdq_nil _, rdr_nil _, rdr_nil _, rdr_nil _⟩, hb⟩
/-- What the loop over the lists knows. -/
structure RI (w : World) (b1 g : Nat) (cs : Array Value) (q x y z : Sl) (Q : List Qn) (X Y Z : List Rc) (wr : World) : Prop where
  b : Below w.heap.size w wr
  m : Ce wr b1 26 cs
  l : Ce wr g 56 #[x.v, y.v, z.v]
  o : Ce wr w.heap.size 26 zcs
  q : RdQ wr q Q
  x : RdR wr x X
  y : RdR wr y Y
  z : RdR wr z Z
theorem RI.under {w : World} {b1 g : Nat} {cs : Array Value} {q x y z : Sl} {Q : List Qn} {X Y Z : List Rc} {wr w' : World} (h : RI w b1 g cs q x y z Q X Y Z wr) (hb : Below wr.heap.size wr w') : RI w b1 g cs q x y z Q X Y Z w' :=
  ⟨h.b.trans (hb.mono h.b.size), h.m.below hb, h.l.below hb, h.o.below hb, h.q.below hb, h.x.below hb, h.y.below hb, h.z.below hb⟩
/-- No cell of a block is a text. -/
def NoS (cs : Array Value) : Prop := ∀ (j : Nat) t, cs[j]? ≠ some (.string t)
theorem nos_of {cs : Array Value} (h : ∀ v ∈ cs.toList, ∀ t, v ≠ .string t) : NoS cs := fun j t e => by
  have : cs.toList[j]? = some (.string t) := by simpa using e
  exact h _ (List.mem_of_getElem? this) t rfl
theorem mc_ns (id : Nat) (r a t d v : Bool) (op cd : Int) (q x y z : Sl) : NoS (mc id r a t d v op cd q x y z) := nos_of (by simp)
theorem l3_ns (x y z : Sl) : NoS #[x.v, y.v, z.v] := nos_of (by simp)
theorem RdR.other {w w' : World} {s : Sl} {rs : List Rc} {g : Nat} {T : TypeId} {cs : Array Value} (h : RdR w s rs) (hc : Ce w g T cs) (hn : NoS cs) (hs : w.heap.size ≤ w'.heap.size) (hk : ∀ k, k ≠ g → w'.heap[k]? = w.heap[k]?) : RdR w' s rs := by
  refine ⟨h.1, ?_⟩
  rcases h.2 with h | ⟨b, off, e, hlt, hcs⟩
  · exact .inl h
  · cases rs with
    | nil => exact .inl rfl
    | cons r rs =>
      have hne : b ≠ g := fun eb => by
        have h0 := (hcs 0 r rfl).1
        subst eb
        exact hn _ _ ((hc.cell _).symm.trans h0)
      refine .inr ⟨b, off, e, Nat.lt_of_lt_of_le hlt hs, fun j r hj => ?_⟩
      obtain ⟨c0, c1, c2, c3, c4⟩ := hcs j r hj
      have hb := hk b hne
      exact ⟨(World.cell?_of_block (w := w) (a := ⟨b, _, none⟩) hb).trans c0, (World.cell?_of_block (w := w) (a := ⟨b, _, none⟩) hb).trans c1, (World.cell?_of_block (w := w) (a := ⟨b, _, none⟩) hb).trans c2, (World.cell?_of_block (w := w) (a := ⟨b, _, none⟩) hb).trans c3, (World.cell?_of_block (w := w) (a := ⟨b, _, none⟩) hb).trans c4⟩
theorem RdQ.other {w w' : World} {s : Sl} {qs : List Qn} {g : Nat} {T : TypeId} {cs : Array Value} (h : RdQ w s qs) (hc : Ce w g T cs) (hn : NoS cs) (hs : w.heap.size ≤ w'.heap.size) (hk : ∀ k, k ≠ g → w'.heap[k]? = w.heap[k]?) : RdQ w' s qs := by
  refine ⟨h.1, ?_⟩
  rcases h.2 with h | ⟨b, off, e, hlt, hcs⟩
  · exact .inl h
  · cases qs with
    | nil => exact .inl rfl
    | cons r rs =>
      have hne : b ≠ g := fun eb => by
        have h0 := (hcs 0 r rfl).1
        subst eb
        exact hn _ _ ((hc.cell _).symm.trans h0)
      refine .inr ⟨b, off, e, Nat.lt_of_lt_of_le hlt hs, fun j r hj => ?_⟩
      obtain ⟨c0, c1, c2⟩ := hcs j r hj
      have hb := hk b hne
      exact ⟨(World.cell?_of_block (w := w) (a := ⟨b, _, none⟩) hb).trans c0, (World.cell?_of_block (w := w) (a := ⟨b, _, none⟩) hb).trans c1, (World.cell?_of_block (w := w) (a := ⟨b, _, none⟩) hb).trans c2⟩
theorem set_others (w : World) (g i : Nat) (v : Value) : w.heap.size ≤ (w.setCell ⟨g, i, none⟩ v).heap.size ∧ ∀ k, k ≠ g → (w.setCell ⟨g, i, none⟩ v).heap[k]? = w.heap[k]? :=
  ⟨by simp, fun k hk => Below.heap_setCell _ _ _ _ hk⟩
theorem row_others (w : World) (g : Nat) (cs : Array Value) : w.heap.size ≤ (w.setRow g cs).heap.size ∧ ∀ k, k ≠ g → (w.setRow g cs).heap[k]? = w.heap[k]? :=
  ⟨by simp, fun k hk => setRow_other w g k cs hk⟩
section
variable {w : World} {b1 g : Nat} {cs : Array Value} {q x y z n : Sl} {Q : List Qn} {X Y Z N : List Rc} {wr : World}
theorem RI.set0 (h : RI w b1 g cs q x y z Q X Y Z wr) (hg : w.heap.size < g) (hb : b1 ≠ g) (hn : RdR wr n N) : RI w b1 g cs q n y z Q N Y Z (wr.setCell ⟨g, 0, none⟩ n.v) :=
  let k := set_others wr g 0 n.v
  ⟨h.b.setCell (p := ⟨g, 0, none⟩) (Nat.le_of_lt hg) _, h.m.other hb _, h.l.set _, h.o.other (Nat.ne_of_lt hg) _, h.q.other h.l (l3_ns _ _ _) k.1 k.2, hn.other h.l (l3_ns _ _ _) k.1 k.2, h.y.other h.l (l3_ns _ _ _) k.1 k.2, h.z.other h.l (l3_ns _ _ _) k.1 k.2⟩
theorem RI.set1 (h : RI w b1 g cs q x y z Q X Y Z wr) (hg : w.heap.size < g) (hb : b1 ≠ g) (hn : RdR wr n N) : RI w b1 g cs q x n z Q X N Z (wr.setCell ⟨g, 1, none⟩ n.v) :=
  let k := set_others wr g 1 n.v
  ⟨h.b.setCell (p := ⟨g, 1, none⟩) (Nat.le_of_lt hg) _, h.m.other hb _, h.l.set _, h.o.other (Nat.ne_of_lt hg) _, h.q.other h.l (l3_ns _ _ _) k.1 k.2, h.x.other h.l (l3_ns _ _ _) k.1 k.2, hn.other h.l (l3_ns _ _ _) k.1 k.2, h.z.other h.l (l3_ns _ _ _) k.1 k.2⟩
theorem RI.set2 (h : RI w b1 g cs q x y z Q X Y Z wr) (hg : w.heap.size < g) (hb : b1 ≠ g) (hn : RdR wr n N) : RI w b1 g cs q x y n Q X Y N (wr.setCell ⟨g, 2, none⟩ n.v) :=
  let k := set_others wr g 2 n.v
  ⟨h.b.setCell (p := ⟨g, 2, none⟩) (Nat.le_of_lt hg) _, h.m.other hb _, h.l.set _, h.o.other (Nat.ne_of_lt hg) _, h.q.other h.l (l3_ns _ _ _) k.1 k.2, h.x.other h.l (l3_ns _ _ _) k.1 k.2, h.y.other h.l (l3_ns _ _ _) k.1 k.2, hn.other h.l (l3_ns _ _ _) k.1 k.2⟩
end
theorem st12z {ops : Array Oper} {rest : List Oper} {o : Oper} {a : Act} {w : World} {Q : Exit → Act → World → Prop} (x y : Operand) {g : Nat} {old : Array Value} (hg : Ce w g 26 old) (hs : old.size = 12)
    (hgd : o.guard = none) (ho : o.op = .store 26 x y) (hx : a.eval x = ptr g) (hy : a.eval y = .agg zcs) (h : wpList Try.prog ops Q rest (a.put o.dst undef) (w.setRow g zcs)) : wpList Try.prog ops Q (o :: rest) a w :=
  st12 x y hg hs hgd ho hx hy h
/-- The lists that have come behind so many rounds. -/
def LX (LL : Nat → List Rc) (k j : Nat) : List Rc := if j < k then LL j else []
set_option maxRecDepth 100000 in
set_option maxHeartbeats 25600000 in
theorem mread_any (s : ByteArray) (hs : s.size ≤ 1000000) (w : World) : Calls Try.prog 14 #[.string s] w (RPost w (mread s.data.toList)) := by
  obtain ⟨R, hR⟩ : ∃ R, R = mread s.data.toList := ⟨_, rfl⟩
  rw [← hR]
  have hsz := size_list s
  have k0 := Ce.new w 26 zcs
  have hb0 := one_box w (.cells zcs 26)
  have HK0 := Lib.hid k0
  have HB0 := Lib.hid hb0
  clear k0 hb0
  by_cases g : 4096 < s.size
  · have HR : Hid (R = (zeroM, 11)) := Lib.hid (by rw [hR]; exact if_pos (by omega))
    have gi : 4096 < (s.size : Int) := by omega
    clear hR hsz g hs
    go_enter Try.func14, Try.ntmps14
    go_wp2
    refine bodyPost_ret (res12t rfl rfl HK0.out) rfl ?_
    exact rpost_zero HR.out HB0.out
  · have gi : decide (4096 < (s.size : Int)) = false := by simp; omega
    have HH := Lib.hid (fun w => mhead_any s hs w)
    by_cases g2 : s.size < 12
    · have HR : Hid (R = (zeroM, 10)) := Lib.hid (by rw [hR]; unfold mread; rw [if_neg (by omega), if_pos (by omega)])
      have HE : Hid (mhead s.data.toList = (zeroM, 10)) := Lib.hid (if_pos (by omega))
      unfold HPost at HH
      rw [HE.out] at HH
      have HH2 : Hid (∀ w, Calls Try.prog 16 #[.string s] w fun e w' => e = .returned (.tuple #[.agg zcs, .int .i64 10]) ∧ Below w.heap.size w w') := HH
      clear hR hsz g hs g2 HH
      go_enter Try.func14, Try.ntmps14
      go_wp2_with fail
      refine (HH2.out _).mono ?_
      rintro e w1 ⟨rfl, hb1⟩
      have hb2 := one_box w1 (.cells zcs 26)
      have HK2 := Lib.hid ((HK0.out.below hb1).below hb2)
      have hb3 := HB0.out.trans (hb1.mono HB0.out.size)
      have HB3 := Lib.hid (hb3.trans (hb2.mono hb3.size))
      clear hb1 hb2 hb3
      go_wp2_with (first | (refine st12z (.tmp 2) (.tmp 20) HK2.out rfl rfl rfl rfl rfl ?_))
      refine bodyPost_ret (res12t rfl rfl (HK2.out.row zcs)) rfl ?_
      exact rpost_zero HR.out (below_row HB3.out (Nat.le_refl _) _)
    · obtain ⟨n0, hn0⟩ : ∃ n, n = hw s.data.toList := ⟨_, rfl⟩
      have HM : Hid (∃ id r a t d v op cd, mhead s.data.toList = (⟨id, r, a, t, d, v, op, cd, [], [], [], []⟩, 0) ∧ ∀ qs an au ex, rHd s.data.toList qs an au ex = ⟨id, r, a, t, d, v, op, cd, qs, an, au, ex⟩) :=
        Lib.hid (by
          refine ⟨numB (piS s.data.toList 0 2), bt (hw s.data.toList) 15, bt (hw s.data.toList) 10, bt (hw s.data.toList) 9, bt (hw s.data.toList) 8, bt (hw s.data.toList) 7, ((hw s.data.toList / 2 ^ 11 % 16 : Nat) : Int), ((hw s.data.toList / 2 ^ 0 % 16 : Nat) : Int), ?_, fun _ _ _ _ => rfl⟩
          unfold mhead
          rw [if_neg (by omega)]
          rfl)
      obtain ⟨id, r, a, t, d, v, op, cd, hm, hr⟩ := HM.out
      unfold HPost at HH
      rw [hm] at HH
      have HH2 : Hid (∀ w, Calls Try.prog 16 #[.string s] w fun e w' => e = .returned (.tuple #[.agg (mc id r a t d v op cd nl nl nl nl), .int .i64 0]) ∧ Below w.heap.size w w') := HH
      obtain ⟨A, hA⟩ : ∃ A, A = rA s.data.toList := ⟨_, rfl⟩
      obtain ⟨LL, hLL⟩ : ∃ LL, LL = rL s.data.toList := ⟨_, rfl⟩
      obtain ⟨cn, hcn⟩ : ∃ cn, cn = cnt s.data.toList := ⟨_, rfl⟩
      obtain ⟨Q, hQ⟩ : ∃ Q, Q = (rQ s.data.toList).1 := ⟨_, rfl⟩
      have hbd := rA_bd s.data.toList (by omega)
      have HCNT : Hid (∀ k : Nat, k ≤ 3 → ∀ w, Calls Try.prog 32 #[.string s, .int .i64 (k : Int)] w fun e w' => e = .returned (.int .u16 (cn k : Int)) ∧ w = w') := Lib.hid fun k hk w => by rw [hcn]; exact count_any s hs k hk w
      have HGQ : Hid (∀ w, Calls Try.prog 31 #[.string s, .int .i64 12, .int .u16 (cn 0 : Int), .func (.func 33) #[] #[]] w (GlQ w (Q, (A 0).1, (A 0).2))) := Lib.hid fun w => by
        rw [hcn, hQ, hA]; exact gatherQ_any s hs 12 (by omega) _ (cnt_lt _ _) w
      have HGO : Hid (∀ k : Nat, k < 3 → (A k).2 = 0 → ∀ w, Calls Try.prog 34 #[.string s, .int .i64 (A k).1, .int .u16 (cn (k + 1) : Int), .func (.func 35) #[] #[]] w (GlR w (LL k, (A (k + 1)).1, (A (k + 1)).2))) := Lib.hid fun k hk h0 w => by
        rw [hA] at h0
        have e1 : LL k = (gl (gt s.data.toList) (cnt s.data.toList (k + 1)) (rA s.data.toList k).1).1 := by rw [hLL]; exact if_pos h0
        have e2 : A (k + 1) = (gl (gt s.data.toList) (cnt s.data.toList (k + 1)) (rA s.data.toList k).1).2 := by rw [hA]; exact if_pos h0
        rw [e1, e2, hA, hcn]
        exact gatherR_any s hs _ (by have := hbd k; omega) _ (cnt_lt _ _) w
      have HNO : Hid (∀ k : Nat, (A k).2 ≠ 0 → LL k = [] ∧ A (k + 1) = A k) := Lib.hid fun k h0 => by
        rw [hA] at h0
        exact ⟨by rw [hLL]; exact if_neg h0, by rw [hA]; exact if_neg h0⟩
      have HF : Hid (R = if (A 3).2 ≠ 0 then (zeroM, (A 3).2) else if (A 3).1 ≠ (s.size : Int) then (zeroM, 10) else (⟨id, r, a, t, d, v, op, cd, Q, LL 0, LL 1, LL 2⟩, 0)) := Lib.hid (by
        rw [hR, hA, hQ, hLL, ← hr, hsz]
        unfold mread
        rw [if_neg (by omega), if_neg (by omega)])
      clear hm hr HH HM hA hLL hcn hQ hbd hR hsz g g2 hs hn0 n0
      go_enter Try.func14, Try.ntmps14
      go_wp2_with fail
      refine (HH2.out _).mono ?_
      rintro e w1 ⟨rfl, hb1⟩
      have hb2 := one_box w1 (.cells (mc id r a t d v op cd nl nl nl nl) 26)
      have HK2 := Lib.hid ((HK0.out.below hb1).below hb2)
      have hb3 := HB0.out.trans (hb1.mono HB0.out.size)
      have HB3 := Lib.hid (hb3.trans (hb2.mono hb3.size))
      have HM2 := Lib.hid (Ce.new w1 26 (mc id r a t d v op cd nl nl nl nl))
      have HLT : Hid (w.heap.size < w1.heap.size) := Lib.hid (by have h2 := hb1.size; simp only [World.size_alloc] at h2; omega)
      clear hb1 hb2 hb3
      go_wp2_with fail
      refine (HCNT.out 0 (by omega) _).mono ?_
      rintro e w' ⟨rfl, rfl⟩
      go_wp2_with fail
      refine (HGQ.out _).mono ?_
      rintro e w5 ⟨q, rfl, hq, hb5⟩
      have hlt5 := hb5.size
      simp only [World.size_alloc] at hlt5
      obtain ⟨b1, hb1⟩ : ∃ b1, w1.heap.size = b1 := ⟨_, rfl⟩
      rw [hb1] at HM2 HLT hlt5 ⊢
      have M5 := HM2.out.below hb5
      have x8 := M5.cell 8
      have f8 := M5.frozen 8
      simp at x8
      have h6 : Ce (w5.setCell ⟨b1, 8, none⟩ q.v) b1 26 (mc id r a t d v op cd q nl nl nl) := M5.set (i := 8) q.v
      have k6 := set_others w5 b1 8 q.v
      have q6 : RdQ (w5.setCell ⟨b1, 8, none⟩ q.v) q Q := RdQ.other hq M5 (mc_ns _ _ _ _ _ _ _ _ _ _ _ _) k6.1 k6.2
      have o6 := (HK2.out.below hb5).other (i := 8) (by have := HLT.out; omega : w.heap.size ≠ b1) q.v
      have hB5 := HB3.out.trans (hb5.mono HB3.out.size)
      have b6 : Below w.heap.size w (w5.setCell ⟨b1, 8, none⟩ q.v) := hB5.setCell (p := ⟨b1, 8, none⟩) (by have := HLT.out; show w.heap.size ≤ b1; omega) q.v
      have hb7 := one_box (w5.setCell ⟨b1, 8, none⟩ q.v) (.cells #[nl.v, nl.v, nl.v] 56)
      have e7 : (w5.setCell ⟨b1, 8, none⟩ q.v).heap.size = w5.heap.size := by simp
      have l7 := Ce.new (w5.setCell ⟨b1, 8, none⟩ q.v) 56 #[nl.v, nl.v, nl.v]
      rw [e7] at l7
      have HI7 : Hid (RI w b1 w5.heap.size (mc id r a t d v op cd q nl nl nl) q nl nl nl Q [] [] [] ((w5.setCell ⟨b1, 8, none⟩ q.v).alloc (.cells #[nl.v, nl.v, nl.v] 56))) :=
        Lib.hid ⟨b6.trans (hb7.mono b6.size), h6.below hb7, l7, o6.below hb7, q6.below hb7, rdr_nil _, rdr_nil _, rdr_nil _⟩
      obtain ⟨g0, hg0⟩ : ∃ g0, w5.heap.size = g0 := ⟨_, rfl⟩
      rw [hg0] at HI7
      have HGE : Hid (w.heap.size < g0) := Lib.hid (by have := HLT.out; omega)
      have HNE : Hid (b1 ≠ g0) := Lib.hid (by omega)
      clear M5 h6 k6 q6 o6 hB5 b6 hb7 e7 l7 hq hb5 hlt5 HK2 HB3 HM2 HLT HK0 HB0 HGQ HH2
      go_wp2
      clear hg0 hb1 x8 f8
      go_loopw [5, 6, 32] (fun er at_ i wr => ∃ (k : Nat) (x y z : Sl), k ≤ 3 ∧ i = .int .i64 (k : Int) ∧ er = .int .i64 (A k).2 ∧ at_ = .int .i64 (A k).1 ∧ RI w b1 g0 (mc id r a t d v op cd q nl nl nl) q x y z Q (LX LL k 0) (LX LL k 1) (LX LL k 2) wr) (fun _ _ i _ => 3 - (intOf i).toNat)
      case atStart => exact ⟨0, nl, nl, nl, by omega, rfl, rfl, rfl, HI7.out⟩
      case round =>
        clear HI7
        obtain ⟨k, x, y, z, hk, rfl, rfl, rfl, hI⟩ := hrel
        obtain rfl | rfl | rfl | rfl : k = 0 ∨ k = 1 ∨ k = 2 ∨ k = 3 := by omega
        · -- list 0
          by_cases ge : (A 0).2 = 0
          · have C := HGO.out 0 (by omega) ge
            have hc := HCNT.out 1 (by omega)
            have HC := Lib.hid C
            have HCN := Lib.hid hc
            have HI := Lib.hid hI
            have ge' : ((A 0).2 == 0) = true := by simpa using ge
            clear C hc hI ge
            go_wp2_with fail
            refine (HCN.out _).mono ?_
            rintro e w' ⟨rfl, rfl⟩
            go_wp2_with fail
            refine (HC.out _).mono ?_
            rintro e w5 ⟨n, rfl, hn, hb5⟩
            have h5 := HI.out.under hb5
            have l0 := h5.l.cell 0
            have lf := h5.l.frozen 0
            simp at l0
            have HI5 := Lib.hid (h5.set0 HGE.out HNE.out hn)
            clear hb5 hn h5
            go_wp2
            go_roundw
            case rel => exact ⟨1, _, _, _, by omega, by first | trivial | rfl, rfl, rfl, HI5.out⟩
            case measure => simp [intOf]
          · have ge' : ((A 0).2 == 0) = false := by simpa using ge
            obtain ⟨e1, e2⟩ := HNO.out 0 ge
            have HE2 := Lib.hid e2
            have HI : Hid (RI w b1 g0 (mc id r a t d v op cd q nl nl nl) q x y z Q (LX LL 1 0) (LX LL 1 1) (LX LL 1 2) wr) := Lib.hid (by
              have e3 : LX LL 1 0 = LX LL 0 0 := by show LL 0 = []; exact e1
              have : RI w b1 g0 (mc id r a t d v op cd q nl nl nl) q x y z Q (LX LL 0 0) (LX LL 0 1) (LX LL 0 2) wr := hI
              rw [← e3] at this
              exact this)
            clear hI ge e1 e2
            go_wp2
            go_roundw
            case rel => exact ⟨1, _, _, _, by omega, by first | trivial | rfl, by rw [HE2.out], by rw [HE2.out], HI.out⟩
            case measure => simp [intOf]
        · -- list 1
          by_cases ge : (A 1).2 = 0
          · have C := HGO.out 1 (by omega) ge
            have hc := HCNT.out 2 (by omega)
            have HC := Lib.hid C
            have HCN := Lib.hid hc
            have HI := Lib.hid hI
            have ge' : ((A 1).2 == 0) = true := by simpa using ge
            clear C hc hI ge
            go_wp2_with fail
            refine (HCN.out _).mono ?_
            rintro e w' ⟨rfl, rfl⟩
            go_wp2_with fail
            refine (HC.out _).mono ?_
            rintro e w5 ⟨n, rfl, hn, hb5⟩
            have h5 := HI.out.under hb5
            have l0 := h5.l.cell 1
            have lf := h5.l.frozen 1
            simp at l0
            have HI5 := Lib.hid (h5.set1 HGE.out HNE.out hn)
            clear hb5 hn h5
            go_wp2
            go_roundw
            case rel => exact ⟨2, _, _, _, by omega, by first | trivial | rfl, rfl, rfl, HI5.out⟩
            case measure => simp [intOf]
          · have ge' : ((A 1).2 == 0) = false := by simpa using ge
            obtain ⟨e1, e2⟩ := HNO.out 1 ge
            have HE2 := Lib.hid e2
            have HI : Hid (RI w b1 g0 (mc id r a t d v op cd q nl nl nl) q x y z Q (LX LL 2 0) (LX LL 2 1) (LX LL 2 2) wr) := Lib.hid (by
              have e3 : LX LL 2 1 = LX LL 1 1 := by show LL 1 = []; exact e1
              have : RI w b1 g0 (mc id r a t d v op cd q nl nl nl) q x y z Q (LX LL 1 0) (LX LL 1 1) (LX LL 1 2) wr := hI
              rw [← e3] at this
              exact this)
            clear hI ge e1 e2
            go_wp2
            go_roundw
            case rel => exact ⟨2, _, _, _, by omega, by first | trivial | rfl, by rw [HE2.out], by rw [HE2.out], HI.out⟩
            case measure => simp [intOf]
        · -- list 2
          by_cases ge : (A 2).2 = 0
          · have C := HGO.out 2 (by omega) ge
            have hc := HCNT.out 3 (by omega)
            have HC := Lib.hid C
            have HCN := Lib.hid hc
            have HI := Lib.hid hI
            have ge' : ((A 2).2 == 0) = true := by simpa using ge
            clear C hc hI ge
            go_wp2_with fail
            refine (HCN.out _).mono ?_
            rintro e w' ⟨rfl, rfl⟩
            go_wp2_with fail
            refine (HC.out _).mono ?_
            rintro e w5 ⟨n, rfl, hn, hb5⟩
            have h5 := HI.out.under hb5
            have l0 := h5.l.cell 2
            have lf := h5.l.frozen 2
            simp at l0
            have HI5 := Lib.hid (h5.set2 HGE.out HNE.out hn)
            clear hb5 hn h5
            go_wp2
            go_roundw
            case rel => exact ⟨3, _, _, _, by omega, by first | trivial | rfl, rfl, rfl, HI5.out⟩
            case measure => simp [intOf]
          · have ge' : ((A 2).2 == 0) = false := by simpa using ge
            obtain ⟨e1, e2⟩ := HNO.out 2 ge
            have HE2 := Lib.hid e2
            have HI : Hid (RI w b1 g0 (mc id r a t d v op cd q nl nl nl) q x y z Q (LX LL 3 0) (LX LL 3 1) (LX LL 3 2) wr) := Lib.hid (by
              have e3 : LX LL 3 2 = LX LL 2 2 := by show LL 2 = []; exact e1
              have : RI w b1 g0 (mc id r a t d v op cd q nl nl nl) q x y z Q (LX LL 2 0) (LX LL 2 1) (LX LL 2 2) wr := hI
              rw [← e3] at this
              exact this)
            clear hI ge e1 e2
            go_wp2
            go_roundw
            case rel => exact ⟨3, _, _, _, by omega, by first | trivial | rfl, by rw [HE2.out], by rw [HE2.out], HI.out⟩
            case measure => simp [intOf]
        · have hI2 : RI w b1 g0 (mc id r a t d v op cd q nl nl nl) q x y z Q (LL 0) (LL 1) (LL 2) wr := hI
          have HI := Lib.hid hI2
          by_cases g1 : (A 3).2 = 0
          · have g1' : ((A 3).2 == 0) = true := by simpa using g1
            by_cases g2 : (A 3).1 = (s.size : Int)
            · have g2' : ((A 3).1 == (s.size : Int)) = true := by simpa using g2
              have HRE : Hid (R = (⟨id, r, a, t, d, v, op, cd, Q, LL 0, LL 1, LL 2⟩, 0)) := Lib.hid (by rw [HF.out, if_neg (by simpa using g1), if_neg (by simpa using g2)])
              have HMM := Lib.hid hI2.m
              have HLL := Lib.hid hI2.l
              clear hI hI2 g1 g2 HF
              go_wp2_with (first | (refine ld12 (.tmp 4) HMM.out rfl rfl rfl rfl ?_) | (refine ld56 (.tmp 7) HLL.out rfl rfl rfl rfl ?_))
              refine (with_any id r a t d v op cd q nl nl nl x y z wr).mono ?_
              rintro e w8 ⟨rfl, hb8⟩
              have h8 := HI.out.under hb8
              have HZ := Lib.hid h8.o
              have H8 := Lib.hid h8
              clear hb8 h8 HI HMM HLL
              go_wp2_with (first | (refine st12 (.tmp 2) (.tmp 62) HZ.out rfl rfl rfl rfl rfl ?_))
              refine bodyPost_ret (res12t rfl rfl (HZ.out.row (mc id r a t d v op cd q x y z))) rfl ?_
              have k8 := row_others w8 w.heap.size (mc id r a t d v op cd q x y z)
              have ns : NoS zcs := mc_ns _ _ _ _ _ _ _ _ _ _ _ _
              refine ⟨q, x, y, z, by rw [HRE.out]; rfl, ?_, below_row H8.out.b (Nat.le_refl _) _⟩
              rw [HRE.out]
              exact ⟨H8.out.q.other HZ.out ns k8.1 k8.2, H8.out.x.other HZ.out ns k8.1 k8.2, H8.out.y.other HZ.out ns k8.1 k8.2, H8.out.z.other HZ.out ns k8.1 k8.2⟩
            · have g2' : ((A 3).1 == (s.size : Int)) = false := by simpa using g2
              have g2'' : ((A 3).1 != (s.size : Int)) = true := by simpa using g2
              have HRE : Hid (R = (zeroM, 10)) := Lib.hid (by rw [HF.out, if_neg (by simpa using g1), if_pos g2])
              have HZ := Lib.hid hI2.o
              have HB := Lib.hid hI2.b
              clear hI hI2 g1 g2 HF HI
              go_wp2_with (first | (refine st12z (.tmp 2) (.tmp 59) HZ.out rfl rfl rfl rfl rfl ?_))
              refine bodyPost_ret (res12t rfl rfl (HZ.out.row zcs)) rfl ?_
              exact rpost_zero HRE.out (below_row HB.out (Nat.le_refl _) _)
          · have g1' : ((A 3).2 == 0) = false := by simpa using g1
            have g1'' : ((A 3).2 != 0) = true := by simpa using g1
            have HRE : Hid (R = (zeroM, (A 3).2)) := Lib.hid (by rw [HF.out, if_pos g1])
            have HZ := Lib.hid hI2.o
            have HB := Lib.hid hI2.b
            clear hI hI2 g1 HF HI
            go_wp2_with (first | (refine st12z (.tmp 2) (.tmp 53) HZ.out rfl rfl rfl rfl rfl ?_))
            refine bodyPost_ret (res12t rfl rfl (HZ.out.row zcs)) rfl ?_
            exact rpost_zero HRE.out (below_row HB.out (Nat.le_refl _) _)
end Go.Proofs.Ytljfkjbagebncaa

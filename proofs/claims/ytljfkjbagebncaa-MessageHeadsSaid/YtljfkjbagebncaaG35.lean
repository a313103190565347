/-
  Few: The law's cuts: at most thirty records, with short texts. No older memory is changed.
  Small: The law's cut of a message: at most thirty of each kind, with short texts. No older memory is changed.
-/
import Derived.Test.YtljfkjbagebncaaG39
import Derived.Test.YtljfkjbagebncaaG37

/- Few -/
namespace Go.Proofs.Ytljfkjbagebncaa
open Go.RowKit
/-- Few records, with short texts. -/
structure Lim (rs : List Rc) : Prop where
  n : rs.length ≤ 30
  r : ∀ r ∈ rs, r.Num ∧ r.n.size ≤ 300 ∧ r.d.size ≤ 2100
theorem lim_nil : Lim [] := ⟨by simp, by simp⟩
theorem lim_snoc {rs : List Rc} {r : Rc} (h : ∀ r ∈ rs, r.Num ∧ r.n.size ≤ 300 ∧ r.d.size ≤ 2100) (hr : r.Num ∧ r.n.size ≤ 300 ∧ r.d.size ≤ 2100) : ∀ x ∈ rs ++ [r], x.Num ∧ x.n.size ≤ 300 ∧ x.d.size ≤ 2100 := by
  intro x hx
  rcases List.mem_append.1 hx with h1 | h1
  · exact h x h1
  · simp at h1; subst h1; exact hr
/-- A row of one's own that has no block has no room. -/
theorem row_rdr2 {w : World} {base : Nat} {v : Value} {rs : List Rc} (h : w.ownsRow base 61 5 v rs.length (rcc rs)) : ∃ s : Sl, v = s.v ∧ RdR w s rs ∧ (s.a = none → s.c = 0) := by
  obtain ⟨s, hv, hr⟩ := row_rdr h
  refine ⟨s, hv, hr, fun ha => ?_⟩
  rcases h.2 with ⟨rfl, h0⟩ | ⟨g, cap, cur, rfl, _, _, hc, _⟩
  · injection hv with _ e1 e2
    omega
  · injection hv with e0 e1 e2
    rw [ha] at e0; cases e0
set_option maxRecDepth 100000 in
set_option maxHeartbeats 12800000 in
theorem few_any (s : Sl) (rs : List Rc) (hnum : ∀ r ∈ rs, r.Num) (w : World) (h : RdR w s rs) :
    Calls Try.prog 27 #[s.v] w fun e w' => ∃ (s' : Sl) (rs' : List Rc), e = .returned s'.v ∧ RdR w' s' rs' ∧ Lim rs' ∧ (s'.a = none → s'.c = 0) ∧ Below w.heap.size w w' := by
  obtain ⟨i0, hi, hz0, hz1, hz2⟩ := info_parts info25
  have HL := Lib.hid h
  have HNUM := Lib.hid hnum
  clear h hnum
  obtain ⟨sa, sn, sc⟩ := s
  show Calls Try.prog 27 #[.slice sa sn sc] w _
  have hsn : sn = rs.length := HL.out.1
  have HSN := Lib.hid hsn
  clear hsn
  go_enter Try.func27, Try.ntmps27
  go_wp2
  go_loopw [3, 4] (fun v i wr => ∃ (k : Nat) (qs : List Rc), k ≤ 30 ∧ i = .int .i64 (k : Int) ∧ qs.length = k ∧ wr.ownsRow w.heap.size 61 5 v qs.length (rcc qs) ∧ Below w.heap.size w wr ∧ (∀ r ∈ qs, r.Num ∧ r.n.size ≤ 300 ∧ r.d.size ≤ 2100)) (fun _ i _ => 30 - (intOf i).toNat)
  case atStart => exact ⟨0, [], by omega, rfl, rfl, World.ownsRow_nil _ _ _ _, Below.refl _ _, by simp⟩
  case round =>
    obtain ⟨k, qs, hk, rfl, hql, hown, hb, hall⟩ := hrel
    have HOWN := Lib.hid hown
    have HB := Lib.hid hb
    have HALL := Lib.hid hall
    have HQL := Lib.hid hql
    by_cases hlt : k < sn
    · have q1 : (k : Int) < (sn : Int) := by omega
      by_cases hl2 : k < 30
      · have q2 : (k : Int) < 30 := by omega
        obtain ⟨q, hq⟩ : ∃ q, rs[k]? = some q := ⟨_, List.getElem?_eq_getElem (by rw [← HSN.out]; exact hlt)⟩
        obtain ⟨b, off, hsa, hbl, c0, c1, c2, c3, c4⟩ := HL.out.get hq
        have hqn := HNUM.out q (List.mem_of_getElem? hq)
        simp only at hsa
        subst hsa
        have d0 := (hb.cell (p := ⟨b, off + k * 5, none⟩) hbl).trans c0
        have d1 := (hb.cell (p := ⟨b, off + k * 5 + 1, none⟩) hbl).trans c1
        have d2 := (hb.cell (p := ⟨b, off + k * 5 + 2, none⟩) hbl).trans c2
        have d3 := (hb.cell (p := ⟨b, off + k * 5 + 3, none⟩) hbl).trans c3
        have d4 := (hb.cell (p := ⟨b, off + k * 5 + 4, none⟩) hbl).trans c4
        obtain ⟨qn, qt, qc, ql, qd⟩ := q
        simp only at d0 d1 d2 d3 d4
        obtain ⟨nn, hnn, S1⟩ := short_any qn 300
        obtain ⟨dd, hdd, S2⟩ := short_any qd 2100
        have HS1 : Hid (∀ w, Calls Try.prog 13 #[.string qn, .int .i64 300] w fun e w' => e = .returned (.string nn) ∧ w = w') := Lib.hid S1
        have HS2 : Hid (∀ w, Calls Try.prog 13 #[.string qd, .int .i64 2100] w fun e w' => e = .returned (.string dd) ∧ w = w') := Lib.hid S2
        have HR : Hid ((⟨nn, qt, qc, ql, dd⟩ : Rc).Num ∧ nn.size ≤ 300 ∧ dd.size ≤ 2100) := Lib.hid ⟨⟨hqn.t, hqn.c, hqn.l⟩, hnn, hdd⟩
        clear c0 c1 c2 c3 c4 hb hq hbl hown hall hql S1 S2 hnn hdd hqn
        go_wp2_with fail
        refine (HS1.out _).mono ?_
        rintro e w' ⟨rfl, rfl⟩
        go_wp2_with fail
        have HC7 := Lib.hid (Ce.new wr 61 #[.string nn, .int .u16 (qt : Int), .int .u16 (qc : Int), .int .u32 (ql : Int), .string dd])
        have HB7 := Lib.hid (one_box wr (.cells #[.string nn, .int .u16 (qt : Int), .int .u16 (qc : Int), .int .u32 (ql : Int), .string dd] 61))
        have hown7 := row_under HOWN.out HB7.out
        have hb7 := HB.out.trans (HB7.out.mono HB.out.size)
        have hsz7 := hb7.size
        obtain ⟨va, vc, rfl⟩ := row_slice hown7
        have hlen := HQL.out
        rw [hlen] at hown7 ⊢
        have HO7 := Lib.hid hown7
        have HBW := Lib.hid hb7
        clear d0 d1 d2 d3 d4 hown7 hb7
        refine (HS2.out _).mono ?_
        rintro e w' ⟨rfl, rfl⟩
        go_wp2_with (first | (refine ld61 (.tmp 5) HC7.out rfl rfl rfl rfl ?_) | (at_builtin; go_loud (refine wpList_append_own_at _ rfl (.tmp 28) (.tmp 30) 24 rfl w.heap.size 61 i0 (.agg #[.string ⟨#[]⟩, .int .u16 0, .int .u16 0, .int .u32 0, .string ⟨#[]⟩]) 5 40 Try.underlying24 hi hz0 hz1 hz2 rfl (by decide) _ k _ rfl (World.ownsRow.alloc HO7.out _) ⟨wr.heap.size + 1, 0, none⟩ 1 1 [.string nn, .int .u16 (qt : Int), .int .u16 (qc : Int), .int .u32 (ql : Int), .string dd] rfl rfl (fun j u hj => World.news_of_block (cs := #[.string nn, .int .u16 (qt : Int), .int .u16 (qc : Int), .int .u32 (ql : Int), .string dd]) (t := 61) (fr := (0, 0)) (by have := heap_alloc_new (wr.alloc (.cells #[.string nn, .int .u16 (qt : Int), .int .u16 (qc : Int), .int .u32 (ql : Int), .string dd] 61)) (.cells #[.string nn, .int .u16 (qt : Int), .int .u16 (qc : Int), .int .u32 (ql : Int), .string dd] 61); rwa [World.size_alloc] at this) j u hj) (by simp [Value.oneCell']) (by unfold maxLen; omega) (by omega) (by simp at hsz7 ⊢; omega) ?_)))
        intro v' w7 hown' hgrow _ hat
        have HB8 := Lib.hid (row_grown HO7.out (Nat.le_refl _) HBW.out hgrow)
        have HO8 : Hid (w7.ownsRow w.heap.size 61 5 v' (qs ++ [(⟨nn, qt, qc, ql, dd⟩ : Rc)]).length (rcc (qs ++ [(⟨nn, qt, qc, ql, dd⟩ : Rc)]))) := Lib.hid (by
          rw [rcc_snoc, List.length_append, HQL.out]; exact hown')
        have HQ8 : Hid ((qs ++ [(⟨nn, qt, qc, ql, dd⟩ : Rc)]).length = k + 1) := Lib.hid (by rw [List.length_append, HQL.out]; rfl)
        have HA8 : Hid (∀ r ∈ qs ++ [(⟨nn, qt, qc, ql, dd⟩ : Rc)], r.Num ∧ r.n.size ≤ 300 ∧ r.d.size ≤ 2100) := Lib.hid (lim_snoc HALL.out HR.out)
        clear hown' hgrow hat hlen
        go_wp2
        go_roundw
        case rel => exact ⟨k + 1, _, by omega, by go_num, HQ8.out, HO8.out, HB8.out, HA8.out⟩
        case measure => simp [intOf]; omega
      · have q2 : decide ((k : Int) < 30) = false := by simp; omega
        clear hb hown hall hql
        obtain ⟨sl, rfl, hsl⟩ := row_rdr2 HOWN.out
        have HSL := Lib.hid hsl
        clear hsl
        go_wp2
        go_ret
        exact ⟨sl, qs, rfl, HSL.out.1, ⟨by rw [HQL.out]; exact hk, HALL.out⟩, HSL.out.2, HB.out⟩
    · have q1 : decide ((k : Int) < (sn : Int)) = false := by simp; omega
      clear hb hown hall hql
      obtain ⟨sl, rfl, hsl⟩ := row_rdr2 HOWN.out
      have HSL := Lib.hid hsl
      clear hsl
      go_wp2
      go_ret
      exact ⟨sl, qs, rfl, HSL.out.1, ⟨by rw [HQL.out]; exact hk, HALL.out⟩, HSL.out.2, HB.out⟩
end Go.Proofs.Ytljfkjbagebncaa

/- Small -/
namespace Go.Proofs.Ytljfkjbagebncaa
open Go.RowKit
/-- Few questions, with short names. -/
structure LimQ (qs : List Qn) : Prop where
  n : qs.length ≤ 30
  q : ∀ q ∈ qs, q.Num ∧ q.n.size ≤ 300
theorem limq_snoc {rs : List Qn} {r : Qn} (h : ∀ r ∈ rs, r.Num ∧ r.n.size ≤ 300) (hr : r.Num ∧ r.n.size ≤ 300) : ∀ x ∈ rs ++ [r], x.Num ∧ x.n.size ≤ 300 := by
  intro x hx
  rcases List.mem_append.1 hx with h1 | h1
  · exact h x h1
  · simp at h1; subst h1; exact hr
/-- What the law's cut of a message is. -/
structure LimM (m : Ms) : Prop where
  q : LimQ m.qs
  x : Lim m.an
  y : Lim m.au
  z : Lim m.ex
/-- A row of one's own has room for what it holds. -/
theorem row_rdq2 {w : World} {base : Nat} {v : Value} {qs : List Qn} (h : w.ownsRow base 44 3 v qs.length (qcc qs)) : ∃ s : Sl, v = s.v ∧ RdQ w s qs ∧ s.n ≤ s.c := by
  obtain ⟨s, hv, hr⟩ := row_rdq h
  refine ⟨s, hv, hr, ?_⟩
  rcases h.2 with ⟨rfl, h0⟩ | ⟨g, cap, cur, rfl, _, _, hc, _⟩
  · injection hv with _ e1 e2
    omega
  · injection hv with _ e1 e2
    omega
/-- What the loop over the questions knows. -/
structure SI (w : World) (cs : Array Value) (v : Value) (us : List Qn) (wr : World) : Prop where
  b : Below w.heap.size w wr
  m : Ce wr w.heap.size 26 cs
  o : Ce wr (w.heap.size + 1) 26 zcs
  r : wr.ownsRow w.heap.size 44 3 v us.length (qcc us)
theorem SI.under {w : World} {cs : Array Value} {v : Value} {us : List Qn} {wr w' : World} (h : SI w cs v us wr) (hb : Below wr.heap.size wr w') : SI w cs v us w' :=
  ⟨h.b.trans (hb.mono h.b.size), h.m.below hb, h.o.below hb, row_under h.r hb⟩
theorem SI.app {w : World} {cs : Array Value} {v v' : Value} {us : List Qn} {q : Qn} {wr w7 : World} {o o' : Obj} (h : SI w cs v us wr)
    (hown : w7.ownsRow w.heap.size 44 3 v' (us.length + 1) (qcc us ++ q.cells.toList)) (hg : ((wr.alloc o).alloc o').grownBy w7 v.ownBlock) : SI w cs v' (us ++ [q]) w7 := by
  have ha := h.under (one_box wr o)
  have hb := row_grown ha.r (Nat.le_refl _) ha.b hg
  have h2 := ha.under (one_box _ o')
  refine ⟨hb, h2.m.keptBy hg (h2.m.noRow h2.r (by decide)), h2.o.keptBy hg (h2.o.noRow h2.r (by decide)), ?_⟩
  rw [qcc_snoc, List.length_append]; exact hown
/-- What the calls on the lists know. -/
structure SM (w : World) (cs : Array Value) (q x y z : Sl) (Q : List Qn) (X Y Z : List Rc) (wr : World) : Prop where
  b : Below w.heap.size w wr
  m : Ce wr w.heap.size 26 cs
  o : Ce wr (w.heap.size + 1) 26 zcs
  q : RdQ wr q Q
  x : RdR wr x X
  y : RdR wr y Y
  z : RdR wr z Z
section
variable {w : World} {cs : Array Value} {q x y z : Sl} {Q : List Qn} {X Y Z : List Rc} {wr : World}
theorem SM.under {w' : World} (h : SM w cs q x y z Q X Y Z wr) (hb : Below wr.heap.size wr w') : SM w cs q x y z Q X Y Z w' :=
  ⟨h.b.trans (hb.mono h.b.size), h.m.below hb, h.o.below hb, h.q.below hb, h.x.below hb, h.y.below hb, h.z.below hb⟩
theorem SM.set (h : SM w cs q x y z Q X Y Z wr) (hn : NoS cs) (i : Nat) (v : Value) : SM w (cs.setIfInBounds i v) q x y z Q X Y Z (wr.setCell ⟨w.heap.size, i, none⟩ v) :=
  let k := set_others wr w.heap.size i v
  ⟨h.b.setCell (p := ⟨w.heap.size, i, none⟩) (Nat.le_refl _) _, h.m.set _, h.o.other (Nat.succ_ne_self _) _, h.q.other h.m hn k.1 k.2, h.x.other h.m hn k.1 k.2, h.y.other h.m hn k.1 k.2, h.z.other h.m hn k.1 k.2⟩
theorem SM.putX {w' : World} {n : Sl} {N : List Rc} (h : SM w cs q x y z Q X Y Z wr) (hb : Below wr.heap.size wr w') (hn : RdR w' n N) : SM w cs q n y z Q N Y Z w' :=
  let h' := h.under hb
  ⟨h'.b, h'.m, h'.o, h'.q, hn, h'.y, h'.z⟩
theorem SM.putY {w' : World} {n : Sl} {N : List Rc} (h : SM w cs q x y z Q X Y Z wr) (hb : Below wr.heap.size wr w') (hn : RdR w' n N) : SM w cs q x n z Q X N Z w' :=
  let h' := h.under hb
  ⟨h'.b, h'.m, h'.o, h'.q, h'.x, hn, h'.z⟩
theorem SM.putZ {w' : World} {n : Sl} {N : List Rc} (h : SM w cs q x y z Q X Y Z wr) (hb : Below wr.heap.size wr w') (hn : RdR w' n N) : SM w cs q x y n Q X Y N w' :=
  let h' := h.under hb
  ⟨h'.b, h'.m, h'.o, h'.q, h'.x, h'.y, hn⟩
end
set_option maxRecDepth 100000 in
set_option maxHeartbeats 12800000 in
theorem small_any (m : Ms) (q x y z : Sl) (w : World) (h : Lay w m q x y z) (hq : ∀ r ∈ m.qs, r.Num) (hx : ∀ r ∈ m.an, r.Num) (hy : ∀ r ∈ m.au, r.Num) (hz : ∀ r ∈ m.ex, r.Num) :
    Calls Try.prog 10 #[.agg (m.cells q x y z)] w fun e w' => ∃ (qs : List Qn) (an au ex : List Rc) (q' x' y' z' : Sl), e = .returned (.agg (mc m.id m.r m.a m.t m.d m.v m.op m.cd q' x' y' z')) ∧
      RdQ w' q' qs ∧ RdR w' x' an ∧ RdR w' y' au ∧ RdR w' z' ex ∧ LimQ qs ∧ Lim an ∧ Lim au ∧ Lim ex ∧ q'.n ≤ q'.c ∧ ((x'.a = none → x'.c = 0) ∧ (y'.a = none → y'.c = 0) ∧ (z'.a = none → z'.c = 0)) ∧ Below w.heap.size w w' := by
  obtain ⟨i0, hi, hz0, hz1, hz2⟩ := info_parts infoQ
  have ht := two_boxes w 26 26 (m.cells q x y z) zcs
  simp only at ht
  obtain ⟨K0, K1, KB⟩ := ht
  obtain ⟨id, r, a, t, d, v, op, cd, qs, an, au, ex⟩ := m
  have HI : Hid (SI w (mc id r a t d v op cd q x y z) (.slice none 0 0) [] ((w.alloc (.cells (mc id r a t d v op cd q x y z) 26)).alloc (.cells zcs 26))) :=
    Lib.hid ⟨KB, K0, K1, World.ownsRow_nil _ _ _ _⟩
  have HL := Lib.hid h
  have HNQ := Lib.hid hq
  have HNX := Lib.hid hx
  have HNY := Lib.hid hy
  have HNZ := Lib.hid hz
  clear K0 K1 KB h hq hx hy hz
  obtain ⟨qa, qn, qc⟩ := q
  have hsn : qn = qs.length := HL.out.q.1
  have HSN := Lib.hid hsn
  clear hsn
  go_enter Try.func10, Try.ntmps10
  go_wp2_with fail
  go_loopw [3, 4] (fun u i wr => ∃ (k : Nat) (us : List Qn), k ≤ 30 ∧ i = .int .i64 (k : Int) ∧ us.length = k ∧ SI w (mc id r a t d v op cd ⟨qa, qn, qc⟩ x y z) u us wr ∧ (∀ r ∈ us, r.Num ∧ r.n.size ≤ 300)) (fun _ i _ => 30 - (intOf i).toNat)
  case atStart => exact ⟨0, [], by omega, rfl, rfl, HI.out, by simp⟩
  case round =>
    clear HI
    obtain ⟨k, us, hk, rfl, hql, hI, hall⟩ := hrel
    have HI := Lib.hid hI
    have HALL := Lib.hid hall
    have HQL := Lib.hid hql
    by_cases hgo : k < qn ∧ k < 30
    · have q1 : (k : Int) < (qn : Int) := by omega
      have q2 : (k : Int) < 30 := by omega
      obtain ⟨g, hg⟩ : ∃ g, qs[k]? = some g := ⟨_, List.getElem?_eq_getElem (by rw [← HSN.out]; exact hgo.1)⟩
      obtain ⟨b, off, hsa, hbl, d0, d1, d2⟩ := (HL.out.below hI.b).q.get hg
      have hqn := HNQ.out g (List.mem_of_getElem? hg)
      simp only at hsa
      subst hsa
      have x8 : wr.cell? ⟨w.heap.size, 8, none⟩ = some (.slice (some ⟨b, off, none⟩) qn qc) := (hI.m.cell 8).trans rfl
      obtain ⟨un, ut, uc⟩ := g
      simp only at d0 d1 d2
      obtain ⟨nn, hnn, S1⟩ := short_any un 300
      have HS1 : Hid (∀ w, Calls Try.prog 13 #[.string un, .int .i64 300] w fun e w' => e = .returned (.string nn) ∧ w = w') := Lib.hid S1
      have HR : Hid ((⟨nn, ut, uc⟩ : Qn).Num ∧ nn.size ≤ 300) := Lib.hid ⟨⟨hqn.t, hqn.c⟩, hnn⟩
      have HHG := Lib.hid hgo
      clear hg hbl hI hall hql S1 hnn hqn hgo
      go_wp2_with fail
      refine (HS1.out _).mono ?_
      rintro e w' ⟨rfl, rfl⟩
      have HC7 := Lib.hid (Ce.new wr 44 #[.string nn, .int .u16 (ut : Int), .int .u16 (uc : Int)])
      have HB7 := Lib.hid (one_box wr (.cells #[.string nn, .int .u16 (ut : Int), .int .u16 (uc : Int)] 44))
      have h7 := HI.out.under HB7.out
      have hsz7 := h7.b.size
      have hown7 := h7.r
      obtain ⟨va, vc, rfl⟩ := row_slice hown7
      have hlen := HQL.out
      rw [hlen] at hown7 ⊢
      have HO7 := Lib.hid hown7
      have hgo := HHG.out
      clear d0 d1 d2 hown7 h7 x8
      go_wp2_with (first | (refine ld44 (.tmp 5) HC7.out rfl rfl rfl rfl ?_) | (at_builtin; go_loud (refine wpList_append_own_at _ rfl (.tmp 26) (.tmp 28) 23 rfl w.heap.size 44 i0 (.agg #[.string ⟨#[]⟩, .int .u16 0, .int .u16 0]) 3 24 Try.underlying23 hi hz0 hz1 hz2 rfl (by decide) _ k _ rfl (World.ownsRow.alloc HO7.out _) ⟨wr.heap.size + 1, 0, none⟩ 1 1 [.string nn, .int .u16 (ut : Int), .int .u16 (uc : Int)] rfl rfl (fun j u hj => World.news_of_block (cs := #[.string nn, .int .u16 (ut : Int), .int .u16 (uc : Int)]) (t := 44) (fr := (0, 0)) (by have := heap_alloc_new (wr.alloc (.cells #[.string nn, .int .u16 (ut : Int), .int .u16 (uc : Int)] 44)) (.cells #[.string nn, .int .u16 (ut : Int), .int .u16 (uc : Int)] 44); rwa [World.size_alloc] at this) j u hj) (by simp [Value.oneCell']) (by unfold maxLen; omega) (by omega) (by simp at hsz7 ⊢; omega) ?_)))
      intro v' w7 hown' hgrow _ hat
      have H8 := Lib.hid (HI.out.app (q := ⟨nn, ut, uc⟩) (by rw [HQL.out]; exact hown') (by rw [HQL.out]; exact hgrow))
      have HQ8 : Hid ((us ++ [(⟨nn, ut, uc⟩ : Qn)]).length = k + 1) := Lib.hid (by rw [List.length_append, HQL.out]; rfl)
      have HA8 : Hid (∀ r ∈ us ++ [(⟨nn, ut, uc⟩ : Qn)], r.Num ∧ r.n.size ≤ 300) := Lib.hid (limq_snoc HALL.out HR.out)
      clear hown' hgrow hat hlen
      go_wp2
      go_roundw
      case rel => exact ⟨k + 1, _, by omega, by go_num, HQ8.out, H8.out, HA8.out⟩
      case measure => simp [intOf]; omega
    · obtain ⟨sl, rfl, hsl, hcap⟩ := row_rdq2 hI.r
      have HCAP := Lib.hid hcap
      clear hcap
      have hL := HL.out.below hI.b
      have e0 : SM w (mc id r a t d v op cd ⟨qa, qn, qc⟩ x y z) sl x y z us an au ex wr := ⟨hI.b, hI.m, hI.o, hsl, hL.x, hL.y, hL.z⟩
      have HLQ : Hid (LimQ us) := Lib.hid ⟨by rw [hql]; exact hk, hall⟩
      have x8 : wr.cell? ⟨w.heap.size, 8, none⟩ = some (.slice qa qn qc) := (e0.m.cell 8).trans rfl
      have f8 := e0.m.frozen 8
      have e1 : SM w (mc id r a t d v op cd sl x y z) sl x y z us an au ex (wr.setCell ⟨w.heap.size, 8, none⟩ sl.v) := e0.set (mc_ns _ _ _ _ _ _ _ _ _ _ _ _) 8 sl.v
      have y9 : (wr.setCell ⟨w.heap.size, 8, none⟩ sl.v).cell? ⟨w.heap.size, 9, none⟩ = some x.v := (e1.m.cell 9).trans rfl
      have E1 := Lib.hid e1
      have hgo' : qn ≤ k ∨ (k < qn ∧ 30 ≤ k) := by omega
      clear hsl hL e0 e1 hI hall hql HI HALL HQL hgo
      rcases hgo' with hge | ⟨hlt, hge⟩
      have q1 : decide ((k : Int) < (qn : Int)) = false := by simp; omega
      rotate_left
      have q1 : (k : Int) < (qn : Int) := by omega
      have q2 : decide ((k : Int) < 30) = false := by simp; omega
      all_goals
        go_wp2_with fail
        refine (few_any x an HNX.out _ E1.out.x).mono ?_
        rintro e w4 ⟨x', an', rfl, hx', hlx, hnx, hb4⟩
        have e2 := E1.out.putX hb4 hx'
        have z9 : w4.cell? ⟨w.heap.size, 9, none⟩ = some x.v := (e2.m.cell 9).trans rfl
        have f9 := e2.m.frozen 9
        have e3 : SM w (mc id r a t d v op cd sl x' y z) sl x' y z us an' au ex (w4.setCell ⟨w.heap.size, 9, none⟩ x'.v) := e2.set (mc_ns _ _ _ _ _ _ _ _ _ _ _ _) 9 x'.v
        have y10 : (w4.setCell ⟨w.heap.size, 9, none⟩ x'.v).cell? ⟨w.heap.size, 10, none⟩ = some y.v := (e3.m.cell 10).trans rfl
        have E3 := Lib.hid e3
        have HLX := Lib.hid hlx
        have HNX0 := Lib.hid hnx
        clear e2 e3 hb4 hx' hlx hnx x8 f8 y9 E1
        go_wp2_with fail
        refine (few_any y au HNY.out _ E3.out.y).mono ?_
        rintro e w5 ⟨y', au', rfl, hy', hly, hny, hb5⟩
        have e4 := E3.out.putY hb5 hy'
        have z10 : w5.cell? ⟨w.heap.size, 10, none⟩ = some y.v := (e4.m.cell 10).trans rfl
        have f10 := e4.m.frozen 10
        have e5 : SM w (mc id r a t d v op cd sl x' y' z) sl x' y' z us an' au' ex (w5.setCell ⟨w.heap.size, 10, none⟩ y'.v) := e4.set (mc_ns _ _ _ _ _ _ _ _ _ _ _ _) 10 y'.v
        have y11 : (w5.setCell ⟨w.heap.size, 10, none⟩ y'.v).cell? ⟨w.heap.size, 11, none⟩ = some z.v := (e5.m.cell 11).trans rfl
        have E5 := Lib.hid e5
        have HLY := Lib.hid hly
        have HNY0 := Lib.hid hny
        clear e4 e5 hb5 hy' hly hny z9 f9 y10 E3
        go_wp2_with fail
        refine (few_any z ex HNZ.out _ E5.out.z).mono ?_
        rintro e w6 ⟨z', ex', rfl, hz', hlz, hnz, hb6⟩
        have e6 := E5.out.putZ hb6 hz'
        have z11 : w6.cell? ⟨w.heap.size, 11, none⟩ = some z.v := (e6.m.cell 11).trans rfl
        have f11 := e6.m.frozen 11
        have e7 : SM w (mc id r a t d v op cd sl x' y' z') sl x' y' z' us an' au' ex' (w6.setCell ⟨w.heap.size, 11, none⟩ z'.v) := e6.set (mc_ns _ _ _ _ _ _ _ _ _ _ _ _) 11 z'.v
        have E7 := Lib.hid e7
        have HMM := Lib.hid e7.m
        have HZ := Lib.hid e7.o
        have HLZ := Lib.hid hlz
        have HNZ0 := Lib.hid hnz
        clear e6 e7 hb6 hz' hlz hnz z10 f10 y11 E5
        go_wp2_with (first | (refine ld12 (.tmp 1) HMM.out rfl rfl rfl rfl ?_) | (refine st12 (.tmp 2) (.tmp 44) HZ.out rfl rfl rfl rfl rfl ?_))
        refine bodyPost_ret (res12 rfl rfl (HZ.out.row (mc id r a t d v op cd sl x' y' z'))) rfl ?_
        have k8 := row_others (w6.setCell ⟨w.heap.size, 11, none⟩ z'.v) (w.heap.size + 1) (mc id r a t d v op cd sl x' y' z')
        have ns : NoS zcs := mc_ns _ _ _ _ _ _ _ _ _ _ _ _
        exact ⟨us, an', au', ex', sl, x', y', z', rfl, E7.out.q.other HZ.out ns k8.1 k8.2, E7.out.x.other HZ.out ns k8.1 k8.2, E7.out.y.other HZ.out ns k8.1 k8.2, E7.out.z.other HZ.out ns k8.1 k8.2, HLQ.out, HLX.out, HLY.out, HLZ.out, HCAP.out, ⟨HNX0.out, HNY0.out, HNZ0.out⟩, below_row E7.out.b (Nat.le_succ _) _⟩
end Go.Proofs.Ytljfkjbagebncaa

/-
  RHead: What the document's Head answers, for every text. No older memory is changed.
  RRecs: How the document reads records one behind the other. No older memory is changed.
  RRead: What the document's Read answers, for every text. No older memory is changed.
-/
import Derived.Test.YtljfkjbagebncaaG32
import Derived.Test.YtljfkjbagebncaaG31

/- RHead -/
namespace Go.Proofs.Ytljfkjbagebncaa
open Go.RowKit
theorem bt_15 (n : Nat) (h : n < 65536) : ((n : Int) / 32768 == 1) = bt n 15 := by unfold bt; rw [Bool.eq_iff_iff]; simp; omega
theorem bt_10 (n : Nat) : ((n : Int) / 1024 % 2 == 1) = bt n 10 := by unfold bt; rw [Bool.eq_iff_iff]; simp; omega
theorem bt_9 (n : Nat) : ((n : Int) / 512 % 2 == 1) = bt n 9 := by unfold bt; rw [Bool.eq_iff_iff]; simp; omega
theorem bt_8 (n : Nat) : ((n : Int) / 256 % 2 == 1) = bt n 8 := by unfold bt; rw [Bool.eq_iff_iff]; simp; omega
theorem bt_7 (n : Nat) : ((n : Int) / 128 % 2 == 1) = bt n 7 := by unfold bt; rw [Bool.eq_iff_iff]; simp; omega
set_option maxRecDepth 100000 in
set_option maxHeartbeats 12800000 in
theorem rmhead_any (s : ByteArray) (hs : s.size ≤ 1000000) (w : World) : Calls Try.prog 17 #[.string s] w (HPost w (mhead s.data.toList)) := by
  obtain ⟨R, hR⟩ : ∃ R, R = mhead s.data.toList := ⟨_, rfl⟩
  rw [← hR]
  have hsz := size_list s
  have k0 := Ce.new w 26 zcs
  have hb0 := one_box w (.cells zcs 26)
  have HK := Lib.hid k0
  have HB := Lib.hid hb0
  clear k0 hb0
  by_cases g : s.size < 12
  · have HR : Hid (R = (zeroM, 10)) := Lib.hid (by rw [hR]; exact if_pos (by omega))
    have gi : (s.size : Int) < 12 := by omega
    clear hR hsz g hs
    go_enter Try.func17, Try.ntmps17
    go_wp2
    refine bodyPost_ret (res12t rfl rfl HK.out) rfl ?_
    exact ⟨by rw [HR.out]; rfl, HB.out⟩
  · obtain ⟨n, hn⟩ : ∃ n, n = hw s.data.toList := ⟨_, rfl⟩
    obtain ⟨id, hid⟩ : ∃ id, id = numB (piS s.data.toList 0 2) := ⟨_, rfl⟩
    have HR : Hid (R = (⟨id, bt n 15, bt n 10, bt n 9, bt n 8, bt n 7, ((n / 2 ^ 11 % 16 : Nat) : Int), ((n / 2 ^ 0 % 16 : Nat) : Int), [], [], [], []⟩, 0)) := Lib.hid (by rw [hR, hn, hid]; exact if_neg (by omega))
    have gi : decide ((s.size : Int) < 12) = false := by simp; omega
    have hn2 : n < 65536 := by rw [hn]; exact numB_pi s.data.toList 2 2
    have hid2 : id < 65536 := by rw [hid]; exact numB_pi s.data.toList 0 2
    have C0 := fun w => rnumber_any s (by omega) 0 2 (by omega) (by omega) w
    have C2 := fun w => rnumber_any s (by omega) 2 2 (by omega) (by omega) w
    unfold nuV at C0 C2
    rw [← hid] at C0
    rw [show numB (piS s.data.toList 2 2) = n from hn.symm] at C2
    have HC0 := Lib.hid C0
    have HC2 := Lib.hid C2
    have HN := Lib.hid hn2
    have hni : 0 ≤ (n : Int) ∧ (n : Int) < 65536 := by omega
    have hii : 0 ≤ (id : Int) ∧ (id : Int) < 65536 := by omega
    clear hR hsz C0 C2 g hs hn hid hn2 hid2
    go_enter Try.func17, Try.ntmps17
    go_wp2_with fail
    refine (HC0.out _).mono ?_
    rintro e w' ⟨rfl, rfl⟩
    go_wp2_with fail
    refine (HC2.out _).mono ?_
    rintro e w' ⟨rfl, rfl⟩
    go_wp2
    refine bodyPost_ret (res12t rfl rfl (Ce.new w 26 (mc id ((n : Int) / 32768 == 1) ((n : Int) / 1024 % 2 == 1) ((n : Int) / 512 % 2 == 1) ((n : Int) / 256 % 2 == 1) ((n : Int) / 128 % 2 == 1) ((n : Int) / 2048 % 16) ((n : Int) % 16) nl nl nl nl))) rfl ?_
    refine ⟨?_, one_box w _⟩
    rw [HR.out, ← bt_15 n HN.out, ← bt_10, ← bt_9, ← bt_8, ← bt_7]
    rw [show ((n / 2 ^ 11 % 16 : Nat) : Int) = (n : Int) / 2048 % 16 by simp, show ((n / 2 ^ 0 % 16 : Nat) : Int) = (n : Int) % 16 by simp]
    rfl
end Go.Proofs.Ytljfkjbagebncaa

/- RRecs -/
namespace Go.Proofs.Ytljfkjbagebncaa
open Go.RowKit
set_option maxRecDepth 100000 in
set_option maxHeartbeats 12800000 in
theorem records_any (s : ByteArray) (hs : s.size ≤ 1000000) (a0 : Int) (ha : 0 ≤ a0 ∧ a0 ≤ 1000000) (n : Nat) (hn : n < 65536) (w : World) :
    Calls Try.prog 39 #[.string s, .int .i64 a0, .int .i64 (n : Int)] w (GlR w (gl (gt s.data.toList) n a0)) := by
  obtain ⟨i0, hi, hz0, hz1, hz2⟩ := info_parts info25
  obtain ⟨G, hG⟩ : ∃ G : Int → Rc × Int × Int, G = gt s.data.toList := ⟨_, rfl⟩
  obtain ⟨R, hR⟩ : ∃ R, R = gl (gt s.data.toList) n a0 := ⟨_, rfl⟩
  rw [← hR]
  have HR : Hid (cat3 [] (gl G (n - 0) a0) = R) := Lib.hid (by rw [cat3_nil, hG, hR]; rfl)
  have HC : Hid (∀ a, 0 ≤ a → a ≤ 1000000 → ∀ w, Calls Try.prog 77 #[.string s, .int .i64 a] w (GetPost w (G a))) := Lib.hid fun a h1 h2 w => by rw [hG]; exact rget_any s hs a (by omega) w
  have HP : Hid (∀ a, 0 ≤ (G a).2.1 ∧ (G a).2.1 ≤ 1000000) := Lib.hid fun a => by
    have := gt_place s.data.toList a
    have := size_list s
    rw [hG]; omega
  clear hG hR
  have hni : (n : Int) < 65536 := by omega
  have HA := Lib.hid ha
  clear hs ha hn
  go_enter Try.func39, Try.ntmps39
  go_wp2
  go_loopw [1, 9, 10] (fun a v i wr => ∃ (k : Nat) (p : Int) (qs : List Rc), k ≤ n ∧ i = .int .i64 (k : Int) ∧ a = .int .i64 p ∧ 0 ≤ p ∧ p ≤ 1000000 ∧ qs.length = k ∧ wr.ownsRow w.heap.size 61 5 v qs.length (rcc qs) ∧ Below w.heap.size w wr ∧ cat3 qs (gl G (n - k) p) = R) (fun _ _ i _ => n - (intOf i).toNat)
  case atStart => exact ⟨0, a0, [], by omega, rfl, rfl, HA.out.1, HA.out.2, rfl, World.ownsRow_nil _ _ _ _, Below.refl _ _, HR.out⟩
  case round =>
    clear HR HA
    obtain ⟨k, p, qs, hk, rfl, rfl, hp1, hp2, hql, hown, hb, hE⟩ := hrel
    by_cases hlt : k < n
    · have q1 : (k : Int) < (n : Int) := by omega
      have C := HC.out p hp1 hp2
      have hP := HP.out p
      rw [show n - k = (n - (k + 1)) + 1 by omega] at hE
      have HE := Lib.hid hE
      have HOWN := Lib.hid hown
      have HB := Lib.hid hb
      unfold GetPost at C
      have hbad : Hid ((G p).2.2 ≠ 0 → R = ([], 0, (G p).2.2)) := Lib.hid fun h => by rw [← HE.out]; exact cat3_bad h
      have hgo : Hid ((G p).2.2 = 0 → cat3 (qs ++ [(G p).1]) (gl G (n - (k + 1)) (G p).2.1) = R) := Lib.hid fun h => by rw [← HE.out]; exact (cat3_go h).symm
      generalize G p = Y at C hP hbad hgo
      obtain ⟨⟨yn, yt, yc, yl, yd⟩, p2, er⟩ := Y
      simp only at C hP hbad hgo
      have HCC := Lib.hid C
      clear C hE hown hb HE
      go_wp2_with fail
      refine (HCC.out _).mono ?_
      rintro e w4 ⟨rfl, hb4⟩
      have HB4 := Lib.hid (HB.out.trans (hb4.mono HB.out.size))
      have HO4 := Lib.hid (row_under HOWN.out hb4)
      clear hb4
      by_cases g : er = 0
      · subst g
        have hbx := one_box w4 (.cells #[.string yn, .int .u16 (yt : Int), .int .u16 (yc : Int), .int .u32 (yl : Int), .string yd] 61)
        have HB5 := Lib.hid (HB4.out.trans (hbx.mono HB4.out.size))
        have hown5 := row_under HO4.out hbx
        have C5 := Ce.new w4 61 #[.string yn, .int .u16 (yt : Int), .int .u16 (yc : Int), .int .u32 (yl : Int), .string yd]
        have HC5 := Lib.hid C5
        obtain ⟨va, vc, rfl⟩ := row_slice hown5
        rw [hql] at hown5
        have HO5 := Lib.hid hown5
        clear C5 hown5 hbx
        have hsz := HB4.out.size
        go_wp2_with (first | (refine ld61 (.tmp 11) HC5.out rfl rfl rfl rfl ?_) | (at_builtin; go_loud (refine wpList_append_own_at _ rfl (.tmp 29) (.tmp 31) 24 rfl w.heap.size 61 i0 (.agg #[.string ⟨#[]⟩, .int .u16 0, .int .u16 0, .int .u32 0, .string ⟨#[]⟩]) 5 40 Try.underlying24 hi hz0 hz1 hz2 rfl (by decide) _ k _ rfl (World.ownsRow.alloc HO5.out _) ⟨w4.heap.size + 1, 0, none⟩ 1 1 [.string yn, .int .u16 (yt : Int), .int .u16 (yc : Int), .int .u32 (yl : Int), .string yd] rfl rfl (fun j u hj => World.news_of_block (cs := #[.string yn, .int .u16 (yt : Int), .int .u16 (yc : Int), .int .u32 (yl : Int), .string yd]) (t := 61) (fr := (0, 0)) (by have := heap_alloc_new (w4.alloc (.cells #[.string yn, .int .u16 (yt : Int), .int .u16 (yc : Int), .int .u32 (yl : Int), .string yd] 61)) (.cells #[.string yn, .int .u16 (yt : Int), .int .u16 (yc : Int), .int .u32 (yl : Int), .string yd] 61); rwa [World.size_alloc] at this) j u hj) (by simp [Value.oneCell']) (by unfold maxLen; omega) (by omega) (by simp; omega) ?_)))
        intro v' w7 hown' hgrow _ hat
        have HB7 := Lib.hid (row_grown HO5.out (Nat.le_refl _) HB5.out hgrow)
        have HO7 : Hid (w7.ownsRow w.heap.size 61 5 v' (qs ++ [(⟨yn, yt, yc, yl, yd⟩ : Rc)]).length (rcc (qs ++ [(⟨yn, yt, yc, yl, yd⟩ : Rc)]))) := Lib.hid (by
          rw [rcc_snoc, List.length_append, hql]; exact hown')
        have HQL : Hid ((qs ++ [(⟨yn, yt, yc, yl, yd⟩ : Rc)]).length = k + 1) := Lib.hid (by rw [List.length_append, hql]; rfl)
        have HGO := Lib.hid (hgo.out (by first | trivial | rfl))
        clear hown' hgrow hat hql hgo hbad
        go_wp2
        go_roundw
        case rel => exact ⟨k + 1, p2, _, by omega, by go_num, rfl, hP.1, hP.2, HQL.out, HO7.out, HB7.out, HGO.out⟩
        case measure => simp [intOf]; omega
      · have g' : (er == 0) = false := by simpa using g
        have g'' : (er != 0) = true := by simpa using g
        have HRE := Lib.hid (hbad.out g)
        have HB5 := Lib.hid (HB4.out.trans ((one_box w4 (.cells #[.string yn, .int .u16 (yt : Int), .int .u16 (yc : Int), .int .u32 (yl : Int), .string yd] 61)).mono HB4.out.size))
        clear g hbad hgo hql hi hz0 hz1 hz2
        go_wp2
        go_ret3
        refine ⟨⟨none, 0, 0⟩, ?_, ?_, HB5.out⟩
        · rw [HRE.out]; rfl
        · rw [HRE.out]; exact rdr_nil _
    · obtain rfl : k = n := by omega
      have q1 : decide ((k : Int) < (k : Int)) = false := by simp
      rw [Nat.sub_self, cat3_end] at hE
      obtain ⟨sl, rfl, hsl⟩ := row_rdr hown
      obtain ⟨sa, sn, sc⟩ := sl
      have HS := Lib.hid hsl
      have HE := Lib.hid hE
      have HB := Lib.hid hb
      clear hown hb hE hsl hql hi hz0 hz1 hz2
      go_wp2
      go_ret3
      refine ⟨⟨sa, sn, sc⟩, ?_, ?_, HB.out⟩
      · rw [← HE.out]; rfl
      · rw [← HE.out]; exact HS.out
end Go.Proofs.Ytljfkjbagebncaa

/- RRead -/
namespace Go.Proofs.Ytljfkjbagebncaa
open Go.RowKit
theorem Ce.noRow {w : World} {b base k e size : Nat} {T : TypeId} {cs : Array Value} {v : Value} {xs : List Value} (h : Ce w b T cs) (hr : w.ownsRow base e size v k xs) (he : T ≠ e) : v.ownBlock ≠ some b := by
  intro hv
  rcases hr.2 with ⟨rfl, _⟩ | ⟨g, cap, cur, rfl, hb, hg, _⟩
  · simp [Value.ownBlock] at hv
  · simp [Value.ownBlock] at hv
    subst hv
    have := h.symm.trans hg
    injection this with this
    injection this with _ h2 _
    exact he h2
/-- What the loop over the questions knows. -/
structure QI (w : World) (b1 b2 : Nat) (H : Sl → Array Value) (N4 : Array Value) (v : Sl) (qs : List Qn) (wr : World) : Prop where
  b : Below w.heap.size w wr
  m : Ce wr b1 26 (H v)
  n : Ce wr b2 64 N4
  o : Ce wr w.heap.size 26 zcs
  r : wr.ownsRow w.heap.size 44 3 v.v qs.length (qcc qs)
theorem QI.under {w : World} {b1 b2 : Nat} {H : Sl → Array Value} {N4 : Array Value} {v : Sl} {qs : List Qn} {wr w' : World} (h : QI w b1 b2 H N4 v qs wr) (hb : Below wr.heap.size wr w') : QI w b1 b2 H N4 v qs w' :=
  ⟨h.b.trans (hb.mono h.b.size), h.m.below hb, h.n.below hb, h.o.below hb, row_under h.r hb⟩
theorem Ce.keptBy {w w' : World} {b : Nat} {T : TypeId} {cs : Array Value} {row : Option Nat} (h : Ce w b T cs) (hg : w.grownBy w' row) (hne : row ≠ some b) : Ce w' b T cs := (hg.block b h.lt (fun e => hne e.symm)).trans h
theorem Ce.rowSet {w : World} {b i base k e size : Nat} {T : TypeId} {cs : Array Value} {v u : Value} {xs : List Value} (h : Ce w b T cs) (hr : w.ownsRow base e size v k xs) (he : T ≠ e) : (w.setCell ⟨b, i, none⟩ u).ownsRow base e size v k xs :=
  hr.kept (row := some b) ⟨rfl, rfl, rfl, by simp, fun k _ hk => Below.heap_setCell _ _ _ _ (fun e => hk (by rw [e]))⟩ (.inr (fun e => h.noRow hr he (by first | exact e | exact e.symm)))
/-- Behind the append of a question, and the store of the row. -/
theorem QI.app {w : World} {b1 b2 : Nat} {H : Sl → Array Value} {N4 : Array Value} {v v' : Sl} {qs : List Qn} {q : Qn} {wr w7 : World} {o : Obj} (h : QI w b1 b2 H N4 v qs wr) (hH : ∀ v v', (H v).setIfInBounds 8 v'.v = H v') (h1 : w.heap.size < b1) (h12 : b1 ≠ b2)
    (hown : w7.ownsRow w.heap.size 44 3 v'.v (qs.length + 1) (qcc qs ++ q.cells.toList)) (hg : (wr.alloc o).grownBy w7 v.v.ownBlock) : QI w b1 b2 H N4 v' (qs ++ [q]) (w7.setCell ⟨b1, 8, none⟩ v'.v) := by
  have ha := h.under (one_box wr o)
  have hb := row_grown h.r (Nat.le_refl _) h.b hg
  have m7 := ha.m.keptBy hg (ha.m.noRow ha.r (by decide))
  have n7 := ha.n.keptBy hg (ha.n.noRow ha.r (by decide))
  have o7 := ha.o.keptBy hg (ha.o.noRow ha.r (by decide))
  refine ⟨hb.setCell (p := ⟨b1, 8, none⟩) (Nat.le_of_lt h1) _, ?_, n7.other h12.symm _, o7.other (Nat.ne_of_lt h1) _, ?_⟩
  · rw [← hH v v']; exact m7.set _
  · rw [qcc_snoc, List.length_append]; exact m7.rowSet hown (by decide)
/-- What the three lists' calls know. -/
structure RE (w : World) (b1 b2 : Nat) (cs N4 : Array Value) (q x y z : Sl) (Q : List Qn) (X Y Z : List Rc) (wr : World) : Prop where
  b : Below w.heap.size w wr
  m : Ce wr b1 26 cs
  n : Ce wr b2 64 N4
  o : Ce wr w.heap.size 26 zcs
  q : RdQ wr q Q
  x : RdR wr x X
  y : RdR wr y Y
  z : RdR wr z Z
section
variable {w : World} {b1 b2 : Nat} {cs N4 : Array Value} {q x y z : Sl} {Q : List Qn} {X Y Z : List Rc} {wr : World}
theorem RE.under {w' : World} (h : RE w b1 b2 cs N4 q x y z Q X Y Z wr) (hb : Below wr.heap.size wr w') : RE w b1 b2 cs N4 q x y z Q X Y Z w' :=
  ⟨h.b.trans (hb.mono h.b.size), h.m.below hb, h.n.below hb, h.o.below hb, h.q.below hb, h.x.below hb, h.y.below hb, h.z.below hb⟩
theorem RE.set (h : RE w b1 b2 cs N4 q x y z Q X Y Z wr) (h1 : w.heap.size < b1) (h12 : b1 ≠ b2) (hn : NoS cs) (i : Nat) (v : Value) : RE w b1 b2 (cs.setIfInBounds i v) N4 q x y z Q X Y Z (wr.setCell ⟨b1, i, none⟩ v) :=
  let k := set_others wr b1 i v
  ⟨h.b.setCell (p := ⟨b1, i, none⟩) (Nat.le_of_lt h1) _, h.m.set _, h.n.other h12.symm _, h.o.other (Nat.ne_of_lt h1) _, h.q.other h.m hn k.1 k.2, h.x.other h.m hn k.1 k.2, h.y.other h.m hn k.1 k.2, h.z.other h.m hn k.1 k.2⟩
theorem RE.putX {w' : World} {n : Sl} {N : List Rc} (h : RE w b1 b2 cs N4 q x y z Q X Y Z wr) (hb : Below wr.heap.size wr w') (hn : RdR w' n N) : RE w b1 b2 cs N4 q n y z Q N Y Z w' :=
  let h' := h.under hb
  ⟨h'.b, h'.m, h'.n, h'.o, h'.q, hn, h'.y, h'.z⟩
theorem RE.putY {w' : World} {n : Sl} {N : List Rc} (h : RE w b1 b2 cs N4 q x y z Q X Y Z wr) (hb : Below wr.heap.size wr w') (hn : RdR w' n N) : RE w b1 b2 cs N4 q x n z Q X N Z w' :=
  let h' := h.under hb
  ⟨h'.b, h'.m, h'.n, h'.o, h'.q, h'.x, hn, h'.z⟩
theorem RE.putZ {w' : World} {n : Sl} {N : List Rc} (h : RE w b1 b2 cs N4 q x y z Q X Y Z wr) (hb : Below wr.heap.size wr w') (hn : RdR w' n N) : RE w b1 b2 cs N4 q x y n Q X Y N w' :=
  let h' := h.under hb
  ⟨h'.b, h'.m, h'.n, h'.o, h'.q, h'.x, h'.y, hn⟩
end
/-- Four numbers, as they come. -/
theorem ar_set (a b c d : Nat) : (ar a b c d 0).setIfInBounds 0 (.int .i64 (a : Int)) = ar a b c d 1 ∧ (ar a b c d 1).setIfInBounds 1 (.int .i64 (b : Int)) = ar a b c d 2 ∧ (ar a b c d 2).setIfInBounds 2 (.int .i64 (c : Int)) = ar a b c d 3 ∧ (ar a b c d 3).setIfInBounds 3 (.int .i64 (d : Int)) = #[.int .i64 (a : Int), .int .i64 (b : Int), .int .i64 (c : Int), .int .i64 (d : Int)] :=
  ⟨rfl, rfl, rfl, rfl⟩
set_option maxRecDepth 100000 in
set_option maxHeartbeats 51200000 in
theorem rmread_any (s : ByteArray) (hs : s.size ≤ 1000000) (w : World) : Calls Try.prog 15 #[.string s] w (RPost w (mread s.data.toList)) := by
  obtain ⟨R, hR⟩ : ∃ R, R = mread s.data.toList := ⟨_, rfl⟩
  rw [← hR]
  have hsz := size_list s
  have k0 := Ce.new w 26 zcs
  have hb0 := one_box w (.cells zcs 26)
  have HK0 := Lib.hid k0
  have HB0 := Lib.hid hb0
  clear k0 hb0
  by_cases g : 4096 < s.size
  · have HR : Hid (R = (zeroM, 11)) := Lib.hid (by rw [hR]; exact if_pos (by omega))
    have gi : 4096 < (s.size : Int) := by omega
    clear hR hsz g hs
    go_enter Try.func15, Try.ntmps15
    go_wp2
    refine bodyPost_ret (res12t rfl rfl HK0.out) rfl ?_
    exact rpost_zero HR.out HB0.out
  · have gi : decide (4096 < (s.size : Int)) = false := by simp; omega
    have HH := Lib.hid (fun w => rmhead_any s hs w)
    by_cases g2 : s.size < 12
    · have HR : Hid (R = (zeroM, 10)) := Lib.hid (by rw [hR]; unfold mread; rw [if_neg (by omega), if_pos (by omega)])
      have HE : Hid (mhead s.data.toList = (zeroM, 10)) := Lib.hid (if_pos (by omega))
      unfold HPost at HH
      rw [HE.out] at HH
      have HH2 : Hid (∀ w, Calls Try.prog 17 #[.string s] w fun e w' => e = .returned (.tuple #[.agg zcs, .int .i64 10]) ∧ Below w.heap.size w w') := HH
      clear hR hsz g hs g2 HH
      go_enter Try.func15, Try.ntmps15
      go_wp2_with fail
      refine (HH2.out _).mono ?_
      rintro e w1 ⟨rfl, hb1⟩
      have hb2 := one_box w1 (.cells zcs 26)
      have HK2 := Lib.hid ((HK0.out.below hb1).below hb2)
      have hb3 := HB0.out.trans (hb1.mono HB0.out.size)
      have HB3 := Lib.hid (hb3.trans (hb2.mono hb3.size))
      clear hb1 hb2 hb3
      go_wp2_with (first | (refine st12z (.tmp 2) (.tmp 42) HK2.out rfl rfl rfl rfl rfl ?_))
      refine bodyPost_ret (res12t rfl rfl (HK2.out.row zcs)) rfl ?_
      exact rpost_zero HR.out (below_row HB3.out (Nat.le_refl _) _)
    · have HM : Hid (∃ id r a t d v op cd, mhead s.data.toList = (⟨id, r, a, t, d, v, op, cd, [], [], [], []⟩, 0) ∧ ∀ qs an au ex, rHd s.data.toList qs an au ex = ⟨id, r, a, t, d, v, op, cd, qs, an, au, ex⟩) :=
        Lib.hid (by
          refine ⟨numB (piS s.data.toList 0 2), bt (hw s.data.toList) 15, bt (hw s.data.toList) 10, bt (hw s.data.toList) 9, bt (hw s.data.toList) 8, bt (hw s.data.toList) 7, ((hw s.data.toList / 2 ^ 11 % 16 : Nat) : Int), ((hw s.data.toList / 2 ^ 0 % 16 : Nat) : Int), ?_, fun _ _ _ _ => rfl⟩
          unfold mhead
          rw [if_neg (by omega)]
          rfl)
      obtain ⟨id, r, a, t, d, v, op, cd, hm, hr⟩ := HM.out
      unfold HPost at HH
      rw [hm] at HH
      have HH2 : Hid (∀ w, Calls Try.prog 17 #[.string s] w fun e w' => e = .returned (.tuple #[.agg (mc id r a t d v op cd nl nl nl nl), .int .i64 0]) ∧ Below w.heap.size w w') := HH
      obtain ⟨A, hA⟩ : ∃ A, A = rA s.data.toList := ⟨_, rfl⟩
      obtain ⟨LL, hLL⟩ : ∃ LL, LL = rL s.data.toList := ⟨_, rfl⟩
      obtain ⟨cn, hcn⟩ : ∃ cn, cn = cnt s.data.toList := ⟨_, rfl⟩
      obtain ⟨QQ, hQ⟩ : ∃ QQ, QQ = rQ s.data.toList := ⟨_, rfl⟩
      have hbd := rA_bd s.data.toList (by omega)
      have HCB : Hid (∀ k : Nat, cn k < 65536) := Lib.hid fun k => by rw [hcn]; exact cnt_lt _ _
      have hcnt : ∀ (k : Nat) (x : Int), k ≤ 3 → x = 4 + 2 * (k : Int) → ∀ w, Calls Try.prog 37 #[.string s, .int .i64 x, .int .i64 2] w fun e w' => e = .returned (.tuple #[.int .i64 (cn k : Int), .int .i64 (piP s.data.toList x 2), .int .i64 (piR s.data.toList x 2)]) ∧ w = w' := fun k x hk hx w => by
        have C := rnumber_any s (by omega) x 2 (by omega) (by omega) w
        unfold nuV at C
        rw [show numB (piS s.data.toList x 2) = cn k by rw [hcn, hx]; unfold cnt; rw [show ((4 + 2 * k : Nat) : Int) = 4 + 2 * (k : Int) by omega]] at C
        exact C
      have HC0 := Lib.hid (hcnt 0 4 (by omega) (by omega))
      have HC1 := Lib.hid (hcnt 1 6 (by omega) (by omega))
      have HC2 := Lib.hid (hcnt 2 8 (by omega) (by omega))
      have HC3 := Lib.hid (hcnt 3 10 (by omega) (by omega))
      have HREC : Hid (∀ k : Nat, k < 3 → (A k).2 = 0 → ∀ w, Calls Try.prog 39 #[.string s, .int .i64 (A k).1, .int .i64 (cn (k + 1) : Int)] w (GlR w (LL k, (A (k + 1)).1, (A (k + 1)).2))) := Lib.hid fun k hk h0 w => by
        rw [hA] at h0
        have e1 : LL k = (gl (gt s.data.toList) (cnt s.data.toList (k + 1)) (rA s.data.toList k).1).1 := by rw [hLL]; exact if_pos h0
        have e2 : A (k + 1) = (gl (gt s.data.toList) (cnt s.data.toList (k + 1)) (rA s.data.toList k).1).2 := by rw [hA]; exact if_pos h0
        rw [e1, e2, hA, hcn]
        exact records_any s hs _ (by have := hbd k; omega) _ (cnt_lt _ _) w
      have HNO : Hid (∀ k : Nat, (A k).2 ≠ 0 → A (k + 1) = A k) := Lib.hid fun k h0 => by
        rw [hA] at h0 ⊢
        exact if_neg h0
      have HA0 : Hid (A 0 = QQ.2 ∧ cat3 [] (gl (qg s.data.toList) (cn 0) 12) = QQ) := Lib.hid ⟨by rw [hA, hQ]; rfl, by rw [cat3_nil, hQ, hcn]; rfl⟩
      have HF : Hid (R = if (A 3).2 ≠ 0 then (zeroM, (A 3).2) else if (A 3).1 ≠ (s.size : Int) then (zeroM, 10) else (⟨id, r, a, t, d, v, op, cd, QQ.1, LL 0, LL 1, LL 2⟩, 0)) := Lib.hid (by
        rw [hR, hA, hQ, hLL, ← hr, hsz]
        unfold mread
        rw [if_neg (by omega), if_neg (by omega)])
      have HSL := Lib.hid hsz
      have HSS := Lib.hid hs
      clear hm hr HH HM hA hLL hcn hQ hbd hR hsz g g2 hs hcnt
      go_enter Try.func15, Try.ntmps15
      go_wp2_with fail
      refine (HH2.out _).mono ?_
      rintro e w1 ⟨rfl, hb1⟩
      obtain ⟨t1, t2, t3⟩ := two_boxes w1 26 64 (mc id r a t d v op cd nl nl nl nl) #[.int .i64 0, .int .i64 0, .int .i64 0, .int .i64 0]
      have HK2 := Lib.hid ((HK0.out.below hb1).below t3)
      have hb3 := HB0.out.trans (hb1.mono HB0.out.size)
      have HB3 := Lib.hid (hb3.trans (t3.mono hb3.size))
      have HM2 := Lib.hid t1
      have HN2 := Lib.hid t2
      have HLT : Hid (w.heap.size < w1.heap.size) := Lib.hid (by have h2 := hb1.size; simp only [World.size_alloc] at h2; omega)
      clear hb1 t1 t2 t3 hb3
      go_wp2
      obtain ⟨b1, hb1⟩ : ∃ b1, w1.heap.size = b1 := ⟨_, rfl⟩
      obtain ⟨b2, hb2⟩ : ∃ b2, b1 + 1 = b2 := ⟨_, rfl⟩
      rw [hb1] at HM2 HLT HN2 ⊢
      rw [hb2] at HN2 ⊢
      have HE1 : Hid (w.heap.size < b1) := Lib.hid HLT.out
      have HE2 : Hid (w.heap.size ≤ b2) := Lib.hid (by have := HLT.out; omega)
      have HE12 : Hid (b1 ≠ b2) := Lib.hid (by omega)
      have HE02 : Hid (w.heap.size ≠ b2) := Lib.hid (by have := HLT.out; omega)
      clear hb1 hb2 HLT HK0 HB0 HH2
      go_loopw [7] (fun i wr => ∃ (k : Nat) (u0 u1 u2 u3 : Value), k ≤ 4 ∧ i = .int .i64 (k : Int) ∧ Below w.heap.size w wr ∧ Ce wr b1 26 (mc id r a t d v op cd nl nl nl nl) ∧ Ce wr b2 64 #[u0, u1, u2, u3] ∧ Ce wr w.heap.size 26 zcs ∧ (1 ≤ k → u0 = .int .i64 (cn 0 : Int)) ∧ (2 ≤ k → u1 = .int .i64 (cn 1 : Int)) ∧ (3 ≤ k → u2 = .int .i64 (cn 2 : Int)) ∧ (4 ≤ k → u3 = .int .i64 (cn 3 : Int))) (fun i _ => 4 - (intOf i).toNat)
      case atStart => exact ⟨0, _, _, _, _, by omega, rfl, HB3.out, HM2.out, HN2.out, HK2.out, by omega, by omega, by omega, by omega⟩
      case round =>
      clear HB3 HM2 HN2 HK2
      obtain ⟨k, u0, u1, u2, u3, hk, rfl, hb, hm, hn, ho, a0, a1, a2, a3⟩ := hrel
      obtain rfl | rfl | rfl | rfl | rfl : k = 0 ∨ k = 1 ∨ k = 2 ∨ k = 3 ∨ k = 4 := by omega
      · have x := (c4 hn).1
        have f := hn.frozen 0
        have HB := Lib.hid (hb.setCell (p := ⟨b2, 0, none⟩) HE2.out (.int .i64 (cn 0 : Int)))
        have HM := Lib.hid (hm.other (i := 0) HE12.out (.int .i64 (cn 0 : Int)))
        have HN := Lib.hid (show Ce (wr.setCell ⟨b2, 0, none⟩ (.int .i64 (cn 0 : Int))) b2 64 #[(.int .i64 (cn 0 : Int)), u1, u2, u3] from hn.set (i := 0) (.int .i64 (cn 0 : Int)))
        have HO := Lib.hid (ho.other (i := 0) HE02.out (.int .i64 (cn 0 : Int)))
        clear hb hm hn ho
        go_wp2_with fail
        refine (HC0.out _).mono ?_
        rintro e w' ⟨rfl, rfl⟩
        go_wp2
        go_roundw
        case rel => exact ⟨1, _, _, _, _, by omega, by first | trivial | rfl, HB.out, HM.out, HN.out, HO.out, fun _ => rfl, by omega, by omega, by omega⟩
        case measure => simp [intOf]
      · have x := (c4 hn).2.1
        have f := hn.frozen 1
        have HB := Lib.hid (hb.setCell (p := ⟨b2, 1, none⟩) HE2.out (.int .i64 (cn 1 : Int)))
        have HM := Lib.hid (hm.other (i := 1) HE12.out (.int .i64 (cn 1 : Int)))
        have HN := Lib.hid (show Ce (wr.setCell ⟨b2, 1, none⟩ (.int .i64 (cn 1 : Int))) b2 64 #[u0, (.int .i64 (cn 1 : Int)), u2, u3] from hn.set (i := 1) (.int .i64 (cn 1 : Int)))
        have HO := Lib.hid (ho.other (i := 1) HE02.out (.int .i64 (cn 1 : Int)))
        clear hb hm hn ho
        go_wp2_with fail
        refine (HC1.out _).mono ?_
        rintro e w' ⟨rfl, rfl⟩
        go_wp2
        go_roundw
        case rel => exact ⟨2, _, _, _, _, by omega, by first | trivial | rfl, HB.out, HM.out, HN.out, HO.out, fun _ => a0 (by omega), fun _ => rfl, by omega, by omega⟩
        case measure => simp [intOf]
      · have x := (c4 hn).2.2.1
        have f := hn.frozen 2
        have HB := Lib.hid (hb.setCell (p := ⟨b2, 2, none⟩) HE2.out (.int .i64 (cn 2 : Int)))
        have HM := Lib.hid (hm.other (i := 2) HE12.out (.int .i64 (cn 2 : Int)))
        have HN := Lib.hid (show Ce (wr.setCell ⟨b2, 2, none⟩ (.int .i64 (cn 2 : Int))) b2 64 #[u0, u1, (.int .i64 (cn 2 : Int)), u3] from hn.set (i := 2) (.int .i64 (cn 2 : Int)))
        have HO := Lib.hid (ho.other (i := 2) HE02.out (.int .i64 (cn 2 : Int)))
        clear hb hm hn ho
        go_wp2_with fail
        refine (HC2.out _).mono ?_
        rintro e w' ⟨rfl, rfl⟩
        go_wp2
        go_roundw
        case rel => exact ⟨3, _, _, _, _, by omega, by first | trivial | rfl, HB.out, HM.out, HN.out, HO.out, fun _ => a0 (by omega), fun _ => a1 (by omega), fun _ => rfl, by omega⟩
        case measure => simp [intOf]
      · have x := (c4 hn).2.2.2
        have f := hn.frozen 3
        have HB := Lib.hid (hb.setCell (p := ⟨b2, 3, none⟩) HE2.out (.int .i64 (cn 3 : Int)))
        have HM := Lib.hid (hm.other (i := 3) HE12.out (.int .i64 (cn 3 : Int)))
        have HN := Lib.hid (show Ce (wr.setCell ⟨b2, 3, none⟩ (.int .i64 (cn 3 : Int))) b2 64 #[u0, u1, u2, (.int .i64 (cn 3 : Int))] from hn.set (i := 3) (.int .i64 (cn 3 : Int)))
        have HO := Lib.hid (ho.other (i := 3) HE02.out (.int .i64 (cn 3 : Int)))
        clear hb hm hn ho
        go_wp2_with fail
        refine (HC3.out _).mono ?_
        rintro e w' ⟨rfl, rfl⟩
        go_wp2
        go_roundw
        case rel => exact ⟨4, _, _, _, _, by omega, by first | trivial | rfl, HB.out, HM.out, HN.out, HO.out, fun _ => a0 (by omega), fun _ => a1 (by omega), fun _ => a2 (by omega), fun _ => rfl⟩
        case measure => simp [intOf]
      · obtain rfl := a0 (by omega)
        obtain rfl := a1 (by omega)
        obtain rfl := a2 (by omega)
        obtain rfl := a3 (by omega)
        rw [show (((4 : Nat) : Int)) = 4 from rfl]
        obtain ⟨i0, hi, hz0, hz1, hz2⟩ := info_parts infoQ
        obtain ⟨n0, hn0⟩ : ∃ n0, n0 = cn 0 := ⟨_, rfl⟩
        obtain ⟨G, hG⟩ : ∃ G : Int → Qn × Int × Int, G = qg s.data.toList := ⟨_, rfl⟩
        obtain ⟨H, hH⟩ : ∃ H : Sl → Array Value, H = fun q => mc id r a t d v op cd q nl nl nl := ⟨_, rfl⟩
        obtain ⟨N4, hN4⟩ : ∃ N4 : Array Value, N4 = #[.int .i64 (cn 0 : Int), .int .i64 (cn 1 : Int), .int .i64 (cn 2 : Int), .int .i64 (cn 3 : Int)] := ⟨_, rfl⟩
        have HI0 : Hid (QI w b1 b2 H N4 nl [] wr) := Lib.hid ⟨hb, by rw [hH]; exact hm, by rw [hN4]; exact hn, ho, World.ownsRow_nil _ _ _ _⟩
        have HHS : Hid (∀ v v' : Sl, (H v).setIfInBounds 8 v'.v = H v') := Lib.hid fun v v' => by rw [hH]; rfl
        have HH8 : Hid (∀ v : Sl, (H v)[8]? = some v.v) := Lib.hid fun v => by rw [hH]; rfl
        have HN0 : Hid (N4[0]? = some (.int .i64 (n0 : Int))) := Lib.hid (by rw [hN4, hn0]; rfl)
        have HHE := Lib.hid hH
        have HN4E := Lib.hid hN4
        have HGE : Hid (G = qg s.data.toList) := Lib.hid hG
        have hnb : (n0 : Int) < 65536 := by have := HCB.out 0; omega
        have HST : Hid (cat3 [] (gl G (n0 - 0) 12) = QQ) := Lib.hid (by rw [hG, hn0]; exact HA0.out.2)
        have HERR : Hid (∀ er : Int, er ≠ 0 → QQ = ([], 0, er) → R = (zeroM, er)) := Lib.hid fun er he hq => by
          have e0 : A 0 = (0, er) := by rw [HA0.out.1, hq]
          have e1 : A 1 = (0, er) := by rw [HNO.out 0 (by rw [e0]; exact he), e0]
          have e2 : A 2 = (0, er) := by rw [HNO.out 1 (by rw [e1]; exact he), e1]
          have e3 : A 3 = (0, er) := by rw [HNO.out 2 (by rw [e2]; exact he), e2]
          rw [HF.out, e3, if_pos he]
        clear hb hm hn ho a0 a1 a2 a3 hn0 hG hH hN4 hk HC0 HC1 HC2 HC3
        go_wp2
        go_loopw [11, 12] (fun pv i wr => ∃ (k : Nat) (p : Int) (sl : Sl) (qs : List Qn), k ≤ n0 ∧ i = .int .i64 (k : Int) ∧ pv = .int .i64 p ∧ 0 ≤ p ∧ p ≤ 1000000 ∧ qs.length = k ∧ QI w b1 b2 H N4 sl qs wr ∧ cat3 qs (gl G (n0 - k) p) = QQ) (fun _ i _ => n0 - (intOf i).toNat)
        case atStart => exact ⟨0, 12, nl, [], by omega, rfl, rfl, by omega, by omega, rfl, HI0.out, HST.out⟩
        case round =>
        clear HI0 HST
        obtain ⟨k, p, sl, qs, hk, rfl, rfl, hp1, hp2, hql, hI, hE⟩ := hrel
        have x0 := (hI.n.cell 0).trans HN0.out
        by_cases hlt : k < n0
        · have q1 : (k : Int) < (n0 : Int) := by omega
          rw [show n0 - k = (n0 - (k + 1)) + 1 by omega] at hE
          have HBAD : Hid ((G p).2.2 ≠ 0 → QQ = ([], 0, (G p).2.2)) := Lib.hid fun h => by rw [← hE]; exact cat3_bad h
          have HGO : Hid ((G p).2.2 = 0 → cat3 (qs ++ [(G p).1]) (gl G (n0 - (k + 1)) (G p).2.1) = QQ) := Lib.hid fun h => by rw [← hE]; exact (cat3_go h).symm
          have HGB : Hid (0 ≤ (G p).2.1 ∧ (G p).2.1 ≤ 1000000) := Lib.hid (by
            have := qg_bd s.data.toList p
            have := HSL.out
            have := HSS.out
            rw [HGE.out]; omega)
          have hpl := nmI_place_any s.data.toList p
          have hp2b := piP_bd s.data.toList ((nmI s.data.toList p).2.1 : Int) 2
          have CN := fun w => rname_any s (by have := HSS.out; omega) p (by omega) w
          have CT := fun w => rnumber_any s (by have := HSS.out; omega) ((nmI s.data.toList p).2.1 : Int) 2 (by have := HSS.out; have := HSL.out; omega) (by omega) w
          have CC := fun w => rnumber_any s (by have := HSS.out; omega) (piP s.data.toList ((nmI s.data.toList p).2.1 : Int) 2) 2 (by have := HSS.out; have := HSL.out; omega) (by omega) w
          have htb := numB_pi s.data.toList ((nmI s.data.toList p).2.1 : Int) 2
          have hcb := numB_pi s.data.toList (piP s.data.toList ((nmI s.data.toList p).2.1 : Int) 2) 2
          have hQG : G p = qgW ((nmI s.data.toList p).2.2 : Int) (piR s.data.toList ((nmI s.data.toList p).2.1 : Int) 2) (piR s.data.toList (piP s.data.toList ((nmI s.data.toList p).2.1 : Int) 2) 2) (piP s.data.toList (piP s.data.toList ((nmI s.data.toList p).2.1 : Int) 2) 2) ⟨⟨(nmI s.data.toList p).1.toArray⟩, numB (piS s.data.toList ((nmI s.data.toList p).2.1 : Int) 2), numB (piS s.data.toList (piP s.data.toList ((nmI s.data.toList p).2.1 : Int) 2) 2)⟩ := by rw [HGE.out]; rfl
          unfold nuV at CT CC
          unfold nmV at CN
          rw [show ((2 : Nat) : Int) = 2 from rfl] at htb hcb
          clear hpl hp2b
          generalize numB (piS s.data.toList (piP s.data.toList ((nmI s.data.toList p).2.1 : Int) 2) 2) = tc at CC hcb hQG
          generalize piR s.data.toList (piP s.data.toList ((nmI s.data.toList p).2.1 : Int) 2) 2 = r3 at CC hQG
          generalize piP s.data.toList (piP s.data.toList ((nmI s.data.toList p).2.1 : Int) 2) 2 = p3 at CC hQG
          generalize numB (piS s.data.toList ((nmI s.data.toList p).2.1 : Int) 2) = tt at CT htb hQG
          generalize piR s.data.toList ((nmI s.data.toList p).2.1 : Int) 2 = r2 at CT hQG
          generalize piP s.data.toList ((nmI s.data.toList p).2.1 : Int) 2 = p2 at CT CC hQG
          generalize ((nmI s.data.toList p).2.2 : Int) = er at CN hQG
          generalize ((nmI s.data.toList p).2.1 : Int) = p1 at CN CT hQG
          obtain ⟨nn, hnn⟩ : ∃ nn : ByteArray, nn = ⟨(nmI s.data.toList p).1.toArray⟩ := ⟨_, rfl⟩
          rw [← hnn] at hQG
          rw [show str (nmI s.data.toList p).1 = .string nn by rw [hnn]] at CN
          have hti : (tt : Int) < 65536 := by omega
          have hci : (tc : Int) < 65536 := by omega
          have HCN := Lib.hid CN
          have HCT := Lib.hid CT
          have HCC := Lib.hid CC
          have HQG := Lib.hid hQG
          have HI1 := Lib.hid hI
          clear CN CT CC hQG hI hE hnn htb hcb
          go_wp2_with fail
          refine (HCN.out _).mono ?_
          rintro e w4 ⟨rfl, hb4⟩
          have HI := Lib.hid (HI1.out.under hb4)
          have x8 := (HI.out.m.cell 8).trans (HH8.out sl)
          have f8 := HI.out.m.frozen 8
          clear hb4 HI1 x0
          have x0 := (HI.out.n.cell 0).trans HN0.out
          by_cases g : er = 0
          · subst g
            go_wp2_with fail
            refine (HCT.out _).mono ?_
            rintro e w' ⟨rfl, rfl⟩
            by_cases g : r2 = 0
            · subst g
              go_wp2_with fail
              refine (HCC.out _).mono ?_
              rintro e w' ⟨rfl, rfl⟩
              by_cases g : r3 = 0
              · subst g
                have hG : G p = (⟨nn, tt, tc⟩, p3, 0) := by rw [HQG.out]; simp [qgW]
                have HP3 : Hid (0 ≤ p3 ∧ p3 ≤ 1000000) := Lib.hid (by have := HGB.out; rw [hG] at this; exact this)
                have HNX : Hid (cat3 (qs ++ [(⟨nn, tt, tc⟩ : Qn)]) (gl G (n0 - (k + 1)) p3) = QQ) := Lib.hid (by have := HGO.out (by rw [hG]); rw [hG] at this; exact this)
                have HQL : Hid ((qs ++ [(⟨nn, tt, tc⟩ : Qn)]).length = k + 1) := Lib.hid (by rw [List.length_append, hql]; rfl)
                have hsz4 := HI.out.b.size
                have hown4 := HI.out.r
                rw [hql] at hown4
                have HO4 := Lib.hid hown4
                have HQ0 := Lib.hid hql
                clear hG hown4 hql HQG HBAD HGO HGB
                go_wp2_with (at_builtin; refine wpList_append_own_at _ rfl (.tmp 100) (.tmp 107) 23 rfl w.heap.size 44 i0 (.agg #[.string ⟨#[]⟩, .int .u16 0, .int .u16 0]) 3 24 Try.underlying23 hi hz0 hz1 hz2 rfl (by decide) _ k _ rfl (World.ownsRow.alloc HO4.out _) ⟨w4.heap.size, 0, none⟩ 1 1 [.string nn, .int .u16 (tt : Int), .int .u16 (tc : Int)] rfl rfl (fun j u hj => World.news_of_block (cs := #[.string nn, .int .u16 (tt : Int), .int .u16 (tc : Int)]) (t := 44) (fr := (0, 0)) (heap_alloc_new w4 _) j u hj) (by simp [Value.oneCell']) (by unfold maxLen; omega) (by omega) (by simp; omega) ?_)
                intro v' w7 hown' hgrow _ hat
                obtain ⟨a', c', rfl⟩ := row_slice hown'
                have HA := Lib.hid (HI.out.app (v' := ⟨a', k + 1, c'⟩) (q := ⟨nn, tt, tc⟩) HHS.out HE1.out HE12.out (by rw [HQ0.out]; exact hown') hgrow)
                have hI6 := HI.out.under (one_box w4 (.cells #[.string nn, .int .u16 (tt : Int), .int .u16 (tc : Int)] 44))
                have m7 := hI6.m.keptBy hgrow (hI6.m.noRow hI6.r (by decide))
                have y8 := (m7.cell 8).trans (HH8.out sl)
                have yf := m7.frozen 8
                clear hown' hgrow hat hI6 m7 x8 f8 x0 hi hz0 hz1 hz2
                go_wp2
                go_roundw
                case rel => exact ⟨k + 1, p3, ⟨a', k + 1, c'⟩, _, by omega, by go_num, rfl, HP3.out.1, HP3.out.2, HQL.out, HA.out, HNX.out⟩
                case measure => simp [intOf]; omega
              · have g' : (r3 == 0) = false := by simpa using g
                have g'' : (r3 != 0) = true := by simpa using g
                have HRE : Hid (R = (zeroM, r3)) := Lib.hid (HERR.out r3 g (by have := HBAD.out (by rw [HQG.out]; simp [qgW, g]); rw [this, HQG.out]; simp [qgW, g]))
                have HZ := Lib.hid HI.out.o
                have HB := Lib.hid HI.out.b
                clear g x0 x8 f8
                go_wp2_with (first | (refine st12z (.tmp 2) (.tmp 97) HZ.out rfl rfl rfl rfl rfl ?_))
                refine bodyPost_ret (res12t rfl rfl (HZ.out.row zcs)) rfl ?_
                exact rpost_zero HRE.out (below_row HB.out (Nat.le_refl _) _)
            · have g' : (r2 == 0) = false := by simpa using g
              have g'' : (r2 != 0) = true := by simpa using g
              have HRE : Hid (R = (zeroM, r2)) := Lib.hid (HERR.out r2 g (by have := HBAD.out (by rw [HQG.out]; simp [qgW, g]); rw [this, HQG.out]; simp [qgW, g]))
              have HZ := Lib.hid HI.out.o
              have HB := Lib.hid HI.out.b
              clear g x0 x8 f8
              go_wp2_with (first | (refine st12z (.tmp 2) (.tmp 86) HZ.out rfl rfl rfl rfl rfl ?_))
              refine bodyPost_ret (res12t rfl rfl (HZ.out.row zcs)) rfl ?_
              exact rpost_zero HRE.out (below_row HB.out (Nat.le_refl _) _)
          · have g' : (er == 0) = false := by simpa using g
            have g'' : (er != 0) = true := by simpa using g
            have HRE : Hid (R = (zeroM, er)) := Lib.hid (HERR.out er g (by have := HBAD.out (by rw [HQG.out]; simp [qgW, g]); rw [this, HQG.out]; simp [qgW, g]))
            have HZ := Lib.hid HI.out.o
            have HB := Lib.hid HI.out.b
            clear g x0 x8 f8
            go_wp2_with (first | (refine st12z (.tmp 2) (.tmp 75) HZ.out rfl rfl rfl rfl rfl ?_))
            refine bodyPost_ret (res12t rfl rfl (HZ.out.row zcs)) rfl ?_
            exact rpost_zero HRE.out (below_row HB.out (Nat.le_refl _) _)
        · obtain rfl : k = n0 := by omega
          have q1 : decide ((k : Int) < (k : Int)) = false := by simp
          rw [Nat.sub_self, cat3_end] at hE
          have HA00 : Hid (A 0 = (p, 0) ∧ QQ.1 = qs) := Lib.hid ⟨by rw [HA0.out.1, ← hE], by rw [← hE]⟩
          have hq : RdQ wr sl qs := by
            obtain ⟨s', e', h'⟩ := row_rdq hI.r
            obtain ⟨ea, en, ec⟩ : sl.a = s'.a ∧ sl.n = s'.n ∧ sl.c = s'.c := by
              injection e' with e1 e2 e3
              exact ⟨e1, e2, e3⟩
            have : sl = s' := by cases sl; cases s'; simp_all
            rw [this]; exact h'
          have HQ := Lib.hid hq
          have HI := Lib.hid hI
          have C := HREC.out 0 (by omega) (by rw [HA00.out.1])
          rw [HA00.out.1] at C
          have HC := Lib.hid C
          have y1 := hI.n.cell 1
          rw [HN4E.out] at y1
          simp at y1
          clear C hE hI hq hi hz0 hz1 hz2
          go_wp2_with fail
          refine (HC.out _).mono ?_
          rintro e w5 ⟨x, rfl, hx, hb5⟩
          have HE : Hid (RE w b1 b2 (H sl) N4 sl x nl nl qs (LL 0) [] [] w5) := Lib.hid (RE.putX ⟨HI.out.b, HI.out.m, HI.out.n, HI.out.o, HQ.out, rdr_nil _, rdr_nil _, rdr_nil _⟩ hb5 hx)
          clear hx hb5 HC HI HQ y1 x0 HERR HHS HH8 HN0
          by_cases g : (A 1).2 = 0
          · have g1 : ((A 1).2 != 0) = false := by simpa using g
            have HC := Lib.hid (HREC.out 1 (by omega) g)
            have y2 := HE.out.n.cell 2
            rw [HN4E.out] at y2
            simp at y2
            clear g
            go_wp2_with fail
            refine (HC.out _).mono ?_
            rintro e w6 ⟨y, rfl, hy, hb6⟩
            have HE : Hid (RE w b1 b2 (H sl) N4 sl x y nl qs (LL 0) (LL 1) [] w6) := Lib.hid (HE.out.putY hb6 hy)
            clear hy hb6 HC y2
            by_cases g : (A 2).2 = 0
            · have g2 : ((A 2).2 != 0) = false := by simpa using g
              have HC := Lib.hid (HREC.out 2 (by omega) g)
              have y3 := HE.out.n.cell 3
              rw [HN4E.out] at y3
              simp at y3
              clear g
              go_wp2_with fail
              refine (HC.out _).mono ?_
              rintro e w7 ⟨z, rfl, hz, hb7⟩
              have HE : Hid (RE w b1 b2 (H sl) N4 sl x y z qs (LL 0) (LL 1) (LL 2) w7) := Lib.hid (HE.out.putZ hb7 hz)
              clear hz hb7 HC y3
              by_cases g : (A 3).2 = 0
              · have g3 : ((A 3).2 != 0) = false := by simpa using g
                have e0 : RE w b1 b2 (mc id r a t d v op cd sl nl nl nl) N4 sl x y z qs (LL 0) (LL 1) (LL 2) w7 := by have := HE.out; rw [HHE.out] at this; exact this
                have e1 : RE w b1 b2 (mc id r a t d v op cd sl x nl nl) N4 sl x y z qs (LL 0) (LL 1) (LL 2) (w7.setCell ⟨b1, 9, none⟩ x.v) := e0.set HE1.out HE12.out (mc_ns _ _ _ _ _ _ _ _ _ _ _ _) 9 x.v
                have e2 : RE w b1 b2 (mc id r a t d v op cd sl x y nl) N4 sl x y z qs (LL 0) (LL 1) (LL 2) ((w7.setCell ⟨b1, 9, none⟩ x.v).setCell ⟨b1, 10, none⟩ y.v) := e1.set HE1.out HE12.out (mc_ns _ _ _ _ _ _ _ _ _ _ _ _) 10 y.v
                have e3 : RE w b1 b2 (mc id r a t d v op cd sl x y z) N4 sl x y z qs (LL 0) (LL 1) (LL 2) (((w7.setCell ⟨b1, 9, none⟩ x.v).setCell ⟨b1, 10, none⟩ y.v).setCell ⟨b1, 11, none⟩ z.v) := e2.set HE1.out HE12.out (mc_ns _ _ _ _ _ _ _ _ _ _ _ _) 11 z.v
                have x9 := e0.m.cell 9
                have f9 := e0.m.frozen 9
                have x10 := e1.m.cell 10
                have f10 := e1.m.frozen 10
                have x11 := e2.m.cell 11
                have f11 := e2.m.frozen 11
                rw [show (mc id r a t d v op cd sl nl nl nl)[9]? = some nl.v from rfl] at x9
                rw [show (mc id r a t d v op cd sl x nl nl)[10]? = some nl.v from rfl] at x10
                rw [show (mc id r a t d v op cd sl x y nl)[11]? = some nl.v from rfl] at x11
                have E3 := Lib.hid e3
                have HMM := Lib.hid e3.m
                have HZ := Lib.hid e3.o
                have HB := Lib.hid e3.b
                clear e0 e1 e2 e3 HE HREC HNO
                by_cases g5 : (A 3).1 = (s.size : Int)
                · have g5' : ((A 3).1 != (s.size : Int)) = false := by simpa using g5
                  have HRE : Hid (R = (⟨id, r, a, t, d, v, op, cd, qs, LL 0, LL 1, LL 2⟩, 0)) := Lib.hid (by rw [HF.out, if_neg (by simpa using g), if_neg (by simpa using g5), HA00.out.2])
                  clear g g5 HF
                  go_wp2_with (first | (refine ld12 (.tmp 4) HMM.out rfl rfl rfl rfl ?_) | (refine st12 (.tmp 2) (.tmp 161) HZ.out rfl rfl rfl rfl rfl ?_))
                  refine bodyPost_ret (res12t rfl rfl (HZ.out.row (mc id r a t d v op cd sl x y z))) rfl ?_
                  have k8 := row_others (((w7.setCell ⟨b1, 9, none⟩ x.v).setCell ⟨b1, 10, none⟩ y.v).setCell ⟨b1, 11, none⟩ z.v) w.heap.size (mc id r a t d v op cd sl x y z)
                  have ns : NoS zcs := mc_ns _ _ _ _ _ _ _ _ _ _ _ _
                  refine ⟨sl, x, y, z, by rw [HRE.out]; rfl, ?_, below_row HB.out (Nat.le_refl _) _⟩
                  rw [HRE.out]
                  exact ⟨E3.out.q.other HZ.out ns k8.1 k8.2, E3.out.x.other HZ.out ns k8.1 k8.2, E3.out.y.other HZ.out ns k8.1 k8.2, E3.out.z.other HZ.out ns k8.1 k8.2⟩
                · have g5' : ((A 3).1 == (s.size : Int)) = false := by simpa using g5
                  have g5'' : ((A 3).1 != (s.size : Int)) = true := by simpa using g5
                  have HRE : Hid (R = (zeroM, 10)) := Lib.hid (by rw [HF.out, if_neg (by simpa using g), if_pos g5])
                  clear g g5 HF
                  go_wp2_with (first | (refine st12z (.tmp 2) (.tmp 160) HZ.out rfl rfl rfl rfl rfl ?_))
                  refine bodyPost_ret (res12t rfl rfl (HZ.out.row zcs)) rfl ?_
                  exact rpost_zero HRE.out (below_row HB.out (Nat.le_refl _) _)
              · have g' : ((A 3).2 == 0) = false := by simpa using g
                have g'' : ((A 3).2 != 0) = true := by simpa using g
                have HRE : Hid (R = (zeroM, (A 3).2)) := Lib.hid (by rw [HF.out, if_pos g])
                have HZ := Lib.hid HE.out.o
                have HB := Lib.hid HE.out.b
                clear g HF HREC HNO
                go_wp2_with (first | (refine st12z (.tmp 2) (.tmp 148) HZ.out rfl rfl rfl rfl rfl ?_))
                refine bodyPost_ret (res12t rfl rfl (HZ.out.row zcs)) rfl ?_
                exact rpost_zero HRE.out (below_row HB.out (Nat.le_refl _) _)
            · have g' : ((A 2).2 == 0) = false := by simpa using g
              have g'' : ((A 2).2 != 0) = true := by simpa using g
              have HRE : Hid (R = (zeroM, (A 2).2)) := Lib.hid (by have e3 := HNO.out 2 g; rw [HF.out, e3, if_pos g])
              have HZ := Lib.hid HE.out.o
              have HB := Lib.hid HE.out.b
              clear g HF HREC HNO
              go_wp2_with (first | (refine st12z (.tmp 2) (.tmp 135) HZ.out rfl rfl rfl rfl rfl ?_))
              refine bodyPost_ret (res12t rfl rfl (HZ.out.row zcs)) rfl ?_
              exact rpost_zero HRE.out (below_row HB.out (Nat.le_refl _) _)
          · have g' : ((A 1).2 == 0) = false := by simpa using g
            have g'' : ((A 1).2 != 0) = true := by simpa using g
            have HRE : Hid (R = (zeroM, (A 1).2)) := Lib.hid (by have e2 := HNO.out 1 g; have e3 := HNO.out 2 (by rw [e2]; exact g); rw [HF.out, e3, e2, if_pos g])
            have HZ := Lib.hid HE.out.o
            have HB := Lib.hid HE.out.b
            clear g HF HREC HNO
            go_wp2_with (first | (refine st12z (.tmp 2) (.tmp 122) HZ.out rfl rfl rfl rfl rfl ?_))
            refine bodyPost_ret (res12t rfl rfl (HZ.out.row zcs)) rfl ?_
            exact rpost_zero HRE.out (below_row HB.out (Nat.le_refl _) _)
end Go.Proofs.Ytljfkjbagebncaa

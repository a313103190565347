/-
  The walk of the law PackBack: for every list of calls it returns true; no older memory is changed.
-/
import Derived.Test.YthffdgjdioolkaaShort
import Derived.Test.YthffdgjdioolkaaOps
import Derived.Test.YthffdgjdioolkaaBackMath
namespace Go.Proofs.Ythffdgjdioolkaa
open Go.RowKit
theorem info3 : (Try.prog.info? 3).map (fun i => (i.zero, i.size, i.bytes)) = some (some (.int .i64 0), 1, 8) := by kernel_rfl
abbrev int (n : Nat) : Value := .int .i64 (n : Int)
/-- A packer, and two slices that share no memory with it. -/
structure Bk (n bp : Nat) (S : Nat → Prop) (B : Bs) (L : Kn) (ns : List Bs) (ps : List Nat) (v5 v6 : Value) (w : World) : Prop where
  p : PK S bp B L w
  o5 : w.ownsRow n 9 1 v5 ns.length (ns.map str)
  o6 : w.ownsRow n 3 1 v6 ps.length (ps.map int)
  hS : ∀ k, S k → n ≤ k ∧ k < w.heap.size
  d5 : ∀ k, v5.ownBlock = some k → ¬ S k
  d6 : ∀ k, v6.ownBlock = some k → ¬ S k
theorem rows_apart {w : World} {b1 b2 e1 e2 s1 s2 k1 k2 : Nat} {v1 v2 : Value} {xs ys : List Value} (h1 : w.ownsRow b1 e1 s1 v1 k1 xs) (h2 : w.ownsRow b2 e2 s2 v2 k2 ys) (he : e1 ≠ e2) : ∀ k, v1.ownBlock = some k → v2.ownBlock ≠ some k := by
  intro k hk hk2
  rcases h1.2 with ⟨rfl, _⟩ | ⟨g, cap, cur, rfl, _, hg, _⟩
  · simp [Value.ownBlock] at hk
  · rcases h2.2 with ⟨rfl, _⟩ | ⟨g2, cap2, cur2, rfl, _, hg2, _⟩
    · simp [Value.ownBlock] at hk2
    · have e : g = g2 := by simp [Value.ownBlock] at hk hk2; omega
      subst e
      rw [hg] at hg2
      injection hg2 with hg2
      injection hg2 with _ hg2
      exact he hg2
theorem Bk.below {n bp : Nat} {S : Nat → Prop} {B : Bs} {L : Kn} {ns : List Bs} {ps : List Nat} {v5 v6 : Value} {w w' : World} (h : Bk n bp S B L ns ps v5 v6 w) (hb : Below w.heap.size w w') : Bk n bp S B L ns ps v5 v6 w' :=
  ⟨h.p.below hb, (Tr.of_below (S := fun _ => False) hb).row h.o5 (fun _ _ h => h), (Tr.of_below (S := fun _ => False) hb).row h.o6 (fun _ _ h => h), fun k hk => ⟨(h.hS k hk).1, Nat.lt_of_lt_of_le (h.hS k hk).2 hb.size⟩, h.d5, h.d6⟩
theorem Bk.lft {n bp : Nat} {S : Nat → Prop} {B B' : Bs} {L L' : Kn} {ns : List Bs} {ps : List Nat} {v5 v6 : Value} {w w' : World} (h : Bk n bp S B L ns ps v5 v6 w) (hn : n ≤ w.heap.size) (hl : Lft S bp B' L' w w') :
    (∃ S', Bk n bp S' B' L' ns ps v5 v6 w') ∧ Below n w w' := by
  refine ⟨⟨_, hl.1.lt, hl.2.row h.o5 h.d5, hl.2.row h.o6 h.d6, ?_, ?_, ?_⟩, hl.2.below hn (fun k hk => (h.hS k hk).1)⟩
  · rintro k ⟨hk | hk, hk2⟩
    · exact ⟨(h.hS k hk).1, hk2⟩
    · exact ⟨Nat.le_trans hn hk, hk2⟩
  · rintro k hk ⟨hs | hs, _⟩
    · exact h.d5 k hk hs
    · have := row_lt h.o5 k hk; omega
  · rintro k hk ⟨hs | hs, _⟩
    · exact h.d6 k hk hs
    · have := row_lt h.o6 k hk; omega
theorem Bk.name {n bp : Nat} {S : Nat → Prop} {B : Bs} {L : Kn} {ns : List Bs} {ps : List Nat} {v5 v5' v6 : Value} {w w1 : World} {o : Obj} {x : Bs} (h : Bk n bp S B L ns ps v5 v6 w) (hn : n ≤ w.heap.size)
    (hown : w1.ownsRow n 9 1 v5' (ns.length + 1) (ns.map str ++ [str x])) (hg : (w.alloc o).grownBy w1 v5.ownBlock) (hloc : v5'.ownBlock = v5.ownBlock ∨ v5'.ownBlock = some (w.heap.size + 1)) :
    Bk n bp S B L (ns ++ [x]) ps v5' v6 w1 ∧ Below n w w1 := by
  have ha := h.below ((Below.refl _ w).alloc (Nat.le_refl _) o)
  have ht : Tr (fun k => v5.ownBlock = some k) (w.alloc o) w1 := (Tr.refl _ _).grown hg (fun k hk => .inl hk)
  refine ⟨⟨ha.p.tr ht (fun k _ hs hk => h.d5 k hk hs), ?_, ht.row ha.o6 (fun k hk hk2 => rows_apart ha.o5 ha.o6 (by decide) k hk2 hk), fun k hk => ⟨(h.hS k hk).1, Nat.lt_of_lt_of_le (ha.hS k hk).2 hg.size⟩, ?_, h.d6⟩, ?_⟩
  · rw [List.length_append, List.map_append]; exact hown
  · intro k hk hs
    rcases hloc with e | e
    · exact h.d5 k (by rw [← e]; exact hk) hs
    · rw [e] at hk; injection hk with hk
      have := (h.hS k hs).2
      omega
  · exact ((Below.refl _ w).alloc hn o).grown hg (by simp; omega) (fun k hk => (World.ownsRow.lt h.o5 k hk).1)
theorem Bk.places {n bp : Nat} {S : Nat → Prop} {B : Bs} {L : Kn} {ns : List Bs} {ps : List Nat} {v5 v6 v6' : Value} {w w1 : World} {o : Obj} {x y : Nat} (h : Bk n bp S B L ns ps v5 v6 w) (hn : n ≤ w.heap.size)
    (hown : w1.ownsRow n 3 1 v6' (ps.length + 2) (ps.map int ++ [int x, int y])) (hg : (w.alloc o).grownBy w1 v6.ownBlock) (hloc : v6'.ownBlock = v6.ownBlock ∨ v6'.ownBlock = some (w.heap.size + 1)) :
    Bk n bp S B L ns (ps ++ [x, y]) v5 v6' w1 ∧ Below n w w1 := by
  have ha := h.below ((Below.refl _ w).alloc (Nat.le_refl _) o)
  have ht : Tr (fun k => v6.ownBlock = some k) (w.alloc o) w1 := (Tr.refl _ _).grown hg (fun k hk => .inl hk)
  refine ⟨⟨ha.p.tr ht (fun k _ hs hk => h.d6 k hk hs), ht.row ha.o5 (fun k hk hk2 => rows_apart ha.o5 ha.o6 (by decide) k hk hk2), ?_, fun k hk => ⟨(h.hS k hk).1, Nat.lt_of_lt_of_le (ha.hS k hk).2 hg.size⟩, h.d5, ?_⟩, ?_⟩
  · rw [List.length_append, List.map_append]; exact hown
  · intro k hk hs
    rcases hloc with e | e
    · exact h.d6 k (by rw [← e]; exact hk) hs
    · rw [e] at hk; injection hk with hk
      have := (h.hS k hs).2
      omega
  · exact ((Below.refl _ w).alloc hn o).grown hg (by simp; omega) (fun k hk => (World.ownsRow.lt h.o6 k hk).1)
/-- The places of what was put, two each. -/
def plc (rs : List Rec) : List Nat := rs.flatMap fun r => [r.2.1, r.2.2]
theorem plc_len (rs : List Rec) : (plc rs).length = 2 * rs.length := by
  induction rs with
  | nil => rfl
  | cons r rs ih => simp [plc] at ih ⊢; omega
theorem plc_app (rs : List Rec) (r : Rec) : plc (rs ++ [r]) = plc rs ++ [r.2.1, r.2.2] := by simp [plc]
theorem plc_get {rs : List Rec} {j : Nat} {x : Bs} {y z : Nat} (h : rs[j]? = some (x, y, z)) : (plc rs)[2 * j]? = some y ∧ (plc rs)[2 * j + 1]? = some z := by
  induction rs generalizing j with
  | nil => simp at h
  | cons r rs ih =>
    have e : plc (r :: rs) = r.2.1 :: r.2.2 :: plc rs := rfl
    rw [e]
    cases j with
    | zero =>
      simp at h
      subst h
      exact ⟨rfl, rfl⟩
    | succ j =>
      have := ih (j := j) (by simpa using h)
      rw [show 2 * (j + 1) = 2 * j + 1 + 1 by omega, show 2 * j + 1 + 1 + 1 = (2 * j + 1) + 1 + 1 by omega]
      simpa using this
theorem rds_lt {B : Bs} {p st : Nat} {ls : List Bs} {q : Nat} (h : Rds B p st ls q) : p < B.length := by
  cases h <;> omega
theorem row_get {w : World} {base e k : Nat} {a : Option Addr} {n cap : Nat} {xs : List Value} (h : w.ownsRow base e 1 (.slice a n cap) k xs) (hk : 0 < k) :
    ∃ g, a = some ⟨g, 0, none⟩ ∧ g < w.heap.size ∧ ∀ j u, xs[j]? = some u → w.cell? ⟨g, j, none⟩ = some u := by
  have hc := @World.ownsRow.cells w base e 1 _ k xs h
  rcases h.2 with ⟨_, h0⟩ | ⟨g, cap', cur, e', hb, hg, _⟩
  · omega
  · injection e' with e1 e2 e3
    subst e1
    refine ⟨g, rfl, (Array.getElem?_eq_some_iff.1 hg).1, fun j u hj => ?_⟩
    have := hc (g := g) rfl j u hj
    rw [add_lit, Nat.zero_add] at this
    exact this
/-- What the first loop knows. -/
def BaI (w : World) (bp k : Nat) (v5 v6 : Value) (wr : World) : Prop := ∃ (S : Nat → Prop) (B : Bs) (L : Kn) (rs : List Rec), Bk w.heap.size bp S B L (rs.map (·.1)) (plc rs) v5 v6 wr ∧ Good B L rs ∧ L.length ≤ B.length ∧ B.length ≤ 300 * k ∧ rs.length ≤ k ∧ Below w.heap.size w wr
set_option maxRecDepth 100000 in
set_option maxHeartbeats 16000000 in
theorem lawBack_some (b off n cap : Nat) (os : Nat → OpC) (w : World) (hb : b < w.heap.size) (hc : ∀ k, k < n → OpAt w b (off + k * 5) (os k)) :
    Calls Try.prog 6 #[.slice (some ⟨b, off, none⟩) n cap] w fun e w' => e = .returned (.bool true) ∧ Below w.heap.size w w' := by
  have HC := Lib.hid hc
  clear hc
  obtain ⟨i0, hi, hz0, hz1, hz2⟩ := info_parts info9
  obtain ⟨j0, ji, jz0, jz1, jz2⟩ := info_parts info3
  go_enter Try.func6, Try.ntmps6
  go_wp2_with fail
  refine (awake_any _).mono ?_
  rintro e w1 ⟨rfl, h1⟩
  go_wp2_with fail
  refine (new_any w1).mono ?_
  rintro e w2 ⟨rfl, hp2, hb2⟩
  have hB := h1.trans (hb2.mono h1.size)
  obtain ⟨bp, hbp⟩ : ∃ bp, bp = w1.heap.size := ⟨_, rfl⟩
  rw [show ptr w1.heap.size = ptr bp by rw [hbp]]
  have HI : Hid (BaI w bp 0 (.slice none 0 0) (.slice none 0 0) w2) := Lib.hid ⟨_, [], [], [], ⟨by rw [hbp]; exact hp2.lt, World.ownsRow_nil _ _ _ _, World.ownsRow_nil _ _ _ _, fun k (hk : w1.heap.size ≤ k ∧ k < w2.heap.size) => ⟨Nat.le_trans h1.size hk.1, hk.2⟩, fun k hk => by simp [Value.ownBlock] at hk, fun k hk => by simp [Value.ownBlock] at hk⟩, good_nil, by simp, by simp, by simp, hB⟩
  clear hB h1 hp2 hb2 hbp
  go_wp2
  go_loopw [5, 6, 7] (fun v5 v6 i wr => ∃ k : Nat, k ≤ n ∧ k ≤ 60 ∧ i = .int .i64 k ∧ BaI w bp k v5 v6 wr) (fun _ _ i _ => 60 - (intOf i).toNat)
  case atStart => exact ⟨0, by omega, by omega, rfl, HI.out⟩
  case round =>
    clear HI
    obtain ⟨k, hk, hk2, rfl, S, B, L, rs, hP, hG, hL, hBk, hrs, hB⟩ := hrel
    have HB := Lib.hid hB
    have hsz := hB.size
    obtain ⟨ns, hns⟩ : ∃ ns, ns = rs.map (·.1) := ⟨_, rfl⟩
    obtain ⟨pl, hpl⟩ : ∃ pl, pl = plc rs := ⟨_, rfl⟩
    rw [← hns, ← hpl] at hP
    have hnl : ns.length ≤ 60 := by rw [hns]; simp; omega
    have hpll : pl.length ≤ 120 := by rw [hpl, plc_len]; omega
    have HNS := Lib.hid hns
    have HPL := Lib.hid hpl
    clear hns hpl
    have HP := Lib.hid hP
    have HG := Lib.hid hG
    by_cases hlt : k < n
    · have q1 : (k : Int) < (n : Int) := by omega
      by_cases hlt2 : k < 60
      · have q2 : (k : Int) < 60 := by omega
        obtain ⟨c0, c1, c2, c3, c4⟩ := HC.out k hlt
        have c0 := (hB.cell (p := ⟨b, off + k * 5, none⟩) hb).trans c0
        have c1 := (hB.cell (p := ⟨b, off + k * 5 + 1, none⟩) hb).trans c1
        have c2 := (hB.cell (p := ⟨b, off + k * 5 + 2, none⟩) hb).trans c2
        have c3 := (hB.cell (p := ⟨b, off + k * 5 + 3, none⟩) hb).trans c3
        have c4 := (hB.cell (p := ⟨b, off + k * 5 + 4, none⟩) hb).trans c4
        obtain ⟨t, ht, hshort⟩ := short_any (os k).text 300
        have SH := Lib.hid hshort
        generalize (os k).kind = x0 at c0
        generalize (os k).place = x1 at c1
        generalize (os k).num = x2 at c2
        generalize (os k).text = x3 at c3 SH
        generalize (os k).points = x4 at c4
        clear hshort hB hP hG
        go_wp2_with fail
        obtain ⟨wA, hwA⟩ : ∃ wA, wA = wr.alloc (.cells #[.int .i64 x0, .int .i64 x1, .int .u32 x2, .string x3, .bool x4] 51) := ⟨_, rfl⟩
        rw [← hwA]
        have hA : Below wr.heap.size wr wA := by rw [hwA]; exact (Below.refl _ _).alloc (Nat.le_refl _) _
        have d4 : wA.cell? ⟨wr.heap.size, 4, none⟩ = some (.bool x4) := by
          have h := World.news_of_block (cs := #[.int .i64 x0, .int .i64 x1, .int .u32 x2, .string x3, .bool x4]) (t := 51) (fr := (0, 0)) (heap_alloc_new wr _) 4 (.bool x4) rfl
          rw [hwA]; exact h
        have HPA := Lib.hid (HP.out.below hA)
        have HBA := Lib.hid (HB.out.trans (hA.mono hsz))
        have hszA : w.heap.size ≤ wA.heap.size := Nat.le_trans hsz hA.size
        obtain ⟨og, hog⟩ : ∃ og, og = wr.heap.size := ⟨_, rfl⟩
        rw [← hog] at d4 ⊢
        clear hwA hA c0 c1 c2 c3 c4 HP HB hsz hog
        refine (SH.out _).mono ?_
        rintro e w' ⟨rfl, rfl⟩
        go_wp2_with fail
        refine (plen_any _ _ _ _ _ HPA.out.p).mono ?_
        rintro e w' ⟨rfl, rfl⟩
        by_cases g : chk t.data.toList = 0
        · have G := Lib.hid g
          have hG2 := HG.out.put (pts := x4) g
          obtain ⟨p1, p2, p3⟩ := pk_len (pts := x4) (B := B) (L := L) g
          have hts := size_list t
          clear g
          obtain ⟨B1, hB1⟩ : ∃ B1, B1 = pkB x4 B L t.data.toList := ⟨_, rfl⟩
          obtain ⟨L1, hL1⟩ : ∃ L1, L1 = pkL x4 B L t.data.toList := ⟨_, rfl⟩
          rw [← hB1, ← hL1] at hG2
          rw [← hB1] at p1 p2 p3
          rw [← hL1] at p3
          have HG2 := Lib.hid hG2
          have E1 := Lib.hid hB1
          have E2 := Lib.hid hL1
          have HPP := Lib.hid (And.intro p1 (And.intro p2 p3))
          have HTS := Lib.hid hts
          clear hG2 hB1 hL1 p1 p2 p3 hts
          go_wp2_with fail
          refine (pname_any t (by omega) x4 _ _ _ _ _ HPA.out.p (by omega) hL HG.out.1.okK).mono ?_
          rintro e w4 ⟨rfl, hl4⟩
          rw [G.out]
          rw [← E1.out, ← E2.out] at hl4
          obtain ⟨⟨S4, hP4⟩, hb4⟩ := HPA.out.lft hszA hl4
          have hs4 := Nat.le_trans hszA hb4.size
          have HP4 := Lib.hid hP4
          have HB4 := Lib.hid (HBA.out.trans hb4)
          clear hl4 hP4 hb4 d4
          obtain ⟨l5, hl5⟩ : ∃ l5, l5 = ns.length := ⟨_, rfl⟩
          have hl5b : l5 ≤ 60 := by rw [hl5]; exact hnl
          have HO5 : Hid (w4.ownsRow w.heap.size 9 1 u5 l5 (ns.map str)) := Lib.hid (by rw [hl5]; exact HP4.out.o5)
          have HL5 := Lib.hid hl5
          clear hl5
          go_wp2_with (at_builtin; refine wpList_append_own_at _ rfl (.tmp 45) (.tmp 47) 61 rfl w.heap.size 9 i0 (.string ⟨#[]⟩) 1 16 Try.underlying61 hi hz0 hz1 hz2 rfl (by decide) _ l5 _ rfl (World.ownsRow.alloc HO5.out _) ⟨w4.heap.size, 0, none⟩ 1 1 [.string t] rfl rfl (cell_one_new _ _ _) (by simp [Value.oneCell']) (by unfold maxLen; omega) (by omega) (by simp; omega) ?_)
          intro v5 w5 hown5 hg5 _ hloc5
          obtain ⟨hP5, hb5⟩ := HP4.out.name (x := t.data.toList) hs4 (by rw [← HL5.out]; exact hown5) hg5 hloc5
          have hs5 := Nat.le_trans hs4 hb5.size
          have HP5 := Lib.hid hP5
          have HB5 := Lib.hid (HB4.out.trans hb5)
          clear hown5 hg5 hloc5 hP5 hb5
          go_wp2_with fail
          refine (plen_any _ _ _ _ _ HP5.out.p).mono ?_
          rintro e w' ⟨rfl, rfl⟩
          obtain ⟨l6, hl6⟩ : ∃ l6, l6 = pl.length := ⟨_, rfl⟩
          have hl6b : l6 ≤ 120 := by rw [hl6]; exact hpll
          have HO6 : Hid (w5.ownsRow w.heap.size 3 1 u6 l6 (pl.map int)) := Lib.hid (by rw [hl6]; exact HP5.out.o6)
          have HL6 := Lib.hid hl6
          clear hl6
          go_wp2_with (at_builtin; refine wpList_append_own_at _ rfl (.tmp 49) (.tmp 53) 62 rfl w.heap.size 3 j0 (.int .i64 0) 1 8 Try.underlying62 ji jz0 jz1 jz2 rfl (by decide) _ l6 _ rfl (World.ownsRow.alloc HO6.out _) ⟨w5.heap.size, 0, none⟩ 2 2 [int B.length, int B1.length] rfl rfl (fun j u hj => World.news_of_block (cs := #[int B.length, int B1.length]) (t := 3) (fr := (0, 0)) (heap_alloc_new w5 _) j u hj) (by simp [Value.oneCell']) (by unfold maxLen; omega) (by omega) (by simp; omega) ?_)
          intro v6 w6 hown6 hg6 _ hloc6
          obtain ⟨hP6, hb6⟩ := HP5.out.places (x := B.length) (y := B1.length) hs5 (by rw [← HL6.out]; exact hown6) hg6 hloc6
          have HP6 := Lib.hid hP6
          have HB6 := Lib.hid (HB5.out.trans hb6)
          clear hown6 hg6 hloc6 hP6 hb6
          go_wp2
          go_roundw
          case rel => exact ⟨k + 1, by omega, by omega, by go_num, S4, B1, L1, rs ++ [(t.data.toList, B.length, B1.length)], by rw [List.map_append, plc_app, ← HNS.out, ← HPL.out]; exact HP6.out, HG2.out, by have := HPP.out; omega, by have := HPP.out; have := HTS.out; omega, by simp; omega, HB6.out⟩
          case measure => simp [intOf]; omega
        · have G := Lib.hid g
          have q3 : (chk t.data.toList == 0) = false := by simpa using g
          have q3' : (chk t.data.toList != 0) = true := by simpa using g
          have hts := size_list t
          have HTS := Lib.hid hts
          clear g hts
          go_wp2_with fail
          refine (pname_any t (by omega) x4 _ _ _ _ _ HPA.out.p (by omega) hL HG.out.1.okK).mono ?_
          rintro e w4 ⟨rfl, hl4⟩
          rw [pkB_no G.out, pkL_no G.out] at hl4
          obtain ⟨⟨S4, hP4⟩, hb4⟩ := HPA.out.lft hszA hl4
          have hs4 := Nat.le_trans hszA hb4.size
          have HP4 := Lib.hid hP4
          have HB4 := Lib.hid (HBA.out.trans hb4)
          clear hl4 hP4 hb4 d4
          go_wp2_with fail
          refine (praw_any t _ _ _ _ _ HP4.out.p (by omega)).mono ?_
          rintro e w5 ⟨⟨v5, rfl⟩, hl5⟩
          obtain ⟨⟨S5, hP5⟩, hb5⟩ := HP4.out.lft hs4 hl5
          have HP5 := Lib.hid hP5
          have HB5 := Lib.hid (HB4.out.trans hb5)
          clear hl5 hP5 hb5
          go_wp2
          go_roundw
          case rel => exact ⟨k + 1, by omega, by omega, by go_num, S5, B ++ t.data.toList, L, rs, by rw [← HNS.out, ← HPL.out]; exact HP5.out, HG.out.raw _, by rw [List.length_append]; omega, by have := HTS.out; rw [List.length_append]; omega, by omega, HB5.out⟩
          case measure => simp [intOf]; omega
      · have q2 : decide ((k : Int) < 60) = false := by simp; omega
        clear hB hP hG
        go_wp2_with fail
        refine (pbytes_any _ _ _ _ _ HP.out.p).mono ?_
        rintro e w' ⟨rfl, rfl⟩
        obtain ⟨tB, htB⟩ : ∃ tB : ByteArray, tB = ⟨B.toArray⟩ := ⟨_, rfl⟩
        rw [show str B = .string tB by rw [htB]]
        have htl : tB.data.toList = B := by rw [htB]
        have hts : tB.size ≤ 20000 := by rw [size_list, htl]; omega
        have HTL := Lib.hid htl
        clear htB htl
        obtain ⟨m, hm⟩ : ∃ m, m = rs.length := ⟨_, rfl⟩
        have hn5 : ns.length = m := by rw [HNS.out, hm]; simp
        have hn6 : pl.length = 2 * m := by rw [HPL.out, plc_len, hm]
        have hmb : m ≤ 60 := by omega
        obtain ⟨a5, cap5, h5⟩ := row_slice HP.out.o5
        obtain ⟨a6, cap6, h6⟩ := row_slice HP.out.o6
        have o5 := HP.out.o5
        have o6 := HP.out.o6
        rw [hn5] at h5 o5
        rw [hn6] at h6 o6
        subst h5
        subst h6
        have HO5 := Lib.hid o5
        have HO6 := Lib.hid o6
        have HM := Lib.hid hm
        have hmi : (m : Int) ≤ 60 := by omega
        clear hn5 hn6 o5 o6 hm
        obtain ⟨wq, rfl⟩ : ∃ wq, wq = wr := ⟨_, rfl⟩
        go_wp2
        go_loopw [12] (fun i w2 => ∃ j : Nat, j ≤ m ∧ i = .int .i64 j ∧ Below wq.heap.size wq w2) (fun i _ => m - (intOf i).toNat)
        case atStart => exact ⟨0, by omega, rfl, Below.refl _ _⟩
        case round =>
          obtain ⟨j, hj, rfl, hB2⟩ := hrel
          by_cases hjl : j < m
          · obtain ⟨r, hr⟩ : ∃ r, rs[j]? = some r := ⟨_, List.getElem?_eq_getElem (by rw [← HM.out]; exact hjl)⟩
            obtain ⟨x, y, z⟩ := r
            obtain ⟨g5, rfl, hg5, k5⟩ := row_get HO5.out (by omega)
            obtain ⟨g6, rfl, hg6, k6⟩ := row_get HO6.out (by omega)
            have e5 : wr.cell? ⟨g5, j, none⟩ = some (str x) := (hB2.cell (p := ⟨g5, j, none⟩) hg5).trans (k5 j _ (by rw [HNS.out]; simp [hr]))
            obtain ⟨z1, z2⟩ := plc_get hr
            have e6 : wr.cell? ⟨g6, 2 * j, none⟩ = some (int y) := (hB2.cell (p := ⟨g6, 2 * j, none⟩) hg6).trans (k6 _ _ (by rw [HPL.out, List.getElem?_map, z1]; rfl))
            have e7 : wr.cell? ⟨g6, 2 * j + 1, none⟩ = some (int z) := (hB2.cell (p := ⟨g6, 2 * j + 1, none⟩) hg6).trans (k6 _ _ (by rw [HPL.out, List.getElem?_map, z2]; rfl))
            have hrm := List.mem_of_getElem? hr
            have hread := HG.out.read hrm
            have hy : y < B.length := rds_lt (HG.out.2 _ hrm).2
            have C := name_any tB (by omega) (y : Int) (by omega) wr
            rw [HTL.out, show nmI B (y : Int) = (x, z, 0) from hread] at C
            have HC2 := Lib.hid C
            clear z1 z2 k5 k6 hr hrm hread C hy
            go_wp2_with fail
            refine HC2.out.mono ?_
            rintro e w3 ⟨rfl, h3⟩
            rw [show nmV (x, z, 0) = .tuple #[str x, int z, .int .i64 0] from rfl]
            have f5 := (h3.cell (p := ⟨g5, j, none⟩) (Nat.lt_of_lt_of_le hg5 hB2.size)).trans e5
            have f7 := (h3.cell (p := ⟨g6, 2 * j + 1, none⟩) (Nat.lt_of_lt_of_le hg6 hB2.size)).trans e7
            have h4 := hB2.trans (h3.mono hB2.size)
            clear e5 e6 e7 h3 hB2
            go_wp2
            go_roundw
            case rel => exact ⟨j + 1, by omega, by go_num, h4⟩
            case measure => simp [intOf]; omega
          · go_wp2
            go_ret
            exact ⟨rfl, HB.out.trans (hB2.mono hsz)⟩
    · have q1 : decide ((k : Int) < (n : Int)) = false := by simp; omega
      clear hB hP hG
      go_wp2_with fail
      refine (pbytes_any _ _ _ _ _ HP.out.p).mono ?_
      rintro e w' ⟨rfl, rfl⟩
      obtain ⟨tB, htB⟩ : ∃ tB : ByteArray, tB = ⟨B.toArray⟩ := ⟨_, rfl⟩
      rw [show str B = .string tB by rw [htB]]
      have htl : tB.data.toList = B := by rw [htB]
      have hts : tB.size ≤ 20000 := by rw [size_list, htl]; omega
      have HTL := Lib.hid htl
      clear htB htl
      obtain ⟨m, hm⟩ : ∃ m, m = rs.length := ⟨_, rfl⟩
      have hn5 : ns.length = m := by rw [HNS.out, hm]; simp
      have hn6 : pl.length = 2 * m := by rw [HPL.out, plc_len, hm]
      have hmb : m ≤ 60 := by omega
      obtain ⟨a5, cap5, h5⟩ := row_slice HP.out.o5
      obtain ⟨a6, cap6, h6⟩ := row_slice HP.out.o6
      have o5 := HP.out.o5
      have o6 := HP.out.o6
      rw [hn5] at h5 o5
      rw [hn6] at h6 o6
      subst h5
      subst h6
      have HO5 := Lib.hid o5
      have HO6 := Lib.hid o6
      have HM := Lib.hid hm
      have hmi : (m : Int) ≤ 60 := by omega
      clear hn5 hn6 o5 o6 hm
      obtain ⟨wq, rfl⟩ : ∃ wq, wq = wr := ⟨_, rfl⟩
      go_wp2
      go_loopw [12] (fun i w2 => ∃ j : Nat, j ≤ m ∧ i = .int .i64 j ∧ Below wq.heap.size wq w2) (fun i _ => m - (intOf i).toNat)
      case atStart => exact ⟨0, by omega, rfl, Below.refl _ _⟩
      case round =>
        obtain ⟨j, hj, rfl, hB2⟩ := hrel
        by_cases hjl : j < m
        · obtain ⟨r, hr⟩ : ∃ r, rs[j]? = some r := ⟨_, List.getElem?_eq_getElem (by rw [← HM.out]; exact hjl)⟩
          obtain ⟨x, y, z⟩ := r
          obtain ⟨g5, rfl, hg5, k5⟩ := row_get HO5.out (by omega)
          obtain ⟨g6, rfl, hg6, k6⟩ := row_get HO6.out (by omega)
          have e5 : wr.cell? ⟨g5, j, none⟩ = some (str x) := (hB2.cell (p := ⟨g5, j, none⟩) hg5).trans (k5 j _ (by rw [HNS.out]; simp [hr]))
          obtain ⟨z1, z2⟩ := plc_get hr
          have e6 : wr.cell? ⟨g6, 2 * j, none⟩ = some (int y) := (hB2.cell (p := ⟨g6, 2 * j, none⟩) hg6).trans (k6 _ _ (by rw [HPL.out, List.getElem?_map, z1]; rfl))
          have e7 : wr.cell? ⟨g6, 2 * j + 1, none⟩ = some (int z) := (hB2.cell (p := ⟨g6, 2 * j + 1, none⟩) hg6).trans (k6 _ _ (by rw [HPL.out, List.getElem?_map, z2]; rfl))
          have hrm := List.mem_of_getElem? hr
          have hread := HG.out.read hrm
          have hy : y < B.length := rds_lt (HG.out.2 _ hrm).2
          have C := name_any tB (by omega) (y : Int) (by omega) wr
          rw [HTL.out, show nmI B (y : Int) = (x, z, 0) from hread] at C
          have HC2 := Lib.hid C
          clear z1 z2 k5 k6 hr hrm hread C hy
          go_wp2_with fail
          refine HC2.out.mono ?_
          rintro e w3 ⟨rfl, h3⟩
          rw [show nmV (x, z, 0) = .tuple #[str x, int z, .int .i64 0] from rfl]
          have f5 := (h3.cell (p := ⟨g5, j, none⟩) (Nat.lt_of_lt_of_le hg5 hB2.size)).trans e5
          have f7 := (h3.cell (p := ⟨g6, 2 * j + 1, none⟩) (Nat.lt_of_lt_of_le hg6 hB2.size)).trans e7
          have h4 := hB2.trans (h3.mono hB2.size)
          clear e5 e6 e7 h3 hB2
          go_wp2
          go_roundw
          case rel => exact ⟨j + 1, by omega, by go_num, h4⟩
          case measure => simp [intOf]; omega
        · go_wp2
          go_ret
          exact ⟨rfl, HB.out.trans (hB2.mono hsz)⟩
set_option maxRecDepth 100000 in
set_option maxHeartbeats 16000000 in
theorem lawBack_zero (a : Option Addr) (cap : Nat) (w : World) :
    Calls Try.prog 6 #[.slice a 0 cap] w fun e w' => e = .returned (.bool true) ∧ Below w.heap.size w w' := by
  go_enter Try.func6, Try.ntmps6
  go_wp2_with fail
  refine (awake_any _).mono ?_
  rintro e w1 ⟨rfl, h1⟩
  go_wp2_with fail
  refine (new_any w1).mono ?_
  rintro e w2 ⟨rfl, hp2, hb2⟩
  have HP2 := Lib.hid hp2
  have HB := Lib.hid (h1.trans (hb2.mono h1.size))
  clear h1 hp2 hb2
  go_wp2
  go_loopw [5, 6, 7] (fun v5 v6 i wr => v5 = .slice none 0 0 ∧ v6 = .slice none 0 0 ∧ i = .int .i64 0 ∧ w2 = wr) (fun _ _ _ _ => 0)
  case atStart => exact ⟨rfl, rfl, rfl, rfl⟩
  case round =>
    obtain ⟨rfl, rfl, rfl, rfl⟩ := hrel
    go_wp2_with fail
    refine (pbytes_any _ _ _ _ _ HP2.out).mono ?_
    rintro e w' ⟨rfl, rfl⟩
    go_wp2
    go_loopw [12] (fun i wr => i = .int .i64 0 ∧ w2 = wr) (fun _ _ => 0)
    case atStart => exact ⟨rfl, rfl⟩
    case round =>
      obtain ⟨rfl, rfl⟩ := hrel
      go_wp2
      go_ret
      exact ⟨rfl, HB.out⟩
theorem lawBack_any (a : Option Addr) (len cap : Nat) (W : World) (h : Calld W a len) :
    Calls Try.prog 6 #[.slice a len cap] W fun e w' => e = .returned (.bool true) ∧ Below W.heap.size W w' := by
  rcases h with rfl | ⟨b, off, os, rfl, hb, _, hc⟩
  · exact lawBack_zero a cap W
  · exact lawBack_some b off len cap os W hb hc
end Go.Proofs.Ythffdgjdioolkaa

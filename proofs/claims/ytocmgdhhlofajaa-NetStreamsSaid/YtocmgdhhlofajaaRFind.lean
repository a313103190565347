/-
  What the document's find and Peer answer.
-/
import Derived.Test.YtocmgdhhlofajaaFind
import Derived.Test.YtocmgdhhlofajaaRAdd
namespace Go.Proofs.Ytocmgdhhlofajaa
open Go.RowKit
/-- The place of a connection. -/
def At (ls : List Lk) (c : Int) (i : Int) : Prop := (i = -1 ∧ findL ls c = none) ∨ ∃ (k : Nat) (l : Lk), i = (k : Int) ∧ ls[k]? = some l ∧ findL ls c = some l
set_option maxRecDepth 100000 in
set_option maxHeartbeats 4000000 in
theorem rfind_any (c : Int) (S : Nat → Prop) (b : Nat) (s : St) (w : World) (h : Rn S b s w) (hB : s.lks.length ≤ 1000000) :
    Calls Try.prog 37 #[ptr b, .int .i64 c] w fun e w' => (∃ i, e = .returned (.int .i64 i) ∧ At s.lks c i) ∧ w = w' := by
  obtain ⟨vi, vl, hp⟩ := h
  have c1 := hp.c1
  have hbl := hp.lt
  obtain ⟨a, cap, rfl, hcap, _⟩ := hp.rl.shape
  have hcells := fun h => hp.rl.cells lc_len h
  clear hp
  generalize s.lks = ls at *
  obtain ⟨n, hn⟩ : ∃ n, n = ls.length := ⟨_, rfl⟩
  rw [← hn] at c1 hB hcap
  have HN := Lib.hid hn
  have HC := Lib.hid hcells
  rw [← hn] at HC
  clear hn hcells
  go_enter Try.func37, Try.ntmps37
  go_wp2
  go_loopw [5] (fun i wr => ∃ k : Nat, k ≤ n ∧ i = .int .i64 k ∧ findL (ls.take k) c = none ∧ w = wr) (fun i _ => n - (intOf i).toNat)
  case atStart => exact ⟨0, by omega, rfl, rfl, rfl⟩
  case round =>
    obtain ⟨k, hk, rfl, hf, rfl⟩ := hrel
    have HF := Lib.hid hf
    clear hf
    by_cases hlt : k < n
    · have q1 : (k : Int) < (n : Int) := by omega
      obtain ⟨g, cap', e, _, hg, hcell⟩ := HC.out (by omega)
      injection e with e1 e2 e3
      subst e1
      obtain ⟨l, hl⟩ : ∃ l, ls[k]? = some l := ⟨_, List.getElem?_eq_getElem (by rw [← HN.out]; exact hlt)⟩
      have c0 : w.cell? ⟨g, k * 3, none⟩ = some (.int .i64 l.num) := (hcell k l hl 0 _ rfl)
      have FT := Lib.hid (findL_take HF.out hl)
      have HL := Lib.hid hl
      clear hcell hl e2 e3
      by_cases hc : l.num = c
      · have FE := Lib.hid (FT.out.1 hc)
        subst hc
        go_wp2
        go_ret
        exact ⟨⟨_, rfl, .inr ⟨k, l, rfl, HL.out, FE.out⟩⟩, rfl⟩
      · have FE := Lib.hid (FT.out.2 hc)
        have q2 : (l.num == c) = false := by simpa using hc
        go_wp2
        go_roundw
        case rel => exact ⟨k + 1, by omega, by go_num, FE.out, trivial⟩
        case measure => simp [intOf]; omega
    · have q1 : decide ((k : Int) < (n : Int)) = false := by simp; omega
      have FE := Lib.hid (findL_all HF.out (by rw [← HN.out]; omega))
      go_wp2
      go_ret
      exact ⟨⟨-1, rfl, .inl ⟨rfl, FE.out⟩⟩, rfl⟩
set_option maxRecDepth 100000 in
set_option maxHeartbeats 4000000 in
theorem rpeer_any (c m : Int) (S : Nat → Prop) (b : Nat) (s : St) (w : World) (h : Rn S b s w) (hB : s.lks.length ≤ 1000000) :
    Calls Try.prog 13 #[ptr b, .int .i64 c, .int .i64 m] w fun e w' => e = .returned (.tuple #[.int .i64 ((peerS s c m).getD 0), .bool (peerS s c m).isSome]) ∧ w = w' := by
  have F := rfind_any c S b s w h hB
  obtain ⟨vi, vl, hp⟩ := h
  have c1 := hp.c1
  obtain ⟨a, cap, rfl, hcap, _⟩ := hp.rl.shape
  have hcells := fun h => hp.rl.cells lc_len h
  clear hp
  unfold peerS
  generalize s.lks = ls at *
  obtain ⟨n, hn⟩ : ∃ n, n = ls.length := ⟨_, rfl⟩
  rw [← hn] at c1 hB hcap
  have HN := Lib.hid hn
  have HC := Lib.hid hcells
  rw [← hn] at HC
  have HF := Lib.hid F
  clear hn hcells F
  go_enter Try.func13, Try.ntmps13
  go_wp2_with fail
  refine HF.out.mono ?_
  rintro e w' ⟨⟨i, rfl, hat⟩, rfl⟩
  rcases hat with ⟨rfl, ho⟩ | ⟨k, l, rfl, hl, ho⟩
  · have HO := Lib.hid ho
    clear ho
    go_wp2
    go_ret2
    exact ⟨by rw [HO.out]; rfl, rfl⟩
  · have HO := Lib.hid ho
    have hkl : k < n := by rw [HN.out]; exact (List.getElem?_eq_some_iff.1 hl).1
    have q1 : (k : Int) < (n : Int) := by omega
    obtain ⟨g, cap', e, _, hg, hcell⟩ := HC.out (by omega)
    injection e with e1 e2 e3
    subst e1
    have c0 : w.cell? ⟨g, k * 3 + 1, none⟩ = some (.int .i64 l.a) := (hcell k l hl 1 _ rfl)
    have c2 : w.cell? ⟨g, k * 3 + 2, none⟩ = some (.int .i64 l.b) := (hcell k l hl 2 _ rfl)
    clear hcell hl e2 e3 ho
    have hge : (0 : Int) ≤ (k : Int) := by omega
    by_cases h1 : l.a = m
    · have h0 : (otherL l m) = some l.b := by simp [otherL, h1]
      have H0 := Lib.hid h0
      clear h0
      subst h1
      go_wp2
      go_ret2
      exact ⟨by rw [HO.out]; show _ = _; rw [Option.bind_some, H0.out]; rfl, rfl⟩
    · have q2 : (l.a == m) = false := by simpa using h1
      by_cases h2 : l.b = m
      · have h0 : (otherL l m) = some l.a := by simp [otherL, h1, h2]
        have H0 := Lib.hid h0
        clear h0
        subst h2
        go_wp2
        go_ret2
        exact ⟨by rw [HO.out]; show _ = _; rw [Option.bind_some, H0.out]; rfl, rfl⟩
      · have h0 : (otherL l m) = none := by simp [otherL, h1, h2]
        have H0 := Lib.hid h0
        have q3 : (l.b == m) = false := by simpa using h2
        clear h0
        go_wp2
        go_ret2
        exact ⟨by rw [HO.out]; show _ = _; rw [Option.bind_some, H0.out]; rfl, rfl⟩
end Go.Proofs.Ytocmgdhhlofajaa

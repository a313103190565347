/-
  The walk of the law NetFull: for any two numbers it returns true; no older memory is changed.
-/
import Derived.Test.YtocmgdhhlofajaaAwake
namespace Go.Proofs.Ytocmgdhhlofajaa
open Go.RowKit
set_option maxRecDepth 100000 in
set_option maxHeartbeats 4000000 in
theorem num_pick (p : Int) (hp : I64 p) (m : Nat) (hm : 0 < m) (hb : m ≤ 1000000) (w : World) :
    Calls Try.prog 18 #[.int .i64 p, .int .i64 (m : Int)] w fun e w' => e = .returned (.int .i64 (pk p m : Int)) ∧ w = w' := by
  have hnz : ¬ ((m : Int) = 0) := by omega
  have hnz2 : ((m : Int) == 0) = false := by simpa using hnz
  obtain ⟨k, hk⟩ : ∃ k, k = pk p m := ⟨_, rfl⟩
  have hneg := fun h => rem_neg hm hk (p := p) h
  have hpos := fun h => rem_pos hm hk (p := p) h
  rw [← hk]
  unfold I64 at hp
  clear hk
  by_cases h0 : p < 0
  · have hr := hneg h0
    clear hneg hpos
    go_enter Try.func18, Try.ntmps18
    go_wp2
    go_ret
    exact ⟨rfl, rfl⟩
  · have hr := hpos (by omega)
    have q0 : decide (p < 0) = false := by simpa using h0
    clear hneg hpos
    go_enter Try.func18, Try.ntmps18
    go_wp2
    go_ret
    exact ⟨rfl, rfl⟩
/-- So many connections, and datagrams, all from 1 to 2. -/
structure FI (c t : Nat) (s : St) : Prop where
  its : s.its.length = c + t
  lks : s.lks.length = c
  opens : s.opens = c
  puts : s.puts = c + t
  fr : ∀ x ∈ s.its, x.frm = 1
  en : ∀ l ∈ s.lks, l.a = 1
theorem fi_zero : FI 0 0 St.empty := ⟨rfl, rfl, rfl, rfl, by simp [St.empty], by simp [St.empty]⟩
theorem FI.full {c t : Nat} {s : St} (h : FI c t s) : full s = decide (1024 ≤ c + t) := by unfold Ytocmgdhhlofajaa.full; rw [h.its]
theorem FI.noOpen {c : Nat} {s : St} (h : FI c 0 s) (hc : c ≤ 256) : noOpen s 1 2 = decide (256 ≤ c) := by
  have h1 : decide (1024 ≤ c + 0) = false := by simp; omega
  unfold Ytocmgdhhlofajaa.noOpen
  rw [h.full, h.lks, h1]
  simp
theorem FI.open {c : Nat} {s : St} (h : FI c 0 s) (hc : c < 256) : FI (c + 1) 0 (openS s 1 2) := by
  have hn : Ytocmgdhhlofajaa.noOpen s 1 2 = false := by rw [h.noOpen (by omega)]; simp; omega
  unfold openS
  rw [hn]
  refine ⟨?_, ?_, ?_, ?_, ?_, ?_⟩
  · simp [add, h.its]
  · simp [add, h.lks]
  · simp [add, h.opens]
  · simp [add, h.puts]
  · intro x hx
    rcases List.mem_append.1 hx with hx | hx
    · exact h.fr x hx
    · obtain rfl := List.mem_singleton.1 hx
      rfl
  · intro l hl
    rcases List.mem_append.1 hl with hl | hl
    · exact h.en l hl
    · obtain rfl := List.mem_singleton.1 hl
      rfl
theorem FI.send {c t : Nat} {s : St} (h : FI c t s) (b : ByteArray) (hf : c + t < 1024) : FI c (t + 1) (sendS s 1 2 b) := by
  have hn : Ytocmgdhhlofajaa.full s = false := by rw [h.full]; simp; omega
  unfold sendS
  rw [hn]
  refine ⟨?_, h.lks, h.opens, ?_, ?_, h.en⟩
  · simp [add, h.its]; omega
  · simp [add, h.puts]; omega
  · intro x hx
    rcases List.mem_append.1 hx with hx | hx
    · exact h.fr x hx
    · obtain rfl := List.mem_singleton.1 hx
      rfl
theorem clo_all {n : Int} : ∀ {ls : List Lk} {s : St}, (∀ l ∈ ls, l.a = n) → (clo n s ls).its.length = s.its.length + ls.length
  | [], s, _ => rfl
  | l :: ls, s, h => by
    have e : otherL l n = some l.b := by simp [otherL, h l (by simp)]
    unfold clo
    rw [List.foldl_cons, e]
    have := clo_all (n := n) (ls := ls) (s := add s (closedI n l.b l.num)) fun k hk => h k (by simp [hk])
    unfold clo at this
    refine Eq.trans this ?_
    simp [add]; omega
theorem FI.gone {c t : Nat} {s : St} (h : FI c t s) : loseN s 1 = c + t ∧ (loseS s 1).its.length = c := by
  have hf : s.its.filter (fun x => !touch 1 x) = [] := by
    rw [List.filter_eq_nil_iff]
    intro x hx
    simp [touch, h.fr x hx]
  constructor
  · unfold loseN
    rw [hf, h.its]
    rfl
  · unfold loseS
    rw [hf]
    show (clo 1 _ s.lks).its.length = c
    rw [clo_all h.en, h.lks]
    simp
set_option maxRecDepth 100000 in
set_option maxHeartbeats 16000000 in
theorem lawFull_any (many conns : Int) (hm : I64 many) (hc : I64 conns) (w : World) : Calls Try.prog 4 #[.int .i64 many, .int .i64 conns] w fun e w' => e = .returned (.bool true) ∧ Below w.heap.size w w' := by
  have HM := Lib.hid hm
  have HC := Lib.hid hc
  clear hm hc
  go_enter Try.func4, Try.ntmps4
  go_wp2_with fail
  refine (awake_any w).mono ?_
  rintro e w0 ⟨rfl, hb0⟩
  go_wp2_with fail
  refine (new_any w0).mono ?_
  rintro e w1 ⟨rfl, hp1, hb1⟩
  obtain ⟨S1, hn1, _⟩ := NA.new hp1 hb1 hb0 hb0.size
  obtain ⟨b, hb⟩ : ∃ b, b = w0.heap.size := ⟨_, rfl⟩
  have H1 : Hid (NP w.heap.size S1 w b St.empty w1) := Lib.hid (by rw [hb]; exact hn1)
  rw [← hb]
  clear hp1 hb1 hn1 hb hb0
  go_wp2
  go_loopw [7, 8] (fun o i wr => ∃ (k : Nat) (S : Nat → Prop) (s : St), k ≤ 300 ∧ i = .int .i64 (k : Int) ∧ o = .int .i64 ((min k 256 : Nat) : Int) ∧ FI (min k 256) 0 s ∧ NP w.heap.size S w b s wr) (fun _ i _ => 300 - (intOf i).toNat)
  case atStart => exact ⟨0, S1, _, by omega, rfl, rfl, fi_zero, H1.out⟩
  case round =>
    clear H1
    obtain ⟨k, S, s, hk, rfl, rfl, hf, hn⟩ := hrel
    have HF := Lib.hid hf
    have HN := Lib.hid hn
    have hcm : min k 256 ≤ 256 := by omega
    have hB : s.its.length ≤ 1000000 ∧ s.puts ≤ 1000000 ∧ s.opens ≤ 1000000 := by rw [hf.its, hf.puts, hf.opens]; omega
    have HBd := Lib.hid hB
    obtain ⟨K, hK⟩ : ∃ K, K = pk conns 301 := ⟨_, rfl⟩
    have hKb : K ≤ 300 := by have := pk_lt (p := conns) (show 0 < 301 by omega); omega
    have P := num_pick conns HC.out 301 (by omega) (by omega) wr
    rw [← hK] at P
    have HP := Lib.hid P
    clear hf hn hB P hK
    by_cases hlt : k < K
    · have q1 : (k : Int) < (K : Int) := by omega
      by_cases h256 : k < 256
      · have q2 : (k : Int) < 256 := by omega
        have hno := HF.out.noOpen hcm
        rw [show decide (256 ≤ min k 256) = false by simp; omega] at hno
        have O := open_yes 1 2 S b s wr HN.out.p HBd.out.1 HBd.out.2.1 HBd.out.2.2 hno
        rw [HF.out.opens, show min k 256 = k by omega] at O
        have HO := Lib.hid O
        have HF2 : Hid (FI (k + 1) 0 (openS s 1 2)) := Lib.hid (by have := HF.out.open (by omega); rw [show min k 256 = k by omega] at this; exact this)
        rw [show ((min k 256 : Nat) : Int) = (k : Int) by omega]
        rw [Int.natCast_add] at HO
        clear hno O
        go_wp2_with fail
        refine HP.out.mono ?_
        rintro e w2 ⟨rfl, rfl⟩
        go_wp2_with fail
        refine HO.out.mono ?_
        rintro e w3 ⟨rfl, hl⟩
        obtain ⟨S3, hn3, _⟩ := HN.out.step hl
        have H3 := Lib.hid hn3
        clear hl hn3
        go_wp2
        go_roundw
        case rel => exact ⟨k + 1, S3, _, by omega, by go_num, by go_num, by rw [show min (k + 1) 256 = k + 1 by omega]; exact HF2.out, H3.out⟩
        case measure => simp [intOf]; omega
      · have q2 : decide ((k : Int) < 256) = false := by simp; omega
        have hno := HF.out.noOpen hcm
        rw [show decide (256 ≤ min k 256) = true by simp; omega] at hno
        have HO := Lib.hid (open_no 1 2 S b s wr HN.out.p hno)
        clear hno
        go_wp2_with fail
        refine HP.out.mono ?_
        rintro e w2 ⟨rfl, rfl⟩
        go_wp2_with fail
        refine HO.out.mono ?_
        rintro e w3 ⟨rfl, rfl⟩
        go_wp2
        go_roundw
        case rel => exact ⟨k + 1, S, s, by omega, by go_num, by rw [show min (k + 1) 256 = min k 256 by omega], by rw [show min (k + 1) 256 = min k 256 by omega]; exact HF.out, HN.out⟩
        case measure => simp [intOf]; omega
    · have q1 : decide ((k : Int) < (K : Int)) = false := by simp; omega
      go_wp2_with fail
      refine HP.out.mono ?_
      rintro e w2 ⟨rfl, rfl⟩
      obtain ⟨c, hc⟩ : ∃ c, c = min k 256 := ⟨_, rfl⟩
      rw [← hc] at HF hcm
      have hcast : ((min k 256 : Nat) : Int) = (c : Int) := by rw [hc]
      simp only [hcast]
      clear hc hcast HP HBd hKb hk
      go_wp2
      go_loopw [11, 12] (fun o i wr2 => ∃ (k : Nat) (S : Nat → Prop) (s : St) (t : Nat), k ≤ 1100 ∧ i = .int .i64 (k : Int) ∧ o = .int .i64 (t : Int) ∧ c + t ≤ 1024 ∧ FI c t s ∧ NP w.heap.size S w b s wr2) (fun _ i _ => 1100 - (intOf i).toNat)
      case atStart => exact ⟨0, S, s, 0, by omega, rfl, rfl, by omega, HF.out, HN.out⟩
      case round =>
        clear HF HN
        obtain ⟨k, S, s, t, hk, rfl, rfl, hct, hf, hn⟩ := hrel
        obtain ⟨wo, hwo⟩ : ∃ wo, wo = wr := ⟨_, rfl⟩
        rw [← hwo] at hn ⊢
        have HF := Lib.hid hf
        have HN := Lib.hid hn
        have hB : s.its.length ≤ 1000000 ∧ s.puts ≤ 1000000 ∧ s.lks.length ≤ 1000000 := by rw [hf.its, hf.puts, hf.lks]; omega
        have HBd := Lib.hid hB
        obtain ⟨K, hK⟩ : ∃ K, K = pk many 1101 := ⟨_, rfl⟩
        have hKb : K ≤ 1100 := by have := pk_lt (p := many) (show 0 < 1101 by omega); omega
        have P := num_pick many HM.out 1101 (by omega) (by omega) wo
        rw [← hK] at P
        have HP := Lib.hid P
        clear hf hn hB P hK hwo
        by_cases hlt : k < K
        · have q1 : (k : Int) < (K : Int) := by omega
          have HS := send_any 1 2 ⟨#[]⟩ S b s wo HN.out.p HBd.out.1 HBd.out.2.1
          rw [HF.out.full] at HS
          by_cases h1 : c + t < 1024
          · have HF2 := Lib.hid (HF.out.send ⟨#[]⟩ h1)
            rw [show (!decide (1024 ≤ c + t)) = true by simp; omega] at HS
            have HS := Lib.hid HS
            go_wp2_with fail
            refine HP.out.mono ?_
            rintro e w2 ⟨rfl, rfl⟩
            go_wp2_with fail
            refine HS.out.mono ?_
            rintro e w3 ⟨rfl, hl⟩
            obtain ⟨S3, hn3, _⟩ := HN.out.step hl
            have H3 := Lib.hid hn3
            clear hl hn3
            go_wp2
            go_roundw
            case rel => exact ⟨k + 1, S3, _, t + 1, by omega, by go_num, by go_num, by omega, HF2.out, H3.out⟩
            case measure => simp [intOf]; omega
          · have hfl : full s = true := by rw [HF.out.full]; simp; omega
            rw [show (!decide (1024 ≤ c + t)) = false by simp; omega, show sendS s 1 2 ⟨#[]⟩ = s by unfold sendS; rw [hfl]; rfl] at HS
            have HS := Lib.hid HS
            clear hfl
            go_wp2_with fail
            refine HP.out.mono ?_
            rintro e w2 ⟨rfl, rfl⟩
            go_wp2_with fail
            refine HS.out.mono ?_
            rintro e w3 ⟨rfl, hl⟩
            obtain ⟨S3, hn3, _⟩ := HN.out.step hl
            have H3 := Lib.hid hn3
            clear hl hn3
            go_wp2
            go_roundw
            case rel => exact ⟨k + 1, S3, s, t, by omega, by go_num, rfl, by omega, HF.out, H3.out⟩
            case measure => simp [intOf]; omega
        · have q1 : decide ((k : Int) < (K : Int)) = false := by simp; omega
          have W1 := waits_any S b s wo HN.out.p
          rw [HF.out.its] at W1
          have HW := Lib.hid W1
          have L := lose_any 1 S b s wo HN.out.p (by rw [HF.out.its]; omega) (by rw [HF.out.puts]; omega) (by rw [HF.out.lks]; omega)
          rw [HF.out.gone.1] at L
          have HL := Lib.hid L
          rw [Int.natCast_add] at HW HL
          have q3 : decide ((1024 : Int) < (c : Int) + (t : Int)) = false := by simp; omega
          clear W1 L
          go_wp2_with fail
          refine HP.out.mono ?_
          rintro e w2 ⟨rfl, rfl⟩
          go_wp2_with fail
          refine HW.out.mono ?_
          rintro e w2 ⟨rfl, rfl⟩
          go_wp2_with fail
          refine HW.out.mono ?_
          rintro e w2 ⟨rfl, rfl⟩
          go_wp2_with fail
          refine HL.out.mono ?_
          rintro e w3 ⟨rfl, hl⟩
          obtain ⟨S3, hn3, _⟩ := HN.out.step hl
          have H3 := Lib.hid hn3
          have W2 := waits_any S3 b _ w3 hn3.p
          rw [HF.out.gone.2] at W2
          have HW2 := Lib.hid W2
          clear hl hn3 W2
          go_wp2_with fail
          refine HW2.out.mono ?_
          rintro e w4 ⟨rfl, rfl⟩
          go_wp2
          go_ret
          exact ⟨rfl, H3.out.bel⟩
end Go.Proofs.Ytocmgdhhlofajaa

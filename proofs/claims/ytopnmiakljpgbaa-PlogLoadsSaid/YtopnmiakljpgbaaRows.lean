/-
  No cell of these rows narrows 'for every input' (looked for: loops, veiled, ifaces, maps, wideKeys, modest, calm, conditions, laid).
  DERIVED. THE GIVEN ROWS OF THIS SEAT. 7 by the template 'for every input the law returns true; each argument reads behind the call as it read before'; 0 by the template 'total and deterministic' (their statements: YtopnmiakljpgbaaTotals.lean).
  GIVEN WITH THE SEED: the statements are not yours to turn. If you find one false, say at which input.
  Laid BY PROGRAM, IN A SANDBOX (cutbox-rows.mjs): the forced cells as the released guide's own fill.sh prints them over the translation c0b72fc03c78c3c7… (all of the seat's roots in one cut). By AI agents, Wed Nov 11 2026. No macro, syntax, notation, axiom, sorry.
-/
import Derived.Test.YtopnmiakljpgbaaChecked
import GoSem.Claim
import GoSem.ClaimJoined
import GoSem.ClaimMapViews
import Derived.JoinedTies
import Derived.KernelRfl
namespace Go.Proofs.Ytopnmiakljpgbaa
/- THE CELL 'sum', in the pinned program and in every row, IS THE sha256 OF THE DUMP (.gsa) THAT YtopnmiakljpgbaaProg.lean LOADS. Nothing in Lean hashes anything: it is a label: what it is worth is what the hold of that sum in a sandbox is worth. -/
noncomputable def Try.pinned : Pinned := { name := "ytopnmiakljpgbaa", sum := "c0b72fc03c78c3c7da1649d432f05530deaff22c27d459366896491986cea459", checked := Try.checked }
namespace Rows
def none {H : Type} : Left H := { results := [], args := [] }

/-- 'fingerpostlaw11.PlogAsks': WHATEVER THE INPUT: true; the input reads as it did. -/
def plogAsksSpec : ChangeSpec := { name := "plogAsks", fn := fun _ => fun
  | [d1, d2, d3] => { results := [.lit (.bool true)], args := [d1, d2, d3] }
  | _ => none }
def plogAsksRow : OpenClaim := { program := "ytopnmiakljpgbaa", sum := "c0b72fc03c78c3c7da1649d432f05530deaff22c27d459366896491986cea459", func := "fingerpost/fingerpostlaw11.PlogAsks", spec := "plogAsks", unfollowed := true, recurses := true, apart := false }
def PlogAsksSaid : Prop := plogAsksRow.holds Try.pinned (OpenSpec.ofChange plogAsksSpec)

/-- ITS FALSE NEIGHBOUR: 'it returns false'. Refute it at one input. -/
def plogAsksWrong : ChangeSpec := { name := "plogAsks", fn := fun _ => fun
  | [d1, d2, d3] => { results := [.lit (.bool false)], args := [d1, d2, d3] }
  | _ => none }
def PlogAsksWrongFalsely : Prop := plogAsksRow.holds Try.pinned (OpenSpec.ofChange plogAsksWrong)

/-- 'fingerpostlaw11.PlogVoters': WHATEVER THE INPUT: true; the input reads as it did. -/
def plogVotersSpec : ChangeSpec := { name := "plogVoters", fn := fun _ => fun
  | [d1, d2, d3] => { results := [.lit (.bool true)], args := [d1, d2, d3] }
  | _ => none }
def plogVotersRow : OpenClaim := { program := "ytopnmiakljpgbaa", sum := "c0b72fc03c78c3c7da1649d432f05530deaff22c27d459366896491986cea459", func := "fingerpost/fingerpostlaw11.PlogVoters", spec := "plogVoters", unfollowed := true, recurses := true, apart := false }
def PlogVotersSaid : Prop := plogVotersRow.holds Try.pinned (OpenSpec.ofChange plogVotersSpec)

/-- ITS FALSE NEIGHBOUR: 'it returns false'. Refute it at one input. -/
def plogVotersWrong : ChangeSpec := { name := "plogVoters", fn := fun _ => fun
  | [d1, d2, d3] => { results := [.lit (.bool false)], args := [d1, d2, d3] }
  | _ => none }
def PlogVotersWrongFalsely : Prop := plogVotersRow.holds Try.pinned (OpenSpec.ofChange plogVotersWrong)

/-- 'fingerpostlaw11.PlogSaves': WHATEVER THE INPUT: true; the input reads as it did. -/
def plogSavesSpec : ChangeSpec := { name := "plogSaves", fn := fun _ => fun
  | [d1, d2] => { results := [.lit (.bool true)], args := [d1, d2] }
  | _ => none }
def plogSavesRow : OpenClaim := { program := "ytopnmiakljpgbaa", sum := "c0b72fc03c78c3c7da1649d432f05530deaff22c27d459366896491986cea459", func := "fingerpost/fingerpostlaw11.PlogSaves", spec := "plogSaves", unfollowed := true, recurses := true, apart := false }
def PlogSavesSaid : Prop := plogSavesRow.holds Try.pinned (OpenSpec.ofChange plogSavesSpec)

/-- ITS FALSE NEIGHBOUR: 'it returns false'. Refute it at one input. -/
def plogSavesWrong : ChangeSpec := { name := "plogSaves", fn := fun _ => fun
  | [d1, d2] => { results := [.lit (.bool false)], args := [d1, d2] }
  | _ => none }
def PlogSavesWrongFalsely : Prop := plogSavesRow.holds Try.pinned (OpenSpec.ofChange plogSavesWrong)

/-- 'fingerpostlaw11.PlogLoads': WHATEVER THE INPUT: true; the input reads as it did. -/
def plogLoadsSpec : ChangeSpec := { name := "plogLoads", fn := fun _ => fun
  | [d] => { results := [.lit (.bool true)], args := [d] }
  | _ => none }
def plogLoadsRow : OpenClaim := { program := "ytopnmiakljpgbaa", sum := "c0b72fc03c78c3c7da1649d432f05530deaff22c27d459366896491986cea459", func := "fingerpost/fingerpostlaw11.PlogLoads", spec := "plogLoads", unfollowed := true, recurses := true, apart := false }
def PlogLoadsSaid : Prop := plogLoadsRow.holds Try.pinned (OpenSpec.ofChange plogLoadsSpec)

/-- ITS FALSE NEIGHBOUR: 'it returns false'. Refute it at one input. -/
def plogLoadsWrong : ChangeSpec := { name := "plogLoads", fn := fun _ => fun
  | [d] => { results := [.lit (.bool false)], args := [d] }
  | _ => none }
def PlogLoadsWrongFalsely : Prop := plogLoadsRow.holds Try.pinned (OpenSpec.ofChange plogLoadsWrong)

/-- 'fingerpostlaw11.PlogBack': WHATEVER THE INPUT: true; the input reads as it did. -/
def plogBackSpec : ChangeSpec := { name := "plogBack", fn := fun _ => fun
  | [d] => { results := [.lit (.bool true)], args := [d] }
  | _ => none }
def plogBackRow : OpenClaim := { program := "ytopnmiakljpgbaa", sum := "c0b72fc03c78c3c7da1649d432f05530deaff22c27d459366896491986cea459", func := "fingerpost/fingerpostlaw11.PlogBack", spec := "plogBack", unfollowed := true, recurses := true, apart := false }
def PlogBackSaid : Prop := plogBackRow.holds Try.pinned (OpenSpec.ofChange plogBackSpec)

/-- ITS FALSE NEIGHBOUR: 'it returns false'. Refute it at one input. -/
def plogBackWrong : ChangeSpec := { name := "plogBack", fn := fun _ => fun
  | [d] => { results := [.lit (.bool false)], args := [d] }
  | _ => none }
def PlogBackWrongFalsely : Prop := plogBackRow.holds Try.pinned (OpenSpec.ofChange plogBackWrong)

/-- 'fingerpostlaw11.PlogMatch': WHATEVER THE INPUT: true; the input reads as it did. -/
def plogMatchSpec : ChangeSpec := { name := "plogMatch", fn := fun _ => fun
  | [d1, d2, d3] => { results := [.lit (.bool true)], args := [d1, d2, d3] }
  | _ => none }
def plogMatchRow : OpenClaim := { program := "ytopnmiakljpgbaa", sum := "c0b72fc03c78c3c7da1649d432f05530deaff22c27d459366896491986cea459", func := "fingerpost/fingerpostlaw11.PlogMatch", spec := "plogMatch", unfollowed := true, recurses := true, apart := false }
def PlogMatchSaid : Prop := plogMatchRow.holds Try.pinned (OpenSpec.ofChange plogMatchSpec)

/-- ITS FALSE NEIGHBOUR: 'it returns false'. Refute it at one input. -/
def plogMatchWrong : ChangeSpec := { name := "plogMatch", fn := fun _ => fun
  | [d1, d2, d3] => { results := [.lit (.bool false)], args := [d1, d2, d3] }
  | _ => none }
def PlogMatchWrongFalsely : Prop := plogMatchRow.holds Try.pinned (OpenSpec.ofChange plogMatchWrong)

/-- 'fingerpostlaw11.PlogNewer': WHATEVER THE INPUT: true; the input reads as it did. -/
def plogNewerSpec : ChangeSpec := { name := "plogNewer", fn := fun _ => fun
  | [d1, d2, d3] => { results := [.lit (.bool true)], args := [d1, d2, d3] }
  | _ => none }
def plogNewerRow : OpenClaim := { program := "ytopnmiakljpgbaa", sum := "c0b72fc03c78c3c7da1649d432f05530deaff22c27d459366896491986cea459", func := "fingerpost/fingerpostlaw11.PlogNewer", spec := "plogNewer", unfollowed := true, recurses := true, apart := false }
def PlogNewerSaid : Prop := plogNewerRow.holds Try.pinned (OpenSpec.ofChange plogNewerSpec)

/-- ITS FALSE NEIGHBOUR: 'it returns false'. Refute it at one input. -/
def plogNewerWrong : ChangeSpec := { name := "plogNewer", fn := fun _ => fun
  | [d1, d2, d3] => { results := [.lit (.bool false)], args := [d1, d2, d3] }
  | _ => none }
def PlogNewerWrongFalsely : Prop := plogNewerRow.holds Try.pinned (OpenSpec.ofChange plogNewerWrong)

/- THE SECOND FORM. 'bulk': how many values and letters a reading holds, each counted each time it is reached (what is shared counts as often as it is met; a slice's spare places count too). A statement '..UptoSaid' is the law's where the arguments, and the package variables that the reading takes, are together of bulk at most 1048576: NARROWER than '..Said'. Prove '..Said' where nothing that the law and all that it calls make is longer than what came in: it says more and counts as full. Else prove '..UptoSaid'. A law counts once. -/
mutual
def uptoBulk {H : Type} : DataW H → Nat
  | .lit (.string bytes) => bytes.length + 1
  | .lit _ => 1
  | .nil => 1
  | .ptr d => uptoBulk d + 1
  | .slice elems spare => uptoBulkAll elems + uptoBulkAll spare + 1
  | .agg parts => uptoBulkAll parts + 1
  | .iface _ d => uptoBulk d + 1
  | .map entries => uptoBulkEntries entries + 1
  | .held _ => 1
def uptoBulkAll {H : Type} : List (DataW H) → Nat
  | [] => 0
  | d :: r => uptoBulk d + uptoBulkAll r
def uptoBulkEntries {H : Type} : List (Lit × DataW H) → Nat
  | [] => 0
  | x :: r => uptoBulkEntry x + uptoBulkEntries r
def uptoBulkEntry {H : Type} : Lit × DataW H → Nat
  | (.string bytes, d) => bytes.length + uptoBulk d + 1
  | (_, d) => uptoBulk d + 1
 end
def uptoSmall : (H : Type) → List (DataW H) → Bool := fun _ ds => decide (uptoBulkAll ds ≤ 1048576)
def OpenSpec.upto (s : _root_.Go.ChangeSpec) : _root_.Go.OpenSpec := { _root_.Go.OpenSpec.ofChange s with cond := some uptoSmall }

/-- 'fingerpostlaw11.PlogAsks', WHERE WHAT IT READS IS OF BULK AT MOST 1048576: true; the input reads as it did. -/
def plogAsksUptoRow : OpenClaim := { program := "ytopnmiakljpgbaa", sum := "c0b72fc03c78c3c7da1649d432f05530deaff22c27d459366896491986cea459", func := "fingerpost/fingerpostlaw11.PlogAsks", spec := "plogAsks", unfollowed := true, recurses := true, apart := false, narrowed := true }
def PlogAsksUptoSaid : Prop := plogAsksUptoRow.holds Try.pinned (OpenSpec.upto plogAsksSpec)

/-- 'fingerpostlaw11.PlogVoters', WHERE WHAT IT READS IS OF BULK AT MOST 1048576: true; the input reads as it did. -/
def plogVotersUptoRow : OpenClaim := { program := "ytopnmiakljpgbaa", sum := "c0b72fc03c78c3c7da1649d432f05530deaff22c27d459366896491986cea459", func := "fingerpost/fingerpostlaw11.PlogVoters", spec := "plogVoters", unfollowed := true, recurses := true, apart := false, narrowed := true }
def PlogVotersUptoSaid : Prop := plogVotersUptoRow.holds Try.pinned (OpenSpec.upto plogVotersSpec)

/-- 'fingerpostlaw11.PlogSaves', WHERE WHAT IT READS IS OF BULK AT MOST 1048576: true; the input reads as it did. -/
def plogSavesUptoRow : OpenClaim := { program := "ytopnmiakljpgbaa", sum := "c0b72fc03c78c3c7da1649d432f05530deaff22c27d459366896491986cea459", func := "fingerpost/fingerpostlaw11.PlogSaves", spec := "plogSaves", unfollowed := true, recurses := true, apart := false, narrowed := true }
def PlogSavesUptoSaid : Prop := plogSavesUptoRow.holds Try.pinned (OpenSpec.upto plogSavesSpec)

/-- 'fingerpostlaw11.PlogLoads', WHERE WHAT IT READS IS OF BULK AT MOST 1048576: true; the input reads as it did. -/
def plogLoadsUptoRow : OpenClaim := { program := "ytopnmiakljpgbaa", sum := "c0b72fc03c78c3c7da1649d432f05530deaff22c27d459366896491986cea459", func := "fingerpost/fingerpostlaw11.PlogLoads", spec := "plogLoads", unfollowed := true, recurses := true, apart := false, narrowed := true }
def PlogLoadsUptoSaid : Prop := plogLoadsUptoRow.holds Try.pinned (OpenSpec.upto plogLoadsSpec)

/-- 'fingerpostlaw11.PlogBack', WHERE WHAT IT READS IS OF BULK AT MOST 1048576: true; the input reads as it did. -/
def plogBackUptoRow : OpenClaim := { program := "ytopnmiakljpgbaa", sum := "c0b72fc03c78c3c7da1649d432f05530deaff22c27d459366896491986cea459", func := "fingerpost/fingerpostlaw11.PlogBack", spec := "plogBack", unfollowed := true, recurses := true, apart := false, narrowed := true }
def PlogBackUptoSaid : Prop := plogBackUptoRow.holds Try.pinned (OpenSpec.upto plogBackSpec)

/-- 'fingerpostlaw11.PlogMatch', WHERE WHAT IT READS IS OF BULK AT MOST 1048576: true; the input reads as it did. -/
def plogMatchUptoRow : OpenClaim := { program := "ytopnmiakljpgbaa", sum := "c0b72fc03c78c3c7da1649d432f05530deaff22c27d459366896491986cea459", func := "fingerpost/fingerpostlaw11.PlogMatch", spec := "plogMatch", unfollowed := true, recurses := true, apart := false, narrowed := true }
def PlogMatchUptoSaid : Prop := plogMatchUptoRow.holds Try.pinned (OpenSpec.upto plogMatchSpec)

/-- 'fingerpostlaw11.PlogNewer', WHERE WHAT IT READS IS OF BULK AT MOST 1048576: true; the input reads as it did. -/
def plogNewerUptoRow : OpenClaim := { program := "ytopnmiakljpgbaa", sum := "c0b72fc03c78c3c7da1649d432f05530deaff22c27d459366896491986cea459", func := "fingerpost/fingerpostlaw11.PlogNewer", spec := "plogNewer", unfollowed := true, recurses := true, apart := false, narrowed := true }
def PlogNewerUptoSaid : Prop := plogNewerUptoRow.holds Try.pinned (OpenSpec.upto plogNewerSpec)

end Rows
end Go.Proofs.Ytopnmiakljpgbaa

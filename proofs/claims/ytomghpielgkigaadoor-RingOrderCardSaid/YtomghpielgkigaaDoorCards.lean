/-
  DERIVED. GIVEN WITH THE SEED: THE CARDS: each row of YtomghpielgkigaaDoorRows.lean that lists a variable, with what it lists TIED to the program's text (the seventh form; the later family's looks); each row that meets fmt, with fmt's text TOLD by the authors' own Lean function (tested against real Go, not proved from fmt's source: count such statements apart). THE CARD IS WHAT COUNTS. Prove the row's statement (the work); the ties are given (YtomghpielgkigaaDoorTie.lean); close each card by the builder's one call (the guide's Derived/Test/ToyasCard.lean, 'card_holds'). Laid BY PROGRAM, IN A SANDBOX (cutbox-door.mjs). By AI agents, Wed Nov 11 2026. No macro, syntax, notation, axiom, sorry.
-/
import Derived.Test.YtomghpielgkigaaDoorRows
import GoSem.ClaimSeven
namespace Go.Proofs.YtomghpielgkigaaDoor
namespace Rows

/-- THE TIED CARD OF 'fingerpostlaw14.RingMoves'. -/
def ringMovesCard : Claim7 := { stood := { row := ringMovesRow, standIns := [], harness := (true, "2a1ce96371c09d3f29129d0cfdbf6b5f5726fbaa9368d86857bb8aabac9c9378"), looks := false }, kinds := [], alts := [], laidByText := true, laidKinds := [.data, .data], laidTests := true, laidLooks := .later }
def RingMovesCardSaid : Prop := Claim7.holds Tryd.pinned (.plain (OpenSpec.ofChange ringMovesSpec)) ringMovesCard

/-- THE TIED CARD OF 'fingerpostlaw14.RingOrder'. -/
def ringOrderCard : Claim7 := { stood := { row := ringOrderRow, standIns := [], harness := (true, "2a1ce96371c09d3f29129d0cfdbf6b5f5726fbaa9368d86857bb8aabac9c9378"), looks := false }, kinds := [], alts := [], laidByText := true, laidKinds := [.data, .data], laidTests := true, laidLooks := .later }
def RingOrderCardSaid : Prop := Claim7.holds Tryd.pinned (.plain (OpenSpec.ofChange ringOrderSpec)) ringOrderCard

/-- THE TIED CARD OF 'fingerpostlaw14.RingNil'. -/
def ringNilCard : Claim7 := { stood := { row := ringNilRow, standIns := [], harness := (true, "2a1ce96371c09d3f29129d0cfdbf6b5f5726fbaa9368d86857bb8aabac9c9378"), looks := false }, kinds := [], alts := [], laidByText := true, laidKinds := [.data, .data], laidTests := true, laidLooks := .later }
def RingNilCardSaid : Prop := Claim7.holds Tryd.pinned (.plain (OpenSpec.ofChange ringNilSpec)) ringNilCard

/-- THE TIED CARD OF 'fingerpostlaw14.RingAlive'. -/
def ringAliveCard : Claim7 := { stood := { row := ringAliveRow, standIns := [], harness := (true, "2a1ce96371c09d3f29129d0cfdbf6b5f5726fbaa9368d86857bb8aabac9c9378"), looks := false }, kinds := [], alts := [], laidByText := true, laidKinds := [.data, .data], laidTests := true, laidLooks := .later }
def RingAliveCardSaid : Prop := Claim7.holds Tryd.pinned (.plain (OpenSpec.ofChange ringAliveSpec)) ringAliveCard

/-- THE SECOND FORM's CARD OF 'fingerpostlaw14.RingMoves'. -/
def ringMovesUptoCard : Claim7 := { stood := { row := ringMovesUptoRow, standIns := [], harness := (true, "2a1ce96371c09d3f29129d0cfdbf6b5f5726fbaa9368d86857bb8aabac9c9378"), looks := false }, kinds := [], alts := [], laidByText := true, laidKinds := [.data, .data], laidTests := true, laidLooks := .later }
def RingMovesUptoCardSaid : Prop := Claim7.holds Tryd.pinned (.plain (OpenSpec.upto ringMovesSpec)) ringMovesUptoCard

/-- THE SECOND FORM's CARD OF 'fingerpostlaw14.RingOrder'. -/
def ringOrderUptoCard : Claim7 := { stood := { row := ringOrderUptoRow, standIns := [], harness := (true, "2a1ce96371c09d3f29129d0cfdbf6b5f5726fbaa9368d86857bb8aabac9c9378"), looks := false }, kinds := [], alts := [], laidByText := true, laidKinds := [.data, .data], laidTests := true, laidLooks := .later }
def RingOrderUptoCardSaid : Prop := Claim7.holds Tryd.pinned (.plain (OpenSpec.upto ringOrderSpec)) ringOrderUptoCard

/-- THE SECOND FORM's CARD OF 'fingerpostlaw14.RingNil'. -/
def ringNilUptoCard : Claim7 := { stood := { row := ringNilUptoRow, standIns := [], harness := (true, "2a1ce96371c09d3f29129d0cfdbf6b5f5726fbaa9368d86857bb8aabac9c9378"), looks := false }, kinds := [], alts := [], laidByText := true, laidKinds := [.data, .data], laidTests := true, laidLooks := .later }
def RingNilUptoCardSaid : Prop := Claim7.holds Tryd.pinned (.plain (OpenSpec.upto ringNilSpec)) ringNilUptoCard

/-- THE SECOND FORM's CARD OF 'fingerpostlaw14.RingAlive'. -/
def ringAliveUptoCard : Claim7 := { stood := { row := ringAliveUptoRow, standIns := [], harness := (true, "2a1ce96371c09d3f29129d0cfdbf6b5f5726fbaa9368d86857bb8aabac9c9378"), looks := false }, kinds := [], alts := [], laidByText := true, laidKinds := [.data, .data], laidTests := true, laidLooks := .later }
def RingAliveUptoCardSaid : Prop := Claim7.holds Tryd.pinned (.plain (OpenSpec.upto ringAliveSpec)) ringAliveUptoCard
end Rows
end Go.Proofs.YtomghpielgkigaaDoor

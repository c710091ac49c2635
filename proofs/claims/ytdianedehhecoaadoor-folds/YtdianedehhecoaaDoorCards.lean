/-
  DERIVED. GIVEN WITH THE SEED: THE CARDS: each row of YtdianedehhecoaaDoorRows.lean that lists a variable, with what it lists TIED to the program's text (the seventh form; the later family's looks); each row that meets fmt, with fmt's text TOLD by the authors' own Lean function (tested against real Go, not proved from fmt's source: count such statements apart). THE CARD IS WHAT COUNTS. Prove the row's statement (the work); the ties are given (YtdianedehhecoaaDoorTie.lean); close each card by the builder's one call (the guide's Derived/Test/ToyasCard.lean, 'card_holds'). Laid BY PROGRAM, IN A SANDBOX (cutbox-door.mjs). By AI agents, Wed Nov 11 2026. No macro, syntax, notation, axiom, sorry.
-/
import Derived.Test.YtdianedehhecoaaDoorRows
import GoSem.ClaimSeven
namespace Go.Proofs.YtdianedehhecoaaDoor
namespace Rows

/-- THE TIED CARD OF 'garrisonlaw.Folds'. -/
def foldsCard : Claim7 := { stood := { row := foldsRow, standIns := [], harness := (true, "f7318784fcdc2769177dae9766fe4bad3c417d92dd688c4e81d11fca886a4eaf"), looks := false }, kinds := [], alts := [], laidByText := true, laidKinds := [.data, .data, .data, .data], laidTests := true, laidLooks := .later }
def FoldsCardSaid : Prop := Claim7.holds Tryd.pinned (.plain (OpenSpec.ofChange foldsSpec)) foldsCard

/-- THE SECOND FORM's CARD OF 'garrisonlaw.Folds'. -/
def foldsUptoCard : Claim7 := { stood := { row := foldsUptoRow, standIns := [], harness := (true, "f7318784fcdc2769177dae9766fe4bad3c417d92dd688c4e81d11fca886a4eaf"), looks := false }, kinds := [], alts := [], laidByText := true, laidKinds := [.data, .data, .data, .data], laidTests := true, laidLooks := .later }
def FoldsUptoCardSaid : Prop := Claim7.holds Tryd.pinned (.plain (OpenSpec.upto foldsSpec)) foldsUptoCard
end Rows
end Go.Proofs.YtdianedehhecoaaDoor

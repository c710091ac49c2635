/-
  DERIVED. GIVEN WITH THE SEED: THE CARDS: each row of YtdianedehhecoaaGreatDoorRows.lean that lists a variable, with what it lists TIED to the program's text (the seventh form; the later family's looks); each row that meets fmt, with fmt's text TOLD by the authors' own Lean function (tested against real Go, not proved from fmt's source: count such statements apart). THE CARD IS WHAT COUNTS. Prove the row's statement (the work); the ties are given (YtdianedehhecoaaGreatDoorTie.lean); close each card by the builder's one call (the guide's Derived/Test/ToyasCard.lean, 'card_holds'). Laid BY PROGRAM, IN A SANDBOX (cutbox-door.mjs). By AI agents, Wed Nov 11 2026. No macro, syntax, notation, axiom, sorry.
-/
import Derived.Test.YtdianedehhecoaaGreatDoorRows
import GoSem.ClaimSeven
namespace Go.Proofs.YtdianedehhecoaaGreatDoor
namespace Rows

/-- THE TIED CARD OF 'garrisonlaw.Hosts'. -/
def hostsCard : Claim7 := { stood := { row := hostsRow, standIns := [], harness := (true, "0a8289d5f2cb28152ead74e42433d56e68a4bdafa26792a6223fc0cf011a3038"), looks := false }, kinds := [], alts := [], goes := true, laidByText := true, laidKinds := [.data, .data, .data, .data], laidTests := true, laidLooks := .later }
def HostsCardSaid : Prop := Claim7.holds Tryz.pinned (.plain (OpenSpec.ofChange hostsSpec)) hostsCard

/-- THE TIED CARD OF 'garrisonlaw.All'. -/
def allCard : Claim7 := { stood := { row := allRow, standIns := [], harness := (true, "0a8289d5f2cb28152ead74e42433d56e68a4bdafa26792a6223fc0cf011a3038"), looks := false }, kinds := [], alts := [], goes := true, laidByText := true, laidKinds := [.data, .data, .data, .data], laidTests := true, laidLooks := .later }
def AllCardSaid : Prop := Claim7.holds Tryz.pinned (.plain (OpenSpec.ofChange allSpec)) allCard

/-- THE TIED CARD OF 'garrisonkeep.Replayed'. -/
def replayedCard : Claim7 := { stood := { row := replayedRow, standIns := [], harness := (true, "0a8289d5f2cb28152ead74e42433d56e68a4bdafa26792a6223fc0cf011a3038"), looks := false }, kinds := [], alts := [], goes := true, laidByText := true, laidKinds := [.data, .data, .data, .data], laidTests := true, laidLooks := .later }
def ReplayedCardSaid : Prop := Claim7.holds Tryz.pinned (.plain (OpenSpec.ofChange replayedSpec)) replayedCard

/-- THE TIED CARD OF 'garrisonkeep.Once'. -/
def onceCard : Claim7 := { stood := { row := onceRow, standIns := [], harness := (true, "0a8289d5f2cb28152ead74e42433d56e68a4bdafa26792a6223fc0cf011a3038"), looks := false }, kinds := [], alts := [], goes := true, laidByText := true, laidKinds := [.data, .data, .data, .data], laidTests := true, laidLooks := .later }
def OnceCardSaid : Prop := Claim7.holds Tryz.pinned (.plain (OpenSpec.ofChange onceSpec)) onceCard

/-- THE TIED CARD OF 'garrisonkeep.Watched'. -/
def watchedCard : Claim7 := { stood := { row := watchedRow, standIns := [], harness := (true, "0a8289d5f2cb28152ead74e42433d56e68a4bdafa26792a6223fc0cf011a3038"), looks := false }, kinds := [], alts := [], goes := true, laidByText := true, laidKinds := [.data, .data, .data, .data], laidTests := true, laidLooks := .later }
def WatchedCardSaid : Prop := Claim7.holds Tryz.pinned (.plain (OpenSpec.ofChange watchedSpec)) watchedCard

/-- THE TIED CARD OF 'garrisonkeep.Twins'. -/
def twinsCard : Claim7 := { stood := { row := twinsRow, standIns := [], harness := (true, "0a8289d5f2cb28152ead74e42433d56e68a4bdafa26792a6223fc0cf011a3038"), looks := false }, kinds := [], alts := [], goes := true, laidByText := true, laidKinds := [.data, .data, .data, .data], laidTests := true, laidLooks := .later }
def TwinsCardSaid : Prop := Claim7.holds Tryz.pinned (.plain (OpenSpec.ofChange twinsSpec)) twinsCard

/-- THE TIED CARD OF 'garrisonkeep.Dues'. -/
def duesCard : Claim7 := { stood := { row := duesRow, standIns := [], harness := (true, "0a8289d5f2cb28152ead74e42433d56e68a4bdafa26792a6223fc0cf011a3038"), looks := false }, kinds := [], alts := [], goes := true, laidByText := true, laidKinds := [.data, .data, .data, .data], laidTests := true, laidLooks := .later }
def DuesCardSaid : Prop := Claim7.holds Tryz.pinned (.plain (OpenSpec.ofChange duesSpec)) duesCard

/-- THE TIED CARD OF 'garrisonkeep.Strangers'. -/
def strangersCard : Claim7 := { stood := { row := strangersRow, standIns := [], harness := (true, "0a8289d5f2cb28152ead74e42433d56e68a4bdafa26792a6223fc0cf011a3038"), looks := false }, kinds := [], alts := [], goes := true, laidByText := true, laidKinds := [.data, .data, .data, .data], laidTests := true, laidLooks := .later }
def StrangersCardSaid : Prop := Claim7.holds Tryz.pinned (.plain (OpenSpec.ofChange strangersSpec)) strangersCard
end Rows
end Go.Proofs.YtdianedehhecoaaGreatDoor

/- Replayed: for every argument the law returns true, on every schedule and without a data race, and the arguments read as they did. No condition but the row's own: calm, the listed tables as the text lays them. -/
import Derived.Test.YtdianedehhecoaaGreatDoorWCoRepE
namespace Go.Proofs.YtdianedehhecoaaGreatDoor
theorem replayed_card : Rows.ReplayedCardSaid := Co.replayed_card
#print axioms replayed_card
end Go.Proofs.YtdianedehhecoaaGreatDoor

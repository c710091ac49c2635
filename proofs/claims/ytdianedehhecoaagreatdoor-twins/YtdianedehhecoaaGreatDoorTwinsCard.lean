/- Twins: for every argument the law returns true, on every schedule and without a data race, and the arguments read as they did. No condition but the row's own: calm, the listed tables as the text lays them. -/
import Derived.Test.YtdianedehhecoaaGreatDoorTCoTwiF
namespace Go.Proofs.YtdianedehhecoaaGreatDoor
theorem twins_card : Rows.TwinsCardSaid := Co.twins_card
#print axioms twins_card
end Go.Proofs.YtdianedehhecoaaGreatDoor

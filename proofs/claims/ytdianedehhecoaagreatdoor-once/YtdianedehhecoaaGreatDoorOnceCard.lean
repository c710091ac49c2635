/- Once: for every argument the law returns true, on every schedule and without a data race, and the arguments read as they did. No condition but the row's own: calm, the listed tables as the text lays them. -/
import Derived.Test.YtdianedehhecoaaGreatDoorVCoOncE
namespace Go.Proofs.YtdianedehhecoaaGreatDoor
theorem once_card : Rows.OnceCardSaid := Co.once_card
#print axioms once_card
end Go.Proofs.YtdianedehhecoaaGreatDoor

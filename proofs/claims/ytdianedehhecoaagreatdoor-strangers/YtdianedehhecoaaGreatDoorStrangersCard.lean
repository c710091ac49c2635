/- Strangers (P3): for every seed, list of numbers and number of a player the law returns true, on every schedule and without a data race, and the arguments read as they did. No condition but the row's own: calm, the listed tables as the text lays them. -/
import Derived.Test.YtdianedehhecoaaGreatDoorCoStrE
namespace Go.Proofs.YtdianedehhecoaaGreatDoor
theorem strangers_card : Rows.StrangersCardSaid := Co.strangers_card
#print axioms strangers_card
end Go.Proofs.YtdianedehhecoaaGreatDoor

/- Dues (P11): for every seed, number of players and list of turns the law returns true, and the arguments read as they did. No condition but the row's own: calm, the listed tables as the text lays them. -/
import Derived.Test.YtdianedehhecoaaGreatDoorDuesRow
import Derived.Test.YtdianedehhecoaaGreatDoorKeepBegin
namespace Go.Proofs.YtdianedehhecoaaGreatDoor
theorem begin_all : BeginAny := fun seed players w b0 b1 b2 b3 hC hD => begin_any seed players w b0 b1 b2 b3 hC hD
theorem dues_card : Rows.DuesCardSaid := dues_card_of begin_all
#print axioms dues_card
end Go.Proofs.YtdianedehhecoaaGreatDoor

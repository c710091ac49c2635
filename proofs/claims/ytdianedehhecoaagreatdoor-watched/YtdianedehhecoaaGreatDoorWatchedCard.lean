/- Watched: for every seed, number of players, number of matches behind and list of numbers the law returns true, on every schedule and without a data race, and the arguments read as they did. No condition but the row's own: calm, the listed tables as the text lays them. -/
import Derived.Test.YtdianedehhecoaaGreatDoorWCoWatE
namespace Go.Proofs.YtdianedehhecoaaGreatDoor
theorem watched_card : Rows.WatchedCardSaid := Co.watched_card
#print axioms watched_card
end Go.Proofs.YtdianedehhecoaaGreatDoor

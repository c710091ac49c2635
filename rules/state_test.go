package rules

import (
	"testing"

	"garrison/wire"
)

func TestStatesShareNothing(t *testing.T) {
	a, b := Begin(0, 4), Begin(0, 4)
	before := b.Bytes()
	a.Do([]wire.Command{{Player: 0, Unit: 1, What: 4, X: 1, Y: 0}, {Player: 1, Unit: 4, What: 1, X: 5, Y: 5}, {Player: 2}})
	if a.Bytes() == before || b.Bytes() != before || Begin(0, 4).Bytes() != before {
		t.Error("P2: one match's turn is seen in another match")
	}
}

func TestDoLeavesTheTurnAlone(t *testing.T) {
	room := []wire.Command{{Player: 0, Unit: 2, What: 1, X: 2, Y: 2}, {Player: 1}, {Player: 9, Unit: 9}}
	Begin(0, 2).Do(room[:2])
	if room[0] != (wire.Command{Player: 0, Unit: 2, What: 1, X: 2, Y: 2}) || room[1] != (wire.Command{Player: 1}) || room[2] != (wire.Command{Player: 9, Unit: 9}) {
		t.Errorf("P2: the turn was written into: %v", room)
	}
}

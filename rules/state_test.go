package rules

import (
	"testing"

	"garrison/wire"
)

func TestStatesShareNothing(t *testing.T) {
	a, b := Begin(0, 4), Begin(0, 4)
	before := b.Bytes()
	a.Do([]wire.Command{{Player: 0, Unit: 1, What: 4, X: 1, Y: 0}, {Player: 1, Unit: 4, What: 1, X: 5, Y: 5}, {Player: 2}})
	if a.Bytes() == before || b.Bytes() != before || Begin(0, 4).Bytes() != before {
		t.Error("P2: one match's turn is seen in another match")
	}
}

func TestDoLeavesTheTurnAlone(t *testing.T) {
	room := []wire.Command{{Player: 0, Unit: 2, What: 1, X: 2, Y: 2}, {Player: 1}, {Player: 9, Unit: 9}}
	Begin(0, 2).Do(room[:2])
	if room[0] != (wire.Command{Player: 0, Unit: 2, What: 1, X: 2, Y: 2}) || room[1] != (wire.Command{Player: 1}) || room[2] != (wire.Command{Player: 9, Unit: 9}) {
		t.Errorf("P2: the turn was written into: %v", room)
	}
}

func TestWinner(t *testing.T) {
	for _, c := range []struct {
		quits []int
		want  int
	}{
		{[]int{}, -1}, {[]int{1}, -1}, {[]int{1, 3}, -1},
		{[]int{0, 1, 2}, 3}, {[]int{1, 2, 3}, 0}, {[]int{3, 0, 1}, 2}, {[]int{2, 0, 3}, 1},
		{[]int{0, 1, 2, 3}, -1},
	} {
		s, turn := Begin(0, 4), []wire.Command{}
		for _, p := range c.quits {
			turn = append(turn, wire.Command{Player: p})
		}
		s.Do(turn)
		if got := s.Winner(); got != c.want || s.Turn() != 1 {
			t.Errorf("P8: %v give up: the winner is %d, the turn %d, want %d", c.quits, got, s.Turn(), c.want)
		}
	}
}

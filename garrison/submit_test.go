package garrison_test

import (
	"fmt"
	"math"
	"strings"
	"testing"

	"garrison/api"
)

const step = "\x00\x02\x01\x02\x02"

func TestPause(t *testing.T) {
	h := newHost(t, 3)
	going(t, h, 0, 3)
	going(t, h, 1, 2)
	paused := api.View{Phase: api.Goes, Paused: true, Players: 3, Winner: -1}
	goes := api.View{Phase: api.Goes, Players: 3, Winner: -1}
	for _, c := range []struct {
		name string
		on   bool
		want api.View
	}{
		{"ann", false, goes}, {"ann", true, paused}, {"bob", true, paused}, {"cat", false, goes}, {"cat", false, goes}, {"bob", true, paused}, {"bob", false, goes}, {"cat", true, paused},
	} {
		must(t, "P6: Pause", h.Pause(0, c.name, c.on))
		checkLook(t, fmt.Sprint("paused by ", c.name, ": ", c.on), h, 0, c.want)
	}
	refuses(t, "P6: no player", h, api.ErrName, pauses(h, 0, "dan", true), pauses(h, 0, "dan", false), pauses(h, 0, "", false), pauses(h, 1, "cat", true))
	must(t, "P7: Tick", h.Tick())
	must(t, "P7: Tick", h.Tick(0))
	must(t, "P7: Tick", h.Tick(0, 1))
	checkLook(t, "paused", h, 0, paused)
	checkLook(t, "the match beside it", h, 1, api.View{Phase: api.Goes, Players: 2, Turn: 2, Winner: -1})
	must(t, "P6: Pause", h.Pause(0, "ann", false))
	must(t, "P7: Tick", h.Tick())
	goes.Turn = 1
	checkLook(t, "it goes on", h, 0, goes)
}

func TestPauseWhereItDoesNotGo(t *testing.T) {
	h := newHost(t, 2)
	open(t, h, 0, 2)
	join(t, h, 0, "ann", 0)
	over(t, h, 2)
	for match := range 2 {
		refuses(t, "P6: it does not go", h, api.ErrState, pauses(h, match, "ann", true), pauses(h, match, "ann", false))
		refuses(t, "P6: which error is first", h, api.ErrName, pauses(h, match, "eve", true), pauses(h, match, "", false))
	}
}

// TestPausedKeepsWhatWaits: commands wait on, and players may give up.
func TestPausedKeepsWhatWaits(t *testing.T) {
	h := duel(t)
	must(t, "Submit", h.Submit(0, "ann", 1, step))
	must(t, "Pause", h.Pause(0, "bob", true))
	refuses(t, "P6: a paused match", h, api.ErrState, submits(h, 0, "ann", 2, step), submits(h, 0, "bob", 1, bytesOf("1 4 1 5 5")))
	must(t, "P5: Leave where it is paused", h.Leave(0, "bob"))
	must(t, "Tick", h.Tick())
	checkLook(t, "paused", h, 0, api.View{Phase: api.Goes, Paused: true, Players: 2, Waiting: 1, Winner: -1})
	must(t, "P6: who gave up lets it go on", h.Pause(0, "bob", false))
	must(t, "P6: and pauses", h.Pause(0, "bob", true))
	must(t, "Pause", h.Pause(0, "ann", false))
	must(t, "P6: the number is the next yet", h.Submit(0, "ann", 2, step))
	must(t, "Tick", h.Tick())
	checkPlayed(t, "behind a pause", h, 0, 0, 2, turns("0 2 1 2 2,0 2 1 2 2,1 0 0 0 0"))
	checkLook(t, "over", h, 0, api.View{Phase: api.Over, Players: 2, Turn: 1, Winner: 0})
}

func TestSeq(t *testing.T) {
	h := duel(t)
	for seq := 1; seq <= 40; seq++ {
		for _, wrong := range []int{math.MinInt, -1, 0, seq - 1, seq + 1, seq + 256, seq + 1<<32, math.MaxInt} {
			refuses(t, fmt.Sprint("P6: number ", wrong, " for ", seq), h, api.ErrSeq, submits(h, 0, "ann", wrong, step))
		}
		refuses(t, "P6: a refusal takes no number", h, api.ErrBytes, submits(h, 0, "ann", seq, ""))
		must(t, "P6: Submit", h.Submit(0, "ann", seq, step))
		if seq%7 == 0 {
			must(t, "P7: Tick", h.Tick())
		}
	}
	refuses(t, "P6: numbers are each player's own", h, api.ErrSeq, submits(h, 0, "bob", 41, bytesOf("1 4 1 5 5")))
	must(t, "P6: Submit", h.Submit(0, "bob", 1, bytesOf("1 4 1 5 5")))
}

func TestSubmitBytes(t *testing.T) {
	h := duel(t)
	for n := range 16 {
		if n != 5 {
			refuses(t, fmt.Sprint("P6: ", n, " bytes"), h, api.ErrBytes, submits(h, 0, "ann", 1, strings.Repeat("\x00", n)), submits(h, 0, "bob", 1, strings.Repeat("\x01", n)))
		}
	}
	refuses(t, "P6: very many bytes", h, api.ErrBytes, submits(h, 0, "ann", 1, strings.Repeat("\x00", 5+1<<16)), submits(h, 0, "ann", 1, "\x01"+step))
	for player := range 256 {
		b := string([]byte{byte(player), 255, 255, 255, 255})
		if player != 0 {
			refuses(t, fmt.Sprint("P6: ann as player ", player), h, api.ErrBytes, submits(h, 0, "ann", 1, b))
		}
		if player != 1 {
			refuses(t, fmt.Sprint("P6: bob as player ", player), h, api.ErrBytes, submits(h, 0, "bob", 1, b))
		}
	}
	for seq, b := range []string{"\x00\x00\x00\x00\x01", "\x00\xff\xff\xff\xff", "\x00\x03\x06\x08\x00", "\x00\x02\x01\x01\x01"} {
		must(t, "P6: what can not be done is taken", h.Submit(0, "ann", seq+1, b))
	}
	checkLook(t, "four wait", h, 0, api.View{Phase: api.Goes, Players: 2, Waiting: 4, Winner: -1})
}

func TestQueue(t *testing.T) {
	h := newHost(t, 1)
	going(t, h, 0, 3)
	for round := range 3 {
		for k := range 8 {
			checkLook(t, "some wait", h, 0, api.View{Phase: api.Goes, Players: 3, Turn: round, Waiting: k, Winner: -1})
			must(t, "P6: Submit", h.Submit(0, "bob", 8*round+k+1, bytesOf("1 4 9 0 0")))
		}
		seq := 8*round + 9
		refuses(t, "P6: a ninth", h, api.ErrFull, submits(h, 0, "bob", seq, bytesOf("1 4 1 5 5")))
		refuses(t, "P6: bytes ahead of it", h, api.ErrBytes, submits(h, 0, "bob", seq, step), submits(h, 0, "bob", seq, ""))
		refuses(t, "P6: the number ahead of it", h, api.ErrSeq, submits(h, 0, "bob", seq-1, bytesOf("1 4 1 5 5")), submits(h, 0, "bob", seq+1, bytesOf("1 4 1 5 5")))
		must(t, "P6: another's", h.Submit(0, "ann", round+1, step))
		checkLook(t, "nine wait", h, 0, api.View{Phase: api.Goes, Players: 3, Turn: round, Waiting: 9, Winner: -1})
		must(t, "P7: Tick", h.Tick())
	}
}

// TestSubmitErrors: where several errors apply, the one that is named first is answered.
func TestSubmitErrors(t *testing.T) {
	h := newHost(t, 5)
	open(t, h, 0, 3)
	join(t, h, 0, "ann", 0)
	join(t, h, 0, "bob", 1)
	over(t, h, 3)
	paused := going(t, h, 0, 3)
	must(t, "Pause", h.Pause(paused, "ann", true))
	gave := going(t, h, 0, 3)
	must(t, "Leave", h.Leave(gave, "ann"))
	for match := range 4 {
		refuses(t, fmt.Sprint("P6: no player, match ", match), h, api.ErrName, submits(h, match, "eve", 1, step), submits(h, match, "", 7, ""))
		refuses(t, fmt.Sprint("P6: no time, match ", match), h, api.ErrState, submits(h, match, "ann", 1, step), submits(h, match, "ann", 0, ""), submits(h, match, "ann", 1, ""))
	}
	must(t, "P6: another player", h.Submit(gave, "bob", 1, bytesOf("1 4 1 5 5")))
	must(t, "P7: Tick", h.Tick())
	refuses(t, "P6: who gave up, behind the turn", h, api.ErrState, submits(h, gave, "ann", 1, step))
	goes := going(t, h, 0, 3)
	refuses(t, "P6: the number ahead of the bytes", h, api.ErrSeq, submits(h, goes, "ann", 2, ""), submits(h, goes, "ann", 0, bytesOf("1 4 1 5 5")))
}

// TestWhoIsOutMaySubmit: only whoever gave up may not; what an other asks for is taken, and not done.
func TestWhoIsOutMaySubmit(t *testing.T) {
	h := newHost(t, 1)
	going(t, h, 0, 3)
	must(t, "Submit", h.Submit(0, "cat", 1, bytesOf("2 0 0 0 0")))
	checkLook(t, "a command as any other", h, 0, api.View{Phase: api.Goes, Players: 3, Waiting: 1, Winner: -1})
	must(t, "Submit", h.Submit(0, "cat", 2, bytesOf("2 6 1 5 2")))
	must(t, "Tick", h.Tick())
	must(t, "P6: Submit by who is out", h.Submit(0, "cat", 3, bytesOf("2 6 1 5 2")))
	must(t, "Tick", h.Tick())
	checkPlayed(t, "who is out", h, 0, 0, 3, turns("2 0 0 0 0,2 6 1 5 2"), turns("2 6 1 5 2"))
	must(t, "P6: Pause by who is out", h.Pause(0, "cat", true))
	must(t, "P6: Pause by who is out", h.Pause(0, "cat", false))
	must(t, "P5: Leave by who is out", h.Leave(0, "cat"))
	refuses(t, "P5: twice", h, api.ErrState, leaves(h, 0, "cat"))
	must(t, "Tick", h.Tick())
	checkLook(t, "two are in", h, 0, api.View{Phase: api.Goes, Players: 3, Turn: 3, Winner: -1})
}

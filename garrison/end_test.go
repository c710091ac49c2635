package garrison_test

import (
	"math"
	"strings"
	"testing"

	"garrison/api"
	"garrison/garrison"
)

func TestGiveUp(t *testing.T) {
	checkRows(t, 0, 2, []row{
		{"one of two", "1 0 0 0 0", "1 4; 2 2; " + corner0},
		{"the other", "0 0 0 0 0", "1 4; 2 2; " + corner1},
		{"both", "1 0 0 0 0,0 0 0 0 0", "1 4; 2 2"},
		{"twice in a turn", "1 0 0 0 0,1 0 0 0 0", "1 4; 2 2; " + corner0},
		{"no such player", "2 0 0 0 0,4 0 0 0 0,255 0 0 0 0", "1 4; 2 2; " + start},
		{"not quite", "1 0 0 0 1,1 0 0 1 0,1 0 1 0 0,1 3 0 0 0,0 1 0 0 0,1 0 5 0 0", "1 4; 2 2; " + start},
		{"its Worker obeys on", meet + "1 0 0 0 0,1 4 2 3 3", "3 4; 2 2; 1:0B00,20; 2:0W33,4"},
		{"its Worker digs on", "1 0 0 0 0,1 4 3 5 6", "1 4; 2 3; " + corner0},
		{"its Worker is in the way until the turn ends", meet + "1 0 0 0 0,0 2 1 4 4", "3 4; 2 2; 1:0B00,20; 2:0W33,5"},
		{"its Worker is hit on, as that unit's command", meet + "1 0 0 0 0,0 2 2 4 4,0 2 1 3 4", "3 4; 2 2; 1:0B00,20; 2:0W33,5"},
		{"its Base does not", "1 0 0 0 0,1 3 4 7 6", "1 4; 2 2; " + corner0},
		{"its Base did", "1 3 4 7 6,1 0 0 0 0", "1 5; 2 0; " + corner0},
		{"its Base's cell is free at once", visit + "1 0 0 0 0,0 2 1 7 7", "7 4; 2 2; 1:0B00,20; 2:0W77,5"},
		{"the turn goes on", "1 0 0 0 0,0 2 1 2 2", "1 4; 2 2; 1:0B00,20; 2:0W22,5"},
	})
	checkRows(t, 0, 4, []row{
		{"one of four", "2 0 0 0 0", "1 8; 2 2 2 2; " + start + "; " + corner3},
		{"who is out stays out", "2 0 0 0 0|2 0 0 0 0,2 6 1 5 2,2 5 4 6 0", "2 8; 2 2 2 2; " + start + "; " + corner3},
		{"where units went others come", "2 0 0 0 0|0 2 1 2 1|0 2 1 3 1|0 2 1 4 1|0 2 1 5 1|0 2 1 6 1|0 2 1 7 0", "7 8; 2 2 2 2; 1:0B00,20; 2:0W70,5; " + corner1 + "; " + corner3},
		{"three of four, in three turns", "2 0 0 0 0|0 0 0 0 0|3 0 0 0 0", "3 8; 2 2 2 2; " + corner1},
		{"all of four", "3 0 0 0 0,2 0 0 0 0,1 0 0 0 0,0 0 0 0 0", "1 8; 2 2 2 2"},
	})
}

func TestOver(t *testing.T) {
	for _, c := range []struct {
		name    string
		players int
		turns   string
		e       api.Errno
	}{
		{"the turn with which it is over", 2, "1 0 0 0 0", api.OK},
		{"a turn behind it", 2, "1 0 0 0 0|", api.ErrOver},
		{"a turn with commands behind it", 2, "1 0 0 0 0|0 2 1 2 2", api.ErrOver},
		{"behind no one", 2, "1 0 0 0 0,0 0 0 0 0|", api.ErrOver},
		{"two of three are in", 3, "1 0 0 0 0|||", api.OK},
		{"one of three is in", 3, "1 0 0 0 0||0 0 0 0 0", api.OK},
		{"behind one of three", 3, "1 0 0 0 0||0 0 0 0 0|", api.ErrOver},
		{"two of four are in", 4, "1 0 0 0 0,2 0 0 0 0|||", api.OK},
		{"one of four is in", 4, "1 0 0 0 0,2 0 0 0 0|3 0 0 0 0", api.OK},
		{"behind one of four", 4, "1 0 0 0 0,2 0 0 0 0|3 0 0 0 0|", api.ErrOver},
		{"a player that is not there gives up", 2, "2 0 0 0 0|3 0 0 0 0|", api.OK},
	} {
		state, hash, e := garrison.Fold(0, c.players, turns(c.turns))
		if e != c.e || (e == api.OK) != (state != "") || (e == api.OK) != (hash != "") {
			t.Errorf("P3: %s: %d, %x, %s, want %d", c.name, e, state, hash, c.e)
		}
	}
}

func TestManyCommands(t *testing.T) {
	var full []order
	for range 35 {
		full = append(full, order{1, 2, 1, 2, 2})
	}
	full = append(full, order{0, 2, 1, 2, 2})
	if got, want := fold(t, 0, 2, turn(full...)).text(), "1 4; 2 2; 1:0B00,20; 2:0W22,5; "+corner1; got != want {
		t.Errorf("P3: the last of 36 commands: %s, want %s", got, want)
	}
	full = append(full, order{1, 4, 1, 5, 5})
	if _, _, e := garrison.Fold(0, 2, turn(full...)); e != api.ErrBytes {
		t.Errorf("P3: 37 commands: %d", e)
	}
}

func TestManyTurns(t *testing.T) {
	empty := func(n int) string { return strings.Repeat("\x00", n) }
	end := turns("1 0 0 0 0")
	for _, c := range []struct {
		name, turns, want string
		e                 api.Errno
	}{
		{"1000 turns", empty(1000), "1000 4; 2 2; " + start, api.OK},
		{"the thousandth is done", empty(999) + turns("0 2 1 2 2"), "1000 4; 2 2; 1:0B00,20; 2:0W22,5; " + corner1, api.OK},
		{"over with the thousandth", empty(999) + end, "1000 4; 2 2; " + corner0, api.OK},
		{"over one ahead of it", empty(998) + end + empty(1), "", api.ErrOver},
		{"1001 turns", empty(1001), "", api.ErrBytes},
		{"1001 turns, over with the thousandth", empty(999) + end + empty(1), "", api.ErrBytes},
		{"1001 turns, over with the first", end + empty(1000), "", api.ErrBytes},
		{"very many turns", empty(1 << 20), "", api.ErrBytes},
	} {
		state, hash, e := garrison.Fold(0, 2, c.turns)
		if e != c.e {
			t.Errorf("P3: %s: %d, want %d", c.name, e, c.e)
		} else if e != api.OK && (state != "" || hash != "") {
			t.Errorf("P1: %s: a result beside an error", c.name)
		} else if e == api.OK && read(t, state).text() != c.want {
			t.Errorf("P3: %s: %s, want %s", c.name, read(t, state).text(), c.want)
		}
	}
}

func TestRefused(t *testing.T) {
	end := turns("1 0 0 0 0")
	for _, c := range []struct {
		name          string
		seed, players int
		turns         string
		e             api.Errno
	}{
		{"seed 0", 0, 2, "", api.OK},
		{"seed 999", 999, 4, "", api.OK},
		{"seed -1", -1, 2, "", api.ErrArg},
		{"seed 1000", 1000, 2, "", api.ErrArg},
		{"the least seed", math.MinInt, 2, "", api.ErrArg},
		{"the greatest seed", math.MaxInt, 2, "", api.ErrArg},
		{"0 players", 0, 0, "", api.ErrArg},
		{"1 player", 0, 1, "", api.ErrArg},
		{"5 players", 0, 5, "", api.ErrArg},
		{"-2 players", 0, -2, "", api.ErrArg},
		{"the least players", 0, math.MinInt, "", api.ErrArg},
		{"the most players", 0, math.MaxInt, "", api.ErrArg},
		{"a seed ahead of bytes", -1, 2, "\x01", api.ErrArg},
		{"a seed ahead of the end", 1000, 2, end + "\x00", api.ErrArg},
		{"players ahead of bytes", 0, 5, "\xff", api.ErrArg},
		{"players ahead of the end", 0, 1, end + "\x00", api.ErrArg},
		{"no commands behind their number", 0, 2, "\x01", api.ErrBytes},
		{"a command cut off", 0, 2, "\x01\x00\x02\x01\x02", api.ErrBytes},
		{"a byte behind a command", 0, 2, "\x01\x00\x02\x01\x02\x02\x02", api.ErrBytes},
		{"cut off behind whole turns", 0, 2, "\x00\x00\x02", api.ErrBytes},
		{"37 commands", 0, 2, "\x25" + strings.Repeat("\x00\x02\x01\x02\x02", 37), api.ErrBytes},
		{"255 commands", 0, 2, "\xff" + strings.Repeat("\x00\x02\x01\x02\x02", 255), api.ErrBytes},
		{"bytes ahead of the end", 0, 2, end + "\x00\x01", api.ErrBytes},
		{"37 commands behind the end", 0, 2, end + "\x25" + strings.Repeat("\x00", 185), api.ErrBytes},
		{"behind the end", 0, 2, end + "\x00", api.ErrOver},
		{"a text", 0, 2, "garrison", api.ErrBytes},
	} {
		state, hash, e := garrison.Fold(c.seed, c.players, c.turns)
		if e != c.e {
			t.Errorf("P3: %s: %d, want %d", c.name, e, c.e)
		}
		if e != api.OK && (state != "" || hash != "") {
			t.Errorf("P1: %s: a result beside an error: %x, %s", c.name, state, hash)
		}
	}
}

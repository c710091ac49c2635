package wire

import (
	"fmt"
	"hash/fnv"
	"slices"
	"strings"
	"testing"

	"garrison/api"
)

func TestWriter(t *testing.T) {
	var w Writer
	w.One()
	w.Two()
	if w.Text() != "" {
		t.Errorf("nothing written: %x", w.Text())
	}
	w.One(0, 1, 255)
	w.Two(0, 1, 256, 1000, 65535)
	w.One(7)
	if got, want := fmt.Sprintf("%x", w.Text()), "0001ff"+"00000001010003e8ffff"+"07"; got != want {
		t.Errorf("written: %s, want %s", got, want)
	}
}

func TestWriterLeavesItsListsAlone(t *testing.T) {
	room := []int{1, 2, 3, 4}
	var w Writer
	w.One(room[:2]...)
	w.Two(room[:2]...)
	room[0] = 9
	w.One(5)
	if want := []int{9, 2, 3, 4}; !slices.Equal(room, want) || w.Text() != "\x01\x02\x00\x01\x00\x02\x05" {
		t.Errorf("P2: %v, %x", room, w.Text())
	}
}

func TestHash(t *testing.T) {
	if got := Hash(""); got != "cbf29ce484222325" {
		t.Errorf("the hash of nothing: %s", got)
	}
	ahead := 0
	for n := range 2000 {
		text := strings.Repeat("\xff", n%3) + fmt.Sprint(n)
		f := fnv.New64a()
		f.Write([]byte(text))
		want := fmt.Sprintf("%016x", f.Sum64())
		if got := Hash(text); got != want {
			t.Fatalf("the hash of %q: %s, want %s", text, got, want)
		}
		if want[0] == '0' {
			ahead++
		}
	}
	if ahead == 0 {
		t.Error("no hash here had noughts ahead: take other texts")
	}
}

func TestReadTurns(t *testing.T) {
	turns, ok := ReadTurns("\x00\x02\x01\x02\x03\x04\x05\xff\xfe\xfd\xfc\xfb\x00\x01\x03\x00\x00\x00\x00")
	want := "[[] [{1 2 3 4 5} {255 254 253 252 251}] [] [{3 0 0 0 0}]]"
	if got := fmt.Sprint(turns); !ok || got != want {
		t.Errorf("P3: %s, %t, want %s", got, ok, want)
	}
	if turns, ok := ReadTurns(""); !ok || len(turns) != 0 {
		t.Errorf("P3: no bytes: %v, %t", turns, ok)
	}
}

func TestWriteTurn(t *testing.T) {
	a, b := Command{Player: 1, Unit: 2, What: 3, X: 4, Y: 5}, Command{Player: 255, Unit: 254, What: 253, X: 252, Y: 251}
	for _, c := range []struct {
		commands []Command
		want     string
	}{
		{nil, "\x00"},
		{[]Command{{}}, "\x01\x00\x00\x00\x00\x00"},
		{[]Command{{Player: 3}}, "\x01\x03\x00\x00\x00\x00"},
		{[]Command{a}, "\x01\x01\x02\x03\x04\x05"},
		{[]Command{a, b, a}, "\x03\x01\x02\x03\x04\x05\xff\xfe\xfd\xfc\xfb\x01\x02\x03\x04\x05"},
		{slices.Repeat([]Command{b}, api.MaxTurn), "\x24" + strings.Repeat("\xff\xfe\xfd\xfc\xfb", api.MaxTurn)},
	} {
		if got := WriteTurn(c.commands...); got != c.want {
			t.Errorf("Words: the bytes of %v: %x, want %x", c.commands, got, c.want)
		}
		if turns, ok := ReadTurns(c.want + c.want); !ok || len(turns) != 2 || !slices.Equal(turns[0], c.commands) || !slices.Equal(turns[1], c.commands) {
			t.Errorf("Words: %v read again: %v, %t", c.commands, turns, ok)
		}
	}
}

func TestReadTurnsBounds(t *testing.T) {
	full := "\x24" + strings.Repeat("12345", api.MaxTurn)
	for _, c := range []struct {
		name, text string
		ok         bool
	}{
		{"36 commands", full, true},
		{"36 commands, one byte short", full[:len(full)-1], false},
		{"36 commands, one byte more", full + "\x01", false},
		{"37 commands", "\x25" + strings.Repeat("12345", 37), false},
		{"255 commands", "\xff" + strings.Repeat("12345", 255), false},
		{"a count alone", "\x01", false},
		{"four bytes of five", "\x011234", false},
		{"the second command cut off", "\x02123451234", false},
		{"a whole turn ahead of one cut off", "\x0112345\x01", false},
		{"1000 turns", strings.Repeat("\x00", api.MaxTurns), true},
		{"1000 full turns", strings.Repeat(full, api.MaxTurns), true},
		{"1001 turns", strings.Repeat("\x00", api.MaxTurns+1), false},
		{"1000 turns, and one cut off", strings.Repeat("\x00", api.MaxTurns) + "\x01", false},
	} {
		turns, ok := ReadTurns(c.text)
		if ok != c.ok {
			t.Errorf("P3: %s: %t, want %t", c.name, ok, c.ok)
		}
		if !ok && turns != nil {
			t.Errorf("P1: %s: refused, and turns beside it", c.name)
		}
	}
}

func TestGivesUp(t *testing.T) {
	for _, c := range []struct {
		command Command
		want    bool
	}{
		{Command{}, true},
		{Command{Player: 3}, true},
		{Command{Player: 255}, true},
		{Command{Player: 1, Unit: 1}, false},
		{Command{Player: 1, What: 1}, false},
		{Command{Player: 1, X: 1}, false},
		{Command{Player: 1, Y: 1}, false},
	} {
		if got := c.command.GivesUp(); got != c.want {
			t.Errorf("Words: %v gives up: %t", c.command, got)
		}
	}
}

func TestReadCommand(t *testing.T) {
	if c, ok := ReadCommand("\x01\x02\x03\x04\xff"); !ok || c != (Command{Player: 1, Unit: 2, What: 3, X: 4, Y: 255}) {
		t.Errorf("Words: a command: %v, %t", c, ok)
	}
	for n := range 12 {
		if c, ok := ReadCommand(strings.Repeat("\x07", n)); ok != (n == 5) || !ok && c != (Command{}) {
			t.Errorf("P6: %d bytes: %v, %t", n, c, ok)
		}
	}
}

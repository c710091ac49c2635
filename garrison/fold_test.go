package garrison_test

import (
	"fmt"
	"hash/fnv"
	"strings"
	"testing"

	"garrison/api"
	"garrison/garrison"
)

const (
	corner0 = "1:0B00,20; 2:0W11,5"
	corner1 = "3:1B77,20; 4:1W66,5"
	corner2 = "5:2B70,20; 6:2W61,5"
	corner3 = "7:3B07,20; 8:3W16,5"
	start   = corner0 + "; " + corner1
	// meet: the workers of players 0 and 1 come to stand on (3, 3) and (4, 4)
	meet = "0 2 1 2 2,1 4 1 5 5|0 2 1 3 3,1 4 1 4 4|"
	// visit: the worker of player 0 comes to stand on (7, 6), beside the Base of player 1
	visit = "0 2 1 2 2|0 2 1 3 3|0 2 1 4 4|0 2 1 5 5|0 2 1 6 5|0 2 1 7 6|"
	// raid: a soldier of player 0 comes to stand on (5, 5), beside the worker of player 1
	raid = "0 2 3 2 0,0 1 5 1 0|0 5 1 2 1|0 5 1 3 2|0 5 1 4 3|0 5 1 5 4|0 5 1 5 5|"
)

func TestBeginning(t *testing.T) {
	for _, c := range []struct {
		players int
		want    string
	}{
		{2, "0 4; 2 2; " + start},
		{3, "0 6; 2 2 2; " + start + "; " + corner2},
		{4, "0 8; 2 2 2 2; " + start + "; " + corner2 + "; " + corner3},
	} {
		if got := fold(t, 0, c.players, "").text(); got != c.want {
			t.Errorf("Words: %d players: %s, want %s", c.players, got, c.want)
		}
	}
}

func TestBytesOfAState(t *testing.T) {
	ore := "0000030002000100" + "0200030000010002" + "0000030100000200" + "0000030201000000" +
		"0303030303030303" + "0102030000000001" + "0001030000020000" + "0000030002000100"
	for _, c := range []struct{ turns, want string }{
		{"", "0000" + "0004" + "02" + "0002" + "0002" + ore + "04" +
			"00010001000014" + "00020002010105" + "00030101070714" + "00040102060605"},
		{turns("0 1 4 1 0"), "0001" + "0005" + "02" + "0000" + "0002" + ore + "05" +
			"00010001000014" + "00020002010105" + "00030101070714" + "00040102060605" + "00050002010005"},
		{strings.Repeat("\x00", 258), "0102" + "0004" + "02" + "0002" + "0002" + ore + "04" +
			"00010001000014" + "00020002010105" + "00030101070714" + "00040102060605"},
	} {
		state, _, e := garrison.Fold(0, 2, c.turns)
		if got := fmt.Sprintf("%x", state); e != api.OK || got != c.want {
			t.Errorf("Words: the bytes behind %x: %s, %d, want %s", c.turns, got, e, c.want)
		}
	}
}

func TestFirstOre(t *testing.T) {
	for _, c := range []struct {
		seed int
		want string
	}{
		{0, "00302010 20300102 00310020 00321000 33333333 12300001 01300200 00302010"},
		{999, "20100302 00102030 03100200 32100003 11111111 00123000 00130020 20100302"},
	} {
		for players := 2; players <= 4; players++ {
			got := ""
			for _, row := range fold(t, c.seed, players, "").ore {
				for _, o := range row {
					got += fmt.Sprint(o)
				}
				got += " "
			}
			if strings.TrimSpace(got) != c.want {
				t.Errorf("Words: the ore of seed %d: %s, want %s", c.seed, got, c.want)
			}
		}
	}
	for seed := 0; seed <= 999; seed++ {
		for y, row := range fold(t, seed, 2, "").ore {
			for x, o := range row {
				if want := max((seed+3*x+5*y+x*y)%7, 3) - 3; o != want {
					t.Fatalf("Words: the ore of seed %d on %d, %d: %d, want %d", seed, x, y, o, want)
				}
			}
		}
	}
}

func TestHashIsOfTheState(t *testing.T) {
	for _, text := range []string{"", "0 2 1 2 2", meet + "0 2 2 4 4", raid, "1 0 0 0 0"} {
		for players := 2; players <= 4; players++ {
			state, hash, e := garrison.Fold(0, players, turns(text))
			f := fnv.New64a()
			f.Write([]byte(state))
			if want := fmt.Sprintf("%016x", f.Sum64()); e != api.OK || hash != want {
				t.Errorf("P3: the hash behind %q: %s, %d, want %s", text, hash, e, want)
			}
		}
	}
	if _, hash, _ := garrison.Fold(0, 4, ""); hash != "f51a3045dd682e20" {
		t.Errorf("P3: the hash of the beginning: %s", hash)
	}
}

func TestMove(t *testing.T) {
	for y := range 8 {
		for x := range 8 {
			want := "2 4; 2 2; 1:0B00,20; 2:0W22,5; " + corner1
			if (x != 2 || y != 2) && x >= 1 && x <= 3 && y >= 1 && y <= 3 {
				want = strings.Replace(want, "W22", fmt.Sprintf("W%d%d", x, y), 1)
			}
			if got := fold(t, 0, 2, turns(fmt.Sprintf("0 2 1 2 2|0 2 1 %d %d", x, y))).text(); got != want {
				t.Errorf("P3: from 2, 2 to %d, %d: %s, want %s", x, y, got, want)
			}
		}
	}
	checkRows(t, 0, 2, []row{
		{"a soldier moves", strings.TrimSuffix(raid, "|"), "6 5; 0 2; " + corner0 + "; " + corner1 + "; 5:0S55,8"},
		{"a Base does not", "0 1 1 1 0,1 3 1 6 7", "1 4; 2 2; " + start},
		{"not onto one's own", "0 2 1 0 0", "1 4; 2 2; " + start},
		{"not onto another's", meet + "0 2 1 4 4", "3 4; 2 2; 1:0B00,20; 2:0W33,5; 3:1B77,20; 4:1W44,5"},
		{"not another's unit", "1 2 1 2 2,0 4 1 5 5", "1 4; 2 2; " + start},
		{"no unit of that number", "0 5 1 2 2,0 0 1 0 1,0 255 1 2 2", "1 4; 2 2; " + start},
		{"no player of that number", "2 2 1 2 2,255 2 1 2 2", "1 4; 2 2; " + start},
		{"not off the field at 0", "0 2 1 0 1|0 2 1 255 1,0 2 1 255 0,0 2 1 255 2", "2 4; 2 2; 1:0B00,20; 2:0W01,5; " + corner1},
		{"not off the field at 0, up", "0 2 1 1 0|0 2 1 1 255,0 2 1 0 255,0 2 1 2 255", "2 4; 2 2; 1:0B00,20; 2:0W10,5; " + corner1},
		{"not off the field at 7", "1 4 1 7 6|1 4 1 8 6,1 4 1 8 7,1 4 1 8 5", "2 4; 2 2; " + corner0 + "; 3:1B77,20; 4:1W76,5"},
		{"not off the field at 7, down", "1 4 1 6 7|1 4 1 6 8,1 4 1 7 8,1 4 1 5 8", "2 4; 2 2; " + corner0 + "; 3:1B77,20; 4:1W67,5"},
		{"along the rim", "0 2 1 0 1|0 2 1 0 2,1 4 1 7 6|1 4 1 7 5", "3 4; 2 2; 1:0B00,20; 2:0W02,5; 3:1B77,20; 4:1W75,5"},
		{"onto a cell that was left in this turn", meet + "1 4 1 5 5,0 2 1 4 4", "3 4; 2 2; 1:0B00,20; 2:0W44,5; 3:1B77,20; 4:1W55,5"},
		{"onto a cell that is left only afterwards", meet + "0 2 1 4 4,1 4 1 5 5", "3 4; 2 2; 1:0B00,20; 2:0W33,5; 3:1B77,20; 4:1W55,5"},
	})
}

func TestOneCommandATurn(t *testing.T) {
	checkRows(t, 0, 2, []row{
		{"a second move", "0 2 1 2 2,0 2 1 3 3", "1 4; 2 2; 1:0B00,20; 2:0W22,5; " + corner1},
		{"a second move, others between", "0 2 1 2 2,1 4 1 5 5,0 1 4 1 0,0 2 1 3 3", "1 5; 0 2; 1:0B00,20; 2:0W22,5; 3:1B77,20; 4:1W55,5; 5:0W10,5"},
		{"in the next turn again", "0 2 1 2 2|0 2 1 3 3", "2 4; 2 2; 1:0B00,20; 2:0W33,5; " + corner1},
		{"a turn without commands between", "0 2 1 2 2||0 2 1 3 3", "3 4; 2 2; 1:0B00,20; 2:0W33,5; " + corner1},
		{"what was not done does not count", "0 2 1 0 0,0 2 1 5 5,0 2 4 1 2,0 2 6 1 2,0 2 0 1 2,0 2 2 1 2,0 2 3 1 2,1 2 1 1 2,0 2 1 2 2", "1 4; 2 2; 1:0B00,20; 2:0W22,5; " + corner1},
		{"move, then dig", "0 2 1 0 2,0 2 3 0 1|0 2 1 1 2", "2 4; 2 2; 1:0B00,20; 2:0W12,5; " + corner1},
		{"dig, then dig", "0 2 3 2 1,0 2 3 2 1", "1 4; 3 2; " + start},
		{"dig, then move", "0 2 3 2 1,0 2 1 2 1", "1 4; 3 2; " + start},
		{"hit, then hit", meet + "0 2 2 4 4,0 2 2 4 4", "3 4; 2 2; 1:0B00,20; 2:0W33,5; 3:1B77,20; 4:1W44,4"},
		{"hire, then hire", "0 2 3 2 1|0 2 3 2 1|0 1 4 1 0,0 1 4 0 1", "3 5; 2 2; " + start + "; 5:0W10,5"},
		{"train, then hire", "0 2 3 2 1|0 2 3 2 1|0 2 3 2 1|0 1 5 1 0,0 1 4 0 1", "4 5; 2 2; " + start + "; 5:0S10,8"},
		{"hire, then train", "0 2 3 2 1|0 2 3 2 1|0 2 3 2 1|0 1 4 1 0,0 1 5 0 1", "4 5; 3 2; " + start + "; 5:0W10,5"},
		{"a Base hits, then hires", visit + "1 3 2 7 6,1 3 4 6 7", "7 4; 2 2; 1:0B00,20; 2:0W76,3; " + corner1},
	})
}

func TestHireAndTrain(t *testing.T) {
	checkRows(t, 0, 2, []row{
		{"a Worker with the last gold", "0 1 4 1 0", "1 5; 0 2; " + start + "; 5:0W10,5"},
		{"a Soldier with the last gold", "0 2 3 2 0,0 1 5 1 0", "1 5; 0 2; " + start + "; 5:0S10,8"},
		{"no Soldier for 2, but then a Worker", "0 1 5 1 0,0 1 4 0 1", "1 5; 0 2; " + start + "; 5:0W01,5"},
		{"no Worker for 1", "0 2 3 2 0,0 1 4 1 0|0 1 4 0 1", "2 5; 1 2; " + start + "; 5:0W10,5"},
		{"no Worker for 0", "0 1 4 1 0|0 1 4 0 1", "2 5; 0 2; " + start + "; 5:0W10,5"},
		{"each by its own gold", "0 1 4 1 0,1 3 4 7 6|1 3 4 6 7", "2 6; 0 0; " + start + "; 5:0W10,5; 6:1W76,5"},
		{"numbers in the order of coming", "1 3 4 7 6,0 1 4 1 0", "1 6; 0 0; " + start + "; 5:1W76,5; 6:0W10,5"},
		{"not onto a unit", "0 1 4 1 1", "1 4; 2 2; " + start},
		{"not onto a unit: Train", "0 2 3 2 0,0 1 5 1 1", "1 4; 3 2; " + start},
		{"not on its own cell", "0 1 4 0 0", "1 4; 2 2; " + start},
		{"not far away", "0 1 4 2 0,0 1 4 0 2,0 1 4 2 2", "1 4; 2 2; " + start},
		{"not off the field", "0 1 4 255 0,0 1 4 0 255,0 1 4 255 255,1 3 4 8 7,1 3 4 7 8,1 3 4 8 8", "1 4; 2 2; " + start},
		{"not another's Base", "0 3 4 7 6,1 1 4 1 0", "1 4; 2 2; " + start},
		{"a Worker makes none", "0 2 3 2 0|0 2 4 1 2,0 2 5 1 2", "2 4; 3 2; " + start},
		{"a Soldier makes none", raid + "0 2 3 2 1|0 2 3 2 1|0 2 3 2 1|0 5 4 5 4,0 5 5 5 4", "10 5; 3 2; " + start + "; 5:0S55,8"},
		{"onto a cell that was left in this turn", "0 2 1 2 2,0 1 4 1 1", "1 5; 0 2; 1:0B00,20; 2:0W22,5; " + corner1 + "; 5:0W11,5"},
		{"a new unit does nothing in its turn", "0 1 4 1 0,0 5 1 2 0,0 5 3 2 0", "1 5; 0 2; " + start + "; 5:0W10,5"},
		{"nor does a new Soldier", "0 2 3 2 0,0 1 5 1 0,0 5 1 2 0", "1 5; 0 2; " + start + "; 5:0S10,8"},
		{"but in the next", "0 1 4 1 0,0 5 1 2 0|0 5 1 2 0,0 5 1 3 0", "2 5; 0 2; " + start + "; 5:0W20,5"},
		{"a new unit is in the way, and can be hit, in its turn", visit + "1 3 4 6 7,0 2 2 6 7,1 4 1 6 7", "7 5; 2 0; 1:0B00,20; 2:0W76,5; " + corner1 + "; 5:1W67,4"},
		{"what is no word", "0 1 6 1 0,0 1 0 1 0,0 1 255 1 0", "1 4; 2 2; " + start},
	})
}

func TestDig(t *testing.T) {
	for _, c := range []struct {
		name, turns  string
		x, y         int
		ore          int
		gold0, gold1 int
	}{
		{"once", "0 2 3 0 1", 0, 1, 1, 3, 2},
		{"the last ore", "0 2 3 0 1|0 2 3 0 1", 0, 1, 0, 4, 2},
		{"behind the last ore", "0 2 3 0 1|0 2 3 0 1|0 2 3 0 1", 0, 1, 0, 4, 2},
		{"behind the last ore, elsewhere", "0 2 3 0 1|0 2 3 0 1|0 2 3 0 1,0 2 3 2 0", 2, 0, 2, 5, 2},
		{"where there never was any", "0 2 3 1 2", 1, 2, 0, 2, 2},
		{"not where it stands", "0 2 1 2 1|0 2 3 2 1", 2, 1, 3, 2, 2},
		{"not far away", "0 2 3 2 3", 2, 3, 3, 2, 2},
		{"not another's", "1 2 3 0 1", 0, 1, 2, 2, 2},
		{"not a Base", "0 1 3 0 1", 0, 1, 2, 2, 2},
		{"not a Soldier", raid + "0 5 3 5 6", 5, 6, 2, 0, 2},
		{"under a unit of one's own", "0 2 3 0 1,0 1 4 0 1|0 2 3 0 1", 0, 1, 0, 2, 2},
		{"under a unit of another's", "0 2 1 2 2,1 4 1 5 5|0 2 1 3 3,1 4 1 4 4|0 2 3 4 4", 4, 4, 2, 3, 2},
		{"player 1", "1 4 3 5 6", 5, 6, 1, 2, 3},
		{"two of one ore", "0 2 1 2 2,1 4 1 5 5|0 2 1 2 3,1 4 1 4 4|0 2 1 2 4,1 4 3 3 3|0 2 3 3 3,1 4 3 3 3|0 2 3 3 3", 3, 3, 0, 3, 3},
	} {
		p := fold(t, 0, 2, turns(c.turns))
		if p.ore[c.y][c.x] != c.ore || p.gold[0] != c.gold0 || p.gold[1] != c.gold1 {
			t.Errorf("P3: dig %s: ore %d, gold %v, want %d, %d, %d", c.name, p.ore[c.y][c.x], p.gold, c.ore, c.gold0, c.gold1)
		}
	}
}

func TestHit(t *testing.T) {
	again := func(n int, s string) string { return strings.TrimSuffix(strings.Repeat(s+"|", n), "|") }
	checkRows(t, 0, 2, []row{
		{"a Worker takes 1", meet + "0 2 2 4 4", "3 4; 2 2; 1:0B00,20; 2:0W33,5; 3:1B77,20; 4:1W44,4"},
		{"its last health but one", meet + again(4, "0 2 2 4 4"), "6 4; 2 2; 1:0B00,20; 2:0W33,5; 3:1B77,20; 4:1W44,1"},
		{"its last health", meet + again(5, "0 2 2 4 4"), "7 4; 2 2; 1:0B00,20; 2:0W33,5; 3:1B77,20"},
		{"who is gone hits no more", meet + again(5, "0 2 2 4 4,1 4 2 3 3"), "7 4; 2 2; 1:0B00,20; 2:0W33,1; 3:1B77,20"},
		{"who hits first is ahead", meet + again(5, "1 4 2 3 3,0 2 2 4 4"), "7 4; 2 2; 1:0B00,20; 3:1B77,20; 4:1W44,1"},
		{"a Base takes 2", visit + "1 3 2 7 6", "7 4; 2 2; 1:0B00,20; 2:0W76,3; " + corner1},
		{"a Base takes more than is left", visit + again(3, "1 3 2 7 6"), "9 4; 2 2; 1:0B00,20; " + corner1},
		{"the cell is free at once", visit + again(3, "1 3 2 7 6,1 4 1 7 6"), "9 4; 2 2; 1:0B00,20; 3:1B77,20; 4:1W76,5"},
		{"a Worker takes 1 of a Base", visit + "0 2 2 7 7", "7 4; 2 2; 1:0B00,20; 2:0W76,5; 3:1B77,19; 4:1W66,5"},
		{"a Soldier takes 3", raid + "0 5 2 6 6", "7 5; 0 2; " + corner0 + "; 3:1B77,20; 4:1W66,2; 5:0S55,8"},
		{"a Soldier takes more than is left", raid + again(2, "0 5 2 6 6"), "8 5; 0 2; " + corner0 + "; 3:1B77,20; 5:0S55,8"},
		{"a Soldier has 8", raid + again(7, "1 4 2 5 5"), "13 5; 0 2; " + start + "; 5:0S55,1"},
		{"a Soldier's last health", raid + again(8, "1 4 2 5 5"), "14 5; 0 2; " + start},
		{"a number is not given twice", raid + again(8, "1 4 2 5 5") + "|1 3 4 7 6", "15 6; 0 0; " + start + "; 6:1W76,5"},
		{"not one's own", "0 2 2 0 0,0 1 2 1 1", "1 4; 2 2; " + start},
		{"no one there", meet + "0 2 2 4 3,0 2 2 3 4", "3 4; 2 2; 1:0B00,20; 2:0W33,5; 3:1B77,20; 4:1W44,5"},
		{"not oneself, not from afar", meet + "0 2 2 3 3,0 2 2 7 7,1 3 2 4 4", "3 4; 2 2; 1:0B00,20; 2:0W33,5; 3:1B77,20; 4:1W44,5"},
		{"a miss does not count", meet + "0 2 2 4 3,0 2 2 4 4", "3 4; 2 2; 1:0B00,20; 2:0W33,5; 3:1B77,20; 4:1W44,4"},
		{"a Base's last health but two", raid + again(2, "0 5 2 6 6") + "|0 5 1 6 6|" + again(6, "0 5 2 7 7"), "15 5; 0 2; " + corner0 + "; 3:1B77,2; 5:0S66,8"},
		{"a Base's last health", raid + again(2, "0 5 2 6 6") + "|0 5 1 6 6|" + again(7, "0 5 2 7 7"), "16 5; 0 2; " + corner0 + "; 5:0S66,8"},
	})
	stormed := turns(raid + "0 5 1 6 5|0 5 1 7 6|" + again(7, "0 5 2 7 7,1 4 2 7 6"))
	if got, want := fold(t, 0, 2, stormed).text(), "15 5; 0 2; "+corner0+"; 5:0S76,1"; got != want {
		t.Errorf("P3: who has no Base obeys until the turn ends, and goes: %s, want %s", got, want)
	}
	if _, _, e := garrison.Fold(0, 2, stormed+"\x00"); e != api.ErrOver {
		t.Errorf("P3: a turn behind the last Base but one: %d", e)
	}
}

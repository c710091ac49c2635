package play

import (
	"runtime"
	"slices"
	"strings"
	"testing"
	"unsafe"

	"garrison/api"
	"garrison/wire"
)

// pairOf: a match of a and b that goes.
func pairOf(t *testing.T) *Match {
	t.Helper()
	m := New(0, 2)
	for n, name := range []string{"a", "b"} {
		if got, e := m.Join(name); got != n || e != api.OK {
			t.Fatalf("P5: Join: %d, %d", got, e)
		}
	}
	return m
}

// TestSeal: a command stands in one turn alone, that of giving up too, which is ahead of its player's others.
func TestSeal(t *testing.T) {
	m := pairOf(t)
	m.Submit("b", 1, "\x01\x04\x01\x05\x05")
	m.Submit("a", 1, "\x00\x02\x01\x02\x02")
	m.Submit("b", 2, "\x01\x00\x00\x00\x00")
	m.Leave("b")
	want := []wire.Command{{Player: 0, Unit: 2, What: 1, X: 2, Y: 2}, {Player: 1}, {Player: 1, Unit: 4, What: 1, X: 5, Y: 5}, {Player: 1}}
	if got := m.seal(); !slices.Equal(got, want) {
		t.Errorf("P7: sealed: %v, want %v", got, want)
	}
	if got := m.seal(); len(got) != 0 {
		t.Errorf("P7: sealed once more: %v", got)
	}
}

// TestFullTurn: the most that four players can ask for is a turn that may be.
func TestFullTurn(t *testing.T) {
	m := New(0, 4)
	list := []string{"a", "b", "c", "d"}
	for _, name := range list {
		m.Join(name)
	}
	for n, name := range list {
		for seq := 1; seq <= 20; seq++ {
			m.Submit(name, seq, string([]byte{byte(n), 1, 1, 1, 1}))
		}
		m.Leave(name)
	}
	if got := len(m.seal()); got != api.MaxTurn {
		t.Errorf("P7: a full turn has %d commands", got)
	}
}

// TestNameIsCopied: a name that is a piece of a long text does not keep it.
func TestNameIsCopied(t *testing.T) {
	m := New(0, 2)
	long := strings.Repeat("x", 1000)
	m.Join(long[:3])
	if p := m.named("xxx"); p == nil || unsafe.StringData(p.name) == unsafe.StringData(long) {
		t.Error("the name is a piece of the text that was handed in")
	}
}

// TestHeld: while the mutex is held no call touches the match; each answers when it is free again.
func TestHeld(t *testing.T) {
	m := pairOf(t)
	w := m.Watch()
	calls := []func(){
		func() { m.Join("c") }, func() { m.Leave("a") }, func() { m.Pause("a", false) }, func() { m.Submit("b", 1, "\x01\x04\x01\x05\x05") },
		m.Tick, func() { m.Look() }, func() { m.State() }, func() { m.Hash(0) },
		func() { m.Watch() }, func() { w.Poll(1) }, func() { w.Poll(1) },
	}
	for k, call := range calls {
		done := make(chan int, 1)
		m.Lock()
		go func() {
			call()
			done <- k
		}()
		for range 200 {
			runtime.Gosched()
		}
		if len(done) > 0 {
			t.Errorf("Ways: call %d did not wait for the mutex", k)
		}
		m.Unlock()
		<-done
		if !m.TryLock() {
			t.Fatalf("Ways: call %d holds the mutex on", k)
		}
		m.Unlock()
	}
}

// TestSeenIsKeptNoLonger: of the turns nothing is kept but what someone has yet to see.
func TestSeenIsKeptNoLonger(t *testing.T) {
	m := pairOf(t)
	m.Tick()
	one, two := m.Watch(), m.Watch()
	for range 5 {
		m.Tick()
	}
	one.Poll(3)
	two.Poll(9)
	if len(one.unseen) != 2 || len(two.unseen) != 0 {
		t.Errorf("P9: unseen: %q, %q", one.unseen, two.unseen)
	}
	for _, w := range []*Watcher{one, two} {
		if spare := w.unseen[len(w.unseen):cap(w.unseen)]; slices.ContainsFunc(spare, func(s string) bool { return s != "" }) {
			t.Errorf("what was seen is kept: %q", spare)
		}
	}
}

// TestWatchersShareNothing: a turn is sealed once; what one watcher is told leaves the others' as it is.
func TestWatchersShareNothing(t *testing.T) {
	m := pairOf(t)
	list := []*Watcher{m.Watch(), m.Watch(), m.Watch()}
	for seq := 1; seq <= 6; seq++ {
		m.Submit("a", seq, string([]byte{0, byte(seq), 1, 2, 3}))
		m.Tick()
		list[0].Poll(1)
		list[1].Poll(seq % 2)
	}
	for k, from := range []int{7, 4, 1} {
		want := ""
		for seq := from; seq <= 6; seq++ {
			want += string([]byte{1, 0, byte(seq), 1, 2, 3})
		}
		if got, e := list[k].Poll(10); got != want || e != api.OK {
			t.Errorf("P9: watcher %d: %x, %d, want %x", k, got, e, want)
		}
	}
}

package play

import (
	"slices"
	"strings"

	"garrison/api"
)

// Watcher is someone who watches a match. What it has not seen is the match's to touch: only while its mutex is held.
type Watcher struct {
	match  *Match
	unseen []string // the bytes of sealed turns, one by one
}

// Poll tells the bytes of the next turns, at most so many, and keeps them no longer.
func (w *Watcher) Poll(most int) (string, api.Errno) {
	w.match.Lock()
	defer w.match.Unlock()
	if most < 0 {
		return "", api.ErrArg
	}
	if len(w.unseen) == 0 && w.match.phase() == api.Over {
		return "", api.ErrOver
	}
	count := min(most, len(w.unseen))
	told := strings.Join(w.unseen[:count], "")
	w.unseen = slices.Delete(w.unseen, 0, count)
	return told, api.OK
}

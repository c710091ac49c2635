// Package wire: how states and turns stand as bytes.
package wire

// Writer gathers the bytes of a state or of a turn.
type Writer struct {
	out []byte
}

// One writes each value in one byte.
func (w *Writer) One(values ...int) {
	for _, v := range values {
		w.out = append(w.out, byte(v))
	}
}

// Two writes each value in two bytes, the highest first.
func (w *Writer) Two(values ...int) {
	for _, v := range values {
		w.One(v>>8, v)
	}
}

// Text is what was written so far.
func (w *Writer) Text() string {
	return string(w.out)
}

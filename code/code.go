// Package code reads the text of a program and tells what is wrong with it.
package code

import "mend/api"

// The kinds of marks.
const (
	Get  = 1
	Put  = 2
	Take = 3 // a region or a mended region begins
)

// Mark is a place of a program that matters to races: an access, or where a
// region or a mended region begins.
type Mark struct {
	Kind   int
	At     int // the place of its first byte in the text
	Thread int // from 1 on
	Number int // of the global or the lock
	// Held are the locks of the regions and mended regions inside which the
	// mark lies; of a Take its own lock is not one of them, unless it is nested
	// wrongly.
	Held [api.Locks]bool
}

// Read answers the marks of a program in the order of the text, or what is
// wrong with it, and where.
func Read(text string) ([]Mark, api.Errno, int) {
	if len(text) > api.MaxText {
		return nil, api.ErrLong, 0
	}
	r := reader{text: text, thread: 1}
	whole := r.program()
	if !whole {
		return nil, api.ErrForm, r.at
	}
	for i := 0; i < len(r.marks); i++ {
		if r.marks[i].nested() {
			return nil, api.ErrNest, r.marks[i].At
		}
	}
	return r.marks, api.OK, 0
}

// nested tells whether a lock is taken inside a region of the same lock.
func (m Mark) nested() bool {
	if m.Kind != Take || m.Number < 0 || m.Number >= api.Locks {
		return false
	}
	return m.Held[m.Number]
}

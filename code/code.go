// Package code reads the text of a program: it tells what is wrong with it, or
// the steps that it is made of.
package code

import "mend/api"

// The kinds of steps. A Jump and an End are none of the document's steps: a Jump
// leads from the end of a body to what is done behind it, and at an End nothing
// is left to be done.
const (
	Get   = 1
	Put   = 2
	Add   = 3
	Print = 4
	Test  = 5
	Take  = 6
	Give  = 7
	Jump  = 8
	End   = 9
)

// Step is a step of a program as it stands in the text.
type Step struct {
	Kind   int
	At     int  // the place of its first byte in the text
	Thread int  // from 1 on
	Number int  // of the global or the lock, or what is added
	Mended bool // whether a Take or a Give is a mended region's
	// Next is the number, among the program's steps, of the one that is done
	// after it; of a Test, if the register is not 0. Else is that of a Test, if
	// the register is 0.
	Next int
	Else int
	// Held are the locks of the regions and mended regions inside which the
	// step lies. The Take of a region lies outside of it, and so does its Give.
	Held [api.Locks]bool
}

// Read answers the steps of a program in the order of the text, the last of each
// thread an End; or what is wrong with the text, and where.
func Read(text string) ([]Step, api.Errno, int) {
	if len(text) > api.MaxText {
		return nil, api.ErrLong, 0
	}
	r := reader{text: text, thread: 1}
	whole := r.program()
	if !whole {
		return nil, api.ErrForm, r.at
	}
	for i := 0; i < len(r.steps); i++ {
		if r.steps[i].nested() {
			return nil, api.ErrNest, r.steps[i].At
		}
	}
	return r.steps, api.OK, 0
}

// IsAccess tells whether a step is an access of a global.
func (s Step) IsAccess() bool {
	return s.Kind == Get || s.Kind == Put
}

// nested tells whether a lock is taken inside a region of the same lock.
func (s Step) nested() bool {
	if s.Kind != Take || s.Number < 0 || s.Number >= api.Locks {
		return false
	}
	return s.Held[s.Number]
}

package repair

import (
	"mend/api"
	"mend/code"
)

// bare stands for the lock of a spot around which no region is laid.
const bare = -1

// spot is all accesses that differ in their places alone. The same is laid around
// all of them: where it is not, all may do as the cheapest of them does, which
// closes the same pairs and makes no new edge.
type spot struct {
	access  code.Step // the first of them
	places  []int     // of all of them in the text
	lock    int       // of the regions that are laid around them
	settled bool      // whether the search has chosen what is laid
}

func alike(a code.Step, b code.Step) bool {
	return a.Thread == b.Thread && a.Kind == b.Kind && a.Number == b.Number && a.Held == b.Held
}

// meets tells whether some lock is held at both of two spots.
func (a *spot) meets(b *spot) bool {
	for lock := 0; lock < api.Locks; lock++ {
		atA := a.access.Held[lock] || a.lock == lock
		atB := b.access.Held[lock] || b.lock == lock
		if atA && atB {
			return true
		}
	}
	return false
}

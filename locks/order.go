package locks

import (
	"mend/api"
	"mend/code"
)

// Order is an order of locks: at the numbers of two locks it tells whether there
// is an edge from the first to the second.
type Order [api.Locks][api.Locks]bool

// OrderOf answers the order of locks of a program. Where a lock is taken, all
// are held inside whose regions the new one lies, not the innermost alone.
func OrderOf(steps []code.Step) Order {
	var o Order
	for i := 0; i < len(steps); i++ {
		if steps[i].Kind == code.Take {
			o.Add(steps[i].Held, steps[i].Number)
		}
	}
	return o
}

// Add adds the edges that a region of a lock makes, inside regions of the locks
// of a set.
func (o *Order) Add(held [api.Locks]bool, lock int) {
	if lock < 0 || lock >= api.Locks {
		return
	}
	for from := 0; from < api.Locks; from++ {
		if held[from] {
			o[from][lock] = true
		}
	}
}

// Ways answers an order that has an edge wherever this one has a way. After each
// round it has those of all ways that pass no other locks than the ones that
// were between so far.
func (o Order) Ways() Order {
	for between := 0; between < api.Locks; between++ {
		for from := 0; from < api.Locks; from++ {
			for to := 0; to < api.Locks; to++ {
				if o[from][between] && o[between][to] {
					o[from][to] = true
				}
			}
		}
	}
	return o
}

// Leads tells whether an edge leads from a lock to one of a set.
func (o Order) Leads(lock int, set [api.Locks]bool) bool {
	if lock < 0 || lock >= api.Locks {
		return false
	}
	for to := 0; to < api.Locks; to++ {
		if o[lock][to] && set[to] {
			return true
		}
	}
	return false
}

// Names answers the edges as two letters each, in the order of the alphabet.
func (o Order) Names() string {
	var names []byte
	for from := 0; from < api.Locks; from++ {
		for to := 0; to < api.Locks; to++ {
			if o[from][to] {
				names = append(names, byte('A'+from), byte('A'+to))
			}
		}
	}
	return string(names)
}

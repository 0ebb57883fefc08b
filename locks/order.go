package locks

import (
	"mend/api"
	"mend/code"
)

// Order is an order of locks: at the numbers of two locks it tells whether there
// is an edge from the first to the second.
type Order [api.Locks][api.Locks]bool

// OrderOf answers the order of locks of a program. Where a lock is taken, all
// are held inside whose regions the new one lies, not the innermost alone.
func OrderOf(steps []code.Step) Order {
	var o Order
	for i := 0; i < len(steps); i++ {
		s := steps[i]
		if s.Kind != code.Take || s.Number < 0 || s.Number >= api.Locks {
			continue
		}
		for from := 0; from < api.Locks; from++ {
			if s.Held[from] {
				o[from][s.Number] = true
			}
		}
	}
	return o
}

// Names answers the edges as two letters each, in the order of the alphabet.
func (o Order) Names() string {
	var names []byte
	for from := 0; from < api.Locks; from++ {
		for to := 0; to < api.Locks; to++ {
			if o[from][to] {
				names = append(names, byte('A'+from), byte('A'+to))
			}
		}
	}
	return string(names)
}

// Package locks tells what the regions of a program do for its accesses, whatever
// is picked: which of them are open, and in which order locks are taken.
package locks

import (
	"mend/api"
	"mend/code"
)

// Open answers the open pairs among the accesses of a program: two numbers for
// each, counted among the accesses alone, the pairs in rising order.
func Open(steps []code.Step) []int {
	list := accesses(steps)
	var pairs []int
	for i := 0; i < len(list); i++ {
		for j := i + 1; j < len(list); j++ {
			if IsOpen(list[i], list[j]) {
				pairs = append(pairs, i, j)
			}
		}
	}
	return pairs
}

func accesses(steps []code.Step) []code.Step {
	var list []code.Step
	for i := 0; i < len(steps); i++ {
		if steps[i].IsAccess() {
			list = append(list, steps[i])
		}
	}
	return list
}

// IsOpen tells whether two accesses are open.
func IsOpen(a code.Step, b code.Step) bool {
	if !conflict(a, b) {
		return false
	}
	for lock := 0; lock < api.Locks; lock++ {
		if a.Held[lock] && b.Held[lock] {
			return false
		}
	}
	return true
}

func conflict(a code.Step, b code.Step) bool {
	if a.Thread == b.Thread || a.Number != b.Number {
		return false
	}
	return a.Kind == code.Put || b.Kind == code.Put
}

package mend

import (
	"mend/api"
	"mend/code"
)

// stripped wants a program: there angle brackets stand around mended regions
// alone, and the byte behind each `<` is a lock.
func stripped(program string) string {
	var left []byte
	at := 0
	for at < len(program) {
		switch program[at] {
		case '<':
			at += 2
		case '>':
			at++
		default:
			left = append(left, program[at])
			at++
		}
	}
	return string(left)
}

func accesses(marks []code.Mark) []api.Access {
	var list []api.Access
	for i := 0; i < len(marks); i++ {
		m := marks[i]
		if m.Kind == code.Take {
			continue
		}
		held := lockNames(m.Held)
		list = append(list, api.Access{
			Thread: m.Thread,
			At:     m.At,
			Global: m.Number,
			Put:    m.Kind == code.Put,
			Held:   held,
		})
	}
	return list
}

// lockNames answers the names of the locks of a set, in the order of the
// alphabet.
func lockNames(set [api.Locks]bool) string {
	var names []byte
	for i := 0; i < len(set); i++ {
		if set[i] {
			names = append(names, byte('A'+i))
		}
	}
	return string(names)
}

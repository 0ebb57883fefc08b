package mend

import (
	"mend/api"
	"mend/code"
	"mend/repair"
)

// stripped wants a program: there angle brackets stand around mended regions
// alone, and the byte behind each `<` is a lock.
func stripped(program string) string {
	var left []byte
	at := 0
	for at < len(program) {
		switch program[at] {
		case '<':
			at += 2
		case '>':
			at++
		default:
			left = append(left, program[at])
			at++
		}
	}
	return string(left)
}

// laid answers a program with regions laid around some of its accesses, each of
// which is two bytes.
func laid(program string, regions []repair.Region) string {
	var text []byte
	for at := 0; at < len(program); at++ {
		for i := 0; i < len(regions); i++ {
			if regions[i].At == at {
				text = append(text, '<', byte('A'+regions[i].Lock))
			}
		}
		text = append(text, program[at])
		for i := 0; i < len(regions); i++ {
			if regions[i].At+1 == at {
				text = append(text, '>')
			}
		}
	}
	return string(text)
}

func hasMended(steps []code.Step) bool {
	for i := 0; i < len(steps); i++ {
		if steps[i].Mended {
			return true
		}
	}
	return false
}

func accesses(steps []code.Step) []api.Access {
	var list []api.Access
	for i := 0; i < len(steps); i++ {
		s := steps[i]
		if !s.IsAccess() {
			continue
		}
		held := lockNames(s.Held)
		list = append(list, api.Access{
			Thread: s.Thread,
			At:     s.At,
			Global: s.Number,
			Put:    s.Kind == code.Put,
			Held:   held,
		})
	}
	return list
}

// lockNames answers the names of the locks of a set, in the order of the
// alphabet.
func lockNames(set [api.Locks]bool) string {
	var names []byte
	for i := 0; i < len(set); i++ {
		if set[i] {
			names = append(names, byte('A'+i))
		}
	}
	return string(names)
}

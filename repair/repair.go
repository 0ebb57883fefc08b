// Package repair finds how few mended regions mend a program.
package repair

import "mend/code"

// Region is a mended region to be laid around an access.
type Region struct {
	At   int // the place of the access in the text
	Lock int
}

// Fewest answers, for a program without mended regions, as few of them as leave
// no pair open and lead from no lock back to one inside whose region they lie.
// There is none, if no pair was open before.
func Fewest(steps []code.Step) []Region {
	s := begun(steps)
	for count := 0; count <= len(steps); count++ {
		found := s.closes(count)
		if found {
			break
		}
	}
	return s.regions()
}

func (s *search) regions() []Region {
	var list []Region
	for i := 0; i < len(s.spots); i++ {
		if s.spots[i].lock == bare {
			continue
		}
		for j := 0; j < len(s.spots[i].places); j++ {
			list = append(list, Region{At: s.spots[i].places[j], Lock: s.spots[i].lock})
		}
	}
	return list
}

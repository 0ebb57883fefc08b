package repair

import (
	"mend/api"
	"mend/code"
	"mend/locks"
)

// nowhere stands for the number of a spot where there is none.
const nowhere = -1

// pair is two numbers of spots.
type pair struct {
	first  int
	second int
}

// search settles one spot after the other, and takes back what leads nowhere.
type search struct {
	spots []spot
	pairs []pair      // those that are open in the program as it was handed in
	order locks.Order // of that program
}

// begun answers a search that has settled nothing.
func begun(steps []code.Step) search {
	var s search
	for i := 0; i < len(steps); i++ {
		if steps[i].IsAccess() {
			s.add(steps[i])
		}
	}
	for i := 0; i < len(s.spots); i++ {
		for j := i + 1; j < len(s.spots); j++ {
			open := locks.IsOpen(s.spots[i].access, s.spots[j].access)
			if open {
				s.pairs = append(s.pairs, pair{first: i, second: j})
			}
		}
	}
	s.order = locks.OrderOf(steps)
	return s
}

func (s *search) add(access code.Step) {
	for i := 0; i < len(s.spots); i++ {
		if alike(s.spots[i].access, access) {
			s.spots[i].places = append(s.spots[i].places, access.At)
			return
		}
	}
	s.spots = append(s.spots, spot{access: access, places: []int{access.At}, lock: bare})
}

// closes lays at most count further regions so that no pair is open, and tells
// whether that can be done; if not, it leaves all as it was. It ends, as there is
// one spot more that is settled in each call inside another.
func (s *search) closes(count int) bool {
	next := s.next()
	if next == nowhere {
		return true
	}
	for lock := 0; lock < api.Locks; lock++ {
		found := s.closesWith(next, lock, count)
		if found {
			return true
		}
	}
	return s.closesWith(next, bare, count)
}

// closesWith does what closes does, with one more spot settled before.
func (s *search) closesWith(number int, lock int, count int) bool {
	if number < 0 || number >= len(s.spots) {
		return false
	}
	if lock != bare {
		count -= len(s.spots[number].places)
	}
	if count < 0 {
		return false
	}
	s.spots[number].lock = lock
	s.spots[number].settled = true
	found := s.sound()
	if found {
		found = s.closes(count)
	}
	if !found {
		s.spots[number].lock = bare
		s.spots[number].settled = false
	}
	return found
}

// next answers the number of a spot to be settled, one of a pair that is open.
// It is one whose other spot is settled, if there is such a pair: for it there is
// the least to choose from.
func (s *search) next() int {
	next := nowhere
	for i := 0; i < len(s.pairs); i++ {
		p := s.pairs[i]
		open := s.isOpen(p)
		if !open {
			continue
		}
		first := s.isSettled(p.first)
		second := s.isSettled(p.second)
		if first && !second {
			return p.second
		}
		if second && !first {
			return p.first
		}
		if next == nowhere && !first {
			next = p.first
		}
	}
	return next
}

func (s *search) isSettled(number int) bool {
	return number >= 0 && number < len(s.spots) && s.spots[number].settled
}

func (s *search) isOpen(p pair) bool {
	if p.first < 0 || p.first >= len(s.spots) || p.second < 0 || p.second >= len(s.spots) {
		return false
	}
	return !s.spots[p.first].meets(&s.spots[p.second])
}

// sound tells whether nothing is settled that no further region makes good:
// these close no pair of settled spots, and take no way away.
func (s *search) sound() bool {
	lost := s.lost()
	if lost {
		return false
	}
	return s.fair()
}

// lost tells whether a pair is open whose spots are both settled.
func (s *search) lost() bool {
	for i := 0; i < len(s.pairs); i++ {
		first := s.isSettled(s.pairs[i].first)
		second := s.isSettled(s.pairs[i].second)
		if !first || !second {
			continue
		}
		open := s.isOpen(s.pairs[i])
		if open {
			return true
		}
	}
	return false
}

// fair tells whether no way leads from the lock of a region that is laid to one
// inside whose region it lies. That rules out a region inside one of its own
// lock, too, which makes an edge from the lock to itself.
func (s *search) fair() bool {
	order := s.order
	for i := 0; i < len(s.spots); i++ {
		order.Add(s.spots[i].access.Held, s.spots[i].lock)
	}
	ways := order.Ways()
	for i := 0; i < len(s.spots); i++ {
		back := ways.Leads(s.spots[i].lock, s.spots[i].access.Held)
		if back {
			return false
		}
	}
	return true
}

package mend

import (
	"strings"

	"mend/api"
)

// A second telling of P9: what a mended program must be is asked of its text, and
// how few regions do is found by laying them in all ways there are.

func modelRepairError(text string) api.Errno {
	e, _ := modelCheck(text)
	switch {
	case e != api.OK:
		return e
	case strings.Contains(text, "<"):
		return api.ErrMended
	case len(access.FindAllString(text, -1)) > api.MaxAccess || len(text) > api.MaxMend:
		return api.ErrMany
	}
	return api.OK
}

// modelMends tells whether a text is a program with no open pair and no region
// from whose lock a way leads to one inside whose region it lies.
func modelMends(text string) bool {
	if e, _ := modelCheck(text); e != api.OK {
		return false
	}
	return len(modelPairs(text)) == 0 && modelFair(text)
}

func modelFair(text string) bool {
	edges := modelOrder(text)
	for i := range len(text) {
		if text[i] != '<' {
			continue
		}
		for _, outer := range []byte(modelHeld(text, i)) {
			if modelWay(edges, text[i+1], outer, api.Locks) {
				return false
			}
		}
	}
	return true
}

// modelWay tells whether there is a way of at most so many edges.
func modelWay(edges string, from, to byte, most int) bool {
	for i := 0; i < len(edges) && most > 0; i += 2 {
		if edges[i] == from && (edges[i+1] == to || modelWay(edges, edges[i+1], to, most-1)) {
			return true
		}
	}
	return false
}

// modelLaid answers all programs made by laying at most so many regions around
// accesses from a place on.
func modelLaid(text string, from, most int) []string {
	place := access.FindStringIndex(text[from:])
	if place == nil || most == 0 {
		return []string{text}
	}
	at, behind := from+place[0], from+place[1]
	all := modelLaid(text, behind, most)
	for _, lock := range "ABCDE" {
		region := "<" + string(lock) + text[at:behind] + ">"
		all = append(all, modelLaid(text[:at]+region+text[behind:], at+len(region), most-1)...)
	}
	return all
}

// layers lays regions in all ways, by sets of locks as numbers: the text is too
// slow where there are many accesses.
type layers struct {
	held  []int
	pairs []int
	order [api.Locks]int
	laid  []int // 0 for none, else a set of one lock
	free  bool  // whether ways are no matter
}

func newLayers(program string) *layers {
	l := &layers{pairs: modelPairs(program)}
	for _, a := range modelAccesses(program) {
		held := 0
		for _, lock := range a.Held {
			held |= 1 << (lock - 'A')
		}
		l.held = append(l.held, held)
	}
	edges := modelOrder(program)
	for i := 0; i < len(edges); i += 2 {
		l.order[edges[i]-'A'] |= 1 << (edges[i+1] - 'A')
	}
	l.laid = make([]int, len(l.held))
	return l
}

// mends tells whether at most so many regions around accesses from a number on
// mend the program.
func (l *layers) mends(from, most int) bool {
	if from == len(l.held) {
		return l.closed() && (l.free || l.fair())
	}
	if l.mends(from+1, most) {
		return true
	}
	for lock := 0; lock < api.Locks && most > 0; lock++ {
		if l.held[from]>>lock&1 == 1 {
			continue
		}
		l.laid[from] = 1 << lock
		found := l.mends(from+1, most-1)
		l.laid[from] = 0
		if found {
			return true
		}
	}
	return false
}

func (l *layers) closed() bool {
	for i := 0; i < len(l.pairs); i += 2 {
		a, b := l.pairs[i], l.pairs[i+1]
		if (l.held[a]|l.laid[a])&(l.held[b]|l.laid[b]) == 0 {
			return false
		}
	}
	return true
}

func (l *layers) fair() bool {
	ways := l.order
	for from := range ways {
		for i, held := range l.held {
			if held>>from&1 == 1 {
				ways[from] |= l.laid[i]
			}
		}
	}
	for range ways {
		for from := range ways {
			for to := range ways {
				if ways[from]>>to&1 == 1 {
					ways[from] |= ways[to]
				}
			}
		}
	}
	for i, held := range l.held {
		for lock := range ways {
			if l.laid[i] == 1<<lock && ways[lock]&held != 0 {
				return false
			}
		}
	}
	return true
}

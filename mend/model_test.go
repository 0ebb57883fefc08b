package mend

import (
	"math/rand"
	"regexp"
	"strings"

	"mend/api"
)

// A second telling of P3 to P5, P7 and P8, as near to the document's words as can be and
// in another way than the program's: texts are folded by rewriting, and insides
// are found by counting brackets.

// Folding makes whole accesses `a` and other whole commands `c`, so that only
// what is still open stays as it was. Rest is what may be left of the beginning
// of a program.
var (
	access  = regexp.MustCompile(`[gp][xyz]`)
	command = regexp.MustCompile(`<[A-E]a>|i[0-9]|o|\[[A-D][ac]*\]|\?\{[ac]*\}\{[ac]*\}|!\{[ac]*\}`)
	whole   = regexp.MustCompile(`^[ac]*(\|[ac]*){0,3}$`)
	rest    = regexp.MustCompile(`^([ac]*\|){0,3}([ac]*(\[[A-D]|!\{|\?\{|\?\{[ac]*\}\{))*[ac]*` +
		`([gpi\[<?!]|<[A-E][gpa]?|\?\{[ac]*\})?$`)
	mendedRegion = regexp.MustCompile(`<[A-E]([gp][xyz])>`)
)

func fold(text string) string {
	// These two bytes are no program's.
	text = strings.NewReplacer("a", "#", "c", "#").Replace(text)
	text = access.ReplaceAllString(text, "a")
	for {
		folded := command.ReplaceAllString(text, "c")
		if folded == text {
			return text
		}
		text = folded
	}
}

func modelCheck(text string) (api.Errno, int) {
	if len(text) > api.MaxText {
		return api.ErrLong, 0
	}
	if !whole.MatchString(fold(text)) {
		n := len(text)
		for !rest.MatchString(fold(text[:n])) {
			n--
		}
		return api.ErrForm, n
	}
	for i := range text {
		if isOpening(text, i) && strings.IndexByte(modelHeld(text, i), text[i+1]) >= 0 {
			return api.ErrNest, i
		}
	}
	return api.OK, 0
}

func isOpening(text string, i int) bool { return text[i] == '[' || text[i] == '<' }

// modelHeld answers the locks of all regions of a program that begin before a
// place and end behind it.
func modelHeld(text string, at int) string {
	held := ""
	for _, lock := range "ABCDE" {
		for i := 0; i < at; i++ {
			if isOpening(text, i) && text[i+1] == byte(lock) && end(text, i) > at {
				held += string(lock)
				break
			}
		}
	}
	return held
}

// end answers where what begins at a place ends.
func end(text string, start int) int {
	depth := 0
	for i := start; i < len(text); i++ {
		switch text[i] {
		case '[', '<':
			depth++
		case ']', '>':
			depth--
		}
		if depth == 0 {
			return i
		}
	}
	return len(text)
}

func modelStrip(text string) string { return mendedRegion.ReplaceAllString(text, "$1") }

func modelAccesses(text string) []api.Access {
	var list []api.Access
	for i := range text {
		if text[i] == 'g' || text[i] == 'p' {
			list = append(list, api.Access{
				Thread: 1 + strings.Count(text[:i], "|"),
				At:     i,
				Global: int(text[i+1] - 'x'),
				Put:    text[i] == 'p',
				Held:   modelHeld(text, i),
			})
		}
	}
	return list
}

func modelPairs(text string) []int {
	var pairs []int
	list := modelAccesses(text)
	for i, a := range list {
		for j, b := range list {
			if i < j && modelOpen(a, b) {
				pairs = append(pairs, i, j)
			}
		}
	}
	return pairs
}

func modelOpen(a, b api.Access) bool {
	conflict := a.Global == b.Global && a.Thread != b.Thread && (a.Put || b.Put)
	return conflict && !strings.ContainsAny(a.Held, b.Held)
}

func modelOrder(text string) string {
	edges := ""
	for _, from := range []byte("ABCDE") {
		for _, to := range []byte("ABCDE") {
			if modelEdge(text, from, to) {
				edges += string([]byte{from, to})
			}
		}
	}
	return edges
}

func modelEdge(text string, from, to byte) bool {
	for i := range len(text) {
		for j := i + 1; j < len(text); j++ {
			if isOpening(text, i) && isOpening(text, j) && text[i+1] == from && text[j+1] == to && j < end(text, i) {
				return true
			}
		}
	}
	return false
}

// maker makes up texts, the same ones in every run.
type maker struct{ *rand.Rand }

func newMaker(seed int64) maker { return maker{rand.New(rand.NewSource(seed))} }

func (m maker) one(of string) string { return string(of[m.Intn(len(of))]) }

func (m maker) body(depth int) string {
	s := ""
	for range m.Intn(4) {
		s += m.command(depth)
	}
	return s
}

// command may nest regions of one lock, as that is well formed.
func (m maker) command(depth int) string {
	kinds := 8
	if depth == 0 {
		kinds = 5
	}
	switch m.Intn(kinds) {
	case 0, 1:
		return m.one("gp") + m.one("xyz")
	case 2:
		return "i" + m.one("0123456789")
	case 3:
		return "o"
	case 4:
		return "<" + m.one("ABCDE") + m.one("gp") + m.one("xyz") + ">"
	case 5:
		return "[" + m.one("ABCD") + m.body(depth-1) + "]"
	case 6:
		return "?{" + m.body(depth-1) + "}{" + m.body(depth-1) + "}"
	}
	return "!{" + m.body(depth-1) + "}"
}

func (m maker) program() string {
	s := m.body(3)
	for range m.Intn(api.MaxThreads) {
		s += "|" + m.body(3)
	}
	return s
}

// spoiled changes, drops or adds a byte.
func (m maker) spoiled(text string) string {
	i := m.Intn(len(text) + 1)
	b := m.one("gpiox yzABCDEF[]<>?!{}|059\x00\xe9")
	switch {
	case i == len(text) || m.Intn(3) == 0:
		return text[:i] + b + text[i:]
	case m.Intn(2) == 0:
		return text[:i] + text[i+1:]
	}
	return text[:i] + b + text[i+1:]
}

package mend

import (
	"slices"
	"strings"

	"mend/api"
)

// A second telling of P6. What is left to be done in a thread is a text, which
// each step rewrites: there `]A` and `>A` stand for giving A back. What is known,
// what races and what is stuck is found by the definitions, word by word: by
// all pairs of steps and all sets of threads.

type modelThread struct {
	left     string
	register int
	holds    string
}

// modelStep is a step that was taken.
type modelStep struct {
	pick, thread int
	what         byte // as in what is done
	on           byte // the global or the lock
}

type model struct {
	threads []modelThread
	globals [api.Globals]int
	printed string
	steps   []modelStep
}

func modelRun(program, picks string) api.Result {
	var m model
	for _, left := range strings.Split(program, "|") {
		m.threads = append(m.threads, modelThread{left: left})
	}
	done := ""
	for i := range len(picks) {
		done += string(m.pick(i+1, picks[i]))
	}
	r := api.Result{Done: done, Printed: m.printed, Globals: m.globals[:], Race: m.race(), Stuck: m.stuck()}
	for _, t := range m.threads {
		r.Registers = append(r.Registers, t.register)
	}
	return r
}

func (m *model) pick(pick int, name byte) byte {
	n := strings.IndexByte("1234", name)
	if n < 0 || n >= len(m.threads) || m.threads[n].left == "" {
		return '.'
	}
	t := &m.threads[n]
	first, rest := t.left[0], t.left[1:]
	step := modelStep{pick: pick, thread: n, what: first}
	switch first {
	case 'g':
		step.on, t.left = rest[0], rest[1:]
		t.register = m.globals[step.on-'x']
	case 'p':
		step.on, t.left = rest[0], rest[1:]
		m.globals[step.on-'x'] = t.register
	case 'i':
		t.register, t.left = (t.register+int(rest[0]-'0'))%10, rest[1:]
	case 'o':
		m.printed, t.left = m.printed+string("0123456789"[t.register]), rest
	case '[', '<':
		step.on = rest[0]
		if m.isHeld(step.on) {
			return '.'
		}
		inside, behind := enclosed(t.left)
		t.left = inside[1:] + map[byte]string{'[': "]", '<': ">"}[first] + string(step.on) + behind
		t.holds += string(step.on)
	case ']', '>':
		step.on, t.left = rest[0], rest[1:]
		t.holds = strings.ReplaceAll(t.holds, string(step.on), "")
	case '?', '!':
		step.what = t.test(first, rest)
	}
	m.steps = append(m.steps, step)
	return step.what
}

func (t *modelThread) test(first byte, rest string) byte {
	again := t.left
	body, behind := enclosed(rest)
	other := ""
	if first == '?' {
		other, behind = enclosed(behind)
	} else {
		body += again[:len(again)-len(behind)]
	}
	if t.register != 0 {
		t.left = body + behind
		return 't'
	}
	t.left = other + behind
	return 'f'
}

// enclosed answers what stands inside the bracket with which a text begins, and
// what stands behind it.
func enclosed(text string) (string, string) {
	depth := 0
	for i := range text {
		depth += strings.Count("[<{", text[i:i+1])
		depth -= strings.Count("]>}", text[i:i+1])
		if depth == 0 {
			return text[1:i], text[i+1:]
		}
	}
	return "", ""
}

func (m *model) isHeld(lock byte) bool {
	return slices.ContainsFunc(m.threads, func(t modelThread) bool { return strings.IndexByte(t.holds, lock) >= 0 })
}

// known tells of each two steps, the earlier first, whether it is known to the
// later one.
func (m *model) known() [][]bool {
	known := make([][]bool, len(m.steps))
	for i := range known {
		known[i] = make([]bool, len(m.steps))
	}
	for j, b := range m.steps {
		for i := j - 1; i >= 0; i-- {
			a := m.steps[i]
			gives := a.what == ']' || a.what == '>'
			takes := b.what == '[' || b.what == '<'
			known[i][j] = a.thread == b.thread || gives && takes && a.on == b.on
			for between := i + 1; between < j; between++ {
				known[i][j] = known[i][j] || known[i][between] && known[between][j]
			}
		}
	}
	return known
}

func (m *model) race() int {
	known := m.known()
	for j, b := range m.steps {
		for i, a := range m.steps[:j] {
			accesses := a.what == 'p' && b.what == 'p' || a.what == 'p' && b.what == 'g' || a.what == 'g' && b.what == 'p'
			if accesses && a.on == b.on && a.thread != b.thread && !known[i][j] {
				return b.pick
			}
		}
	}
	return 0
}

func (m *model) stuck() string {
	var union [api.MaxThreads]bool
	for set := range 1 << len(m.threads) {
		if m.isStuck(set) {
			for n := range m.threads {
				union[n] = union[n] || set>>n&1 == 1
			}
		}
	}
	names := ""
	for n, is := range union {
		if is {
			names += string("1234"[n])
		}
	}
	return names
}

func (m *model) isStuck(set int) bool {
	holds := ""
	for n, t := range m.threads {
		if set>>n&1 == 1 {
			holds += t.holds
		}
	}
	for n, t := range m.threads {
		takes := strings.HasPrefix(t.left, "[") || strings.HasPrefix(t.left, "<")
		if set>>n&1 == 1 && !(takes && strings.IndexByte(holds, t.left[1]) >= 0) {
			return false
		}
	}
	return true
}

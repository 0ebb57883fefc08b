package code

import "mend/api"

// What may be open while a text is read.
const (
	nothing    = 0
	region     = 1
	mended     = 2
	firstBody  = 3 // of a `?`: another body must follow it
	secondBody = 4
	loopBody   = 5 // of a `!`
)

// noLock stands for the lock of a body, which has none.
const noLock = -1

// opened is what has begun and must still be closed.
type opened struct {
	kind int
	lock int
	// from is the number of the step that cannot know where it leads before the
	// end is read: the Test of a first or a loop body, the Jump over a second
	// one.
	from int
}

// reader goes through a text once. It never steps over a byte that cannot stand
// where it is, so that after a failure at is the place of the first such byte,
// or the length of a text that ends too early.
type reader struct {
	text   string
	at     int
	thread int
	open   []opened // the innermost last
	steps  []Step
}

// program reads the whole text. It ends, as every piece moves at forward.
func (r *reader) program() bool {
	for r.at < len(r.text) {
		fits := r.piece()
		if !fits {
			return false
		}
	}
	r.step(Step{Kind: End, At: r.at})
	return len(r.open) == 0
}

// piece reads what begins or ends at the next byte.
func (r *reader) piece() bool {
	if r.at >= len(r.text) {
		return false
	}
	switch r.text[r.at] {
	case 'g', 'p':
		return r.access()
	case 'i':
		return r.addition()
	case 'o':
		return r.print()
	case '[':
		return r.regionBegin()
	case ']':
		return r.regionEnd()
	case '<':
		return r.mendedRegion()
	case '?':
		return r.test(firstBody)
	case '!':
		return r.test(loopBody)
	case '}':
		return r.bodyEnd()
	case '|':
		return r.nextThread()
	}
	return false
}

// next steps over the next byte, if it is one of those allowed, and answers its
// number among them; else it answers -1.
func (r *reader) next(allowed string) int {
	if r.at >= len(r.text) {
		return -1
	}
	for i := 0; i < len(allowed); i++ {
		if allowed[i] == r.text[r.at] {
			r.at++
			return i
		}
	}
	return -1
}

func (r *reader) access() bool {
	start := r.at
	letter := r.next("gp")
	if letter < 0 {
		return false
	}
	global := r.next("xyz")
	if global < 0 {
		return false
	}
	kind := Get
	if letter == 1 {
		kind = Put
	}
	r.step(Step{Kind: kind, At: start, Number: global})
	return true
}

func (r *reader) addition() bool {
	start := r.at
	r.at++
	digit := r.next("0123456789")
	if digit < 0 {
		return false
	}
	r.step(Step{Kind: Add, At: start, Number: digit})
	return true
}

func (r *reader) print() bool {
	r.step(Step{Kind: Print, At: r.at})
	r.at++
	return true
}

func (r *reader) regionBegin() bool {
	start := r.at
	r.at++
	lock := r.next("ABCD")
	if lock < 0 {
		return false
	}
	r.step(Step{Kind: Take, At: start, Number: lock})
	r.push(opened{kind: region, lock: lock})
	return true
}

func (r *reader) regionEnd() bool {
	top := r.top()
	if top.kind != region {
		return false
	}
	r.pop()
	r.step(Step{Kind: Give, At: r.at, Number: top.lock})
	r.at++
	return true
}

// mendedRegion reads the whole of it, as nothing but one access may be inside.
func (r *reader) mendedRegion() bool {
	start := r.at
	r.at++
	lock := r.next("ABCDE")
	if lock < 0 {
		return false
	}
	r.step(Step{Kind: Take, At: start, Number: lock, Mended: true})
	r.push(opened{kind: mended, lock: lock})
	fits := r.access()
	if !fits {
		return false
	}
	r.pop()
	last := r.at
	end := r.next(">")
	if end < 0 {
		return false
	}
	r.step(Step{Kind: Give, At: last, Number: lock, Mended: true})
	return true
}

func (r *reader) test(kind int) bool {
	r.step(Step{Kind: Test, At: r.at})
	return r.bodyBegin(kind)
}

// bodyBegin reads one byte and the brace behind it. Where the body ends, the
// last step that was read before it will be told where it leads.
func (r *reader) bodyBegin(kind int) bool {
	r.at++
	brace := r.next("{")
	if brace < 0 {
		return false
	}
	r.push(opened{kind: kind, lock: noLock, from: len(r.steps) - 1})
	return true
}

// bodyEnd reads the end of a body, and with a first body's the brace of the
// second: nothing else may follow there.
func (r *reader) bodyEnd() bool {
	top := r.top()
	switch top.kind {
	case firstBody:
		r.pop()
		r.step(Step{Kind: Jump, At: r.at})
		r.elseHere(top.from)
		return r.bodyBegin(secondBody)
	case secondBody:
		r.pop()
		behind := len(r.steps)
		r.leadTo(top.from, behind)
		r.at++
		return true
	case loopBody:
		r.pop()
		jump := len(r.steps)
		r.step(Step{Kind: Jump, At: r.at})
		r.leadTo(jump, top.from)
		r.elseHere(top.from)
		r.at++
		return true
	}
	return false
}

func (r *reader) nextThread() bool {
	if len(r.open) > 0 || r.thread >= api.MaxThreads {
		return false
	}
	r.step(Step{Kind: End, At: r.at})
	r.at++
	r.thread++
	return true
}

func (r *reader) push(o opened) {
	r.open = append(r.open, o)
}

func (r *reader) pop() {
	if len(r.open) > 0 {
		r.open = r.open[:len(r.open)-1]
	}
}

// top answers the innermost that is open.
func (r *reader) top() opened {
	if len(r.open) == 0 {
		return opened{kind: nothing, lock: noLock}
	}
	return r.open[len(r.open)-1]
}

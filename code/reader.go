package code

import "mend/api"

// What may be open while a text is read.
const (
	nothing    = 0
	region     = 1
	mended     = 2
	firstBody  = 3 // of a `?`: another body must follow it
	singleBody = 4 // the second of a `?`, or that of a `!`
)

// noLock stands for the lock of a body, which has none.
const noLock = -1

// opened is what has begun and must still be closed.
type opened struct {
	kind int
	lock int
}

// reader goes through a text once. It never steps over a byte that cannot stand
// where it is, so that after a failure at is the place of the first such byte,
// or the length of a text that ends too early.
type reader struct {
	text   string
	at     int
	thread int
	open   []opened // the innermost last
	marks  []Mark
}

// program reads the whole text. It ends, as every piece moves at forward.
func (r *reader) program() bool {
	for r.at < len(r.text) {
		fits := r.piece()
		if !fits {
			return false
		}
	}
	return len(r.open) == 0
}

// piece reads what begins or ends at the next byte.
func (r *reader) piece() bool {
	if r.at >= len(r.text) {
		return false
	}
	switch r.text[r.at] {
	case 'g', 'p':
		return r.access()
	case 'i':
		return r.addition()
	case 'o':
		r.at++
		return true
	case '[':
		return r.regionBegin()
	case ']':
		return r.regionEnd()
	case '<':
		return r.mendedRegion()
	case '?':
		return r.bodyBegin(firstBody)
	case '!':
		return r.bodyBegin(singleBody)
	case '}':
		return r.bodyEnd()
	case '|':
		return r.nextThread()
	}
	return false
}

// next steps over the next byte, if it is one of those allowed, and answers its
// number among them; else it answers -1.
func (r *reader) next(allowed string) int {
	if r.at >= len(r.text) {
		return -1
	}
	for i := 0; i < len(allowed); i++ {
		if allowed[i] == r.text[r.at] {
			r.at++
			return i
		}
	}
	return -1
}

func (r *reader) access() bool {
	start := r.at
	letter := r.next("gp")
	if letter < 0 {
		return false
	}
	global := r.next("xyz")
	if global < 0 {
		return false
	}
	kind := Get
	if letter == 1 {
		kind = Put
	}
	r.mark(kind, start, global)
	return true
}

func (r *reader) addition() bool {
	r.at++
	digit := r.next("0123456789")
	return digit >= 0
}

func (r *reader) regionBegin() bool {
	start := r.at
	r.at++
	lock := r.next("ABCD")
	if lock < 0 {
		return false
	}
	r.mark(Take, start, lock)
	r.push(region, lock)
	return true
}

func (r *reader) regionEnd() bool {
	top := r.top()
	if top != region {
		return false
	}
	r.at++
	r.pop()
	return true
}

// mendedRegion reads the whole of it, as nothing but one access may be inside.
func (r *reader) mendedRegion() bool {
	start := r.at
	r.at++
	lock := r.next("ABCDE")
	if lock < 0 {
		return false
	}
	r.mark(Take, start, lock)
	r.push(mended, lock)
	fits := r.access()
	if !fits {
		return false
	}
	end := r.next(">")
	if end < 0 {
		return false
	}
	r.pop()
	return true
}

func (r *reader) bodyBegin(kind int) bool {
	r.at++
	brace := r.next("{")
	if brace < 0 {
		return false
	}
	r.push(kind, noLock)
	return true
}

// bodyEnd reads the end of a body, and with a first body's the brace of the
// second: nothing else may follow there.
func (r *reader) bodyEnd() bool {
	top := r.top()
	if top != firstBody && top != singleBody {
		return false
	}
	r.pop()
	if top == firstBody {
		return r.bodyBegin(singleBody)
	}
	r.at++
	return true
}

func (r *reader) nextThread() bool {
	if len(r.open) > 0 || r.thread >= api.MaxThreads {
		return false
	}
	r.at++
	r.thread++
	return true
}

func (r *reader) push(kind int, lock int) {
	r.open = append(r.open, opened{kind: kind, lock: lock})
}

func (r *reader) pop() {
	if len(r.open) > 0 {
		r.open = r.open[:len(r.open)-1]
	}
}

// top answers the kind of the innermost that is open.
func (r *reader) top() int {
	if len(r.open) == 0 {
		return nothing
	}
	return r.open[len(r.open)-1].kind
}

func (r *reader) mark(kind int, start int, number int) {
	m := Mark{Kind: kind, At: start, Thread: r.thread, Number: number}
	for i := 0; i < len(r.open); i++ {
		lock := r.open[i].lock
		if lock >= 0 && lock < api.Locks {
			m.Held[lock] = true
		}
	}
	r.marks = append(r.marks, m)
}

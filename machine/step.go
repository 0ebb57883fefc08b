package machine

import "mend/code"

// pick lets the thread of a name take its next step, if there is one that it can
// take, and answers what is done.
func (m *machine) pick(name byte) byte {
	n := int(name) - '1'
	if n < 0 || n >= len(m.threads) {
		return nothing
	}
	t := m.threads[n]
	s := m.upcoming(t)
	holder := m.awaited(s)
	if s.Kind == code.End || holder != nobody {
		return nothing
	}
	t.next = s.Next
	t.known.tick(t.name)
	what := m.do(&t, s)
	m.threads[n] = t
	return what
}

// upcoming answers the next step of a thread. Of a program that was read, each
// Jump leads forward or to a Test; whatever the steps are, it does not go round
// more often than there are steps.
func (m *machine) upcoming(t thread) code.Step {
	at := t.next
	for i := 0; i < len(m.steps); i++ {
		if at < 0 || at >= len(m.steps) {
			break
		}
		if m.steps[at].Kind != code.Jump {
			return m.steps[at]
		}
		at = m.steps[at].Next
	}
	return code.Step{Kind: code.End}
}

// awaited answers who holds the lock that a step takes.
func (m *machine) awaited(s code.Step) int {
	if s.Kind != code.Take || s.Number < 0 || s.Number >= len(m.locks) {
		return nobody
	}
	return m.locks[s.Number].holder
}

// do does a step of a thread.
func (m *machine) do(t *thread, s code.Step) byte {
	switch s.Kind {
	case code.Get:
		m.get(t, s.Number)
		return 'g'
	case code.Put:
		m.put(t, s.Number)
		return 'p'
	case code.Add:
		t.add(s.Number)
		return 'i'
	case code.Print:
		m.printed = append(m.printed, byte('0'+t.register))
		return 'o'
	case code.Test:
		return t.test(s)
	case code.Take:
		m.take(t, s.Number)
		return bracket(s.Mended, '<', '[')
	case code.Give:
		m.give(t, s.Number)
		return bracket(s.Mended, '>', ']')
	}
	return nothing
}

func bracket(mended bool, angle byte, square byte) byte {
	if mended {
		return angle
	}
	return square
}

func (t *thread) add(n int) {
	t.register += n
	if t.register > 9 {
		t.register -= 10
	}
}

func (t *thread) test(s code.Step) byte {
	if t.register != 0 {
		return 't'
	}
	t.next = s.Else
	return 'f'
}

func (m *machine) get(t *thread, number int) {
	if number < 0 || number >= len(m.globals) {
		return
	}
	g := m.globals[number]
	if t.known.misses(g.puts) {
		m.raced = true
	}
	g.gets.note(t)
	t.register = g.value
	m.globals[number] = g
}

func (m *machine) put(t *thread, number int) {
	if number < 0 || number >= len(m.globals) {
		return
	}
	g := m.globals[number]
	if t.known.misses(g.puts) {
		m.raced = true
	}
	if t.known.misses(g.gets) {
		m.raced = true
	}
	g.puts.note(t)
	g.value = t.register
	m.globals[number] = g
}

func (m *machine) take(t *thread, number int) {
	if number < 0 || number >= len(m.locks) {
		return
	}
	m.locks[number].holder = t.name
	t.known.learn(m.locks[number].known)
}

// give lays down what is known to the step that gives a lock back. What was
// known to those that gave it back before is part of it.
func (m *machine) give(t *thread, number int) {
	if number < 0 || number >= len(m.locks) {
		return
	}
	m.locks[number] = lock{holder: nobody, known: t.known}
}

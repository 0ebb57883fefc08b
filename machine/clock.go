package machine

import "mend/api"

// clock has a row for each thread: the number of one of its steps, counted from
// 1 on among its own, or 0. If it tells what is known, that step and all before
// it are.
type clock [api.MaxThreads]int

// tick counts a step of a thread, to which the step itself is known.
func (c *clock) tick(name int) {
	if name >= 1 && name <= len(c) {
		c[name-1]++
	}
}

// note lays down that a thread's last step was one that the clock is kept for.
func (c *clock) note(t *thread) {
	if t.name >= 1 && t.name <= len(c) {
		c[t.name-1] = t.known[t.name-1]
	}
}

// learn makes all known that another clock knows.
func (c *clock) learn(other clock) {
	for i := 0; i < len(c); i++ {
		if c[i] < other[i] {
			c[i] = other[i]
		}
	}
}

// misses tells whether some step that another clock has is not known.
func (c *clock) misses(other clock) bool {
	for i := 0; i < len(c); i++ {
		if c[i] < other[i] {
			return true
		}
	}
	return false
}

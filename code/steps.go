package code

import "mend/api"

// step lays a step behind those that were read. As long as nothing else is told
// of it, it leads to the one that will follow it.
func (r *reader) step(s Step) {
	s.Thread = r.thread
	s.Next = len(r.steps) + 1
	for i := 0; i < len(r.open); i++ {
		lock := r.open[i].lock
		if lock >= 0 && lock < api.Locks {
			s.Held[lock] = true
		}
	}
	r.steps = append(r.steps, s)
}

// leadTo makes one step lead to another.
func (r *reader) leadTo(from int, to int) {
	if from >= 0 && from < len(r.steps) {
		r.steps[from].Next = to
	}
}

// elseHere makes a Test of 0 lead to what is read next.
func (r *reader) elseHere(test int) {
	if test >= 0 && test < len(r.steps) {
		r.steps[test].Else = len(r.steps)
	}
}

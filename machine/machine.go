// Package machine runs the steps of a program by picks.
package machine

import (
	"mend/api"
	"mend/code"
)

// nothing is what is done by a pick at which nothing happens.
const nothing = '.'

// nobody is the name of the thread that holds a lock which is free.
const nobody = 0

type thread struct {
	name     int // from 1 on
	next     int // the number of its next step
	register int
	known    clock // to its last step, which is counted too
}

// global has, beside its value, the number of each thread's last get and last
// put of it. What the same thread did before is known wherever its last one is.
type global struct {
	value int
	gets  clock
	puts  clock
}

type lock struct {
	holder int
	known  clock // to the step that gave it back last
}

type machine struct {
	steps   []code.Step
	threads []thread // in the order of their names
	globals [api.Globals]global
	locks   [api.Locks]lock
	printed []byte
	raced   bool // whether an access was the later of a race
}

// Run answers what comes of picks, at the steps of a program.
func Run(steps []code.Step, picks string) api.Result {
	m := started(steps)
	race := 0
	var done []byte
	for i := 0; i < len(picks); i++ {
		what := m.pick(picks[i])
		done = append(done, what)
		if m.raced && race == 0 {
			race = i + 1
		}
	}
	values := m.values()
	registers := m.registers()
	stuck := m.stuck()
	return api.Result{
		Done:      string(done),
		Printed:   string(m.printed),
		Globals:   values,
		Registers: registers,
		Race:      race,
		Stuck:     stuck,
	}
}

// started answers a machine whose threads are all before their first steps.
func started(steps []code.Step) machine {
	m := machine{steps: steps}
	for i := 0; i < len(steps); i++ {
		if steps[i].Thread == len(m.threads)+1 {
			m.threads = append(m.threads, thread{name: steps[i].Thread, next: i})
		}
	}
	return m
}

func (m *machine) values() []int {
	var list []int
	for i := 0; i < len(m.globals); i++ {
		list = append(list, m.globals[i].value)
	}
	return list
}

func (m *machine) registers() []int {
	var list []int
	for i := 0; i < len(m.threads); i++ {
		list = append(list, m.threads[i].register)
	}
	return list
}

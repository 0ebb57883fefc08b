// Package mend: programs of threads and locks, their races, and how few locks mend them: see DOC.md.
package mend

import (
	"mend/api"
	"mend/code"
	"mend/locks"
	"mend/machine"
	"mend/repair"
)

// Check tells whether a text is a program (P3).
func Check(program string) (api.Errno, int) {
	_, e, at := code.Read(program)
	return e, at
}

// Strip takes the mended regions away (P4).
func Strip(program string) (string, api.Errno) {
	_, e, _ := code.Read(program)
	if e != api.OK {
		return "", e
	}
	return stripped(program), api.OK
}

// Accesses lists where globals are got and put (P5).
func Accesses(program string) ([]api.Access, api.Errno) {
	steps, e, _ := code.Read(program)
	if e != api.OK {
		return nil, e
	}
	return accesses(steps), api.OK
}

// Run runs a program by picks (P6).
func Run(program string, picks string) (api.Result, api.Errno) {
	steps, e, _ := code.Read(program)
	if e != api.OK {
		return api.Result{}, e
	}
	if len(picks) > api.MaxPicks {
		return api.Result{}, api.ErrPicks
	}
	return machine.Run(steps, picks), api.OK
}

// Pairs lists the open pairs of accesses (P7).
func Pairs(program string) ([]int, api.Errno) {
	steps, e, _ := code.Read(program)
	if e != api.OK {
		return nil, e
	}
	return locks.Open(steps), api.OK
}

// Order lists the edges of the order of locks (P8).
func Order(program string) (string, api.Errno) {
	steps, e, _ := code.Read(program)
	if e != api.OK {
		return "", e
	}
	order := locks.OrderOf(steps)
	return order.Names(), api.OK
}

// Repair mends a program (P9).
func Repair(program string) (int, string, api.Errno) {
	steps, e, _ := code.Read(program)
	if e != api.OK {
		return 0, "", e
	}
	if hasMended(steps) {
		return 0, "", api.ErrMended
	}
	list := accesses(steps)
	if len(list) > api.MaxAccess || len(program) > api.MaxMend {
		return 0, "", api.ErrMany
	}
	regions := repair.Fewest(steps)
	if len(regions) == 0 {
		return api.Clean, program, api.OK
	}
	return api.Mended, laid(program, regions), api.OK
}
